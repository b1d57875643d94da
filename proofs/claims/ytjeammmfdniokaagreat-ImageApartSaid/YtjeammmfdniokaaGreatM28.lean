/-
  RecAll; FrAll; PkEmpty; PkNarrow; PkAdd; PkPlanOwn.
-/
import Derived.Test.YtjeammmfdniokaaGreatM14
import Derived.Test.YtjeammmfdniokaaGreatM20
import Derived.Test.YtjeammmfdniokaaGreatM23
import Derived.Test.YtjeammmfdniokaaGreatM26
import Derived.Test.YtjeammmfdniokaaGreatM27
namespace Go.Proofs.YtjeammmfdniokaaGreat
open Go.RowKit

end Go.Proofs.YtjeammmfdniokaaGreat

namespace Go.Proofs.YtjeammmfdniokaaGreat
open Go.RowKit

set_option maxHeartbeats 2000000 in
set_option maxRecDepth 10000 in
theorem putrec_own (r : Rec) (w : World) (hr : r.Little) : Calls Tryz.prog 54 #[recV r] w fun e w' => ∃ v, e = .returned (.tuple #[v, .int .i64 (checkR r)]) ∧ NewBytes w (putR r) v w' := by
  have hf := hr.fine
  have h1 := hr.key
  have h2 := hr.val
  have HB := Lib.hid (fun w => body_own r w ⟨hf, by omega, by omega⟩)
  by_cases hc : checkR r = 0
  · have hbe : bodyE r = bodyR r := by unfold bodyE; rw [if_pos hc]
    have hpr : putR r = sealN (bodyR r) := by unfold putR; rw [if_pos hc]
    rw [hbe, hc] at HB
    rw [hpr, hc]
    have hbl := bodyR_length hf (by omega) (by omega)
    have hbo := bodyR_octets hf
    obtain ⟨B, hB⟩ : ∃ B, B = bodyR r := ⟨_, rfl⟩
    rw [← hB] at HB hbl hbo ⊢
    obtain ⟨L, hL⟩ : ∃ L, L = B.length := ⟨_, rfl⟩
    have HS := Lib.hid (fun q d W (hd : L ≤ d) (hd' : d ≤ 9223372036854775807) (hq : q = none → L = 0 ∧ d = 0) (h8 : Bytes8 W q B) => seal_own q L d B W ⟨hL, hd, hd', hq, hbo, h8⟩ (by omega))
    have HL := Lib.hid hL
    clear hbe hpr hc hr hf h1 h2 hB hL hbl hbo
    obtain ⟨del, seq, key, val⟩ := r
    unfold recV at HB ⊢
    simp only at HB ⊢
    go_enter Tryz.func54, Tryz.ntmps54
    go_wp2_with fail
    refine (HB.out _).mono ?_
    rintro e w1 ⟨v, rfl, q, m, d, rfl, hm, hmd, hd, hq, hb, hk⟩
    have hmL : m = L := by rw [hm, HL.out]
    subst hmL
    have HK := Lib.hid (((Keeps.refl NoBlock w).alloc _).trans hk)
    have HQ := Lib.hid hq
    have HBb := Lib.hid hb
    clear hk hm hq hb HB
    go_wp2_with fail
    refine (HS.out q d _ hmd hd HQ.out HBb.out).mono ?_
    rintro e w2 ⟨v2, rfl, q2, m2, d2, rfl, hm2, hmd2, hd2, hq2, hb2, hk2⟩
    have HN := Lib.hid (show NewBytes w (sealN B) (.slice q2 m2 d2) w2 from ⟨q2, m2, d2, rfl, hm2, hmd2, hd2, hq2, hb2, HK.out.trans hk2⟩)
    clear hm2 hmd2 hd2 hq2 hb2 hk2
    go_wp2_with fail
    refine bodyPost_ret (results_tmp2 rfl _ _ _) rfl ?_
    exact ⟨_, rfl, HN.out⟩
  · have hpr : putR r = [] := by unfold putR; rw [if_neg hc]
    rw [hpr]
    obtain ⟨z, hz⟩ : ∃ z, z = checkR r := ⟨_, rfl⟩
    rw [← hz] at HB hc ⊢
    have hne : (z != 0) = true := by rw [bne_iff_ne]; exact hc
    clear hpr hc hr hf h1 h2 hz
    obtain ⟨del, seq, key, val⟩ := r
    unfold recV at HB ⊢
    simp only at HB ⊢
    go_enter Tryz.func54, Tryz.ntmps54
    go_wp2_with fail
    refine (HB.out _).mono ?_
    rintro e w1 ⟨v, rfl, q, m, d, rfl, hm, hmd, hd, hq, hb, hk⟩
    have HK := Lib.hid (((Keeps.refl NoBlock w).alloc _).trans hk)
    clear hk hm hmd hd hq hb HB
    go_wp2_with fail
    refine bodyPost_ret (results_tmp2 rfl _ _ _) rfl ?_
    exact ⟨_, rfl, .ofNil _ _ HK.out⟩

set_option maxHeartbeats 4000000 in
set_option maxRecDepth 10000 in
theorem puthead_both (x s n : Nat) (w : World) (hx : x < 256) (hs : s < 4294967296) (hn : n < 4294967296) : Calls Tryz.prog 51 #[confV x s, .int .u32 (n : Int)] w fun e w' => ∃ v, e = .returned (.tuple #[v, .int .i64 (if mayHead x s n = true then 0 else 1)]) ∧ NewBytes w (putH x s n) v w' ∧ NewRow8 w (putH x s n) v w' := by
  have HW := Lib.hid (Whole.new w 27 (confCells x s))
  have HK0 := Lib.hid ((Keeps.refl NoBlock w).alloc (.cells (confCells x s) 27))
  have HCk := Lib.hid (fun w => hcheck_own x s n w)
  unfold putH
  by_cases hm : mayHead x s n = true
  · rw [if_pos hm] at HCk ⊢
    rw [if_pos hm]
    have hbl := headB_length (e := x) (s := s) (n := n) (by omega) (by omega)
    have hbo := headB_octets (e := x) (s := s) (n := n) hx
    have HPs := Lib.hid (fun base g xs w h hb hx => put_any base g xs s (s : Int) rfl w h hb hx (by omega))
    have HPn := Lib.hid (fun base g xs w h hb hx => put_any base g xs n (n : Int) rfl w h hb hx (by omega))
    have hdef : headB x s n = ((([] ++ [(1 : Int)]) ++ [(2 : Int)]) ++ [(x : Int)]) ++ vnum s ++ vnum n := by simp [headB]
    rw [hdef] at hbl hbo ⊢
    have hls := vnum_ten (x := s) (by omega)
    have ws : IntKind.u64.wrap (s : Int) = (s : Int) := by rw [IntKind.wrap_u64]; omega
    have wn : IntKind.u64.wrap (n : Int) = (n : Int) := by rw [IntKind.wrap_u64]; omega
    obtain ⟨S, hS⟩ : ∃ S, S = vnum s := ⟨_, rfl⟩
    obtain ⟨V, hV⟩ : ∃ V, V = vnum n := ⟨_, rfl⟩
    rw [← hS] at HPs hbl hbo hls ⊢
    rw [← hV] at HPn hbl hbo ⊢
    have HS := Lib.hid (fun q d W L (hL : L = (((([] ++ [(1 : Int)]) ++ [(2 : Int)]) ++ [(x : Int)]) ++ S ++ V).length) (hd : L ≤ d) (hd' : d ≤ 9223372036854775807) (hq : q = none → L = 0 ∧ d = 0) (h8 : Bytes8 W q (((([] ++ [(1 : Int)]) ++ [(2 : Int)]) ++ [(x : Int)]) ++ S ++ V)) => seal_both q L d _ W ⟨hL, hd, hd', hq, hbo, h8⟩ (by omega))
    obtain ⟨G, hG⟩ : ∃ G, G = ((([] ++ [(1 : Int)]) ++ [(2 : Int)]) ++ [(x : Int)]) ++ S ++ V := ⟨_, rfl⟩
    rw [← hG] at HS hbl ⊢
    have HG := Lib.hid hG
    clear hm hdef hS hV hbo hG
    unfold confV at HCk ⊢
    go_enter Tryz.func51, Tryz.ntmps51
    go_wp2_with fail
    refine (HCk.out _).mono ?_
    rintro e w1 ⟨rfl, hk⟩
    have hN := HW.out.keep hk (fun h => h)
    have HK := Lib.hid (HK0.out.trans hk)
    have hsz : w.heap.size + 1 ≤ w1.heap.size := by have := hk.size; simpa using this
    have HSz := Lib.hid hsz
    have hwa : Keeps NoBlock w1 (w1.alloc (.cells #[.slice none 0 0] 126)) := (Keeps.refl NoBlock w1).alloc _
    obtain ⟨W, hW⟩ : ∃ W, W = w1.alloc (.cells #[.slice none 0 0] 126) := ⟨_, rfl⟩
    have HB : Hid (BufAt W w1.heap.size w1.heap.size []) := Lib.hid (by rw [hW]; exact bufNewB w1 w1.heap.size)
    have HR : Hid (Whole W w.heap.size 27 (confCells x s)) := Lib.hid (by rw [hW]; exact hN.alloc _)
    have HQ : Hid (Keeps (fun i => w1.heap.size ≤ i) w1 W) := Lib.hid (by rw [hW]; exact (Keeps.refl _ w1).alloc _)
    clear hk hN hsz hwa
    go_wp2_with fail
    rw [← hW]
    clear hW
    have s0 : W.drew.cell? ⟨w.heap.size, 0, none⟩ = some (.int .u8 (x : Int)) := HR.out.cell 0 rfl
    have sN : W.cell? ⟨w.heap.size, 0, none⟩ = some (.int .u8 (x : Int)) := HR.out.cell 0 rfl
    go_region_held3 (fun w' => w'.cell? ⟨w.heap.size, 0, none⟩ = some (.int .u8 (x : Int)))
      (first | exact s5 | exact s0 | exact sN)
      (first | (go_at_call 72; refine (bufByteK w1.heap.size w1.heap.size _ _ _ (by exact HB.out) (by have := HQ.out.size; first | exact this | omega) (by simp)).mono ?_; rintro e w5 ⟨rfl, hb, hk⟩; have hk' : Keeps (fun i => w1.heap.size ≤ i) W w5 := (by first | exact hk.onBuf (Nat.le_refl _) | exact (hk.onBuf (Nat.le_refl _)).ofDrew | exact (hk.onBuf (Nat.le_refl _)).ofDrewN); have HB := Lib.hid hb; have HQ := Lib.hid (HQ.out.trans hk'); have HR := Lib.hid (HR.out.keep hk' (by have := HSz.out; omega)); have s5 : w5.cell? ⟨w.heap.size, 0, none⟩ = some (.int .u8 (x : Int)) := HR.out.cell 0 rfl; clear hb hk hk'; obtain ⟨W, rfl⟩ : ∃ x, x = w5 := ⟨_, rfl⟩))
    have q1 : W.cell? ⟨w.heap.size, 1, none⟩ = some (.int .u32 (s : Int)) := HR.out.cell 1 rfl
    have HB3 : Hid (BufAt W w1.heap.size w1.heap.size ((([] ++ [(1 : Int)]) ++ [(2 : Int)]) ++ [(x : Int)])) := HB
    have HQ3 := HQ
    clear HB HQ HR s0 sN s5
    go_wp2_with fail
    refine (HPs.out _ _ _ _ HB3.out HQ3.out.size (by simp)).mono ?_
    rintro e w6 ⟨rfl, hb, hk⟩
    have HB6 := Lib.hid hb
    have HQ6 := Lib.hid (HQ3.out.trans (hk.onBuf (Nat.le_refl _)))
    clear hb hk HB3
    go_wp2_with fail
    refine (HPn.out _ _ _ _ HB6.out HQ6.out.size (by simp; omega)).mono ?_
    rintro e w7 ⟨rfl, hb, hk⟩
    have HB7 := Lib.hid hb
    have HQ7 := Lib.hid (HQ6.out.trans (hk.onBuf (Nat.le_refl _)))
    clear hb hk HB6
    rw [← HG.out] at HB7
    have hG0 : 0 < G.length := by rw [HG.out]; simp
    have HBy := Lib.hid (bufBytes w1.heap.size w1.heap.size G w7 HB7.out (by omega))
    obtain ⟨L, hL⟩ : ∃ L, L = G.length := ⟨_, rfl⟩
    rw [← hL] at HBy hG0
    have HL := Lib.hid hL
    clear hL hbl q1 HB7
    go_wp2_with fail
    refine HBy.out.mono ?_
    rintro e w8 ⟨v, rfl, q, d, rfl, hd, hd', hby, hq, hk⟩
    have HK8 := Lib.hid (HK.out.then (HQ7.out.trans (hk.wider (S' := fun i => w1.heap.size ≤ i) (fun _ _ h => h.elim))) (fun i hi h => by have := HSz.out; omega))
    have HB8 := Lib.hid hby
    have HQ8 : Hid (q = none → L = 0 ∧ d = 0) := Lib.hid (fun h0 => by
      obtain ⟨a, ha, _⟩ := HB8.out (by rw [← HL.out]; exact hG0)
      rw [h0] at ha
      simp at ha)
    have hd9 : d ≤ 9223372036854775807 := by first | omega | (unfold maxLen at hd'; omega) | exact hd'
    clear hby hq hk hd'
    go_wp2_with fail
    refine (HS.out q d _ L HL.out hd hd9 HQ8.out HB8.out).mono ?_
    rintro e w9 ⟨v2, rfl, ⟨q2, m2, d2, rfl, hm2, hmd2, hd2, hq2, hb2, hk2⟩, hr2⟩
    have HR2 := Lib.hid (show NewRow8 w (sealN G) (.slice q2 m2 d2) w9 from row_lower hr2 HK8.out.size)
    have HN := Lib.hid (show NewBytes w (sealN G) (.slice q2 m2 d2) w9 from ⟨q2, m2, d2, rfl, hm2, hmd2, hd2, hq2, hb2, HK8.out.trans hk2⟩)
    clear hm2 hmd2 hd2 hq2 hb2 hk2 hr2
    go_wp2_with fail
    refine bodyPost_ret (results_tmp2 rfl _ _ _) rfl ?_
    exact ⟨_, rfl, HN.out, HR2.out⟩
  · rw [if_neg hm] at HCk ⊢
    rw [if_neg hm]
    clear hm
    unfold confV at HCk ⊢
    go_enter Tryz.func51, Tryz.ntmps51
    go_wp2_with fail
    refine (HCk.out _).mono ?_
    rintro e w1 ⟨rfl, hk⟩
    have HK := Lib.hid (HK0.out.trans hk)
    clear hk
    go_wp2_with fail
    refine bodyPost_ret (results_tmp2 rfl _ _ _) rfl ?_
    exact ⟨_, rfl, .ofNil _ _ HK.out, World.ownsRow_nil _ _ _ _⟩

theorem puthead_own (x s n : Nat) (w : World) (hx : x < 256) (hs : s < 4294967296) (hn : n < 4294967296) : Calls Tryz.prog 51 #[confV x s, .int .u32 (n : Int)] w fun e w' => ∃ v, e = .returned (.tuple #[v, .int .i64 (if mayHead x s n = true then 0 else 1)]) ∧ NewBytes w (putH x s n) v w' :=
  (puthead_both x s n w hx hs hn).mono fun _ _ ⟨v, h1, h2, _⟩ => ⟨v, h1, h2⟩

end Go.Proofs.YtjeammmfdniokaaGreat

namespace Go.Proofs.YtjeammmfdniokaaGreat
open Go.RowKit

set_option maxHeartbeats 4000000 in
set_option maxRecDepth 10000 in
theorem empty_own (e s n : Nat) (w : World) (he : e < 256) (hs : s < 4294967296) (hn : n < 4294967296) :
    Calls Tryz.prog 50 #[confV e s, .int .u32 (n : Int)] w fun r w' => r = .returned (.tuple #[roomV (if mayHead e s n = true then emptyP e s n else Rm.none), .int .i64 (if mayHead e s n = true then 0 else 1)]) ∧ Keeps NoBlock w w' := by
  have HP := Lib.hid (fun w => puthead_own e s n w he hs hn)
  have HW := Lib.hid ((Whole.new w 27 (confCells e s)).alloc (.cells (roomCells Rm.none) 95))
  have HZ := Lib.hid (Whole.newAt (w.alloc (.cells (confCells e s) 27)) 95 (roomCells Rm.none) (w.heap.size + 1) (by simp))
  have HK := Lib.hid (((Keeps.refl NoBlock w).alloc (.cells (confCells e s) 27)).alloc (.cells (roomCells Rm.none) 95))
  obtain ⟨c0, c1⟩ := And.intro (HW.out.cell 0 rfl) (HW.out.cell 1 rfl)
  simp only [confCells, List.getElem_toArray, List.getElem_cons_zero, List.getElem_cons_succ] at c0 c1
  by_cases hm : mayHead e s n = true
  rotate_left
  · rw [if_neg hm, if_neg hm]
    unfold putH at HP
    simp only [if_neg hm] at HP
    clear hm he hs hn
    unfold confV at *
    unfold roomCells confCells Rm.none at HW HK HZ
    unfold roomCells Rm.none at c0 c1
    simp only at HW HK HP HZ c0 c1 ⊢
    go_enter Tryz.func50, Tryz.ntmps50
    go_wp2_with fail
    refine (HP.out _).mono ?_
    rintro r w1 ⟨v, rfl, q, m, d, rfl, hm, hmd, hd, hq, hb, hk⟩
    have HZ := Lib.hid (HZ.out.keep hk (fun h => h))
    have HK := Lib.hid (HK.out.trans hk)
    clear hk c0 c1 hm hmd hd hq hb
    obtain ⟨c0, c1, c2, c3, c4⟩ := room_at5 HZ.out
    obtain ⟨q0, q1, q2, q3, q4⟩ := room_free HZ.out
    obtain ⟨g0, g1, g2, g3, g4⟩ := room_at5 (Whole.set5 HZ.out (.int .u8 0) (.int .u32 0) (.int .u32 0) (.int .i64 0) (.int .i64 0))
    go_wp2_with fail
    exact bodyPost_ret (v := .tuple #[roomV Rm.none, .int .i64 1]) (by simp [results, Tryz.results50, go_sem, roomV, Rm.none, c0, c1, c2, c3, c4]) rfl ⟨rfl, HK.out.new5 (by omega) (.int .u8 0) (.int .u32 0) (.int .u32 0) (.int .i64 0) (.int .i64 0)⟩
  rw [if_pos hm, if_pos hm]
  unfold putH at HP
  simp only [if_pos hm] at HP
  have hlen : headLen e s n = (sealN (headB e s n)).length := rfl
  have hle := (headLen_le (e := e) (s := s) (n := n) (by omega) (by omega)).2
  have hU : emptyP e s n = ⟨e, s, n, headLen e s n, 0⟩ := rfl
  rw [hU]
  obtain ⟨L, hL⟩ : ∃ L, L = headLen e s n := ⟨_, rfl⟩
  rw [← hL] at hle hlen ⊢
  have HL := Lib.hid hlen
  clear hm he hs hn hL hlen hU
  unfold confV at *
  unfold roomV
  unfold roomCells confCells Rm.none at HW HK HZ
  unfold roomCells Rm.none at c0 c1
  simp only at HW HK HP HZ c0 c1 ⊢
  go_enter Tryz.func50, Tryz.ntmps50
  go_wp2_with fail
  refine (HP.out _).mono ?_
  rintro r w1 ⟨v, rfl, q, m, d, rfl, hm, hmd, hd, hq, hb, hk⟩
  have HW := Lib.hid (HW.out.keep hk (fun h => h))
  have HZ := Lib.hid (HZ.out.keep hk (fun h => h))
  have HK := Lib.hid (HK.out.trans hk)
  obtain rfl : m = L := hm.trans HL.out.symm
  clear hk c0 c1 hm hmd hd hq hb
  obtain ⟨c0, c1⟩ := And.intro (HW.out.cell 0 rfl) (HW.out.cell 1 rfl)
  simp only [List.getElem_toArray, List.getElem_cons_zero, List.getElem_cons_succ] at c0 c1
  obtain ⟨y0, y1, y2, y3, y4⟩ := room_at5 HZ.out
  obtain ⟨q0, q1, q2, q3, q4⟩ := room_free HZ.out
  obtain ⟨g0, g1, g2, g3, g4⟩ := room_at5 (Whole.set5 HZ.out (.int .u8 (e : Int)) (.int .u32 (s : Int)) (.int .u32 (n : Int)) (.int .i64 (m : Int)) (.int .i64 0))
  have HK3 := Lib.hid (HK.out.new5 (k := w.heap.size + 1) (by omega) (.int .u8 (e : Int)) (.int .u32 (s : Int)) (.int .u32 (n : Int)) (.int .i64 (m : Int)) (.int .i64 0))
  go_wp2_with fail
  exact bodyPost_ret (v := .tuple #[.agg #[.int .u8 (e : Int), .int .u32 (s : Int), .int .u32 (n : Int), .int .i64 (m : Int), .int .i64 0], .int .i64 0]) (by simp [results, Tryz.results50, go_sem, g0, g1, g2, g3, g4]) rfl ⟨rfl, HK3.out⟩
end Go.Proofs.YtjeammmfdniokaaGreat

namespace Go.Proofs.YtjeammmfdniokaaGreat
open Go.RowKit

def narrowP (e s : Nat) : Rm := if mayC e s = true then emptyP e s (s - 1) else Rm.none
theorem narrow_head {e s : Nat} (h : mayC e s = true) : mayHead e s (s - 1) = true := by
  obtain ⟨m1, m2, m3, m4⟩ := mayC_true.1 h
  exact mayHead_true.2 ⟨m1, m2, m3, m4, by omega⟩
theorem not_head {e s : Nat} (h : mayC e s ≠ true) (n : Nat) : mayHead e s n ≠ true := fun h2 => by
  obtain ⟨m1, m2, m3, m4, _⟩ := mayHead_true.1 h2
  exact h (mayC_true.2 ⟨m1, m2, m3, m4⟩)

set_option maxHeartbeats 4000000 in
set_option maxRecDepth 10000 in
theorem narrow_own (e s : Nat) (w : World) (he : e < 256) (hs : s < 4294967296) :
    Calls Tryz.prog 79 #[confV e s] w fun r w' => r = .returned (roomV (narrowP e s)) ∧ Keeps NoBlock w w' := by
  obtain ⟨n, hn⟩ : ∃ n, n = (if s = 0 then 4294967295 else s - 1) := ⟨_, rfl⟩
  have hn9 : n < 4294967296 := by rw [hn]; split <;> omega
  have hw : IntKind.u32.wrap ((s : Int) - 1) = (n : Int) := by rw [hn, IntKind.wrap_u32]; split <;> omega
  have HP := Lib.hid (fun w => empty_own e s n w he hs hn9)
  have hr : (if mayHead e s n = true then emptyP e s n else Rm.none) = narrowP e s := by
    unfold narrowP
    by_cases hm : mayC e s = true
    · have hs1 := (mayC_true.1 hm).2.2.1
      rw [if_neg (by omega)] at hn
      rw [if_pos hm, hn, if_pos (narrow_head hm)]
    · rw [if_neg hm, if_neg (not_head hm n)]
  rw [hr] at HP
  obtain ⟨R, hR⟩ : ∃ R, R = narrowP e s := ⟨_, rfl⟩
  obtain ⟨y, hy⟩ : ∃ y : Int, y = (if mayHead e s n = true then 0 else 1) := ⟨_, rfl⟩
  rw [← hR] at HP ⊢
  rw [← hy] at HP
  have HW := Lib.hid ((Whole.new w 27 (confCells e s)).alloc (.cells (roomCells Rm.none) 95))
  have HZ := Lib.hid (Whole.newAt (w.alloc (.cells (confCells e s) 27)) 95 (roomCells Rm.none) (w.heap.size + 1) (by simp))
  have HK := Lib.hid (((Keeps.refl NoBlock w).alloc (.cells (confCells e s) 27)).alloc (.cells (roomCells Rm.none) 95))
  obtain ⟨c0, c1⟩ := And.intro (HW.out.cell 0 rfl) (HW.out.cell 1 rfl)
  simp only [confCells, List.getElem_toArray, List.getElem_cons_zero, List.getElem_cons_succ] at c0 c1
  clear hn hr hR hy he hs
  obtain ⟨e2, s2, num, used, count⟩ := R
  unfold confV roomV at *
  unfold roomCells confCells Rm.none at HW HK HZ
  unfold roomCells Rm.none at c0 c1
  simp only at HW HK HP HZ c0 c1 ⊢
  go_enter Tryz.func79, Tryz.ntmps79
  go_wp2_with fail
  refine (HP.out _).mono ?_
  rintro r w1 ⟨rfl, hk⟩
  have HZ := Lib.hid (HZ.out.keep hk (fun h => h))
  have HK := Lib.hid (HK.out.trans hk)
  clear hk c0 c1
  have HX := Lib.hid (Whole.new w1 95 #[.int .u8 (e2 : Int), .int .u32 (s2 : Int), .int .u32 (num : Int), .int .i64 (used : Int), .int .i64 (count : Int)])
  have HZ := Lib.hid (HZ.out.alloc (.cells #[.int .u8 (e2 : Int), .int .u32 (s2 : Int), .int .u32 (num : Int), .int .i64 (used : Int), .int .i64 (count : Int)] 95))
  have HK := Lib.hid (HK.out.alloc (.cells #[.int .u8 (e2 : Int), .int .u32 (s2 : Int), .int .u32 (num : Int), .int .i64 (used : Int), .int .i64 (count : Int)] 95))
  obtain ⟨x0, x1, x2, x3, x4⟩ := room_at5 HX.out
  obtain ⟨y0, y1, y2, y3, y4⟩ := room_at5 HZ.out
  obtain ⟨q0, q1, q2, q3, q4⟩ := room_free HZ.out
  obtain ⟨g0, g1, g2, g3, g4⟩ := room_at5 (Whole.set5 HZ.out (.int .u8 (e2 : Int)) (.int .u32 (s2 : Int)) (.int .u32 (num : Int)) (.int .i64 (used : Int)) (.int .i64 (count : Int)))
  have HK3 := Lib.hid (HK.out.new5 (k := w.heap.size + 1) (by omega) (.int .u8 (e2 : Int)) (.int .u32 (s2 : Int)) (.int .u32 (num : Int)) (.int .i64 (used : Int)) (.int .i64 (count : Int)))
  go_wp2_with fail
  exact bodyPost_ret (v := .agg #[.int .u8 (e2 : Int), .int .u32 (s2 : Int), .int .u32 (num : Int), .int .i64 (used : Int), .int .i64 (count : Int)]) (by simp [results, Tryz.results79, go_sem, g0, g1, g2, g3, g4]) rfl ⟨rfl, HK3.out⟩

/-- Does a frame fit into the empty room of the greatest number, if there is one? -/
def fitsN (e s : Nat) (z : Int) : Bool := mayC e s && fitsP (emptyP e s (s - 1)) z
theorem fitsN_own (e s : Nat) (z : Int) (w : World) : Calls Tryz.prog 80 #[roomV (narrowP e s), .int .i64 z] w fun r w' => r = .returned (.bool (fitsN e s z)) ∧ Keeps NoBlock w w' := by
  unfold fitsN narrowP
  by_cases hm : mayC e s = true
  · rw [if_pos hm, hm, Bool.true_and]
    exact fits_own _ z w (real_empty (narrow_head hm))
  · rw [if_neg hm, show mayC e s = false by simpa using hm, Bool.false_and]
    exact fits_none z w

set_option maxHeartbeats 4000000 in
set_option maxRecDepth 10000 in
theorem large_own (e s : Nat) (z : Int) (w : World) (he : e < 256) (hs : s < 4294967296) :
    Calls Tryz.prog 56 #[confV e s, .int .i64 z] w fun r w' => r = .returned (.bool (largeP e s z)) ∧ Keeps NoBlock w w' := by
  have HN := Lib.hid (fun w => narrow_own e s w he hs)
  have HF := Lib.hid (fun w => fitsN_own e s z w)
  have hl : largeP e s z = !(fitsN e s z) := by
    unfold largeP fitsN
    cases mayC e s <;> cases fitsP (emptyP e s (s - 1)) z <;> rfl
  rw [hl]
  obtain ⟨b, hb⟩ : ∃ b, b = fitsN e s z := ⟨_, rfl⟩
  obtain ⟨R, hR⟩ : ∃ R, R = narrowP e s := ⟨_, rfl⟩
  rw [← hR] at HN HF
  rw [← hb] at HF ⊢
  have HW := Lib.hid (Whole.new w 27 (confCells e s))
  have HK := Lib.hid ((Keeps.refl NoBlock w).alloc (.cells (confCells e s) 27))
  obtain ⟨c0, c1⟩ := And.intro (HW.out.cell 0 rfl) (HW.out.cell 1 rfl)
  simp only [confCells, List.getElem_toArray, List.getElem_cons_zero, List.getElem_cons_succ] at c0 c1
  clear hl hb hR he hs
  unfold confV roomV at *
  unfold confCells at HW HK
  go_enter Tryz.func56, Tryz.ntmps56
  go_wp2_with fail
  refine (HN.out _).mono ?_
  rintro r w1 ⟨rfl, hk⟩
  have HK := Lib.hid (HK.out.trans hk)
  clear hk c0 c1
  go_wp2_with fail
  refine (HF.out _).mono ?_
  rintro r w2 ⟨rfl, hk⟩
  have HK := Lib.hid (HK.out.trans hk)
  clear hk
  go_wp2_with fail
  go_ret
  exact ⟨rfl, HK.out⟩
end Go.Proofs.YtjeammmfdniokaaGreat

namespace Go.Proofs.YtjeammmfdniokaaGreat
open Go.RowKit

/-- The room in which a frame lies that isn't too large. -/
def addP (r : Rm) (z : Int) : Int × Rm := if fitsP r z = true then (0, takeP r z) else if r.s ≤ r.num + 1 then (7, Rm.none) else (0, takeP (emptyP r.e r.s (r.num + 1)) z)

set_option maxHeartbeats 4000000 in
set_option maxRecDepth 10000 in
theorem add_own (r : Rm) (z : Int) (w : World) (hr : r.Real) (hc9 : r.count < 10000) (hf : fitsP (emptyP r.e r.s (r.s - 1)) z = true) :
    Calls Tryz.prog 81 #[roomV r, .int .i64 z] w fun x w' => x = .returned (.tuple #[roomV (addP r z).2, .int .i64 (addP r z).1]) ∧ Keeps NoBlock w w' := by
  have HF := Lib.hid (fun w => fits_own r z w hr)
  have HT := Lib.hid (fun w => take_own r z w hr hc9)
  have HW := Lib.hid ((Whole.new w 95 (roomCells r)).alloc (.cells (roomCells Rm.none) 95))
  have HZ := Lib.hid (Whole.newAt (w.alloc (.cells (roomCells r) 95)) 95 (roomCells Rm.none) (w.heap.size + 1) (by simp))
  have HK := Lib.hid (((Keeps.refl NoBlock w).alloc (.cells (roomCells r) 95)).alloc (.cells (roomCells Rm.none) 95))
  obtain ⟨m1, m2, m3, m4, m5⟩ := mayHead_true.1 hr.may
  unfold addP
  by_cases hfr : fitsP r z = true
  · rw [if_pos hfr]
    simp only [if_pos hfr] at HT
    rw [hfr] at HF
    obtain ⟨R, hR⟩ : ∃ R, R = takeP r z := ⟨_, rfl⟩
    rw [← hR] at HT ⊢
    clear hfr hr hc9 hf hR
    obtain ⟨e, s, num, used, count⟩ := r
    obtain ⟨e2, s2, num2, used2, count2⟩ := R
    unfold roomV at *
    unfold roomCells Rm.none at HW HK HZ
    simp only at HW HK HF HZ HT ⊢
    obtain ⟨c0, c1, c2, c3, c4⟩ := room_at5 HW.out
    go_enter Tryz.func81, Tryz.ntmps81
    go_wp2_with fail
    refine (HF.out _).mono ?_
    rintro x w1 ⟨rfl, hk⟩
    have HW := Lib.hid (HW.out.keep hk (fun h => h))
    have HZ := Lib.hid (HZ.out.keep hk (fun h => h))
    have HK := Lib.hid (HK.out.trans hk)
    clear hk c0 c1 c2 c3 c4
    obtain ⟨c0, c1, c2, c3, c4⟩ := room_at5 HW.out
    go_wp2_with fail
    refine (HT.out _).mono ?_
    rintro x w2 ⟨rfl, hk⟩
    have HZ := Lib.hid (HZ.out.keep hk (fun h => h))
    have HK := Lib.hid (HK.out.trans hk)
    clear hk c0 c1 c2 c3 c4
    obtain ⟨y0, y1, y2, y3, y4⟩ := room_at5 HZ.out
    obtain ⟨q0, q1, q2, q3, q4⟩ := room_free HZ.out
    obtain ⟨g0, g1, g2, g3, g4⟩ := room_at5 (Whole.set5 HZ.out (.int .u8 (e2 : Int)) (.int .u32 (s2 : Int)) (.int .u32 (num2 : Int)) (.int .i64 (used2 : Int)) (.int .i64 (count2 : Int)))
    have HK3 := Lib.hid (HK.out.new5 (k := w.heap.size + 1) (by omega) (.int .u8 (e2 : Int)) (.int .u32 (s2 : Int)) (.int .u32 (num2 : Int)) (.int .i64 (used2 : Int)) (.int .i64 (count2 : Int)))
    go_wp2_with fail
    exact bodyPost_ret (v := .tuple #[.agg #[.int .u8 (e2 : Int), .int .u32 (s2 : Int), .int .u32 (num2 : Int), .int .i64 (used2 : Int), .int .i64 (count2 : Int)], .int .i64 0]) (by simp [results, Tryz.results81, go_sem, g0, g1, g2, g3, g4]) rfl ⟨rfl, HK3.out⟩
  rw [if_neg hfr]
  have hfr0 : fitsP r z = false := by simpa using hfr
  rw [hfr0] at HF
  have hws : IntKind.u32.wrap ((r.s : Int) - 1) = ((r.s - 1 : Nat) : Int) := by rw [IntKind.wrap_u32]; omega
  obtain ⟨S1, hS1⟩ : ∃ S1, S1 = r.s - 1 := ⟨_, rfl⟩
  rw [← hS1] at hws
  by_cases hlast : r.s ≤ r.num + 1
  · rw [if_pos hlast]
    have hq : S1 = r.num := by omega
    clear HT hfr hfr0 hr hc9 hf
    obtain ⟨e, s, num, used, count⟩ := r
    simp only at hws hq
    obtain rfl : S1 = num := hq
    clear hS1 hlast m1 m2 m3 m4 m5
    unfold roomV at *
    unfold roomCells Rm.none at HW HK HZ
    unfold Rm.none
    simp only at HW HK HF HZ ⊢
    obtain ⟨c0, c1, c2, c3, c4⟩ := room_at5 HW.out
    go_enter Tryz.func81, Tryz.ntmps81
    go_wp2_with fail
    refine (HF.out _).mono ?_
    rintro x w1 ⟨rfl, hk⟩
    have HW := Lib.hid (HW.out.keep hk (fun h => h))
    have HZ := Lib.hid (HZ.out.keep hk (fun h => h))
    have HK := Lib.hid (HK.out.trans hk)
    clear hk c0 c1 c2 c3 c4
    obtain ⟨c0, c1, c2, c3, c4⟩ := room_at5 HW.out
    obtain ⟨y0, y1, y2, y3, y4⟩ := room_at5 HZ.out
    obtain ⟨q0, q1, q2, q3, q4⟩ := room_free HZ.out
    obtain ⟨g0, g1, g2, g3, g4⟩ := room_at5 (Whole.set5 HZ.out (.int .u8 0) (.int .u32 0) (.int .u32 0) (.int .i64 0) (.int .i64 0))
    have HK3 := Lib.hid (HK.out.new5 (k := w.heap.size + 1) (by omega) (.int .u8 0) (.int .u32 0) (.int .u32 0) (.int .i64 0) (.int .i64 0))
    go_wp2_with fail
    exact bodyPost_ret (v := .tuple #[.agg #[.int .u8 0, .int .u32 0, .int .u32 0, .int .i64 0, .int .i64 0], .int .i64 7]) (by simp [results, Tryz.results81, go_sem, g0, g1, g2, g3, g4]) rfl ⟨rfl, HK3.out⟩
  rw [if_neg hlast]
  have hne : ¬ r.num = S1 := by omega
  have hne2 : ¬ (r.num : Int) = (S1 : Int) := by omega
  have hmay : mayHead r.e r.s (r.num + 1) = true := mayHead_true.2 ⟨m1, m2, m3, m4, by omega⟩
  have hfit : fitsP (emptyP r.e r.s (r.num + 1)) z = true := fits_empty (by omega) (by omega) (by omega) hf
  have HE := Lib.hid (fun w => empty_own r.e r.s (r.num + 1) w (by omega) (by omega) (by omega))
  simp only [if_pos hmay] at HE
  have HT := Lib.hid (fun w => take_own (emptyP r.e r.s (r.num + 1)) z w (real_empty hmay) (by show 0 < 10000; omega))
  simp only [if_pos hfit] at HT
  have hw1 : IntKind.u32.wrap ((r.num : Int) + 1) = (r.num : Int) + 1 := by rw [IntKind.wrap_u32]; omega
  rw [show ((r.num + 1 : Nat) : Int) = (r.num : Int) + 1 by omega] at HE
  obtain ⟨R1, hR1⟩ : ∃ R, R = emptyP r.e r.s (r.num + 1) := ⟨_, rfl⟩
  rw [← hR1] at HE HT ⊢
  obtain ⟨R, hR⟩ : ∃ R, R = takeP R1 z := ⟨_, rfl⟩
  rw [← hR] at HT ⊢
  clear hfr hfr0 hr hc9 hf hmay hfit hR1 hR hlast hS1 m1 m2 m3 m4 m5
  obtain ⟨e, s, num, used, count⟩ := r
  obtain ⟨e1, s1, num1, used1, count1⟩ := R1
  obtain ⟨e2, s2, num2, used2, count2⟩ := R
  unfold roomV confV at *
  unfold roomCells Rm.none at HW HK HZ
  simp only at HW HK HF HZ HT HE hws hne hne2 hw1 ⊢
  obtain ⟨c0, c1, c2, c3, c4⟩ := room_at5 HW.out
  go_enter Tryz.func81, Tryz.ntmps81
  go_wp2_with fail
  refine (HF.out _).mono ?_
  rintro x w1 ⟨rfl, hk⟩
  have HW := Lib.hid (HW.out.keep hk (fun h => h))
  have HZ := Lib.hid (HZ.out.keep hk (fun h => h))
  have HK := Lib.hid (HK.out.trans hk)
  clear hk c0 c1 c2 c3 c4
  obtain ⟨c0, c1, c2, c3, c4⟩ := room_at5 HW.out
  go_wp2_with fail
  refine (HE.out _).mono ?_
  rintro x w2 ⟨rfl, hk⟩
  have HX := Lib.hid (Whole.new w2 95 #[.int .u8 (e1 : Int), .int .u32 (s1 : Int), .int .u32 (num1 : Int), .int .i64 (used1 : Int), .int .i64 (count1 : Int)])
  have HZ := Lib.hid ((HZ.out.keep hk (fun h => h)).alloc (.cells #[.int .u8 (e1 : Int), .int .u32 (s1 : Int), .int .u32 (num1 : Int), .int .i64 (used1 : Int), .int .i64 (count1 : Int)] 95))
  have HK := Lib.hid ((HK.out.trans hk).alloc (.cells #[.int .u8 (e1 : Int), .int .u32 (s1 : Int), .int .u32 (num1 : Int), .int .i64 (used1 : Int), .int .i64 (count1 : Int)] 95))
  clear hk c0 c1 c2 c3 c4 hne hne2
  obtain ⟨x0, x1, x2, x3, x4⟩ := room_at5 HX.out
  go_wp2_with fail
  refine (HT.out _).mono ?_
  rintro x w3 ⟨rfl, hk⟩
  have HZ := Lib.hid (HZ.out.keep hk (fun h => h))
  have HK := Lib.hid (HK.out.trans hk)
  clear hk x0 x1 x2 x3 x4
  obtain ⟨y0, y1, y2, y3, y4⟩ := room_at5 HZ.out
  obtain ⟨q0, q1, q2, q3, q4⟩ := room_free HZ.out
  obtain ⟨g0, g1, g2, g3, g4⟩ := room_at5 (Whole.set5 HZ.out (.int .u8 (e2 : Int)) (.int .u32 (s2 : Int)) (.int .u32 (num2 : Int)) (.int .i64 (used2 : Int)) (.int .i64 (count2 : Int)))
  have HK3 := Lib.hid (HK.out.new5 (k := w.heap.size + 1) (by omega) (.int .u8 (e2 : Int)) (.int .u32 (s2 : Int)) (.int .u32 (num2 : Int)) (.int .i64 (used2 : Int)) (.int .i64 (count2 : Int)))
  go_wp2_with fail
  exact bodyPost_ret (v := .tuple #[.agg #[.int .u8 (e2 : Int), .int .u32 (s2 : Int), .int .u32 (num2 : Int), .int .i64 (used2 : Int), .int .i64 (count2 : Int)], .int .i64 0]) (by simp [results, Tryz.results81, go_sem, g0, g1, g2, g3, g4]) rfl ⟨rfl, HK3.out⟩
end Go.Proofs.YtjeammmfdniokaaGreat

namespace Go.Proofs.YtjeammmfdniokaaGreat
open Go.RowKit

def u32P (x : Nat) : Value := .int .u32 (x : Int)
theorem infoU32P : (Tryz.prog.info? 25).map (fun i => (i.zero, i.size, i.bytes)) = some (some (.int .u32 0), 1, 4) := by kernel_rfl
theorem ones_apart {w0 wr : World} {l : List Nat} {v : Value} {g : Nat} {t : TypeId} {cs : Array Value} (h : OnesSoFar u32P 25 w0 l v wr) (hw : Whole wr g t cs) (ht : t ≠ 25) : v.ownBlock ≠ some g := fun e => by
  rcases h.1.2 with ⟨rfl, _⟩ | ⟨g', cap, cur, rfl, _, hg, _⟩
  · simp [Value.ownBlock] at e
  · simp only [Value.ownBlock, Option.some.injEq] at e
    subst e
    have := (show wr.heap[g']? = _ from hw).symm.trans hg
    simp at this
    exact ht this.2
theorem ones_set5 {w0 wr : World} {l : List Nat} {v : Value} (h : OnesSoFar u32P 25 w0 l v wr) {g : Nat} (hp : v.ownBlock ≠ some g) (hb : w0.heap.size ≤ g) (a b c d e : Value) :
    OnesSoFar u32P 25 w0 l v (((((wr.setCell ⟨g, 0, none⟩ a).setCell ⟨g, 1, none⟩ b).setCell ⟨g, 2, none⟩ c).setCell ⟨g, 3, none⟩ d).setCell ⟨g, 4, none⟩ e) :=
  ((((h.setOther (p := ⟨g, 0, none⟩) hp hb a).setOther (p := ⟨g, 1, none⟩) hp hb b).setOther (p := ⟨g, 2, none⟩) hp hb c).setOther (p := ⟨g, 3, none⟩) hp hb d).setOther (p := ⟨g, 4, none⟩) hp hb e
theorem addP_either (r : Rm) (z : Int) : (addP r z).1 = 0 ∨ (addP r z).1 = 7 := by
  unfold addP
  split
  · exact .inl rfl
  · split
    · exact .inr rfl
    · exact .inl rfl
theorem step_add {e s : Nat} {r : Rm} {O : List Nat} {z : Int} (he : r.e = e) (hs : r.s = s) (hf : fitsP (emptyP e s (s - 1)) z = true) :
    stepP e s ⟨0, r, O⟩ z = if (addP r z).1 = 0 then ⟨0, (addP r z).2, O ++ [(addP r z).2.num]⟩ else ⟨7, Rm.none, []⟩ := by
  subst he
  subst hs
  unfold stepP addP
  rw [if_neg (by simp), if_pos hf]
  by_cases h1 : fitsP r z = true
  · rw [if_pos h1, if_pos h1]
    rfl
  · rw [if_neg h1, if_neg h1]
    by_cases h2 : r.s ≤ r.num + 1
    · rw [if_pos h2, if_pos h2]
      rfl
    · rw [if_neg h2, if_neg h2]
      rfl
theorem NewRow32.none {w w' : World} (hk : Keeps NoBlock w w') : NewRow32 w [] (.slice none 0 0) w' :=
  ⟨Option.none, 0, 0, rfl, rfl, Nat.le_refl _, by decide, fun _ => ⟨rfl, rfl⟩, fun i hi => by simp at hi, hk⟩

set_option maxHeartbeats 4000000 in
set_option maxRecDepth 10000 in
theorem plan_not (e s : Nat) (p : Option Addr) (n c : Nat) (zs : List Int) (he : e < 256) (hs : s < 4294967296) (hm : mayC e s ≠ true) (w : World) :
    Calls Tryz.prog 55 #[confV e s, .slice p n c] w fun r w' => ∃ v, r = .returned (.tuple #[v, .int .i64 (planP e s zs).1]) ∧ NewRow32 w (planP e s zs).2 v w' := by
  have HE := Lib.hid (fun w => empty_own e s 0 w he hs (by decide))
  simp only [if_neg (not_head hm 0)] at HE
  rw [show planP e s zs = (1, []) from by unfold planP; rw [if_neg hm]]
  have HW := Lib.hid (Whole.new w 27 (confCells e s))
  have HK := Lib.hid ((Keeps.refl NoBlock w).alloc (.cells (confCells e s) 27))
  obtain ⟨c0, c1⟩ := And.intro (HW.out.cell 0 rfl) (HW.out.cell 1 rfl)
  simp only [confCells, List.getElem_toArray, List.getElem_cons_zero, List.getElem_cons_succ] at c0 c1
  clear hm he hs
  unfold confV roomV Rm.none at *
  unfold confCells at HW HK
  go_enter Tryz.func55, Tryz.ntmps55
  go_wp2_with fail
  refine (HE.out _).mono ?_
  rintro r w1 ⟨rfl, hk⟩
  have HK := Lib.hid ((HK.out.trans hk).alloc (.cells #[.int .u8 0, .int .u32 0, .int .u32 0, .int .i64 0, .int .i64 0] 95))
  clear hk c0 c1
  go_wp2_with fail
  exact bodyPost_ret (results_tmp2 rfl _ _ _) rfl ⟨_, rfl, NewRow32.none HK.out⟩

set_option maxHeartbeats 16000000 in
set_option maxRecDepth 10000 in
theorem plan_may (e s : Nat) (p : Option Addr) (n c : Nat) (zs : List Int) (he : e < 256) (hs : s < 4294967296) (hm : mayC e s = true) (hn9 : n ≤ 10000) (w : World) (hz : InZ w p n c zs) :
    Calls Tryz.prog 55 #[confV e s, .slice p n c] w fun r w' => ∃ v, r = .returned (.tuple #[v, .int .i64 (planP e s zs).1]) ∧ NewRow32 w (planP e s zs).2 v w' := by
  obtain ⟨m1, m2, m3, m4⟩ := mayC_true.1 hm
  have hzero : mayHead e s 0 = true := mayHead_true.2 ⟨m1, m2, m3, m4, by omega⟩
  have HE := Lib.hid (fun w => empty_own e s 0 w he hs (by decide))
  simp only [if_pos hzero] at HE
  have HN := Lib.hid (fun w => narrow_own e s w he hs)
  have HF := Lib.hid (fun z w => fitsN_own e s z w)
  have HA := Lib.hid (fun r z w (hr : r.Real) (h1 : r.count < 10000) hf => add_own r z w hr h1 hf)
  have HStep := Lib.hid (fun j (h : j < zs.length) => runP_step (e := e) (s := s) h)
  have HReal := Lib.hid (fun j (hj : j ≤ 10000) => runP_real hm (zs.take j) (by rw [List.length_take]; omega))
  have HGone := Lib.hid (fun j y (hy : (y : Int) ≠ 0) h => planP_gone (e := e) (s := s) (zs := zs) (j := j) hm hy h)
  have HAll := Lib.hid (show planP e s zs = ((runP e s zs).y, (runP e s zs).out) from by unfold planP; rw [if_pos hm])
  have HZ0 := Lib.hid (runP_zero e s zs)
  have HNar := Lib.hid (fun z (h : fitsN e s z = true) => (Bool.and_eq_true _ _ ▸ h : mayC e s = true ∧ fitsP (emptyP e s (s - 1)) z = true).2)
  have HNot := Lib.hid (fun z (h : fitsN e s z ≠ true) => (show fitsP (emptyP e s (s - 1)) z ≠ true from fun h2 => h (by unfold fitsN; rw [hm, h2]; rfl)))
  have HLn := Lib.hid hz.len
  have HFi := Lib.hid hz.fine
  have HAt := Lib.hid hz.at_
  have HC0 := Lib.hid (Whole.new w 27 (confCells e s))
  have HK0 := Lib.hid ((Keeps.refl NoBlock w).alloc (.cells (confCells e s) 27))
  clear hm hz hzero
  obtain ⟨PL, hPL⟩ : ∃ P, P = planP e s zs := ⟨_, rfl⟩
  rw [← hPL] at HGone HAll ⊢
  obtain ⟨RM, hRM⟩ : ∃ R, R = narrowP e s := ⟨_, rfl⟩
  rw [← hRM] at HN HF
  obtain ⟨R0, hR0⟩ : ∃ R, R = emptyP e s 0 := ⟨_, rfl⟩
  rw [← hR0] at HE HZ0
  obtain ⟨i0, hi, hz0, hz1, hz2⟩ := info_parts infoU32P
  clear hPL hRM hR0 m1 m2 m3 m4 he
  unfold confV at HE HN ⊢
  unfold roomV at HE HN HF HA
  go_enter Tryz.func55, Tryz.ntmps55
  obtain ⟨c0, c1⟩ := And.intro (HC0.out.cell 0 rfl) (HC0.out.cell 1 rfl)
  simp only [confCells, List.getElem_toArray, List.getElem_cons_zero, List.getElem_cons_succ] at c0 c1
  go_wp2_with fail
  refine (HE.out _).mono ?_
  rintro r w1 ⟨rfl, hk⟩
  have HC := Lib.hid ((HC0.out.keep hk (fun h => h)).alloc (.cells (roomCells R0) 95))
  have HR := Lib.hid (Whole.new w1 95 (roomCells R0))
  have HK := Lib.hid ((HK0.out.trans hk).alloc (.cells (roomCells R0) 95))
  have HB := Lib.hid (show w.heap.size < w1.heap.size by have := hk.size; simp at this; omega)
  clear hk c0 c1 HE HC0 HK0
  obtain ⟨c0, c1⟩ := And.intro (HC.out.cell 0 rfl) (HC.out.cell 1 rfl)
  simp only [confCells, List.getElem_toArray, List.getElem_cons_zero, List.getElem_cons_succ] at c0 c1
  unfold roomCells at c0 c1
  go_wp2_with fail
  refine (HN.out _).mono ?_
  rintro r w2 ⟨rfl, hk⟩
  have HR := Lib.hid ((HR.out.keep hk (fun h => h)).alloc (.cells (roomCells RM) 95))
  have HX := Lib.hid (Whole.new w2 95 (roomCells RM))
  have HK := Lib.hid ((HK.out.trans hk).alloc (.cells (roomCells RM) 95))
  have HG := Lib.hid (show w1.heap.size < w2.heap.size by have := hk.size; simp at this; omega)
  clear hk c0 c1 HN HC
  obtain ⟨W0, hW0⟩ : ∃ W, W = w2.alloc (.cells (roomCells RM) 95) := ⟨_, rfl⟩
  rw [← hW0] at HK HR HX
  unfold roomCells at hW0
  go_upto_region 5 with (fail)
  rw [← hW0]
  clear hW0
  go_wp2_with (at_make; refine wpList_make_own _ rfl _ _ 71 rfl w.heap.size 25 i0 (.int .u32 0) 1 Tryz.underlying71 hi hz0 hz1 .i64 .i64 (n : Int) n rfl rfl rfl (by rw [hz2]; omega) (by unfold maxLen; omega) (by have := HK.out.size; omega) ?_)
  intro w3 hrow hgrow
  have hkg : Keeps NoBlock W0 w3 := Keeps.ofBelow ((Below.refl _ W0).grown hgrow (Nat.le_refl _) (fun k hk => by cases hk))
  have HS0 : Hid (OnesSoFar u32P 25 w [] (.slice (some ⟨W0.heap.size, 0, none⟩) 0 n) w3) := Lib.hid ⟨hrow, (HK.out.trans hkg).below (Nat.le_refl _) (fun _ _ h => h)⟩
  have HR := Lib.hid (HR.out.keep hkg (fun h => h))
  have HX := Lib.hid (HX.out.keep hkg (fun h => h))
  clear hrow hgrow hkg HK
  go_wp2_with fail
  go_loopw [9, 27] (fun v i wr => ∃ j : Nat, j ≤ n ∧ i = .int .i64 (j : Int) ∧ Hid ((runP e s (zs.take j)).y = 0) ∧ Hid (OnesSoFar u32P 25 w (runP e s (zs.take j)).out v wr) ∧ Hid (Whole wr w1.heap.size 95 (roomCells (runP e s (zs.take j)).r)) ∧ Hid (Whole wr w2.heap.size 95 (roomCells RM))) (fun _ i _ => n - (intOf i).toNat)
  case atStart =>
    refine ⟨0, Nat.zero_le _, rfl, Lib.hid (by rw [HZ0.out]), Lib.hid ?_, ?_, HX⟩
    · rw [HZ0.out]
      exact HS0.out
    · rw [HZ0.out]
      exact HR
  case round =>
    clear HS0 HR HX HZ0
    obtain ⟨j, hj, rfl, HY, HS, HR, HX⟩ := hrel
    by_cases hlt : j < n
    rotate_left
    · have hdj : decide ((j : Int) < (n : Int)) = false := decide_eq_false (by omega)
      have hdj2 : decide (j < n) = false := decide_eq_false hlt
      have hT : zs.take j = zs := List.take_of_length_le (by have := HLn.out; omega)
      rw [hT] at HY HS
      go_wp2_with fail
      refine bodyPost_ret (results_tmp2 rfl _ _ _) rfl ?_
      obtain ⟨qw, mw, dw, rfl, hmw, hmwd, hdw, hqw, hatw, hkw⟩ := HS.out.new (dd := 0)
      refine ⟨_, by rw [HAll.out, HY.out]; rfl, ?_⟩
      rw [HAll.out]
      exact ⟨qw, mw, dw, rfl, hmw, hmwd, hdw, hqw, hatw, hkw⟩
    have hdj : decide ((j : Int) < (n : Int)) = true := decide_eq_true (by omega)
    have hdj2 : decide (j < n) = true := decide_eq_true hlt
    have hjl : j < zs.length := by rw [← HLn.out]; exact hlt
    obtain ⟨a, rfl, a0⟩ := (HAt.out.keep HS.out.keeps (fun _ _ h => h)) j hjl
    have hzr := HFi.out _ (getI_mem hjl)
    have hstep := HStep.out j hjl
    obtain ⟨hreal, hre, hrs, hrc⟩ := HReal.out j (by omega) HY.out
    have hol := runP_out (e := e) (s := s) (zs.take j) HY.out
    obtain ⟨z, hz⟩ : ∃ z, z = zs.getD j 0 := ⟨_, rfl⟩
    rw [← hz] at a0 hzr hstep
    obtain ⟨st, hst⟩ : ∃ st, st = runP e s (zs.take j) := ⟨_, rfl⟩
    rw [← hst] at hstep hreal hre hrs hrc HY HS HR hol
    obtain ⟨y, r, O⟩ := st
    obtain rfl : y = 0 := HY.out
    simp only at hreal hre hrs hrc HS HR hol
    unfold intV at a0
    have hO9 : O.length ≤ 1000000 := by rw [hol, List.length_take]; omega
    have hrc9 : r.count < 10000 := by rw [List.length_take] at hrc; omega
    obtain ⟨c0, c1, c2, c3, c4⟩ := room_at5 HX.out
    clear hz hst hjl hol hrc
    have HJ := Lib.hid (And.intro hj hlt)
    have HFz := Lib.hid (HF.out z)
    by_cases hfm : fitsN e s z = true
    rotate_left
    · have HG6 := Lib.hid (HGone.out (j + 1) 6 (by decide) (by rw [hstep]; unfold stepP; rw [if_neg (by simp), if_neg (HNot.out z hfm)]))
      have hfm0 : fitsN e s z = false := by simpa using hfm
      rw [hfm0] at HFz
      clear hstep hfm hfm0 hreal HY hre hrs hzr hrc9 hO9
      go_wp2_with fail
      refine (HFz.out _).mono ?_
      rintro x w5 ⟨rfl, hk⟩
      have HK := Lib.hid (OnesSoFar.keeps (HS.out.keep hk))
      clear hk
      go_wp2_with fail
      exact bodyPost_ret (results_tmp2 rfl _ _ _) rfl ⟨_, by rw [HG6.out]; rfl, by rw [HG6.out]; exact NewRow32.none HK.out⟩
    have hfz := HNar.out z hfm
    rw [hfm] at HFz
    have HAr := Lib.hid (fun w => HA.out r z w hreal hrc9 (by rw [hre, hrs]; exact hfz))
    rw [step_add hre hrs hfz] at hstep
    have hei := addP_either r z
    obtain ⟨⟨y, R2⟩, hAd⟩ : ∃ A, A = addP r z := ⟨_, rfl⟩
    rw [← hAd] at HAr hstep hei
    simp only at HAr hstep hei
    have HSt := Lib.hid hstep
    clear hstep hfm hfz hreal HY hre hrs hzr hrc9 hAd
    go_wp2_with fail
    refine (HFz.out _).mono ?_
    rintro x w5 ⟨rfl, hk⟩
    have HR := Lib.hid (HR.out.keep hk (fun h => h))
    have HX := Lib.hid (HX.out.keep hk (fun h => h))
    have HS := Lib.hid (HS.out.keep hk)
    clear hk c0 c1 c2 c3 c4
    obtain ⟨c0, c1, c2, c3, c4⟩ := room_at5 HR.out
    go_wp2_with fail
    refine (HAr.out _).mono ?_
    rintro x wq ⟨rfl, hk⟩
    have HR := Lib.hid (HR.out.keep hk (fun h => h))
    have HX := Lib.hid (HX.out.keep hk (fun h => h))
    have HS := Lib.hid (HS.out.keep hk)
    clear hk c0 c1 c2 c3 c4
    obtain ⟨d0, d1, d2, d3, d4⟩ := room_at5 HR.out
    obtain ⟨q0, q1, q2, q3, q4⟩ := room_free HR.out
    have hap := ones_apart HS.out HR.out (show 95 ≠ 25 by decide)
    have HS := Lib.hid (ones_set5 HS.out hap (Nat.le_of_lt HB.out) (.int .u8 (R2.e : Int)) (.int .u32 (R2.s : Int)) (.int .u32 (R2.num : Int)) (.int .i64 (R2.used : Int)) (.int .i64 (R2.count : Int)))
    have HX := Lib.hid (HX.out.far5 (k := w1.heap.size) (by have := HG.out; omega) (.int .u8 (R2.e : Int)) (.int .u32 (R2.s : Int)) (.int .u32 (R2.num : Int)) (.int .i64 (R2.used : Int)) (.int .i64 (R2.count : Int)))
    have HR := Lib.hid (show Whole _ w1.heap.size 95 (roomCells R2) from Whole.set5 HR.out (.int .u8 (R2.e : Int)) (.int .u32 (R2.s : Int)) (.int .u32 (R2.num : Int)) (.int .i64 (R2.used : Int)) (.int .i64 (R2.count : Int)))
    by_cases hy : y = 0
    rotate_left
    · obtain rfl : y = 7 := by omega
      have HG7 := Lib.hid (HGone.out (j + 1) 7 (by decide) (by rw [HSt.out, if_neg hy]))
      have HK := Lib.hid HS.out.keeps
      clear HSt HS HX HR hap hei
      go_wp2_with fail
      exact bodyPost_ret (results_tmp2 rfl _ _ _) rfl ⟨_, by rw [HG7.out]; rfl, by rw [HG7.out]; exact NewRow32.none HK.out⟩
    subst hy
    have HSu := Lib.hid (show runP e s (zs.take (j + 1)) = ⟨0, R2, O ++ [R2.num]⟩ from by rw [HSt.out, if_pos rfl])
    clear HSt
    obtain ⟨k0, k1, k2, k3, k4⟩ := room_at5 HR.out
    obtain ⟨W9, hW9⟩ : ∃ W, W = (((((wq.setCell ⟨w1.heap.size, 0, none⟩ (.int .u8 (R2.e : Int))).setCell ⟨w1.heap.size, 1, none⟩ (.int .u32 (R2.s : Int))).setCell ⟨w1.heap.size, 2, none⟩ (.int .u32 (R2.num : Int))).setCell ⟨w1.heap.size, 3, none⟩ (.int .i64 (R2.used : Int))).setCell ⟨w1.heap.size, 4, none⟩ (.int .i64 (R2.count : Int))) := ⟨_, rfl⟩
    rw [← hW9] at HS HX HR k0 k1 k2 k3 k4
    have HS2 := Lib.hid (HS.out.alloc (.cells #[.int .u32 (R2.num : Int)] 25))
    have HNw : Hid (Whole (W9.alloc (.cells #[.int .u32 (R2.num : Int)] 25)) W9.heap.size 25 #[.int .u32 (R2.num : Int)]) := Lib.hid (Whole.new _ _ _)
    have HX := Lib.hid (HX.out.alloc (.cells #[.int .u32 (R2.num : Int)] 25))
    have HR := Lib.hid (HR.out.alloc (.cells #[.int .u32 (R2.num : Int)] 25))
    have hp1 := ones_apart HS2.out HR.out (show 95 ≠ 25 by decide)
    have hp2 := ones_apart HS2.out HX.out (show 95 ≠ 25 by decide)
    clear hap hei HS
    go_upto_region 14 with (fail)
    rw [← hW9]
    clear hW9
    go_wp2_with (at_builtin; refine wpList_append_oneG (v0 := u32P) rfl _ _ 71 rfl 25 i0 (.int .u32 0) 4 Tryz.underlying71 hi hz0 hz1 hz2 rfl _ O rfl HS2.out W9.heap.size R2.num rfl (HNw.out.cell 0 rfl) rfl (by omega) (by omega) ?_)
    intro v' w10 h10 hg10
    have HR := Lib.hid (HR.out.grown hg10 hp1)
    have HX := Lib.hid (HX.out.grown hg10 hp2)
    have HS := Lib.hid h10
    clear h10 hg10 hp1 hp2 k0 k1 k2 k3 k4
    have hJ := HJ.out
    go_wp2_with fail
    exact ⟨⟨j + 1, by omega, by go_num, Lib.hid (by rw [HSu.out]), Lib.hid (by rw [HSu.out]; exact HS.out), by rw [HSu.out]; exact HR, HX⟩, by simp [intOf]; omega⟩
theorem plan_own (e s : Nat) (p : Option Addr) (n c : Nat) (zs : List Int) (w : World) (he : e < 256) (hs : s < 4294967296) (hz : InZ w p n c zs) (hn9 : n ≤ 10000) :
    Calls Tryz.prog 55 #[confV e s, .slice p n c] w fun r w' => ∃ v, r = .returned (.tuple #[v, .int .i64 (planP e s zs).1]) ∧ NewRow32 w (planP e s zs).2 v w' := by
  by_cases hm : mayC e s = true
  · exact plan_may e s p n c zs he hs hm hn9 w hz
  · exact plan_not e s p n c zs he hs hm w
end Go.Proofs.YtjeammmfdniokaaGreat

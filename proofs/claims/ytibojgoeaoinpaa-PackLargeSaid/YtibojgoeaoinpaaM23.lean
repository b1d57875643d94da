/-
  RecNone; RecAll; FrAll; PkEmpty; PkNarrow; PkAdd.
-/
import Derived.Test.YtibojgoeaoinpaaM01
import Derived.Test.YtibojgoeaoinpaaM18
import Derived.Test.YtibojgoeaoinpaaM21
import Derived.Test.YtibojgoeaoinpaaM22
namespace Go.Proofs.Ytibojgoeaoinpaa

theorem readEnd_none {d : Bool} {s : Nat} {k v r : List Int} (h : (readEnd d s k v r).1 ≠ 0) : (readEnd d s k v r).2 = Rec.none := by
  unfold readEnd at h ⊢
  by_cases hr : r = []
  · rw [if_pos hr] at h; exact absurd rfl h
  · rw [if_neg hr]
theorem readKey_none {k : Int} {s : Nat} {xs : List Int} (h : (readKey k s xs).1 ≠ 0) : (readKey k s xs).2 = Rec.none := by
  unfold readKey at h ⊢
  by_cases h1 : (vtext xs 1 4096).e ≠ 0
  · rw [if_pos h1]
  · rw [if_neg h1] at h ⊢
    by_cases h2 : k = 3
    · rw [if_pos h2] at h ⊢
      exact readEnd_none h
    · rw [if_neg h2] at h ⊢
      by_cases h3 : (vtext (xs.drop (vtext xs 1 4096).n) 0 1048576).e ≠ 0
      · rw [if_pos h3]
      · rw [if_neg h3] at h ⊢
        exact readEnd_none h
theorem readR_none {xs : List Int} (h : (readR xs).1 ≠ 0) : (readR xs).2 = Rec.none := by
  cases xs with
  | nil => rfl
  | cons k xs =>
    change (readKind k xs).1 ≠ 0 at h
    change (readKind k xs).2 = Rec.none
    unfold readKind at h ⊢
    by_cases h1 : k ≠ 2 ∧ k ≠ 3
    · rw [if_pos h1]
    · rw [if_neg h1] at h ⊢
      by_cases h2 : (vget xs).e ≠ 0
      · rw [if_pos h2]
      · rw [if_neg h2] at h ⊢
        exact readKey_none h
end Go.Proofs.Ytibojgoeaoinpaa

namespace Go.Proofs.Ytibojgoeaoinpaa
open Go.RowKit

theorem recMakeFn : ∀ (fn : Fn) (first cap : Array Value) (w : World), (Instr.makeFunc fn first cap).run Try.prog w = .ok (.func fn first cap) w := fun _ _ _ _ => rfl

end Go.Proofs.Ytibojgoeaoinpaa

namespace Go.Proofs.Ytibojgoeaoinpaa
open Go.RowKit

set_option maxHeartbeats 4000000 in
set_option maxRecDepth 10000 in
theorem puthead_own (x s n : Nat) (w : World) (hx : x < 256) (hs : s < 4294967296) (hn : n < 4294967296) : Calls Try.prog 24 #[confV x s, .int .u32 (n : Int)] w fun e w' => ∃ v, e = .returned (.tuple #[v, .int .i64 (if mayHead x s n = true then 0 else 1)]) ∧ NewBytes w (putH x s n) v w' := by
  have HW := Lib.hid (Whole.new w 24 (confCells x s))
  have HK0 := Lib.hid ((Keeps.refl NoBlock w).alloc (.cells (confCells x s) 24))
  have HCk := Lib.hid (fun w => hcheck_own x s n w)
  unfold putH
  by_cases hm : mayHead x s n = true
  · rw [if_pos hm] at HCk ⊢
    rw [if_pos hm]
    have hbl := headB_length (e := x) (s := s) (n := n) (by omega) (by omega)
    have hbo := headB_octets (e := x) (s := s) (n := n) hx
    have HPs := Lib.hid (fun base g xs w h hb hx => put_any base g xs s (s : Int) rfl w h hb hx (by omega))
    have HPn := Lib.hid (fun base g xs w h hb hx => put_any base g xs n (n : Int) rfl w h hb hx (by omega))
    have hdef : headB x s n = ((([] ++ [(1 : Int)]) ++ [(2 : Int)]) ++ [(x : Int)]) ++ vnum s ++ vnum n := by simp [headB]
    rw [hdef] at hbl hbo ⊢
    have hls := vnum_ten (x := s) (by omega)
    have ws : IntKind.u64.wrap (s : Int) = (s : Int) := by rw [IntKind.wrap_u64]; omega
    have wn : IntKind.u64.wrap (n : Int) = (n : Int) := by rw [IntKind.wrap_u64]; omega
    obtain ⟨S, hS⟩ : ∃ S, S = vnum s := ⟨_, rfl⟩
    obtain ⟨V, hV⟩ : ∃ V, V = vnum n := ⟨_, rfl⟩
    rw [← hS] at HPs hbl hbo hls ⊢
    rw [← hV] at HPn hbl hbo ⊢
    have HS := Lib.hid (fun q d W L (hL : L = (((([] ++ [(1 : Int)]) ++ [(2 : Int)]) ++ [(x : Int)]) ++ S ++ V).length) (hd : L ≤ d) (hd' : d ≤ 9223372036854775807) (hq : q = none → L = 0 ∧ d = 0) (h8 : Bytes8 W q (((([] ++ [(1 : Int)]) ++ [(2 : Int)]) ++ [(x : Int)]) ++ S ++ V)) => seal_own q L d _ W ⟨hL, hd, hd', hq, hbo, h8⟩ (by omega))
    obtain ⟨G, hG⟩ : ∃ G, G = ((([] ++ [(1 : Int)]) ++ [(2 : Int)]) ++ [(x : Int)]) ++ S ++ V := ⟨_, rfl⟩
    rw [← hG] at HS hbl ⊢
    have HG := Lib.hid hG
    clear hm hdef hS hV hbo hG
    unfold confV at HCk ⊢
    go_enter Try.func24, Try.ntmps24
    go_wp2_with fail
    refine (HCk.out _).mono ?_
    rintro e w1 ⟨rfl, hk⟩
    have hN := HW.out.keep hk (fun h => h)
    have HK := Lib.hid (HK0.out.trans hk)
    have hsz : w.heap.size + 1 ≤ w1.heap.size := by have := hk.size; simpa using this
    have HSz := Lib.hid hsz
    have hwa : Keeps NoBlock w1 (w1.alloc (.cells #[.slice none 0 0] 67)) := (Keeps.refl NoBlock w1).alloc _
    obtain ⟨W, hW⟩ : ∃ W, W = w1.alloc (.cells #[.slice none 0 0] 67) := ⟨_, rfl⟩
    have HB : Hid (BufAt W w1.heap.size w1.heap.size []) := Lib.hid (by rw [hW]; exact bufNewB w1 w1.heap.size)
    have HR : Hid (Whole W w.heap.size 24 (confCells x s)) := Lib.hid (by rw [hW]; exact hN.alloc _)
    have HQ : Hid (Keeps (fun i => w1.heap.size ≤ i) w1 W) := Lib.hid (by rw [hW]; exact (Keeps.refl _ w1).alloc _)
    clear hk hN hsz hwa
    go_wp2_with fail
    rw [← hW]
    clear hW
    have s0 : W.drew.cell? ⟨w.heap.size, 0, none⟩ = some (.int .u8 (x : Int)) := HR.out.cell 0 rfl
    have sN : W.cell? ⟨w.heap.size, 0, none⟩ = some (.int .u8 (x : Int)) := HR.out.cell 0 rfl
    go_region_held3 (fun w' => w'.cell? ⟨w.heap.size, 0, none⟩ = some (.int .u8 (x : Int)))
      (first | exact s5 | exact s0 | exact sN)
      (first | (go_at_call 34; refine (bufByteK w1.heap.size w1.heap.size _ _ _ (by exact HB.out) (by have := HQ.out.size; first | exact this | omega) (by simp)).mono ?_; rintro e w5 ⟨rfl, hb, hk⟩; have hk' : Keeps (fun i => w1.heap.size ≤ i) W w5 := (by first | exact hk.onBuf (Nat.le_refl _) | exact (hk.onBuf (Nat.le_refl _)).ofDrew | exact (hk.onBuf (Nat.le_refl _)).ofDrewN); have HB := Lib.hid hb; have HQ := Lib.hid (HQ.out.trans hk'); have HR := Lib.hid (HR.out.keep hk' (by have := HSz.out; omega)); have s5 : w5.cell? ⟨w.heap.size, 0, none⟩ = some (.int .u8 (x : Int)) := HR.out.cell 0 rfl; clear hb hk hk'; obtain ⟨W, rfl⟩ : ∃ x, x = w5 := ⟨_, rfl⟩))
    have q1 : W.cell? ⟨w.heap.size, 1, none⟩ = some (.int .u32 (s : Int)) := HR.out.cell 1 rfl
    have HB3 : Hid (BufAt W w1.heap.size w1.heap.size ((([] ++ [(1 : Int)]) ++ [(2 : Int)]) ++ [(x : Int)])) := HB
    have HQ3 := HQ
    clear HB HQ HR s0 sN s5
    go_wp2_with fail
    refine (HPs.out _ _ _ _ HB3.out HQ3.out.size (by simp)).mono ?_
    rintro e w6 ⟨rfl, hb, hk⟩
    have HB6 := Lib.hid hb
    have HQ6 := Lib.hid (HQ3.out.trans (hk.onBuf (Nat.le_refl _)))
    clear hb hk HB3
    go_wp2_with fail
    refine (HPn.out _ _ _ _ HB6.out HQ6.out.size (by simp; omega)).mono ?_
    rintro e w7 ⟨rfl, hb, hk⟩
    have HB7 := Lib.hid hb
    have HQ7 := Lib.hid (HQ6.out.trans (hk.onBuf (Nat.le_refl _)))
    clear hb hk HB6
    rw [← HG.out] at HB7
    have hG0 : 0 < G.length := by rw [HG.out]; simp
    have HBy := Lib.hid (bufBytes w1.heap.size w1.heap.size G w7 HB7.out (by omega))
    obtain ⟨L, hL⟩ : ∃ L, L = G.length := ⟨_, rfl⟩
    rw [← hL] at HBy hG0
    have HL := Lib.hid hL
    clear hL hbl q1 HB7
    go_wp2_with fail
    refine HBy.out.mono ?_
    rintro e w8 ⟨v, rfl, q, d, rfl, hd, hd', hby, hq, hk⟩
    have HK8 := Lib.hid (HK.out.then (HQ7.out.trans (hk.wider (S' := fun i => w1.heap.size ≤ i) (fun _ _ h => h.elim))) (fun i hi h => by have := HSz.out; omega))
    have HB8 := Lib.hid hby
    have HQ8 : Hid (q = none → L = 0 ∧ d = 0) := Lib.hid (fun h0 => by
      obtain ⟨a, ha, _⟩ := HB8.out (by rw [← HL.out]; exact hG0)
      rw [h0] at ha
      simp at ha)
    have hd9 : d ≤ 9223372036854775807 := by first | omega | (unfold maxLen at hd'; omega) | exact hd'
    clear hby hq hk hd'
    go_wp2_with fail
    refine (HS.out q d _ L HL.out hd hd9 HQ8.out HB8.out).mono ?_
    rintro e w9 ⟨v2, rfl, q2, m2, d2, rfl, hm2, hmd2, hd2, hq2, hb2, hk2⟩
    have HN := Lib.hid (show NewBytes w (sealN G) (.slice q2 m2 d2) w9 from ⟨q2, m2, d2, rfl, hm2, hmd2, hd2, hq2, hb2, HK8.out.trans hk2⟩)
    clear hm2 hmd2 hd2 hq2 hb2 hk2
    go_wp2_with fail
    refine bodyPost_ret (results_tmp2 rfl _ _ _) rfl ?_
    exact ⟨_, rfl, HN.out⟩
  · rw [if_neg hm] at HCk ⊢
    rw [if_neg hm]
    clear hm
    unfold confV at HCk ⊢
    go_enter Try.func24, Try.ntmps24
    go_wp2_with fail
    refine (HCk.out _).mono ?_
    rintro e w1 ⟨rfl, hk⟩
    have HK := Lib.hid (HK0.out.trans hk)
    clear hk
    go_wp2_with fail
    refine bodyPost_ret (results_tmp2 rfl _ _ _) rfl ?_
    exact ⟨_, rfl, .ofNil _ _ HK.out⟩

end Go.Proofs.Ytibojgoeaoinpaa

namespace Go.Proofs.Ytibojgoeaoinpaa
open Go.RowKit

set_option maxHeartbeats 4000000 in
set_option maxRecDepth 10000 in
theorem empty_own (e s n : Nat) (w : World) (he : e < 256) (hs : s < 4294967296) (hn : n < 4294967296) :
    Calls Try.prog 8 #[confV e s, .int .u32 (n : Int)] w fun r w' => r = .returned (.tuple #[roomV (if mayHead e s n = true then emptyP e s n else Rm.none), .int .i64 (if mayHead e s n = true then 0 else 1)]) ∧ Keeps NoBlock w w' := by
  have HP := Lib.hid (fun w => puthead_own e s n w he hs hn)
  have HW := Lib.hid ((Whole.new w 24 (confCells e s)).alloc (.cells (roomCells Rm.none) 28))
  have HZ := Lib.hid (Whole.newAt (w.alloc (.cells (confCells e s) 24)) 28 (roomCells Rm.none) (w.heap.size + 1) (by simp))
  have HK := Lib.hid (((Keeps.refl NoBlock w).alloc (.cells (confCells e s) 24)).alloc (.cells (roomCells Rm.none) 28))
  obtain ⟨c0, c1⟩ := And.intro (HW.out.cell 0 rfl) (HW.out.cell 1 rfl)
  simp only [confCells, List.getElem_toArray, List.getElem_cons_zero, List.getElem_cons_succ] at c0 c1
  by_cases hm : mayHead e s n = true
  rotate_left
  · rw [if_neg hm, if_neg hm]
    unfold putH at HP
    simp only [if_neg hm] at HP
    clear hm he hs hn
    unfold confV at *
    unfold roomCells confCells Rm.none at HW HK HZ
    unfold roomCells Rm.none at c0 c1
    simp only at HW HK HP HZ c0 c1 ⊢
    go_enter Try.func8, Try.ntmps8
    go_wp2_with fail
    refine (HP.out _).mono ?_
    rintro r w1 ⟨v, rfl, q, m, d, rfl, hm, hmd, hd, hq, hb, hk⟩
    have HZ := Lib.hid (HZ.out.keep hk (fun h => h))
    have HK := Lib.hid (HK.out.trans hk)
    clear hk c0 c1 hm hmd hd hq hb
    obtain ⟨c0, c1, c2, c3, c4⟩ := room_at5 HZ.out
    obtain ⟨q0, q1, q2, q3, q4⟩ := room_free HZ.out
    obtain ⟨g0, g1, g2, g3, g4⟩ := room_at5 (Whole.set5 HZ.out (.int .u8 0) (.int .u32 0) (.int .u32 0) (.int .i64 0) (.int .i64 0))
    go_wp2_with fail
    exact bodyPost_ret (v := .tuple #[roomV Rm.none, .int .i64 1]) (by simp [results, Try.results8, go_sem, roomV, Rm.none, c0, c1, c2, c3, c4]) rfl ⟨rfl, HK.out.new5 (by omega) (.int .u8 0) (.int .u32 0) (.int .u32 0) (.int .i64 0) (.int .i64 0)⟩
  rw [if_pos hm, if_pos hm]
  unfold putH at HP
  simp only [if_pos hm] at HP
  have hlen : headLen e s n = (sealN (headB e s n)).length := rfl
  have hle := (headLen_le (e := e) (s := s) (n := n) (by omega) (by omega)).2
  have hU : emptyP e s n = ⟨e, s, n, headLen e s n, 0⟩ := rfl
  rw [hU]
  obtain ⟨L, hL⟩ : ∃ L, L = headLen e s n := ⟨_, rfl⟩
  rw [← hL] at hle hlen ⊢
  have HL := Lib.hid hlen
  clear hm he hs hn hL hlen hU
  unfold confV at *
  unfold roomV
  unfold roomCells confCells Rm.none at HW HK HZ
  unfold roomCells Rm.none at c0 c1
  simp only at HW HK HP HZ c0 c1 ⊢
  go_enter Try.func8, Try.ntmps8
  go_wp2_with fail
  refine (HP.out _).mono ?_
  rintro r w1 ⟨v, rfl, q, m, d, rfl, hm, hmd, hd, hq, hb, hk⟩
  have HW := Lib.hid (HW.out.keep hk (fun h => h))
  have HZ := Lib.hid (HZ.out.keep hk (fun h => h))
  have HK := Lib.hid (HK.out.trans hk)
  obtain rfl : m = L := hm.trans HL.out.symm
  clear hk c0 c1 hm hmd hd hq hb
  obtain ⟨c0, c1⟩ := And.intro (HW.out.cell 0 rfl) (HW.out.cell 1 rfl)
  simp only [List.getElem_toArray, List.getElem_cons_zero, List.getElem_cons_succ] at c0 c1
  obtain ⟨y0, y1, y2, y3, y4⟩ := room_at5 HZ.out
  obtain ⟨q0, q1, q2, q3, q4⟩ := room_free HZ.out
  obtain ⟨g0, g1, g2, g3, g4⟩ := room_at5 (Whole.set5 HZ.out (.int .u8 (e : Int)) (.int .u32 (s : Int)) (.int .u32 (n : Int)) (.int .i64 (m : Int)) (.int .i64 0))
  have HK3 := Lib.hid (HK.out.new5 (k := w.heap.size + 1) (by omega) (.int .u8 (e : Int)) (.int .u32 (s : Int)) (.int .u32 (n : Int)) (.int .i64 (m : Int)) (.int .i64 0))
  go_wp2_with fail
  exact bodyPost_ret (v := .tuple #[.agg #[.int .u8 (e : Int), .int .u32 (s : Int), .int .u32 (n : Int), .int .i64 (m : Int), .int .i64 0], .int .i64 0]) (by simp [results, Try.results8, go_sem, g0, g1, g2, g3, g4]) rfl ⟨rfl, HK3.out⟩
end Go.Proofs.Ytibojgoeaoinpaa

namespace Go.Proofs.Ytibojgoeaoinpaa
open Go.RowKit

def narrowP (e s : Nat) : Rm := if mayC e s = true then emptyP e s (s - 1) else Rm.none
theorem narrow_head {e s : Nat} (h : mayC e s = true) : mayHead e s (s - 1) = true := by
  obtain ⟨m1, m2, m3, m4⟩ := mayC_true.1 h
  exact mayHead_true.2 ⟨m1, m2, m3, m4, by omega⟩
theorem not_head {e s : Nat} (h : mayC e s ≠ true) (n : Nat) : mayHead e s n ≠ true := fun h2 => by
  obtain ⟨m1, m2, m3, m4, _⟩ := mayHead_true.1 h2
  exact h (mayC_true.2 ⟨m1, m2, m3, m4⟩)

set_option maxHeartbeats 4000000 in
set_option maxRecDepth 10000 in
theorem narrow_own (e s : Nat) (w : World) (he : e < 256) (hs : s < 4294967296) :
    Calls Try.prog 27 #[confV e s] w fun r w' => r = .returned (roomV (narrowP e s)) ∧ Keeps NoBlock w w' := by
  obtain ⟨n, hn⟩ : ∃ n, n = (if s = 0 then 4294967295 else s - 1) := ⟨_, rfl⟩
  have hn9 : n < 4294967296 := by rw [hn]; split <;> omega
  have hw : IntKind.u32.wrap ((s : Int) - 1) = (n : Int) := by rw [hn, IntKind.wrap_u32]; split <;> omega
  have HP := Lib.hid (fun w => empty_own e s n w he hs hn9)
  have hr : (if mayHead e s n = true then emptyP e s n else Rm.none) = narrowP e s := by
    unfold narrowP
    by_cases hm : mayC e s = true
    · have hs1 := (mayC_true.1 hm).2.2.1
      rw [if_neg (by omega)] at hn
      rw [if_pos hm, hn, if_pos (narrow_head hm)]
    · rw [if_neg hm, if_neg (not_head hm n)]
  rw [hr] at HP
  obtain ⟨R, hR⟩ : ∃ R, R = narrowP e s := ⟨_, rfl⟩
  obtain ⟨y, hy⟩ : ∃ y : Int, y = (if mayHead e s n = true then 0 else 1) := ⟨_, rfl⟩
  rw [← hR] at HP ⊢
  rw [← hy] at HP
  have HW := Lib.hid ((Whole.new w 24 (confCells e s)).alloc (.cells (roomCells Rm.none) 28))
  have HZ := Lib.hid (Whole.newAt (w.alloc (.cells (confCells e s) 24)) 28 (roomCells Rm.none) (w.heap.size + 1) (by simp))
  have HK := Lib.hid (((Keeps.refl NoBlock w).alloc (.cells (confCells e s) 24)).alloc (.cells (roomCells Rm.none) 28))
  obtain ⟨c0, c1⟩ := And.intro (HW.out.cell 0 rfl) (HW.out.cell 1 rfl)
  simp only [confCells, List.getElem_toArray, List.getElem_cons_zero, List.getElem_cons_succ] at c0 c1
  clear hn hr hR hy he hs
  obtain ⟨e2, s2, num, used, count⟩ := R
  unfold confV roomV at *
  unfold roomCells confCells Rm.none at HW HK HZ
  unfold roomCells Rm.none at c0 c1
  simp only at HW HK HP HZ c0 c1 ⊢
  go_enter Try.func27, Try.ntmps27
  go_wp2_with fail
  refine (HP.out _).mono ?_
  rintro r w1 ⟨rfl, hk⟩
  have HZ := Lib.hid (HZ.out.keep hk (fun h => h))
  have HK := Lib.hid (HK.out.trans hk)
  clear hk c0 c1
  have HX := Lib.hid (Whole.new w1 28 #[.int .u8 (e2 : Int), .int .u32 (s2 : Int), .int .u32 (num : Int), .int .i64 (used : Int), .int .i64 (count : Int)])
  have HZ := Lib.hid (HZ.out.alloc (.cells #[.int .u8 (e2 : Int), .int .u32 (s2 : Int), .int .u32 (num : Int), .int .i64 (used : Int), .int .i64 (count : Int)] 28))
  have HK := Lib.hid (HK.out.alloc (.cells #[.int .u8 (e2 : Int), .int .u32 (s2 : Int), .int .u32 (num : Int), .int .i64 (used : Int), .int .i64 (count : Int)] 28))
  obtain ⟨x0, x1, x2, x3, x4⟩ := room_at5 HX.out
  obtain ⟨y0, y1, y2, y3, y4⟩ := room_at5 HZ.out
  obtain ⟨q0, q1, q2, q3, q4⟩ := room_free HZ.out
  obtain ⟨g0, g1, g2, g3, g4⟩ := room_at5 (Whole.set5 HZ.out (.int .u8 (e2 : Int)) (.int .u32 (s2 : Int)) (.int .u32 (num : Int)) (.int .i64 (used : Int)) (.int .i64 (count : Int)))
  have HK3 := Lib.hid (HK.out.new5 (k := w.heap.size + 1) (by omega) (.int .u8 (e2 : Int)) (.int .u32 (s2 : Int)) (.int .u32 (num : Int)) (.int .i64 (used : Int)) (.int .i64 (count : Int)))
  go_wp2_with fail
  exact bodyPost_ret (v := .agg #[.int .u8 (e2 : Int), .int .u32 (s2 : Int), .int .u32 (num : Int), .int .i64 (used : Int), .int .i64 (count : Int)]) (by simp [results, Try.results27, go_sem, g0, g1, g2, g3, g4]) rfl ⟨rfl, HK3.out⟩

/-- Does a frame fit into the empty room of the greatest number, if there is one? -/
def fitsN (e s : Nat) (z : Int) : Bool := mayC e s && fitsP (emptyP e s (s - 1)) z
theorem fitsN_own (e s : Nat) (z : Int) (w : World) : Calls Try.prog 11 #[roomV (narrowP e s), .int .i64 z] w fun r w' => r = .returned (.bool (fitsN e s z)) ∧ Keeps NoBlock w w' := by
  unfold fitsN narrowP
  by_cases hm : mayC e s = true
  · rw [if_pos hm, hm, Bool.true_and]
    exact fits_own _ z w (real_empty (narrow_head hm))
  · rw [if_neg hm, show mayC e s = false by simpa using hm, Bool.false_and]
    exact fits_none z w

set_option maxHeartbeats 4000000 in
set_option maxRecDepth 10000 in
theorem large_own (e s : Nat) (z : Int) (w : World) (he : e < 256) (hs : s < 4294967296) :
    Calls Try.prog 20 #[confV e s, .int .i64 z] w fun r w' => r = .returned (.bool (largeP e s z)) ∧ Keeps NoBlock w w' := by
  have HN := Lib.hid (fun w => narrow_own e s w he hs)
  have HF := Lib.hid (fun w => fitsN_own e s z w)
  have hl : largeP e s z = !(fitsN e s z) := by
    unfold largeP fitsN
    cases mayC e s <;> cases fitsP (emptyP e s (s - 1)) z <;> rfl
  rw [hl]
  obtain ⟨b, hb⟩ : ∃ b, b = fitsN e s z := ⟨_, rfl⟩
  obtain ⟨R, hR⟩ : ∃ R, R = narrowP e s := ⟨_, rfl⟩
  rw [← hR] at HN HF
  rw [← hb] at HF ⊢
  have HW := Lib.hid (Whole.new w 24 (confCells e s))
  have HK := Lib.hid ((Keeps.refl NoBlock w).alloc (.cells (confCells e s) 24))
  obtain ⟨c0, c1⟩ := And.intro (HW.out.cell 0 rfl) (HW.out.cell 1 rfl)
  simp only [confCells, List.getElem_toArray, List.getElem_cons_zero, List.getElem_cons_succ] at c0 c1
  clear hl hb hR he hs
  unfold confV roomV at *
  unfold confCells at HW HK
  go_enter Try.func20, Try.ntmps20
  go_wp2_with fail
  refine (HN.out _).mono ?_
  rintro r w1 ⟨rfl, hk⟩
  have HK := Lib.hid (HK.out.trans hk)
  clear hk c0 c1
  go_wp2_with fail
  refine (HF.out _).mono ?_
  rintro r w2 ⟨rfl, hk⟩
  have HK := Lib.hid (HK.out.trans hk)
  clear hk
  go_wp2_with fail
  go_ret
  exact ⟨rfl, HK.out⟩
end Go.Proofs.Ytibojgoeaoinpaa

namespace Go.Proofs.Ytibojgoeaoinpaa
open Go.RowKit

/-- The room in which a frame lies that isn't too large. -/
def addP (r : Rm) (z : Int) : Int × Rm := if fitsP r z = true then (0, takeP r z) else if r.s ≤ r.num + 1 then (7, Rm.none) else (0, takeP (emptyP r.e r.s (r.num + 1)) z)

set_option maxHeartbeats 4000000 in
set_option maxRecDepth 10000 in
theorem add_own (r : Rm) (z : Int) (w : World) (hr : r.Real) (hc9 : r.count < 10000) (hf : fitsP (emptyP r.e r.s (r.s - 1)) z = true) :
    Calls Try.prog 28 #[roomV r, .int .i64 z] w fun x w' => x = .returned (.tuple #[roomV (addP r z).2, .int .i64 (addP r z).1]) ∧ Keeps NoBlock w w' := by
  have HF := Lib.hid (fun w => fits_own r z w hr)
  have HT := Lib.hid (fun w => take_own r z w hr hc9)
  have HW := Lib.hid ((Whole.new w 28 (roomCells r)).alloc (.cells (roomCells Rm.none) 28))
  have HZ := Lib.hid (Whole.newAt (w.alloc (.cells (roomCells r) 28)) 28 (roomCells Rm.none) (w.heap.size + 1) (by simp))
  have HK := Lib.hid (((Keeps.refl NoBlock w).alloc (.cells (roomCells r) 28)).alloc (.cells (roomCells Rm.none) 28))
  obtain ⟨m1, m2, m3, m4, m5⟩ := mayHead_true.1 hr.may
  unfold addP
  by_cases hfr : fitsP r z = true
  · rw [if_pos hfr]
    simp only [if_pos hfr] at HT
    rw [hfr] at HF
    obtain ⟨R, hR⟩ : ∃ R, R = takeP r z := ⟨_, rfl⟩
    rw [← hR] at HT ⊢
    clear hfr hr hc9 hf hR
    obtain ⟨e, s, num, used, count⟩ := r
    obtain ⟨e2, s2, num2, used2, count2⟩ := R
    unfold roomV at *
    unfold roomCells Rm.none at HW HK HZ
    simp only at HW HK HF HZ HT ⊢
    obtain ⟨c0, c1, c2, c3, c4⟩ := room_at5 HW.out
    go_enter Try.func28, Try.ntmps28
    go_wp2_with fail
    refine (HF.out _).mono ?_
    rintro x w1 ⟨rfl, hk⟩
    have HW := Lib.hid (HW.out.keep hk (fun h => h))
    have HZ := Lib.hid (HZ.out.keep hk (fun h => h))
    have HK := Lib.hid (HK.out.trans hk)
    clear hk c0 c1 c2 c3 c4
    obtain ⟨c0, c1, c2, c3, c4⟩ := room_at5 HW.out
    go_wp2_with fail
    refine (HT.out _).mono ?_
    rintro x w2 ⟨rfl, hk⟩
    have HZ := Lib.hid (HZ.out.keep hk (fun h => h))
    have HK := Lib.hid (HK.out.trans hk)
    clear hk c0 c1 c2 c3 c4
    obtain ⟨y0, y1, y2, y3, y4⟩ := room_at5 HZ.out
    obtain ⟨q0, q1, q2, q3, q4⟩ := room_free HZ.out
    obtain ⟨g0, g1, g2, g3, g4⟩ := room_at5 (Whole.set5 HZ.out (.int .u8 (e2 : Int)) (.int .u32 (s2 : Int)) (.int .u32 (num2 : Int)) (.int .i64 (used2 : Int)) (.int .i64 (count2 : Int)))
    have HK3 := Lib.hid (HK.out.new5 (k := w.heap.size + 1) (by omega) (.int .u8 (e2 : Int)) (.int .u32 (s2 : Int)) (.int .u32 (num2 : Int)) (.int .i64 (used2 : Int)) (.int .i64 (count2 : Int)))
    go_wp2_with fail
    exact bodyPost_ret (v := .tuple #[.agg #[.int .u8 (e2 : Int), .int .u32 (s2 : Int), .int .u32 (num2 : Int), .int .i64 (used2 : Int), .int .i64 (count2 : Int)], .int .i64 0]) (by simp [results, Try.results28, go_sem, g0, g1, g2, g3, g4]) rfl ⟨rfl, HK3.out⟩
  rw [if_neg hfr]
  have hfr0 : fitsP r z = false := by simpa using hfr
  rw [hfr0] at HF
  have hws : IntKind.u32.wrap ((r.s : Int) - 1) = ((r.s - 1 : Nat) : Int) := by rw [IntKind.wrap_u32]; omega
  obtain ⟨S1, hS1⟩ : ∃ S1, S1 = r.s - 1 := ⟨_, rfl⟩
  rw [← hS1] at hws
  by_cases hlast : r.s ≤ r.num + 1
  · rw [if_pos hlast]
    have hq : S1 = r.num := by omega
    clear HT hfr hfr0 hr hc9 hf
    obtain ⟨e, s, num, used, count⟩ := r
    simp only at hws hq
    obtain rfl : S1 = num := hq
    clear hS1 hlast m1 m2 m3 m4 m5
    unfold roomV at *
    unfold roomCells Rm.none at HW HK HZ
    unfold Rm.none
    simp only at HW HK HF HZ ⊢
    obtain ⟨c0, c1, c2, c3, c4⟩ := room_at5 HW.out
    go_enter Try.func28, Try.ntmps28
    go_wp2_with fail
    refine (HF.out _).mono ?_
    rintro x w1 ⟨rfl, hk⟩
    have HW := Lib.hid (HW.out.keep hk (fun h => h))
    have HZ := Lib.hid (HZ.out.keep hk (fun h => h))
    have HK := Lib.hid (HK.out.trans hk)
    clear hk c0 c1 c2 c3 c4
    obtain ⟨c0, c1, c2, c3, c4⟩ := room_at5 HW.out
    obtain ⟨y0, y1, y2, y3, y4⟩ := room_at5 HZ.out
    obtain ⟨q0, q1, q2, q3, q4⟩ := room_free HZ.out
    obtain ⟨g0, g1, g2, g3, g4⟩ := room_at5 (Whole.set5 HZ.out (.int .u8 0) (.int .u32 0) (.int .u32 0) (.int .i64 0) (.int .i64 0))
    have HK3 := Lib.hid (HK.out.new5 (k := w.heap.size + 1) (by omega) (.int .u8 0) (.int .u32 0) (.int .u32 0) (.int .i64 0) (.int .i64 0))
    go_wp2_with fail
    exact bodyPost_ret (v := .tuple #[.agg #[.int .u8 0, .int .u32 0, .int .u32 0, .int .i64 0, .int .i64 0], .int .i64 7]) (by simp [results, Try.results28, go_sem, g0, g1, g2, g3, g4]) rfl ⟨rfl, HK3.out⟩
  rw [if_neg hlast]
  have hne : ¬ r.num = S1 := by omega
  have hne2 : ¬ (r.num : Int) = (S1 : Int) := by omega
  have hmay : mayHead r.e r.s (r.num + 1) = true := mayHead_true.2 ⟨m1, m2, m3, m4, by omega⟩
  have hfit : fitsP (emptyP r.e r.s (r.num + 1)) z = true := fits_empty (by omega) (by omega) (by omega) hf
  have HE := Lib.hid (fun w => empty_own r.e r.s (r.num + 1) w (by omega) (by omega) (by omega))
  simp only [if_pos hmay] at HE
  have HT := Lib.hid (fun w => take_own (emptyP r.e r.s (r.num + 1)) z w (real_empty hmay) (by show 0 < 10000; omega))
  simp only [if_pos hfit] at HT
  have hw1 : IntKind.u32.wrap ((r.num : Int) + 1) = (r.num : Int) + 1 := by rw [IntKind.wrap_u32]; omega
  rw [show ((r.num + 1 : Nat) : Int) = (r.num : Int) + 1 by omega] at HE
  obtain ⟨R1, hR1⟩ : ∃ R, R = emptyP r.e r.s (r.num + 1) := ⟨_, rfl⟩
  rw [← hR1] at HE HT ⊢
  obtain ⟨R, hR⟩ : ∃ R, R = takeP R1 z := ⟨_, rfl⟩
  rw [← hR] at HT ⊢
  clear hfr hfr0 hr hc9 hf hmay hfit hR1 hR hlast hS1 m1 m2 m3 m4 m5
  obtain ⟨e, s, num, used, count⟩ := r
  obtain ⟨e1, s1, num1, used1, count1⟩ := R1
  obtain ⟨e2, s2, num2, used2, count2⟩ := R
  unfold roomV confV at *
  unfold roomCells Rm.none at HW HK HZ
  simp only at HW HK HF HZ HT HE hws hne hne2 hw1 ⊢
  obtain ⟨c0, c1, c2, c3, c4⟩ := room_at5 HW.out
  go_enter Try.func28, Try.ntmps28
  go_wp2_with fail
  refine (HF.out _).mono ?_
  rintro x w1 ⟨rfl, hk⟩
  have HW := Lib.hid (HW.out.keep hk (fun h => h))
  have HZ := Lib.hid (HZ.out.keep hk (fun h => h))
  have HK := Lib.hid (HK.out.trans hk)
  clear hk c0 c1 c2 c3 c4
  obtain ⟨c0, c1, c2, c3, c4⟩ := room_at5 HW.out
  go_wp2_with fail
  refine (HE.out _).mono ?_
  rintro x w2 ⟨rfl, hk⟩
  have HX := Lib.hid (Whole.new w2 28 #[.int .u8 (e1 : Int), .int .u32 (s1 : Int), .int .u32 (num1 : Int), .int .i64 (used1 : Int), .int .i64 (count1 : Int)])
  have HZ := Lib.hid ((HZ.out.keep hk (fun h => h)).alloc (.cells #[.int .u8 (e1 : Int), .int .u32 (s1 : Int), .int .u32 (num1 : Int), .int .i64 (used1 : Int), .int .i64 (count1 : Int)] 28))
  have HK := Lib.hid ((HK.out.trans hk).alloc (.cells #[.int .u8 (e1 : Int), .int .u32 (s1 : Int), .int .u32 (num1 : Int), .int .i64 (used1 : Int), .int .i64 (count1 : Int)] 28))
  clear hk c0 c1 c2 c3 c4 hne hne2
  obtain ⟨x0, x1, x2, x3, x4⟩ := room_at5 HX.out
  go_wp2_with fail
  refine (HT.out _).mono ?_
  rintro x w3 ⟨rfl, hk⟩
  have HZ := Lib.hid (HZ.out.keep hk (fun h => h))
  have HK := Lib.hid (HK.out.trans hk)
  clear hk x0 x1 x2 x3 x4
  obtain ⟨y0, y1, y2, y3, y4⟩ := room_at5 HZ.out
  obtain ⟨q0, q1, q2, q3, q4⟩ := room_free HZ.out
  obtain ⟨g0, g1, g2, g3, g4⟩ := room_at5 (Whole.set5 HZ.out (.int .u8 (e2 : Int)) (.int .u32 (s2 : Int)) (.int .u32 (num2 : Int)) (.int .i64 (used2 : Int)) (.int .i64 (count2 : Int)))
  have HK3 := Lib.hid (HK.out.new5 (k := w.heap.size + 1) (by omega) (.int .u8 (e2 : Int)) (.int .u32 (s2 : Int)) (.int .u32 (num2 : Int)) (.int .i64 (used2 : Int)) (.int .i64 (count2 : Int)))
  go_wp2_with fail
  exact bodyPost_ret (v := .tuple #[.agg #[.int .u8 (e2 : Int), .int .u32 (s2 : Int), .int .u32 (num2 : Int), .int .i64 (used2 : Int), .int .i64 (count2 : Int)], .int .i64 0]) (by simp [results, Try.results28, go_sem, g0, g1, g2, g3, g4]) rfl ⟨rfl, HK3.out⟩
end Go.Proofs.Ytibojgoeaoinpaa

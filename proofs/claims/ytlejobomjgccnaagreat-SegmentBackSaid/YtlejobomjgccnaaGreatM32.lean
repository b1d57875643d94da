/-
  RecAll; FrAll; PkEmpty; SgNew; PkNarrow; SgAdd.
-/
import Derived.Deep.AppendLies
import Derived.Test.YtlejobomjgccnaaGreatM28
import Derived.Test.YtlejobomjgccnaaGreatM30
import Derived.Test.YtlejobomjgccnaaGreatM31
namespace Go.Proofs.YtlejobomjgccnaaGreat
open Go.RowKit

theorem recMakeFn : ∀ (fn : Fn) (first cap : Array Value) (w : World), (Instr.makeFunc fn first cap).run Tryz.prog w = .ok (.func fn first cap) w := fun _ _ _ _ => rfl

/-- Run, with the reading of a record into block D. -/
theorem run_readIn7 (D : Nat) (p : Option Addr) (xs : List Int) (N c : Nat) (hx : N = xs.length) (w0 : World) (hD : Whole w0 D 39 (recCells Rec.none)) (hb : Bytes8 w0 p xs) (ho : Octets xs) (hfar : 0 < xs.length → ∀ q, p = some q → q.block ≠ D) (hc : N ≤ c) (hN : N ≤ 140737488355328) (hc' : c ≤ 9223372036854775807) :
    Calls Tryz.prog 129 #[.slice p N c, .func (.func 130) #[] #[.pointer (some ⟨D, 0, none⟩)]] w0 fun e w' => (∃ a : Nat, e = .returned (.tuple #[.int .i64 a, .int .i64 (readR xs).1])) ∧ Left7 w0 D (readR xs) w' := by
  obtain ⟨a, ha⟩ := readIn7 w0 D p xs N c hx ho hc hN hc'
  refine (run_any _ _ p N c a (readR xs).1 _ w0 enter_readIn7 (fun W hB hK _ => ha W ⟨hB, hD.keep hK (fun h => h), hb.keep hK (fun _ _ h => h), hK.wider (fun _ _ h => h.elim), hD.lt, fun h0 q hq => ?_⟩)).mono ?_
  · refine ⟨?_, hfar h0 q hq⟩
    obtain ⟨a', ha', hcell⟩ := hb h0
    obtain rfl := Option.some.inj (hq.symm.trans ha')
    have := ltOfCell (hcell 0 h0)
    rwa [addBlock] at this
  · rintro e w' ⟨rfl, w2, ⟨hR1, hR2⟩, hT⟩
    refine ⟨⟨a, rfl⟩, hR1.then hT.2.2.2.2 (fun i hi h => by unfold Just; omega), fun h0 => (hR2 h0).keep hT.2.2.2.2 (by have := hD.lt; omega)⟩

set_option maxHeartbeats 1600000 in
set_option maxRecDepth 10000 in
theorem read_own (p : Option Addr) (N c : Nat) (xs : List Int) (w : World) (hx : N = xs.length) (hc : N ≤ c) (hc' : c ≤ 9223372036854775807) (hN : N ≤ 140737488355328) (ho : Octets xs) (hb : Bytes8 w p xs) :
    Calls Tryz.prog 103 #[.slice p N c] w fun e w' => e = .returned (.tuple #[recV (readR xs).2, .int .i64 (readR xs).1]) ∧ Keeps NoBlock w w' := by
  have hmf := recMakeFn
  have hlt : 0 < xs.length → ∀ q, p = some q → q.block < w.heap.size := fun h0 q hq => by
    obtain ⟨a, ha, hcell⟩ := hb h0
    obtain rfl := Option.some.inj (hq.symm.trans ha)
    have := ltOfCell (hcell 0 h0)
    rwa [addBlock] at this
  have hk0 : Keeps NoBlock w ((w.alloc (.cells (recCells Rec.none) 39)).alloc (.cells (recCells Rec.none) 39)) := ((Keeps.refl NoBlock w).alloc _).alloc _
  have hfirst : Whole ((w.alloc (.cells (recCells Rec.none) 39)).alloc (.cells (recCells Rec.none) 39)) w.heap.size 39 (recCells Rec.none) := (Whole.new w _ _).alloc _
  have hrun := run_readIn7 (w.heap.size + 1) p xs N c hx _ (Whole.newAt (w.alloc (.cells (recCells Rec.none) 39)) 39 (recCells Rec.none) (w.heap.size + 1) (by simp)) (hb.keep hk0 (fun _ _ h => h)) ho (fun h0 q hq => by have := hlt h0 q hq; omega) hc hN hc'
  have hbad : (readR xs).1 ≠ 0 → (readR xs).2 = Rec.none := fun h => readR_none h
  obtain ⟨t, ht⟩ : ∃ t, t = readR xs := ⟨_, rfl⟩
  rw [← ht] at hrun hbad ⊢
  have HRn := Lib.hid hrun; have HF := Lib.hid hfirst; have HK0 := Lib.hid hk0; have HBad := Lib.hid hbad
  clear hrun hfirst hk0 hbad ht hb ho hx hc hc' hN hlt
  obtain ⟨y, r⟩ := t
  simp only at HRn HBad ⊢
  by_cases he : y = 0
  · subst he
    go_enter Tryz.func103, Tryz.ntmps103
    go_wp2_with fail
    refine HRn.out.mono ?_
    rintro e w1 ⟨⟨a, rfl⟩, hk, hrec⟩
    have hF := HF.out.keep hk (by unfold Just; omega)
    have HKa := Lib.hid (HK0.out.then hk (fun i hi h => by unfold Just at h; omega))
    obtain ⟨c0, c1, c2, c3⟩ := RecAt.ofWhole (hrec rfl)
    obtain ⟨e0, e1, e2, e3⟩ := RecAt.ofWhole hF
    have f0 := hF.free 0
    have f1 := hF.free 1
    have f2 := hF.free 2
    have f3 := hF.free 3
    have HF2 := Lib.hid hF
    clear hF hrec hk
    obtain ⟨del, seq, key, val⟩ := r
    simp only at c0 c1 c2 c3
    go_wp2_with fail
    obtain ⟨g0, g1, g2, g3⟩ := RecAt.ofWhole (r := ⟨del, seq, key, val⟩) ((((HF2.out.set 0 (.bool del)).set 1 (.int .u64 (seq : Int))).set 2 (.string (strOfNums key))).set 3 (.string (strOfNums val)))
    simp only at g0 g1 g2 g3
    exact bodyPost_ret (v := .tuple #[recV ⟨del, seq, key, val⟩, .int .i64 0]) (by simp [results, Tryz.results103, go_sem, recV, g0, g1, g2, g3]) rfl ⟨rfl, (((HKa.out.setNew (Nat.le_refl _) 0 _).setNew (Nat.le_refl _) 1 _).setNew (Nat.le_refl _) 2 _).setNew (Nat.le_refl _) 3 _⟩
  · rw [HBad.out he]
    go_enter Tryz.func103, Tryz.ntmps103
    go_wp2_with fail
    refine HRn.out.mono ?_
    rintro e w1 ⟨⟨a, rfl⟩, hk, _⟩
    have hF := HF.out.keep hk (by unfold Just; omega)
    have HKa := Lib.hid (HK0.out.then hk (fun i hi h => by unfold Just at h; omega))
    obtain ⟨e0, e1, e2, e3⟩ := RecAt.ofWhole hF
    have f0 := hF.free 0
    have f1 := hF.free 1
    have f2 := hF.free 2
    have f3 := hF.free 3
    have HF2 := Lib.hid hF
    clear hF hk
    go_wp2_with fail
    obtain ⟨g0, g1, g2, g3⟩ := RecAt.ofWhole (r := Rec.none) ((((HF2.out.set 0 (.bool false)).set 1 (.int .u64 0)).set 2 (.string ⟨#[]⟩)).set 3 (.string ⟨#[]⟩))
    exact bodyPost_ret (v := .tuple #[recV Rec.none, .int .i64 y]) (by simp [results, Tryz.results103, go_sem, recV, g0, g1, g2, g3]) rfl ⟨rfl, (((HKa.out.setNew (Nat.le_refl _) 0 _).setNew (Nat.le_refl _) 1 _).setNew (Nat.le_refl _) 2 _).setNew (Nat.le_refl _) 3 _⟩

end Go.Proofs.YtlejobomjgccnaaGreat

namespace Go.Proofs.YtlejobomjgccnaaGreat
open Go.RowKit

set_option maxHeartbeats 2000000 in
set_option maxRecDepth 10000 in
theorem putrec_own (r : Rec) (w : World) (hr : r.Little) : Calls Tryz.prog 29 #[recV r] w fun e w' => ∃ v, e = .returned (.tuple #[v, .int .i64 (checkR r)]) ∧ NewBytes w (putR r) v w' := by
  have hf := hr.fine
  have h1 := hr.key
  have h2 := hr.val
  have HB := Lib.hid (fun w => body_own r w ⟨hf, by omega, by omega⟩)
  by_cases hc : checkR r = 0
  · have hbe : bodyE r = bodyR r := by unfold bodyE; rw [if_pos hc]
    have hpr : putR r = sealN (bodyR r) := by unfold putR; rw [if_pos hc]
    rw [hbe, hc] at HB
    rw [hpr, hc]
    have hbl := bodyR_length hf (by omega) (by omega)
    have hbo := bodyR_octets hf
    obtain ⟨B, hB⟩ : ∃ B, B = bodyR r := ⟨_, rfl⟩
    rw [← hB] at HB hbl hbo ⊢
    obtain ⟨L, hL⟩ : ∃ L, L = B.length := ⟨_, rfl⟩
    have HS := Lib.hid (fun q d W (hd : L ≤ d) (hd' : d ≤ 9223372036854775807) (hq : q = none → L = 0 ∧ d = 0) (h8 : Bytes8 W q B) => seal_own q L d B W ⟨hL, hd, hd', hq, hbo, h8⟩ (by omega))
    have HL := Lib.hid hL
    clear hbe hpr hc hr hf h1 h2 hB hL hbl hbo
    obtain ⟨del, seq, key, val⟩ := r
    unfold recV at HB ⊢
    simp only at HB ⊢
    go_enter Tryz.func29, Tryz.ntmps29
    go_wp2_with fail
    refine (HB.out _).mono ?_
    rintro e w1 ⟨v, rfl, q, m, d, rfl, hm, hmd, hd, hq, hb, hk⟩
    have hmL : m = L := by rw [hm, HL.out]
    subst hmL
    have HK := Lib.hid (((Keeps.refl NoBlock w).alloc _).trans hk)
    have HQ := Lib.hid hq
    have HBb := Lib.hid hb
    clear hk hm hq hb HB
    go_wp2_with fail
    refine (HS.out q d _ hmd hd HQ.out HBb.out).mono ?_
    rintro e w2 ⟨v2, rfl, q2, m2, d2, rfl, hm2, hmd2, hd2, hq2, hb2, hk2⟩
    have HN := Lib.hid (show NewBytes w (sealN B) (.slice q2 m2 d2) w2 from ⟨q2, m2, d2, rfl, hm2, hmd2, hd2, hq2, hb2, HK.out.trans hk2⟩)
    clear hm2 hmd2 hd2 hq2 hb2 hk2
    go_wp2_with fail
    refine bodyPost_ret (results_tmp2 rfl _ _ _) rfl ?_
    exact ⟨_, rfl, HN.out⟩
  · have hpr : putR r = [] := by unfold putR; rw [if_neg hc]
    rw [hpr]
    obtain ⟨z, hz⟩ : ∃ z, z = checkR r := ⟨_, rfl⟩
    rw [← hz] at HB hc ⊢
    have hne : (z != 0) = true := by rw [bne_iff_ne]; exact hc
    clear hpr hc hr hf h1 h2 hz
    obtain ⟨del, seq, key, val⟩ := r
    unfold recV at HB ⊢
    simp only at HB ⊢
    go_enter Tryz.func29, Tryz.ntmps29
    go_wp2_with fail
    refine (HB.out _).mono ?_
    rintro e w1 ⟨v, rfl, q, m, d, rfl, hm, hmd, hd, hq, hb, hk⟩
    have HK := Lib.hid (((Keeps.refl NoBlock w).alloc _).trans hk)
    clear hk hm hmd hd hq hb HB
    go_wp2_with fail
    refine bodyPost_ret (results_tmp2 rfl _ _ _) rfl ?_
    exact ⟨_, rfl, .ofNil _ _ HK.out⟩

set_option maxHeartbeats 2000000 in
set_option maxRecDepth 10000 in
theorem getrec_own (p : Option Addr) (N c : Nat) (ys : List Int) (w : World) (h : In8 w p N c ys) (hN : N ≤ 500000) :
    Calls Tryz.prog 76 #[.slice p N c] w fun e w' => e = .returned (.tuple #[recV (getR ys).2, .int .i64 (getR ys).1]) ∧ Keeps NoBlock w w' := by
  have HO := Lib.hid (fun W (hb : Bytes8 W p ys) => open_own p N c ys W ⟨h.len, h.cap, h.room, h.bare, h.oct, hb⟩ (by omega))
  have HAt := Lib.hid (h.at_.keep ((Keeps.refl NoBlock w).alloc (.cells (recCells Rec.none) 39)) (fun _ _ h => h))
  obtain ⟨hb1, hb2⟩ := open_bound h.oct
  have hl := h.len
  unfold getR
  obtain ⟨y, hy⟩ : ∃ y, y = (openN ys).1 := ⟨_, rfl⟩
  obtain ⟨T, hT⟩ : ∃ T, T = (openN ys).2 := ⟨_, rfl⟩
  rw [← hy] at HO ⊢
  rw [← hT] at HO hb1 hb2 ⊢
  have HW := Lib.hid (Whole.new w 39 (recCells Rec.none))
  have HK0 := Lib.hid ((Keeps.refl NoBlock w).alloc (.cells (recCells Rec.none) 39))
  by_cases h0 : y = 0
  · subst h0
    rw [if_neg (by simp)]
    obtain ⟨L, hL⟩ : ∃ L, L = T.length := ⟨_, rfl⟩
    have HR := Lib.hid (fun q d W (hd : L ≤ d) (hd' : d ≤ 9223372036854775807) (h8 : Bytes8 W q T) => read_own q L d T W hL hd hd' (by omega) hb1 h8)
    obtain ⟨z, hz⟩ : ∃ z, z = readR T := ⟨_, rfl⟩
    rw [← hz] at HR ⊢
    have HL := Lib.hid hL
    obtain ⟨y2, r2⟩ := z
    obtain ⟨del, seq, key, val⟩ := r2
    unfold recV at HR ⊢
    simp only at HR ⊢
    clear hz hb1 hb2 hl hy hT hL h
    go_enter Tryz.func76, Tryz.ntmps76
    go_wp2_with fail
    refine (HO.out _ HAt.out).mono ?_
    rintro e w1 ⟨v, rfl, q, m, d, rfl, hm, hmd, hd, hq, hb, hk⟩
    have hmL : m = L := by rw [hm, HL.out]
    subst hmL
    have HN := Lib.hid (HW.out.keep hk (fun h => h))
    have HK := Lib.hid (HK0.out.trans hk)
    have HBb := Lib.hid hb
    clear hk hm hq hb HO
    go_wp2_with fail
    refine (HR.out q d _ hmd hd HBb.out).mono ?_
    rintro e w2 ⟨rfl, hk⟩
    have hN2 := HN.out.keep hk (fun h => h)
    have HK := Lib.hid (HK.out.trans hk)
    obtain ⟨c0, c1, c2, c3⟩ := RecAt.ofWhole hN2
    have f0 := hN2.free 0
    have f1 := hN2.free 1
    have f2 := hN2.free 2
    have f3 := hN2.free 3
    have HF2 := Lib.hid hN2
    clear hk hN2
    go_wp2_with fail
    obtain ⟨g0, g1, g2, g3⟩ := RecAt.ofWhole (r := ⟨del, seq, key, val⟩) ((((HF2.out.set 0 (.bool del)).set 1 (.int .u64 (seq : Int))).set 2 (.string (strOfNums key))).set 3 (.string (strOfNums val)))
    simp only at g0 g1 g2 g3
    exact bodyPost_ret (v := .tuple #[recV ⟨del, seq, key, val⟩, .int .i64 y2]) (by simp [results, Tryz.results76, go_sem, recV, g0, g1, g2, g3]) rfl ⟨rfl, (((HK.out.setNew (Nat.le_refl _) 0 _).setNew (Nat.le_refl _) 1 _).setNew (Nat.le_refl _) 2 _).setNew (Nat.le_refl _) 3 _⟩
  · rw [if_pos h0]
    have hne : (y != 0) = true := by rw [bne_iff_ne]; exact h0
    clear hb1 hb2 hl h0 hy hT h
    go_enter Tryz.func76, Tryz.ntmps76
    go_wp2_with fail
    refine (HO.out _ HAt.out).mono ?_
    rintro e w1 ⟨v, rfl, q, m, d, rfl, hm, hmd, hd, hq, hb, hk⟩
    have hN2 := HW.out.keep hk (fun h => h)
    have HK := Lib.hid (HK0.out.trans hk)
    obtain ⟨c0, c1, c2, c3⟩ := RecAt.ofWhole hN2
    have f0 := hN2.free 0
    have f1 := hN2.free 1
    have f2 := hN2.free 2
    have f3 := hN2.free 3
    have HF2 := Lib.hid hN2
    clear hk hN2 hm hmd hd hq hb HO
    go_wp2_with fail
    obtain ⟨g0, g1, g2, g3⟩ := RecAt.ofWhole (r := Rec.none) ((((HF2.out.set 0 (.bool false)).set 1 (.int .u64 0)).set 2 (.string ⟨#[]⟩)).set 3 (.string ⟨#[]⟩))
    exact bodyPost_ret (v := .tuple #[recV Rec.none, .int .i64 y]) (by simp [results, Tryz.results76, go_sem, recV, g0, g1, g2, g3]) rfl ⟨rfl, (((HK.out.setNew (Nat.le_refl _) 0 _).setNew (Nat.le_refl _) 1 _).setNew (Nat.le_refl _) 2 _).setNew (Nat.le_refl _) 3 _⟩

set_option maxHeartbeats 4000000 in
set_option maxRecDepth 10000 in
theorem puthead_both (x s n : Nat) (w : World) (hx : x < 256) (hs : s < 4294967296) (hn : n < 4294967296) : Calls Tryz.prog 26 #[confV x s, .int .u32 (n : Int)] w fun e w' => ∃ v, e = .returned (.tuple #[v, .int .i64 (if mayHead x s n = true then 0 else 1)]) ∧ NewBytes w (putH x s n) v w' ∧ NewRow8 w (putH x s n) v w' := by
  have HW := Lib.hid (Whole.new w 27 (confCells x s))
  have HK0 := Lib.hid ((Keeps.refl NoBlock w).alloc (.cells (confCells x s) 27))
  have HCk := Lib.hid (fun w => hcheck_own x s n w)
  unfold putH
  by_cases hm : mayHead x s n = true
  · rw [if_pos hm] at HCk ⊢
    rw [if_pos hm]
    have hbl := headB_length (e := x) (s := s) (n := n) (by omega) (by omega)
    have hbo := headB_octets (e := x) (s := s) (n := n) hx
    have HPs := Lib.hid (fun base g xs w h hb hx => put_any base g xs s (s : Int) rfl w h hb hx (by omega))
    have HPn := Lib.hid (fun base g xs w h hb hx => put_any base g xs n (n : Int) rfl w h hb hx (by omega))
    have hdef : headB x s n = ((([] ++ [(1 : Int)]) ++ [(2 : Int)]) ++ [(x : Int)]) ++ vnum s ++ vnum n := by simp [headB]
    rw [hdef] at hbl hbo ⊢
    have hls := vnum_ten (x := s) (by omega)
    have ws : IntKind.u64.wrap (s : Int) = (s : Int) := by rw [IntKind.wrap_u64]; omega
    have wn : IntKind.u64.wrap (n : Int) = (n : Int) := by rw [IntKind.wrap_u64]; omega
    obtain ⟨S, hS⟩ : ∃ S, S = vnum s := ⟨_, rfl⟩
    obtain ⟨V, hV⟩ : ∃ V, V = vnum n := ⟨_, rfl⟩
    rw [← hS] at HPs hbl hbo hls ⊢
    rw [← hV] at HPn hbl hbo ⊢
    have HS := Lib.hid (fun q d W L (hL : L = (((([] ++ [(1 : Int)]) ++ [(2 : Int)]) ++ [(x : Int)]) ++ S ++ V).length) (hd : L ≤ d) (hd' : d ≤ 9223372036854775807) (hq : q = none → L = 0 ∧ d = 0) (h8 : Bytes8 W q (((([] ++ [(1 : Int)]) ++ [(2 : Int)]) ++ [(x : Int)]) ++ S ++ V)) => seal_both q L d _ W ⟨hL, hd, hd', hq, hbo, h8⟩ (by omega))
    obtain ⟨G, hG⟩ : ∃ G, G = ((([] ++ [(1 : Int)]) ++ [(2 : Int)]) ++ [(x : Int)]) ++ S ++ V := ⟨_, rfl⟩
    rw [← hG] at HS hbl ⊢
    have HG := Lib.hid hG
    clear hm hdef hS hV hbo hG
    unfold confV at HCk ⊢
    go_enter Tryz.func26, Tryz.ntmps26
    go_wp2_with fail
    refine (HCk.out _).mono ?_
    rintro e w1 ⟨rfl, hk⟩
    have hN := HW.out.keep hk (fun h => h)
    have HK := Lib.hid (HK0.out.trans hk)
    have hsz : w.heap.size + 1 ≤ w1.heap.size := by have := hk.size; simpa using this
    have HSz := Lib.hid hsz
    have hwa : Keeps NoBlock w1 (w1.alloc (.cells #[.slice none 0 0] 102)) := (Keeps.refl NoBlock w1).alloc _
    obtain ⟨W, hW⟩ : ∃ W, W = w1.alloc (.cells #[.slice none 0 0] 102) := ⟨_, rfl⟩
    have HB : Hid (BufAt W w1.heap.size w1.heap.size []) := Lib.hid (by rw [hW]; exact bufNewB w1 w1.heap.size)
    have HR : Hid (Whole W w.heap.size 27 (confCells x s)) := Lib.hid (by rw [hW]; exact hN.alloc _)
    have HQ : Hid (Keeps (fun i => w1.heap.size ≤ i) w1 W) := Lib.hid (by rw [hW]; exact (Keeps.refl _ w1).alloc _)
    clear hk hN hsz hwa
    go_wp2_with fail
    rw [← hW]
    clear hW
    have s0 : W.drew.cell? ⟨w.heap.size, 0, none⟩ = some (.int .u8 (x : Int)) := HR.out.cell 0 rfl
    have sN : W.cell? ⟨w.heap.size, 0, none⟩ = some (.int .u8 (x : Int)) := HR.out.cell 0 rfl
    go_region_held3 (fun w' => w'.cell? ⟨w.heap.size, 0, none⟩ = some (.int .u8 (x : Int)))
      (first | exact s5 | exact s0 | exact sN)
      (first | (go_at_call 49; refine (bufByteK w1.heap.size w1.heap.size _ _ _ (by exact HB.out) (by have := HQ.out.size; first | exact this | omega) (by simp)).mono ?_; rintro e w5 ⟨rfl, hb, hk⟩; have hk' : Keeps (fun i => w1.heap.size ≤ i) W w5 := (by first | exact hk.onBuf (Nat.le_refl _) | exact (hk.onBuf (Nat.le_refl _)).ofDrew | exact (hk.onBuf (Nat.le_refl _)).ofDrewN); have HB := Lib.hid hb; have HQ := Lib.hid (HQ.out.trans hk'); have HR := Lib.hid (HR.out.keep hk' (by have := HSz.out; omega)); have s5 : w5.cell? ⟨w.heap.size, 0, none⟩ = some (.int .u8 (x : Int)) := HR.out.cell 0 rfl; clear hb hk hk'; obtain ⟨W, rfl⟩ : ∃ x, x = w5 := ⟨_, rfl⟩))
    have q1 : W.cell? ⟨w.heap.size, 1, none⟩ = some (.int .u32 (s : Int)) := HR.out.cell 1 rfl
    have HB3 : Hid (BufAt W w1.heap.size w1.heap.size ((([] ++ [(1 : Int)]) ++ [(2 : Int)]) ++ [(x : Int)])) := HB
    have HQ3 := HQ
    clear HB HQ HR s0 sN s5
    go_wp2_with fail
    refine (HPs.out _ _ _ _ HB3.out HQ3.out.size (by simp)).mono ?_
    rintro e w6 ⟨rfl, hb, hk⟩
    have HB6 := Lib.hid hb
    have HQ6 := Lib.hid (HQ3.out.trans (hk.onBuf (Nat.le_refl _)))
    clear hb hk HB3
    go_wp2_with fail
    refine (HPn.out _ _ _ _ HB6.out HQ6.out.size (by simp; omega)).mono ?_
    rintro e w7 ⟨rfl, hb, hk⟩
    have HB7 := Lib.hid hb
    have HQ7 := Lib.hid (HQ6.out.trans (hk.onBuf (Nat.le_refl _)))
    clear hb hk HB6
    rw [← HG.out] at HB7
    have hG0 : 0 < G.length := by rw [HG.out]; simp
    have HBy := Lib.hid (bufBytes w1.heap.size w1.heap.size G w7 HB7.out (by omega))
    obtain ⟨L, hL⟩ : ∃ L, L = G.length := ⟨_, rfl⟩
    rw [← hL] at HBy hG0
    have HL := Lib.hid hL
    clear hL hbl q1 HB7
    go_wp2_with fail
    refine HBy.out.mono ?_
    rintro e w8 ⟨v, rfl, q, d, rfl, hd, hd', hby, hq, hk⟩
    have HK8 := Lib.hid (HK.out.then (HQ7.out.trans (hk.wider (S' := fun i => w1.heap.size ≤ i) (fun _ _ h => h.elim))) (fun i hi h => by have := HSz.out; omega))
    have HB8 := Lib.hid hby
    have HQ8 : Hid (q = none → L = 0 ∧ d = 0) := Lib.hid (fun h0 => by
      obtain ⟨a, ha, _⟩ := HB8.out (by rw [← HL.out]; exact hG0)
      rw [h0] at ha
      simp at ha)
    have hd9 : d ≤ 9223372036854775807 := by first | omega | (unfold maxLen at hd'; omega) | exact hd'
    clear hby hq hk hd'
    go_wp2_with fail
    refine (HS.out q d _ L HL.out hd hd9 HQ8.out HB8.out).mono ?_
    rintro e w9 ⟨v2, rfl, ⟨q2, m2, d2, rfl, hm2, hmd2, hd2, hq2, hb2, hk2⟩, hr2⟩
    have HR2 := Lib.hid (show NewRow8 w (sealN G) (.slice q2 m2 d2) w9 from row_lower hr2 HK8.out.size)
    have HN := Lib.hid (show NewBytes w (sealN G) (.slice q2 m2 d2) w9 from ⟨q2, m2, d2, rfl, hm2, hmd2, hd2, hq2, hb2, HK8.out.trans hk2⟩)
    clear hm2 hmd2 hd2 hq2 hb2 hk2 hr2
    go_wp2_with fail
    refine bodyPost_ret (results_tmp2 rfl _ _ _) rfl ?_
    exact ⟨_, rfl, HN.out, HR2.out⟩
  · rw [if_neg hm] at HCk ⊢
    rw [if_neg hm]
    clear hm
    unfold confV at HCk ⊢
    go_enter Tryz.func26, Tryz.ntmps26
    go_wp2_with fail
    refine (HCk.out _).mono ?_
    rintro e w1 ⟨rfl, hk⟩
    have HK := Lib.hid (HK0.out.trans hk)
    clear hk
    go_wp2_with fail
    refine bodyPost_ret (results_tmp2 rfl _ _ _) rfl ?_
    exact ⟨_, rfl, .ofNil _ _ HK.out, World.ownsRow_nil _ _ _ _⟩

theorem puthead_own (x s n : Nat) (w : World) (hx : x < 256) (hs : s < 4294967296) (hn : n < 4294967296) : Calls Tryz.prog 26 #[confV x s, .int .u32 (n : Int)] w fun e w' => ∃ v, e = .returned (.tuple #[v, .int .i64 (if mayHead x s n = true then 0 else 1)]) ∧ NewBytes w (putH x s n) v w' :=
  (puthead_both x s n w hx hs hn).mono fun _ _ ⟨v, h1, h2, _⟩ => ⟨v, h1, h2⟩

end Go.Proofs.YtlejobomjgccnaaGreat

namespace Go.Proofs.YtlejobomjgccnaaGreat
open Go.RowKit

set_option maxHeartbeats 4000000 in
set_option maxRecDepth 10000 in
theorem empty_own (e s n : Nat) (w : World) (he : e < 256) (hs : s < 4294967296) (hn : n < 4294967296) :
    Calls Tryz.prog 25 #[confV e s, .int .u32 (n : Int)] w fun r w' => r = .returned (.tuple #[roomV (if mayHead e s n = true then emptyP e s n else Rm.none), .int .i64 (if mayHead e s n = true then 0 else 1)]) ∧ Keeps NoBlock w w' := by
  have HP := Lib.hid (fun w => puthead_own e s n w he hs hn)
  have HW := Lib.hid ((Whole.new w 27 (confCells e s)).alloc (.cells (roomCells Rm.none) 47))
  have HZ := Lib.hid (Whole.newAt (w.alloc (.cells (confCells e s) 27)) 47 (roomCells Rm.none) (w.heap.size + 1) (by simp))
  have HK := Lib.hid (((Keeps.refl NoBlock w).alloc (.cells (confCells e s) 27)).alloc (.cells (roomCells Rm.none) 47))
  obtain ⟨c0, c1⟩ := And.intro (HW.out.cell 0 rfl) (HW.out.cell 1 rfl)
  simp only [confCells, List.getElem_toArray, List.getElem_cons_zero, List.getElem_cons_succ] at c0 c1
  by_cases hm : mayHead e s n = true
  rotate_left
  · rw [if_neg hm, if_neg hm]
    unfold putH at HP
    simp only [if_neg hm] at HP
    clear hm he hs hn
    unfold confV at *
    unfold roomCells confCells Rm.none at HW HK HZ
    unfold roomCells Rm.none at c0 c1
    simp only at HW HK HP HZ c0 c1 ⊢
    go_enter Tryz.func25, Tryz.ntmps25
    go_wp2_with fail
    refine (HP.out _).mono ?_
    rintro r w1 ⟨v, rfl, q, m, d, rfl, hm, hmd, hd, hq, hb, hk⟩
    have HZ := Lib.hid (HZ.out.keep hk (fun h => h))
    have HK := Lib.hid (HK.out.trans hk)
    clear hk c0 c1 hm hmd hd hq hb
    obtain ⟨c0, c1, c2, c3, c4⟩ := room_at5 HZ.out
    obtain ⟨q0, q1, q2, q3, q4⟩ := room_free HZ.out
    obtain ⟨g0, g1, g2, g3, g4⟩ := room_at5 (Whole.set5 HZ.out (.int .u8 0) (.int .u32 0) (.int .u32 0) (.int .i64 0) (.int .i64 0))
    go_wp2_with fail
    exact bodyPost_ret (v := .tuple #[roomV Rm.none, .int .i64 1]) (by simp [results, Tryz.results25, go_sem, roomV, Rm.none, c0, c1, c2, c3, c4]) rfl ⟨rfl, HK.out.new5 (by omega) (.int .u8 0) (.int .u32 0) (.int .u32 0) (.int .i64 0) (.int .i64 0)⟩
  rw [if_pos hm, if_pos hm]
  unfold putH at HP
  simp only [if_pos hm] at HP
  have hlen : headLen e s n = (sealN (headB e s n)).length := rfl
  have hle := (headLen_le (e := e) (s := s) (n := n) (by omega) (by omega)).2
  have hU : emptyP e s n = ⟨e, s, n, headLen e s n, 0⟩ := rfl
  rw [hU]
  obtain ⟨L, hL⟩ : ∃ L, L = headLen e s n := ⟨_, rfl⟩
  rw [← hL] at hle hlen ⊢
  have HL := Lib.hid hlen
  clear hm he hs hn hL hlen hU
  unfold confV at *
  unfold roomV
  unfold roomCells confCells Rm.none at HW HK HZ
  unfold roomCells Rm.none at c0 c1
  simp only at HW HK HP HZ c0 c1 ⊢
  go_enter Tryz.func25, Tryz.ntmps25
  go_wp2_with fail
  refine (HP.out _).mono ?_
  rintro r w1 ⟨v, rfl, q, m, d, rfl, hm, hmd, hd, hq, hb, hk⟩
  have HW := Lib.hid (HW.out.keep hk (fun h => h))
  have HZ := Lib.hid (HZ.out.keep hk (fun h => h))
  have HK := Lib.hid (HK.out.trans hk)
  obtain rfl : m = L := hm.trans HL.out.symm
  clear hk c0 c1 hm hmd hd hq hb
  obtain ⟨c0, c1⟩ := And.intro (HW.out.cell 0 rfl) (HW.out.cell 1 rfl)
  simp only [List.getElem_toArray, List.getElem_cons_zero, List.getElem_cons_succ] at c0 c1
  obtain ⟨y0, y1, y2, y3, y4⟩ := room_at5 HZ.out
  obtain ⟨q0, q1, q2, q3, q4⟩ := room_free HZ.out
  obtain ⟨g0, g1, g2, g3, g4⟩ := room_at5 (Whole.set5 HZ.out (.int .u8 (e : Int)) (.int .u32 (s : Int)) (.int .u32 (n : Int)) (.int .i64 (m : Int)) (.int .i64 0))
  have HK3 := Lib.hid (HK.out.new5 (k := w.heap.size + 1) (by omega) (.int .u8 (e : Int)) (.int .u32 (s : Int)) (.int .u32 (n : Int)) (.int .i64 (m : Int)) (.int .i64 0))
  go_wp2_with fail
  exact bodyPost_ret (v := .tuple #[.agg #[.int .u8 (e : Int), .int .u32 (s : Int), .int .u32 (n : Int), .int .i64 (m : Int), .int .i64 0], .int .i64 0]) (by simp [results, Tryz.results25, go_sem, g0, g1, g2, g3, g4]) rfl ⟨rfl, HK3.out⟩
end Go.Proofs.YtlejobomjgccnaaGreat

namespace Go.Proofs.YtlejobomjgccnaaGreat
open Go.RowKit

set_option maxHeartbeats 4000000 in
set_option maxRecDepth 10000 in
theorem sgnew_may (e s n : Nat) (w : World) (he : e < 256) (hs : s < 4294967296) (hn : n < 4294967296) (hm : mayHead e s n = true) :
    Calls Tryz.prog 9 #[confV e s, .int .u32 (n : Int)] w fun r w' => Keeps NoBlock w w' ∧ ∃ F v, r = .returned (.tuple #[v, .int .i64 0]) ∧ SgAt w' F v e s n [] ∧ ∀ k, F k → w.heap.size ≤ k := by
  have HE := Lib.hid (fun w => empty_own e s n w he hs hn)
  have HP := Lib.hid (fun w => puthead_both e s n w he hs hn)
  rw [if_pos hm, if_pos hm] at HE
  rw [if_pos hm, show putH e s n = sealN (headB e s n) by unfold putH; rw [if_pos hm]] at HP
  have hr : roomV (emptyP e s n) = .agg #[.int .u8 (e : Int), .int .u32 (s : Int), .int .u32 (n : Int), .int .i64 ((outS e s n []).length : Int), .int .i64 0] := by rw [outS_nil]; rfl
  rw [hr] at HE
  have HO := Lib.hid (outS_nil e s n)
  obtain ⟨T, hT⟩ : ∃ T, T = sealN (headB e s n) := ⟨_, rfl⟩
  rw [← hT] at HO HP
  rw [HO.out] at HE
  obtain ⟨L, hL⟩ : ∃ L, L = T.length := ⟨_, rfl⟩
  rw [← hL] at HE
  have HL := Lib.hid hL
  have HC := Lib.hid (Whole.new w 27 (confCells e s))
  have HK0 := Lib.hid ((Keeps.refl NoBlock w).alloc (.cells (confCells e s) 27))
  obtain ⟨c0, c1⟩ := And.intro (HC.out.cell 0 rfl) (HC.out.cell 1 rfl)
  simp only [confCells, List.getElem_toArray, List.getElem_cons_zero, List.getElem_cons_succ] at c0 c1
  clear hr hT hL he hs hn hm
  unfold confV at HE HP ⊢
  unfold confCells at HC HK0
  go_enter Tryz.func9, Tryz.ntmps9
  go_wp2_with fail
  refine (HE.out _).mono ?_
  rintro r w1 ⟨rfl, hk⟩
  have hsz := hk.size
  have HC1 := Lib.hid ((HC.out.keep hk (fun h => h)).alloc (.cells #[.int .u8 (e : Int), .int .u32 (s : Int), .int .u32 (n : Int), .int .i64 (L : Int), .int .i64 0] 47))
  have HR1 := Lib.hid (Whole.new w1 47 #[.int .u8 (e : Int), .int .u32 (s : Int), .int .u32 (n : Int), .int .i64 (L : Int), .int .i64 0])
  have HK1 := Lib.hid ((HK0.out.trans hk).alloc (.cells #[.int .u8 (e : Int), .int .u32 (s : Int), .int .u32 (n : Int), .int .i64 (L : Int), .int .i64 0] 47))
  clear hk c0 c1 hsz
  obtain ⟨c0, c1⟩ := And.intro (HC1.out.cell 0 rfl) (HC1.out.cell 1 rfl)
  simp only [List.getElem_toArray, List.getElem_cons_zero, List.getElem_cons_succ] at c0 c1
  go_wp2_with fail
  refine (HP.out _).mono ?_
  rintro r w2 ⟨v2, rfl, ⟨q2, m2, d2, rfl, hm2, hmd2, hd2, hq2, hb2, hk⟩, hrow⟩
  obtain ⟨x0, x1, x2, x3, x4⟩ := room_at5 (HR1.out.keep hk (fun h => h))
  have HK2 := Lib.hid (HK1.out.trans hk)
  have HRow := Lib.hid (row_lower hrow (show w.heap.size ≤ _ from HK1.out.size))
  clear hk c0 c1 hm2 hmd2 hd2 hq2 hb2 hrow
  go_wp2_with fail
  refine bodyPost_ret (results_tmp2 rfl _ _ _) rfl ?_
  refine ⟨HK2.out.alloc _, bF w2.heap.size (.slice q2 m2 d2) (.slice none 0 0), _, rfl, ⟨w2.heap.size, .slice q2 m2 d2, .slice none 0 0, rfl, rfl, ⟨?_, ?_, ?_⟩⟩, fun k hk => ?_⟩
  · have h := Whole.new w2 73 #[.int .u8 (e : Int), .int .u32 (s : Int), .int .u32 (n : Int), .int .i64 (L : Int), .int .i64 0, .slice q2 m2 d2, .slice none 0 0]
    rw [HO.out, ← HL.out]
    exact h
  · rw [HO.out]
    exact World.ownsRow.alloc (row_lower HRow.out (Nat.zero_le _)) _
  · exact World.ownsRow_nil _ _ _ _
  · rcases hk with rfl | hk | hk
    · exact HK2.out.size
    · exact (HRow.out.lt k hk).1
    · simp [Value.ownBlock] at hk

set_option maxHeartbeats 4000000 in
set_option maxRecDepth 10000 in
theorem sgnew_not (e s n : Nat) (w : World) (he : e < 256) (hs : s < 4294967296) (hn : n < 4294967296) (hm : mayHead e s n = false) :
    Calls Tryz.prog 9 #[confV e s, .int .u32 (n : Int)] w fun r w' => r = .returned (.tuple #[.pointer none, .int .i64 1]) ∧ Keeps NoBlock w w' := by
  have HE := Lib.hid (fun w => empty_own e s n w he hs hn)
  have hm' : ¬ mayHead e s n = true := by rw [hm]; simp
  rw [if_neg hm', if_neg hm', show roomV Rm.none = .agg #[.int .u8 0, .int .u32 0, .int .u32 0, .int .i64 0, .int .i64 0] from rfl] at HE
  have HC := Lib.hid (Whole.new w 27 (confCells e s))
  have HK0 := Lib.hid ((Keeps.refl NoBlock w).alloc (.cells (confCells e s) 27))
  obtain ⟨c0, c1⟩ := And.intro (HC.out.cell 0 rfl) (HC.out.cell 1 rfl)
  simp only [confCells, List.getElem_toArray, List.getElem_cons_zero, List.getElem_cons_succ] at c0 c1
  clear he hs hn hm hm'
  unfold confV at HE ⊢
  unfold confCells at HC HK0
  go_enter Tryz.func9, Tryz.ntmps9
  go_wp2_with fail
  refine (HE.out _).mono ?_
  rintro r w1 ⟨rfl, hk⟩
  have HK1 := Lib.hid ((HK0.out.trans hk).alloc (.cells #[.int .u8 0, .int .u32 0, .int .u32 0, .int .i64 0, .int .i64 0] 47))
  clear hk c0 c1
  go_wp2_with fail
  refine bodyPost_ret (results_tmp2 rfl _ _ _) rfl ?_
  exact ⟨rfl, HK1.out⟩

theorem sg_new : SgNewOk SgAt := ⟨fun e s n w he hs hn hm => sgnew_may e s n w he hs hn hm, fun e s n w he hs hn hm => sgnew_not e s n w he hs hn hm⟩
end Go.Proofs.YtlejobomjgccnaaGreat

namespace Go.Proofs.YtlejobomjgccnaaGreat
open Go.RowKit

def narrowP (e s : Nat) : Rm := if mayC e s = true then emptyP e s (s - 1) else Rm.none
theorem narrow_head {e s : Nat} (h : mayC e s = true) : mayHead e s (s - 1) = true := by
  obtain ⟨m1, m2, m3, m4⟩ := mayC_true.1 h
  exact mayHead_true.2 ⟨m1, m2, m3, m4, by omega⟩
theorem not_head {e s : Nat} (h : mayC e s ≠ true) (n : Nat) : mayHead e s n ≠ true := fun h2 => by
  obtain ⟨m1, m2, m3, m4, _⟩ := mayHead_true.1 h2
  exact h (mayC_true.2 ⟨m1, m2, m3, m4⟩)

set_option maxHeartbeats 4000000 in
set_option maxRecDepth 10000 in
theorem narrow_own (e s : Nat) (w : World) (he : e < 256) (hs : s < 4294967296) :
    Calls Tryz.prog 55 #[confV e s] w fun r w' => r = .returned (roomV (narrowP e s)) ∧ Keeps NoBlock w w' := by
  obtain ⟨n, hn⟩ : ∃ n, n = (if s = 0 then 4294967295 else s - 1) := ⟨_, rfl⟩
  have hn9 : n < 4294967296 := by rw [hn]; split <;> omega
  have hw : IntKind.u32.wrap ((s : Int) - 1) = (n : Int) := by rw [hn, IntKind.wrap_u32]; split <;> omega
  have HP := Lib.hid (fun w => empty_own e s n w he hs hn9)
  have hr : (if mayHead e s n = true then emptyP e s n else Rm.none) = narrowP e s := by
    unfold narrowP
    by_cases hm : mayC e s = true
    · have hs1 := (mayC_true.1 hm).2.2.1
      rw [if_neg (by omega)] at hn
      rw [if_pos hm, hn, if_pos (narrow_head hm)]
    · rw [if_neg hm, if_neg (not_head hm n)]
  rw [hr] at HP
  obtain ⟨R, hR⟩ : ∃ R, R = narrowP e s := ⟨_, rfl⟩
  obtain ⟨y, hy⟩ : ∃ y : Int, y = (if mayHead e s n = true then 0 else 1) := ⟨_, rfl⟩
  rw [← hR] at HP ⊢
  rw [← hy] at HP
  have HW := Lib.hid ((Whole.new w 27 (confCells e s)).alloc (.cells (roomCells Rm.none) 47))
  have HZ := Lib.hid (Whole.newAt (w.alloc (.cells (confCells e s) 27)) 47 (roomCells Rm.none) (w.heap.size + 1) (by simp))
  have HK := Lib.hid (((Keeps.refl NoBlock w).alloc (.cells (confCells e s) 27)).alloc (.cells (roomCells Rm.none) 47))
  obtain ⟨c0, c1⟩ := And.intro (HW.out.cell 0 rfl) (HW.out.cell 1 rfl)
  simp only [confCells, List.getElem_toArray, List.getElem_cons_zero, List.getElem_cons_succ] at c0 c1
  clear hn hr hR hy he hs
  obtain ⟨e2, s2, num, used, count⟩ := R
  unfold confV roomV at *
  unfold roomCells confCells Rm.none at HW HK HZ
  unfold roomCells Rm.none at c0 c1
  simp only at HW HK HP HZ c0 c1 ⊢
  go_enter Tryz.func55, Tryz.ntmps55
  go_wp2_with fail
  refine (HP.out _).mono ?_
  rintro r w1 ⟨rfl, hk⟩
  have HZ := Lib.hid (HZ.out.keep hk (fun h => h))
  have HK := Lib.hid (HK.out.trans hk)
  clear hk c0 c1
  have HX := Lib.hid (Whole.new w1 47 #[.int .u8 (e2 : Int), .int .u32 (s2 : Int), .int .u32 (num : Int), .int .i64 (used : Int), .int .i64 (count : Int)])
  have HZ := Lib.hid (HZ.out.alloc (.cells #[.int .u8 (e2 : Int), .int .u32 (s2 : Int), .int .u32 (num : Int), .int .i64 (used : Int), .int .i64 (count : Int)] 47))
  have HK := Lib.hid (HK.out.alloc (.cells #[.int .u8 (e2 : Int), .int .u32 (s2 : Int), .int .u32 (num : Int), .int .i64 (used : Int), .int .i64 (count : Int)] 47))
  obtain ⟨x0, x1, x2, x3, x4⟩ := room_at5 HX.out
  obtain ⟨y0, y1, y2, y3, y4⟩ := room_at5 HZ.out
  obtain ⟨q0, q1, q2, q3, q4⟩ := room_free HZ.out
  obtain ⟨g0, g1, g2, g3, g4⟩ := room_at5 (Whole.set5 HZ.out (.int .u8 (e2 : Int)) (.int .u32 (s2 : Int)) (.int .u32 (num : Int)) (.int .i64 (used : Int)) (.int .i64 (count : Int)))
  have HK3 := Lib.hid (HK.out.new5 (k := w.heap.size + 1) (by omega) (.int .u8 (e2 : Int)) (.int .u32 (s2 : Int)) (.int .u32 (num : Int)) (.int .i64 (used : Int)) (.int .i64 (count : Int)))
  go_wp2_with fail
  exact bodyPost_ret (v := .agg #[.int .u8 (e2 : Int), .int .u32 (s2 : Int), .int .u32 (num : Int), .int .i64 (used : Int), .int .i64 (count : Int)]) (by simp [results, Tryz.results55, go_sem, g0, g1, g2, g3, g4]) rfl ⟨rfl, HK3.out⟩

/-- Does a frame fit into the empty room of the greatest number, if there is one? -/
def fitsN (e s : Nat) (z : Int) : Bool := mayC e s && fitsP (emptyP e s (s - 1)) z
theorem fitsN_own (e s : Nat) (z : Int) (w : World) : Calls Tryz.prog 56 #[roomV (narrowP e s), .int .i64 z] w fun r w' => r = .returned (.bool (fitsN e s z)) ∧ Keeps NoBlock w w' := by
  unfold fitsN narrowP
  by_cases hm : mayC e s = true
  · rw [if_pos hm, hm, Bool.true_and]
    exact fits_own _ z w (real_empty (narrow_head hm))
  · rw [if_neg hm, show mayC e s = false by simpa using hm, Bool.false_and]
    exact fits_none z w

set_option maxHeartbeats 4000000 in
set_option maxRecDepth 10000 in
theorem large_own (e s : Nat) (z : Int) (w : World) (he : e < 256) (hs : s < 4294967296) :
    Calls Tryz.prog 30 #[confV e s, .int .i64 z] w fun r w' => r = .returned (.bool (largeP e s z)) ∧ Keeps NoBlock w w' := by
  have HN := Lib.hid (fun w => narrow_own e s w he hs)
  have HF := Lib.hid (fun w => fitsN_own e s z w)
  have hl : largeP e s z = !(fitsN e s z) := by
    unfold largeP fitsN
    cases mayC e s <;> cases fitsP (emptyP e s (s - 1)) z <;> rfl
  rw [hl]
  obtain ⟨b, hb⟩ : ∃ b, b = fitsN e s z := ⟨_, rfl⟩
  obtain ⟨R, hR⟩ : ∃ R, R = narrowP e s := ⟨_, rfl⟩
  rw [← hR] at HN HF
  rw [← hb] at HF ⊢
  have HW := Lib.hid (Whole.new w 27 (confCells e s))
  have HK := Lib.hid ((Keeps.refl NoBlock w).alloc (.cells (confCells e s) 27))
  obtain ⟨c0, c1⟩ := And.intro (HW.out.cell 0 rfl) (HW.out.cell 1 rfl)
  simp only [confCells, List.getElem_toArray, List.getElem_cons_zero, List.getElem_cons_succ] at c0 c1
  clear hl hb hR he hs
  unfold confV roomV at *
  unfold confCells at HW HK
  go_enter Tryz.func30, Tryz.ntmps30
  go_wp2_with fail
  refine (HN.out _).mono ?_
  rintro r w1 ⟨rfl, hk⟩
  have HK := Lib.hid (HK.out.trans hk)
  clear hk c0 c1
  go_wp2_with fail
  refine (HF.out _).mono ?_
  rintro r w2 ⟨rfl, hk⟩
  have HK := Lib.hid (HK.out.trans hk)
  clear hk
  go_wp2_with fail
  go_ret
  exact ⟨rfl, HK.out⟩
end Go.Proofs.YtlejobomjgccnaaGreat

namespace Go.Proofs.YtlejobomjgccnaaGreat
open Go.RowKit

structure AddSt (w0 w : World) (F : Nat → Prop) (g : Nat) (f p : Value) (e s n u k : Nat) (xs : List Int) (es : List En) : Prop where
  cells : Whole w g 73 (bCells e s n u k f p)
  frames : w.ownsRow 0 5 1 f xs.length (xs.map (Value.int .u8))
  places : w.ownsRow 0 80 2 p es.length (twoFlat enH enA es)
  mine : ∀ j, bF g f p j → F j ∨ w0.heap.size ≤ j
  kept : Keeps F w0 w
theorem AddSt.start {w : World} {g : Nat} {f p : Value} {e s n : Nat} {l : List Rec} (h : BuildAt w g f p e s n l) : AddSt w w (bF g f p) g f p e s n (outS e s n l).length l.length (outS e s n l) (entsS e s n l) :=
  ⟨h.cells, h.frames, by rw [ents_len]; exact h.places, fun _ hj => .inl hj, Keeps.refl _ _⟩
theorem row_not {w : World} {b size n g : Nat} {t t' : TypeId} {v : Value} {xs : List Value} {cs : Array Value} (h : w.ownsRow b t size v n xs) (hw : Whole w g t' cs) (ht : t ≠ t') : v.ownBlock ≠ some g := fun hv => by
  rcases h.2 with ⟨rfl, _⟩ | ⟨g', cap, cur, rfl, _, hh, _⟩
  · simp [Value.ownBlock] at hv
  · have e : g' = g := by simpa [Value.ownBlock] using hv
    subst e
    exact ht (Whole.unique (show Whole w g' t cur from hh) hw).1
theorem AddSt.notF {w0 w : World} {F : Nat → Prop} {g e s n u k : Nat} {f p : Value} {xs : List Int} {es : List En} (h : AddSt w0 w F g f p e s n u k xs es) : f.ownBlock ≠ some g := row_not h.frames h.cells (by decide)
theorem AddSt.notP {w0 w : World} {F : Nat → Prop} {g e s n u k : Nat} {f p : Value} {xs : List Int} {es : List En} (h : AddSt w0 w F g f p e s n u k xs es) : p.ownBlock ≠ some g := row_not h.places h.cells (by decide)
theorem AddSt.apart {w0 w : World} {F : Nat → Prop} {g e s n u k : Nat} {f p : Value} {xs : List Int} {es : List En} (h : AddSt w0 w F g f p e s n u k xs es) : ∀ j, f.ownBlock = some j → p.ownBlock ≠ some j := rows_apart (by decide) h.frames h.places
theorem AddSt.keep {w0 w w' : World} {F : Nat → Prop} {g e s n u k : Nat} {f p : Value} {xs : List Int} {es : List En} (h : AddSt w0 w F g f p e s n u k xs es) (hk : Keeps NoBlock w w') : AddSt w0 w' F g f p e s n u k xs es :=
  ⟨h.cells.keep hk (fun h => h), ownBlocks h.frames (fun j hj => hk.block j (h.frames.lt j hj).2 (fun h => h)), ownBlocks h.places (fun j hj => hk.block j (h.places.lt j hj).2 (fun h => h)), h.mine, h.kept.then hk (fun _ _ h => h.elim)⟩
theorem set_far {w : World} {g i j : Nat} {v : Value} (hj : j ≠ g) : (w.setCell ⟨g, i, none⟩ v).heap[j]? = w.heap[j]? := Below.heap_setCell w ⟨g, i, none⟩ v j hj
/-- Its room is another one. -/
theorem AddSt.room {w0 w : World} {F : Nat → Prop} {g e s n u k : Nat} {f p : Value} {xs : List Int} {es : List En} (h : AddSt w0 w F g f p e s n u k xs es) (u' k' : Nat) :
    AddSt w0 (((((w.setCell ⟨g, 0, none⟩ (.int .u8 (e : Int))).setCell ⟨g, 1, none⟩ (.int .u32 (s : Int))).setCell ⟨g, 2, none⟩ (.int .u32 (n : Int))).setCell ⟨g, 3, none⟩ (.int .i64 (u' : Int))).setCell ⟨g, 4, none⟩ (.int .i64 (k' : Int))) F g f p e s n u' k' xs es := by
  have hg := h.mine g (.inl rfl)
  refine ⟨((((h.cells.set 0 _).set 1 _).set 2 _).set 3 _).set 4 _, ownBlocks h.frames (fun j hj => ?_), ownBlocks h.places (fun j hj => ?_), h.mine, ((((h.kept.set hg _).set hg _).set hg _).set hg _).set hg _⟩
  · have hne : j ≠ g := fun e => h.notF (e ▸ hj)
    rw [set_far hne, set_far hne, set_far hne, set_far hne, set_far hne]
  · have hne : j ≠ g := fun e => h.notP (e ▸ hj)
    rw [set_far hne, set_far hne, set_far hne, set_far hne, set_far hne]
/-- Its frames' row has grown, and is stored. -/
theorem AddSt.frame {w0 w w' : World} {F : Nat → Prop} {g e s n u k g1 N cap : Nat} {f p : Value} {xs ys : List Int} {es : List En} (h : AddSt w0 w F g f p e s n u k xs es)
    (hr : w'.ownsRow 0 5 1 (.slice (some ⟨g1, 0, none⟩) N cap) N (xs.map (Value.int .u8) ++ ys.map (Value.int .u8))) (hg : w.grownBy w' f.ownBlock) (hl : f.ownBlock = some g1 ∨ g1 = w.heap.size) :
    AddSt w0 (w'.setCell ⟨g, 5, none⟩ (.slice (some ⟨g1, 0, none⟩) N cap)) F g (.slice (some ⟨g1, 0, none⟩) N cap) p e s n u k (xs ++ ys) es := by
  have hlt := h.cells.lt
  have hN : N = (xs ++ ys).length := by have := hr.1; simp at this; rw [List.length_append]; omega
  have hgg : g1 ≠ g := fun e => by
    rcases hl with hl | hl
    · exact h.notF (e ▸ hl)
    · omega
  have hc : Whole w' g 73 (bCells e s n u k f p) := (hg.block g hlt (fun e => h.notF e.symm)).trans h.cells
  refine ⟨hc.set 5 _, ?_, ownBlocks h.places (fun j hj => ?_), fun j hj => ?_, (h.kept.grown hg (fun j hj => h.mine j (.inr (.inl hj)))).set (h.mine g (.inl rfl)) _⟩
  · rw [List.map_append, ← hN]
    exact ownBlocks hr (fun j hj => set_far (fun e => by
      have : g1 = j := by simpa [Value.ownBlock] using hj
      omega))
  · have hne : j ≠ g := fun e => h.notP (e ▸ hj)
    rw [set_far hne]
    exact hg.block j (h.places.lt j hj).2 (fun e => h.apart j e.symm hj)
  · rcases hj with hj | hj | hj
    · exact h.mine j (.inl hj)
    · have hj1 : g1 = j := by simpa [Value.ownBlock] using hj
      subst hj1
      rcases hl with hl | hl
      · exact h.mine _ (.inr (.inl hl))
      · have := h.kept.size
        exact .inr (by omega)
    · exact h.mine j (.inr (.inr hj))
/-- Its places' row has grown, and is stored. -/
theorem AddSt.place {w0 w w' : World} {F : Nat → Prop} {g e s n u k g1 N cap : Nat} {f p : Value} {xs : List Int} {es : List En} {x : En} (h : AddSt w0 w F g f p e s n u k xs es)
    (hr : w'.ownsRow 0 80 2 (.slice (some ⟨g1, 0, none⟩) N cap) N (twoFlat enH enA es ++ [enH x, enA x])) (hg : w.grownBy w' p.ownBlock) (hl : p.ownBlock = some g1 ∨ g1 = w.heap.size) :
    AddSt w0 (w'.setCell ⟨g, 6, none⟩ (.slice (some ⟨g1, 0, none⟩) N cap)) F g f (.slice (some ⟨g1, 0, none⟩) N cap) e s n u k xs (es ++ [x]) := by
  have hlt := h.cells.lt
  have hN : N = (es ++ [x]).length := by
    have := hr.1
    rw [List.length_append, twoFlat_length] at this
    simp only [List.length_cons, List.length_nil] at this
    rw [List.length_append]
    simp only [List.length_cons, List.length_nil]
    omega
  have hgg : g1 ≠ g := fun e => by
    rcases hl with hl | hl
    · exact h.notP (e ▸ hl)
    · omega
  have hc : Whole w' g 73 (bCells e s n u k f p) := (hg.block g hlt (fun e => h.notP e.symm)).trans h.cells
  refine ⟨hc.set 6 _, ownBlocks h.frames (fun j hj => ?_), ?_, fun j hj => ?_, (h.kept.grown hg (fun j hj => h.mine j (.inr (.inr hj)))).set (h.mine g (.inl rfl)) _⟩
  · have hne : j ≠ g := fun e => h.notF (e ▸ hj)
    rw [set_far hne]
    exact hg.block j (h.frames.lt j hj).2 (fun e => h.apart j hj e.symm)
  · rw [twoFlat_append, ← hN]
    exact ownBlocks hr (fun j hj => set_far (fun e => by
      have : g1 = j := by simpa [Value.ownBlock] using hj
      omega))
  · rcases hj with hj | hj | hj
    · exact h.mine j (.inl hj)
    · exact h.mine j (.inr (.inl hj))
    · have hj1 : g1 = j := by simpa [Value.ownBlock] using hj
      subst hj1
      rcases hl with hl | hl
      · exact h.mine _ (.inr (.inr hl))
      · have := h.kept.size
        exact .inr (by omega)
theorem AddSt.done {w w' : World} {F : Nat → Prop} {g e s n : Nat} {f p : Value} {xs : List Int} {es : List En} {l : List Rec} {v : Value} (h : AddSt w w' F g f p e s n xs.length l.length xs es) (hv : v = .pointer (some ⟨g, 0, none⟩)) (hx : xs = outS e s n l) (he : es = entsS e s n l) : SgSame SgAt F w v e s n l w' := by
  subst hx he hv
  refine ⟨h.kept, bF g f p, h.mine, g, f, p, rfl, rfl, h.cells, h.frames, ?_⟩
  have := h.places
  rwa [ents_len] at this
/-- Bytes that are more than a block has cells don't stand in it. -/
theorem bytes_not {w : World} {g : Nat} {t : TypeId} {cs : Array Value} {p : Option Addr} {ys : List Int} (h8 : Bytes8 w p ys) (hw : Whole w g t cs) (hl : cs.size < ys.length) (h2 : 2 ≤ ys.length) : ∀ a, p = some a → a.block ≠ g := fun a ha e => by
  obtain ⟨a', ha', hc⟩ := h8 (by omega)
  obtain rfl := Option.some.inj (ha.symm.trans ha')
  have h1 := hc (ys.length - 1) (by omega)
  have h3 : a.add (ys.length - 1) = ⟨g, a.off + (ys.length - 1), none⟩ := by unfold Addr.add; rw [if_neg (by omega), e]
  rw [h3] at h1
  unfold World.cell? at h1
  simp only [show w.heap[g]? = _ from hw] at h1
  have : cs[a.off + (ys.length - 1)]? = none := Array.getElem?_eq_none (by omega)
  simp [this] at h1
theorem AddSt.grown {w0 w w' : World} {F : Nat → Prop} {g e s n u k : Nat} {f p : Value} {xs : List Int} {es : List En} {row : Option Nat} (h : AddSt w0 w F g f p e s n u k xs es) (hg : w.grownBy w' row) (hr : row ≠ some g) :
    Whole w' g 73 (bCells e s n u k f p) := (hg.block g h.cells.lt (fun e => hr e.symm)).trans h.cells
theorem AddSt.lower {w0 w1 w : World} {F : Nat → Prop} {g e s n u k : Nat} {f p : Value} {xs : List Int} {es : List En} (h : AddSt w1 w F g f p e s n u k xs es) (hk : Keeps NoBlock w0 w1) : AddSt w0 w F g f p e s n u k xs es :=
  ⟨h.cells, h.frames, h.places, fun j hj => (h.mine j hj).elim .inl (fun h1 => .inr (Nat.le_trans hk.size h1)), (hk.wider (fun _ _ h => h.elim)).trans h.kept⟩
end Go.Proofs.YtlejobomjgccnaaGreat

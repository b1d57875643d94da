/-
  PkLeft; PkFits; SgOwn; FrStep; FrGetH2; FrGetH.
-/
import Derived.Deep.Cut
import Derived.Test.YtlejobomjgccnaaGreatM13
import Derived.Test.YtlejobomjgccnaaGreatM14
import Derived.Test.YtlejobomjgccnaaGreatM17
import Derived.Test.YtlejobomjgccnaaGreatM20
import Derived.Test.YtlejobomjgccnaaGreatM29
namespace Go.Proofs.YtlejobomjgccnaaGreat
open Go.RowKit

theorem sizeC_le (e s : Nat) : sizeC e s ≤ 16777216 := by
  unfold sizeC
  split
  · rename_i h
    exact (two_e (mayC_true.1 h).2.1).2
  · exact Nat.zero_le _

set_option maxHeartbeats 4000000 in
set_option maxRecDepth 10000 in
theorem left_any (r : Rm) (w : World) (hc : r.count ≤ 10000) (hu : r.used ≤ 16777216) (hcu : r.count < r.used) :
    Calls Tryz.prog 88 #[roomV r] w fun e w' => e = .returned (.int .i64 ((sizeC r.e r.s - (r.used + mostFt (r.count + 1)) : Nat) : Int)) ∧ Keeps NoBlock w w' := by
  have HSz := Lib.hid (fun w => size_conf r.e r.s w)
  have HMo := Lib.hid (fun w => ftmost_own ((r.count + 1 : Nat) : Int) w (by omega) (by omega))
  have hlin := mostFt_lin (r.count + 1)
  have hpos := mostFt_pos (r.count + 1)
  have hp := sizeC_le r.e r.s
  have HW := Lib.hid (Whole.new w 47 (roomCells r))
  have HK := Lib.hid ((Keeps.refl NoBlock w).alloc (.cells (roomCells r) 47))
  obtain ⟨p, hpp⟩ : ∃ p, p = sizeC r.e r.s := ⟨_, rfl⟩
  obtain ⟨m, hm⟩ : ∃ m, m = mostFt (r.count + 1) := ⟨_, rfl⟩
  rw [← hpp] at HSz hp ⊢
  rw [show ((r.count + 1 : Nat) : Int).toNat = r.count + 1 from Int.toNat_natCast _, ← hm] at HMo
  rw [← hm] at hlin hpos ⊢
  rw [show ((r.count + 1 : Nat) : Int) = (r.count : Int) + 1 by omega] at HMo
  obtain ⟨Z, hZ⟩ : ∃ Z, Z = p - (r.used + m) := ⟨_, rfl⟩
  rw [← hZ]
  have HZ := Lib.hid hZ
  obtain ⟨e, s, num, used, count⟩ := r
  simp only at hu hc hcu hlin HSz HMo hp HZ
  clear hpp hm hZ
  unfold roomV confV at *
  unfold roomCells at HW HK
  simp only at HW HK HSz ⊢
  obtain ⟨c0, c1, c2, c3, c4⟩ := room_at (r := ⟨e, s, num, used, count⟩) HW.out
  go_enter Tryz.func88, Tryz.ntmps88
  go_wp2_with fail
  refine (HSz.out _).mono ?_
  rintro e9 w1 ⟨rfl, hk⟩
  have HW := Lib.hid (HW.out.keep hk (fun h => h))
  have HK := Lib.hid (HK.out.trans hk)
  clear hk c0 c1 c2 c3 c4
  obtain ⟨c0, c1, c2, c3, c4⟩ := room_at (r := ⟨e, s, num, used, count⟩) HW.out
  have n1 : ¬ (count : Int) < 0 := by omega
  have n3 : ¬ (used : Int) < (count : Int) := by omega
  have n4 : ¬ used < count := by omega
  have n5 : decide ((count : Int) < 0) = false := decide_eq_false n1
  have n7 : ¬ (used : Int) ≤ (count : Int) := by omega
  have n8 : ¬ used ≤ count := by omega
  by_cases hs : p ≤ used
  · have g1 : decide ((p : Int) ≤ (used : Int)) = true := decide_eq_true (by omega)
    have g2 : decide (p ≤ used) = true := decide_eq_true hs
    go_wp2_with fail
    go_ret
    exact ⟨by rw [HZ.out, show p - (used + m) = 0 by omega]; rfl, HK.out⟩
  have g1 : decide ((p : Int) ≤ (used : Int)) = false := decide_eq_false (by omega)
  have g2 : decide (p ≤ used) = false := decide_eq_false hs
  have w6 : IntKind.i64.wrap ((count : Int) + 1) = (count : Int) + 1 := IntWalk.i64_in _ (by omega)
  have w7 : IntKind.i64.wrap ((p : Int) - (used : Int)) = (p : Int) - (used : Int) := IntWalk.i64_in _ (by omega)
  have w8 : IntKind.i64.wrap ((p : Int) - (used : Int) - (m : Int)) = (p : Int) - (used : Int) - (m : Int) := IntWalk.i64_in _ (by omega)
  have hmax : max ((p : Int) - (used : Int) - (m : Int)) 0 = (Z : Int) := by have := HZ.out; omega
  go_upto_region 4 with (fail)
  have s0 := And.intro ((Whole.drewN HW.out 1).cell 3 rfl) ((Whole.drewN HW.out 1).cell 4 rfl)
  have sN := And.intro (HW.out.cell 3 rfl) (HW.out.cell 4 rfl)
  simp only [List.getElem_toArray, List.getElem_cons_zero, List.getElem_cons_succ] at s0 sN
  go_region_held3 (fun w' => w'.cell? ⟨w.heap.size, 3, none⟩ = some (.int .i64 (used : Int)) ∧ w'.cell? ⟨w.heap.size, 4, none⟩ = some (.int .i64 (count : Int)))
    (first | exact s5 | exact s0 | exact sN)
    (first | (go_at_call 115; refine (HMo.out _).mono ?_; rintro e9 w5 ⟨rfl, hk⟩; have hk' : Keeps NoBlock w1 w5 := (by first | exact hk | exact hk.ofDrew | exact hk.ofDrewN); have HK := Lib.hid (HK.out.trans hk'); have HW := Lib.hid (HW.out.keep hk' (fun h => h)); have s5 := And.intro (HW.out.cell 3 rfl) (HW.out.cell 4 rfl); simp only [List.getElem_toArray, List.getElem_cons_zero, List.getElem_cons_succ] at s5; clear hk hk'; obtain ⟨w1, rfl⟩ : ∃ x, x = w5 := ⟨_, rfl⟩))
  go_wp2_with fail
  go_ret
  exact ⟨rfl, HK.out⟩

theorem left_own (r : Rm) (w : World) (hr : r.Real) : Calls Tryz.prog 88 #[roomV r] w fun e w' => e = .returned (.int .i64 ((leftP r : Nat) : Int)) ∧ Keeps NoBlock w w' := by
  obtain ⟨he, hu, hs, hn⟩ := hr.small
  have hh := (headLen_le (e := r.e) (s := r.s) (n := r.num) (by omega) (by omega)).1
  have hd := hr.head
  have h1 := left_any r w hr.few hu (by omega)
  have h2 := (mayHead_true.1 hr.may)
  have h3 : sizeC r.e r.s = 2 ^ r.e := by unfold sizeC; rw [if_pos (mayC_true.2 ⟨h2.1, h2.2.1, h2.2.2.1, h2.2.2.2.1⟩)]
  rw [h3] at h1
  exact h1

set_option maxHeartbeats 4000000 in
set_option maxRecDepth 10000 in
theorem left_none (w : World) : Calls Tryz.prog 88 #[roomV Rm.none] w fun e w' => e = .returned (.int .i64 (((0 : Nat) : Int))) ∧ Keeps NoBlock w w' := by
  have HSz := Lib.hid (fun w => size_conf 0 0 w)
  rw [show sizeC 0 0 = 0 from by decide] at HSz
  have HW := Lib.hid (Whole.new w 47 (roomCells Rm.none))
  have HK := Lib.hid ((Keeps.refl NoBlock w).alloc (.cells (roomCells Rm.none) 47))
  unfold Rm.none at *
  unfold roomV confV at *
  unfold roomCells at HW HK
  simp only at HW HK HSz ⊢
  obtain ⟨c0, c1, c2, c3, c4⟩ := room_at (r := ⟨0, 0, 0, 0, 0⟩) HW.out
  go_enter Tryz.func88, Tryz.ntmps88
  go_wp2_with fail
  refine (HSz.out _).mono ?_
  rintro e9 w1 ⟨rfl, hk⟩
  have HW := Lib.hid (HW.out.keep hk (fun h => h))
  have HK := Lib.hid (HK.out.trans hk)
  clear hk c0 c1 c2 c3 c4
  obtain ⟨c0, c1, c2, c3, c4⟩ := room_at (r := ⟨0, 0, 0, 0, 0⟩) HW.out
  go_wp2_with fail
  go_ret
  exact ⟨rfl, HK.out⟩
end Go.Proofs.YtlejobomjgccnaaGreat

namespace Go.Proofs.YtlejobomjgccnaaGreat
open Go.RowKit

theorem room_at5 {w : World} {g : Nat} {t : TypeId} {a b c d e : Value} (h : Whole w g t #[a, b, c, d, e]) :
    w.cell? ⟨g, 0, none⟩ = some a ∧ w.cell? ⟨g, 1, none⟩ = some b ∧ w.cell? ⟨g, 2, none⟩ = some c ∧ w.cell? ⟨g, 3, none⟩ = some d ∧ w.cell? ⟨g, 4, none⟩ = some e :=
  ⟨h.cell 0 rfl, h.cell 1 rfl, h.cell 2 rfl, h.cell 3 rfl, h.cell 4 rfl⟩
/-- A room whose Left is known. -/
def LeftIs (r : Rm) (L : Nat) : Prop := ∀ w, Calls Tryz.prog 88 #[roomV r] w fun e w' => e = .returned (.int .i64 ((L : Nat) : Int)) ∧ Keeps NoBlock w w'

set_option maxHeartbeats 4000000 in
set_option maxRecDepth 10000 in
theorem fits_any (r : Rm) (L : Nat) (HL : LeftIs r L) (z : Int) (w : World) :
    Calls Tryz.prog 56 #[roomV r, .int .i64 z] w fun e w' => e = .returned (.bool (decide (1 ≤ z) && decide (z ≤ (L : Int)))) ∧ Keeps NoBlock w w' := by
  have HL := Lib.hid HL
  unfold LeftIs at HL
  have HW := Lib.hid (Whole.new w 47 (roomCells r))
  have HK := Lib.hid ((Keeps.refl NoBlock w).alloc (.cells (roomCells r) 47))
  obtain ⟨e, s, num, used, count⟩ := r
  unfold roomV at *
  unfold roomCells at HW HK
  simp only at HW HK HL ⊢
  obtain ⟨c0, c1, c2, c3, c4⟩ := room_at (r := ⟨e, s, num, used, count⟩) HW.out
  by_cases z1 : 1 ≤ z
  · have d1 : decide (1 ≤ z) = true := decide_eq_true z1
    rw [d1, Bool.true_and]
    go_enter Tryz.func56, Tryz.ntmps56
    go_wp2_with fail
    refine (HL.out _).mono ?_
    rintro e9 w1 ⟨rfl, hk⟩
    have HK := Lib.hid (HK.out.trans hk)
    clear hk c0 c1 c2 c3 c4
    go_wp2_with fail
    go_ret
    exact ⟨rfl, HK.out⟩
  · have d1 : decide (1 ≤ z) = false := decide_eq_false z1
    rw [d1, Bool.false_and]
    go_enter Tryz.func56, Tryz.ntmps56
    go_wp2_with fail
    go_ret
    exact ⟨rfl, HK.out⟩
theorem fits_own (r : Rm) (z : Int) (w : World) (hr : r.Real) :
    Calls Tryz.prog 56 #[roomV r, .int .i64 z] w fun e w' => e = .returned (.bool (fitsP r z)) ∧ Keeps NoBlock w w' := by
  have h := fits_any r (leftP r) (fun w => left_own r w hr) z w
  rw [show fitsP r z = (decide (1 ≤ z) && decide (z ≤ (leftP r : Int))) from by
    rw [Bool.eq_iff_iff, fitsP_left, Bool.and_eq_true, decide_eq_true_iff, decide_eq_true_iff]]
  exact h
theorem fits_none (z : Int) (w : World) :
    Calls Tryz.prog 56 #[roomV Rm.none, .int .i64 z] w fun e w' => e = .returned (.bool false) ∧ Keeps NoBlock w w' := by
  have h := fits_any Rm.none 0 left_none z w
  rw [show (decide (1 ≤ z) && decide (z ≤ ((0 : Nat) : Int))) = false from by
    rw [Bool.eq_false_iff]; intro h; rw [Bool.and_eq_true, decide_eq_true_iff, decide_eq_true_iff] at h; omega] at h
  exact h

set_option maxHeartbeats 4000000 in
set_option maxRecDepth 10000 in
theorem take_own (r : Rm) (z : Int) (w : World) (hr : r.Real) (hc9 : r.count < 10000) :
    Calls Tryz.prog 31 #[roomV r, .int .i64 z] w fun e w' => e = .returned (.tuple #[roomV (if fitsP r z = true then takeP r z else Rm.none), .int .i64 (if fitsP r z = true then 0 else 7)]) ∧ Keeps NoBlock w w' := by
  have HF := Lib.hid (fun w => fits_own r z w hr)
  have HW := Lib.hid ((Whole.new w 47 (roomCells r)).alloc (.cells (roomCells Rm.none) 47))
  have HZ := Lib.hid (Whole.newAt (w.alloc (.cells (roomCells r) 47)) 47 (roomCells Rm.none) (w.heap.size + 1) (by simp))
  have HK := Lib.hid (((Keeps.refl NoBlock w).alloc (.cells (roomCells r) 47)).alloc (.cells (roomCells Rm.none) 47))
  by_cases hf : fitsP r z = true
  rotate_left
  · have hf0 : fitsP r z = false := by simpa using hf
    rw [if_neg hf, if_neg hf]
    rw [hf0] at HF
    clear hf hf0 hr hc9
    obtain ⟨e, s, num, used, count⟩ := r
    unfold Rm.none at *
    unfold roomV at *
    unfold roomCells at HW HK HZ
    simp only at HW HK HF HZ ⊢
    obtain ⟨c0, c1, c2, c3, c4⟩ := room_at (r := ⟨e, s, num, used, count⟩) HW.out
    go_enter Tryz.func31, Tryz.ntmps31
    go_wp2_with fail
    refine (HF.out _).mono ?_
    rintro e9 w1 ⟨rfl, hk⟩
    have HZ := Lib.hid (HZ.out.keep hk (fun h => h))
    have HK := Lib.hid (HK.out.trans hk)
    clear hk c0 c1 c2 c3 c4
    obtain ⟨c0, c1, c2, c3, c4⟩ := room_at (r := ⟨0, 0, 0, 0, 0⟩) HZ.out
    obtain ⟨q0, q1, q2, q3, q4⟩ := room_free HZ.out
    obtain ⟨g0, g1, g2, g3, g4⟩ := room_at (r := ⟨0, 0, 0, 0, 0⟩) (Whole.set5 HZ.out (.int .u8 (0 : Int)) (.int .u32 (0 : Int)) (.int .u32 (0 : Int)) (.int .i64 (0 : Int)) (.int .i64 (0 : Int)))
    go_wp2_with fail
    exact bodyPost_ret (v := .tuple #[roomV Rm.none, .int .i64 7]) (by simp [results, Tryz.results31, go_sem, roomV, Rm.none, c0, c1, c2, c3, c4]) rfl ⟨rfl, HK.out.new5 (by omega) (.int .u8 (0 : Int)) (.int .u32 (0 : Int)) (.int .u32 (0 : Int)) (.int .i64 (0 : Int)) (.int .i64 (0 : Int))⟩
  rw [if_pos hf, if_pos hf]
  rw [hf] at HF
  obtain ⟨hz1, hz2⟩ := fitsP_true.1 hf
  have hsm := hr.small
  have he2 := (two_e hsm.1).2
  have hU : takeP r z = ⟨r.e, r.s, r.num, r.used + z.toNat, r.count + 1⟩ := rfl
  obtain ⟨U, hUe⟩ : ∃ U, U = r.used + z.toNat := ⟨_, rfl⟩
  obtain ⟨P, hP⟩ : ∃ P, P = 2 ^ r.e := ⟨_, rfl⟩
  rw [← hUe] at hU
  rw [hU]
  rw [← hP] at hz2 he2
  have hsum : (r.used : Int) + z = (U : Int) := by omega
  have hsz : (U : Int) ≤ 16777216 := by omega
  clear hf hr hU hUe hP hz2 hz1 hsm
  obtain ⟨e, s, num, used, count⟩ := r
  simp only at hsum hc9
  unfold roomV at *
  unfold roomCells Rm.none at HW HK HZ
  simp only at HW HK HF HZ ⊢
  obtain ⟨c0, c1, c2, c3, c4⟩ := room_at (r := ⟨e, s, num, used, count⟩) HW.out
  have w1 : IntKind.i64.wrap ((used : Int) + z) = (U : Int) := by rw [hsum]; exact IntWalk.i64_in _ (by omega)
  have w2 : IntKind.i64.wrap ((count : Int) + 1) = (count : Int) + 1 := IntWalk.i64_in _ (by omega)
  go_enter Tryz.func31, Tryz.ntmps31
  go_wp2_with fail
  refine (HF.out _).mono ?_
  rintro e9 w1 ⟨rfl, hk⟩
  have HW := Lib.hid (HW.out.keep hk (fun h => h))
  have HZ := Lib.hid (HZ.out.keep hk (fun h => h))
  have HK := Lib.hid (HK.out.trans hk)
  clear hk c0 c1 c2 c3 c4
  obtain ⟨c0, c1, c2, c3, c4⟩ := room_at (r := ⟨e, s, num, used, count⟩) HW.out
  obtain ⟨p0, p1, p2, p3, p4⟩ := room_free HW.out
  obtain ⟨q0, q1, q2, q3, q4⟩ := room_free HZ.out
  obtain ⟨y0, y1, y2, y3, y4⟩ := room_at (r := ⟨0, 0, 0, 0, 0⟩) HZ.out
  have HZ2 := Lib.hid ((HZ.out.setOther (p := ⟨w.heap.size, 3, none⟩) (by simp) (.int .i64 (U : Int))).setOther (p := ⟨w.heap.size, 4, none⟩) (by simp) (.int .i64 ((count : Int) + 1)))
  have HK2 := Lib.hid ((HK.out.setNew (Nat.le_refl _) 3 (.int .i64 (U : Int))).setNew (Nat.le_refl _) 4 (.int .i64 ((count : Int) + 1)))
  obtain ⟨g0, g1, g2, g3, g4⟩ := room_at5 (Whole.set5 HZ2.out (.int .u8 ((e : Nat) : Int)) (.int .u32 ((s : Nat) : Int)) (.int .u32 ((num : Nat) : Int)) (.int .i64 ((U : Nat) : Int)) (.int .i64 ((count : Int) + 1)))
  have HK3 := Lib.hid (HK2.out.new5 (k := w.heap.size + 1) (by omega) (.int .u8 ((e : Nat) : Int)) (.int .u32 ((s : Nat) : Int)) (.int .u32 ((num : Nat) : Int)) (.int .i64 ((U : Nat) : Int)) (.int .i64 ((count : Int) + 1)))
  go_wp2_with fail
  exact bodyPost_ret (v := .tuple #[.agg #[.int .u8 (e : Int), .int .u32 (s : Int), .int .u32 (num : Int), .int .i64 (U : Int), .int .i64 ((count : Int) + 1)], .int .i64 0]) (by simp [results, Tryz.results31, go_sem, g0, g1, g2, g3, g4]) rfl ⟨rfl, HK3.out⟩
end Go.Proofs.YtlejobomjgccnaaGreat

namespace Go.Proofs.YtlejobomjgccnaaGreat
open Go.RowKit

/-- A builder's cells, its frames' row, its places' row. -/
structure BuildAt (w : World) (g : Nat) (f p : Value) (e s n : Nat) (l : List Rec) : Prop where
  cells : Whole w g 73 (bCells e s n (outS e s n l).length l.length f p)
  frames : w.ownsRow 0 5 1 f (outS e s n l).length ((outS e s n l).map (Value.int .u8))
  places : w.ownsRow 0 80 2 p l.length (twoFlat enH enA (entsS e s n l))
def bF (g : Nat) (f p : Value) : Nat → Prop := fun k => k = g ∨ f.ownBlock = some k ∨ p.ownBlock = some k
def SgAt : BAt := fun w F v e s n l => ∃ g f p, v = .pointer (some ⟨g, 0, none⟩) ∧ F = bF g f p ∧ BuildAt w g f p e s n l
theorem BuildAt.keep {w w' : World} {g : Nat} {f p : Value} {e s n : Nat} {l : List Rec} {S : Nat → Prop} (h : BuildAt w g f p e s n l) (hk : Keeps S w w') (hs : ∀ k, bF g f p k → ¬ S k) : BuildAt w' g f p e s n l :=
  ⟨h.cells.keep hk (hs g (.inl rfl)), ownBlocks h.frames (fun k hk' => hk.block k (h.frames.lt k hk').2 (hs k (.inr (.inl hk')))), ownBlocks h.places (fun k hk' => hk.block k (h.places.lt k hk').2 (hs k (.inr (.inr hk'))))⟩
theorem BuildAt.old {w : World} {g : Nat} {f p : Value} {e s n : Nat} {l : List Rec} (h : BuildAt w g f p e s n l) : ∀ k, bF g f p k → k < w.heap.size := fun k hk => by
  rcases hk with rfl | hk | hk
  · exact h.cells.lt
  · exact (h.frames.lt k hk).2
  · exact (h.places.lt k hk).2
theorem sg_build : SgBuild SgAt where
  keep := fun {w w' F S v e s n l} h hk hs => by
    obtain ⟨g, f, p, hv, rfl, hb⟩ := h
    exact ⟨g, f, p, hv, rfl, hb.keep hk hs⟩
  old := fun {w F v e s n l} h => by
    obtain ⟨g, f, p, hv, rfl, hb⟩ := h
    exact hb.old
  ptr := fun {w F v e s n l} h => by
    obtain ⟨g, f, p, hv, _⟩ := h
    exact ⟨g, hv⟩
theorem out_pos (e s n : Nat) (l : List Rec) : 0 < (outS e s n l).length := by
  unfold outS
  rw [List.length_append, (seal_length _).1]
  omega
/-- What can be read of the frames' row. -/
theorem BuildAt.read {w : World} {g : Nat} {f p : Value} {e s n : Nat} {l : List Rec} (h : BuildAt w g f p e s n l) :
    ∃ gf d, f = .slice (some ⟨gf, 0, none⟩) (outS e s n l).length d ∧ (outS e s n l).length ≤ d ∧ d ≤ 9223372036854775807 ∧ Bytes8 w (some ⟨gf, 0, none⟩) (outS e s n l) := by
  obtain ⟨gf, d, cur, hv, h1, h2, _, hw, hc⟩ := (OwnP.ofRow h.frames).whole rfl (out_pos e s n l)
  exact ⟨gf, d, hv, h1, h2, hw.bytes _ hc⟩
/-- .. and of the places'. -/
theorem BuildAt.row {w : World} {g : Nat} {f p : Value} {e s n : Nat} {l : List Rec} (h : BuildAt w g f p e s n l) (hl : (outS e s n l).length ≤ 100000000) :
    ∃ q d, p = .slice q l.length d ∧ InE w q l.length d (entsS e s n l) := by
  obtain ⟨q, d, hv, h1, h2, h3, h4⟩ := TwosAt.ofOwn (dd := En.none) h.places (ents_len e s n l).symm
  exact ⟨q, d, hv, (ents_len e s n l).symm, h1, h2, h3, ents_fine hl, h4⟩
/-- Nothing of the builder's has turned. -/
theorem sg_same {w w' : World} {F : Nat → Prop} {v : Value} {e s n : Nat} {l : List Rec} (h : SgAt w F v e s n l) (hk : Keeps NoBlock w w') : SgSame SgAt F w v e s n l w' :=
  ⟨hk.wider (fun _ _ h => h.elim), F, fun _ h => .inl h, sg_build.keep h hk (fun _ _ h => h)⟩
theorem sg_gives {w w' : World} {F : Nat → Prop} {v u : Value} {e s n : Nat} {l : List Rec} {ys : List Int} (h : SgAt w F v e s n l) (hk : Keeps NoBlock w w') (ho : OwnB w ys u w') : SgGives SgAt F w v e s n l ys u w' :=
  ⟨hk.wider (fun _ _ h => h.elim), ho, F, fun _ h => .inl h, sg_build.keep h hk (fun _ _ h => h), fun k hf hu => by have h1 := sg_build.old h k hf; have h2 := (OwnP.lt ho k hu).1; omega⟩

set_option maxHeartbeats 2000000 in
set_option maxRecDepth 10000 in
theorem sg_room : SgRoomOk SgAt := ⟨fun F v e s n l w h hr h9 hf => by
  obtain ⟨g, f, p, rfl, rfl, hb⟩ := h
  have HS := Lib.hid (fun w' hk => sg_same (w := w) (w' := w') ⟨g, f, p, rfl, rfl, hb⟩ hk)
  have hlt := hb.cells.lt
  have HC := Lib.hid (hb.cells.alloc (.cells #[.int .u8 0, .int .u32 0, .int .u32 0, .int .i64 0, .int .i64 0] 47))
  have HZ := Lib.hid (Whole.new w 47 #[.int .u8 0, .int .u32 0, .int .u32 0, .int .i64 0, .int .i64 0])
  have HK := Lib.hid ((Keeps.refl NoBlock w).alloc (.cells #[.int .u8 0, .int .u32 0, .int .u32 0, .int .i64 0, .int .i64 0] 47))
  have hd : roomV (sgRoom e s n l) = .agg #[.int .u8 (e : Int), .int .u32 (s : Int), .int .u32 (n : Int), .int .i64 ((outS e s n l).length : Int), .int .i64 (l.length : Int)] := rfl
  rw [hd]
  obtain ⟨u, hu⟩ : ∃ u, u = (outS e s n l).length := ⟨_, rfl⟩
  obtain ⟨k, hk⟩ : ∃ k, k = l.length := ⟨_, rfl⟩
  rw [← hu, ← hk] at HC ⊢
  clear hd hu hk hb hr h9 hf
  obtain ⟨c0, c1, c2, c3, c4, -, -⟩ := bcells_at HC.out
  obtain ⟨q0, q1, q2, q3, q4⟩ := room_free HZ.out
  obtain ⟨y0, y1, y2, y3, y4⟩ := room_at5 HZ.out
  go_enter Tryz.func17, Tryz.ntmps17
  go_wp2_with fail
  obtain ⟨g0, g1, g2, g3, g4⟩ := room_at5 (Whole.new w 47 #[.int .u8 (e : Int), .int .u32 (s : Int), .int .u32 (n : Int), .int .i64 (u : Int), .int .i64 (k : Int)])
  have HK3 := Lib.hid ((Keeps.refl NoBlock w).alloc (.cells #[.int .u8 (e : Int), .int .u32 (s : Int), .int .u32 (n : Int), .int .i64 (u : Int), .int .i64 (k : Int)] 47))
  exact bodyPost_ret (v := .agg #[.int .u8 (e : Int), .int .u32 (s : Int), .int .u32 (n : Int), .int .i64 (u : Int), .int .i64 (k : Int)]) (by simp [results, Tryz.results17, go_sem, g0, g1, g2, g3, g4]) rfl ⟨rfl, HS.out _ HK3.out⟩⟩

set_option maxHeartbeats 2000000 in
set_option maxRecDepth 10000 in
theorem sg_frames : SgFramesOk SgAt := ⟨fun F v e s n l w h hr h9 hf => by
  obtain ⟨g, f, p, rfl, rfl, hb⟩ := h
  have HS := Lib.hid (fun w' u hk ho => sg_gives (w := w) (w' := w') (u := u) (ys := outS e s n l) ⟨g, f, p, rfl, rfl, hb⟩ hk ho)
  have hpos := out_pos e s n l
  have hfit := out_fits hr
  have h2 := (two_e (mayHead_true.1 hr.real.may).2.1).2
  obtain ⟨gf, d, rfl, hd1, hd2, h8⟩ := hb.read
  have hfit2 : (outS e s n l).length ≤ 2 ^ e := hfit
  have h22 : 2 ^ e ≤ 16777216 := h2
  have HCl := Lib.hid (clone_row (some ⟨gf, 0, none⟩) (outS e s n l).length d (outS e s n l) w rfl (by omega) hpos h8)
  obtain ⟨c0, c1, c2, c3, c4, c5, c6⟩ := bcells_at hb.cells
  have hlt := hb.cells.lt
  obtain ⟨xs, hxs⟩ : ∃ xs, xs = outS e s n l := ⟨_, rfl⟩
  have HXe := Lib.hid hxs
  rw [← hxs] at HCl c5
  obtain ⟨m, hm⟩ : ∃ m, m = xs.length := ⟨_, rfl⟩
  have HM := Lib.hid hm
  rw [← hm] at HCl c5
  clear hm hxs hb hr h9 hf hpos hfit h2 h8 hfit2 h22 hd1 hd2 c0 c1 c2 c3 c4 c6
  go_enter Tryz.func20, Tryz.ntmps20
  go_wp2_with fail
  refine HCl.out.mono ?_
  rintro r w1 ⟨u, rfl, ho, hk⟩
  have HN := Lib.hid (HS.out w1 u hk (by
    have h := OwnP.ofRow ho
    rw [HM.out, HXe.out] at h
    exact h))
  clear ho hk
  go_wp2_with fail
  go_ret
  exact ⟨u, rfl, HN.out⟩⟩

set_option maxHeartbeats 2000000 in
set_option maxRecDepth 10000 in
theorem sg_open : SgOpenOk SgAt := ⟨fun F v e s n l w h hr h9 hf => by
  obtain ⟨g, f, p, rfl, rfl, hb⟩ := h
  have HS := Lib.hid (fun w' u hk ho => sg_gives (w := w) (w' := w') (u := u) (ys := textS e s n l false) ⟨g, f, p, rfl, rfl, hb⟩ hk ho)
  have hm := mayHead_true.1 hr.real.may
  have hmc : mayC e s = true := mayC_true.2 ⟨hm.1, hm.2.1, by have := hm.2.2.2.2; have := hm.2.2.2.1; show 1 ≤ s; have h5 : n < s := hm.2.2.2.2; omega, hm.2.2.2.1⟩
  obtain ⟨gf, d, rfl, hd1, hd2, h8⟩ := hb.read
  have HW := Lib.hid (whole_own g e s n _ _ (some ⟨gf, 0, none⟩) (outS e s n l).length d p (outS e s n l) none 0 0 [] w hb.cells hmc rfl h8 rfl (Bytes8.nil _ _) (by have := out_fits hr; omega))
  have ht : textS e s n l false = outS e s n l ++ [] ++ List.replicate (2 ^ e - (outS e s n l ++ []).length) 255 := rfl
  rw [ht] at HS
  clear ht hb hr h9 hf hm hmc hd1 hd2 h8
  go_enter Tryz.func21, Tryz.ntmps21
  go_wp2_with fail
  refine HW.out.mono ?_
  rintro r w1 ⟨u, rfl, ho, hk⟩
  have HN := Lib.hid (HS.out w1 u hk ho)
  clear ho hk
  go_wp2_with fail
  go_ret
  exact ⟨u, rfl, HN.out⟩⟩
end Go.Proofs.YtlejobomjgccnaaGreat

namespace Go.Proofs.YtlejobomjgccnaaGreat
open Go.RowKit

def d1 (X : List Int) (E : Int) : Nat := if E = 0 then (if X = [] then 0 else 1) else 0
def f1 (X : List Int) (E : Int) : Int := if E = 0 then (if X = [] then 2 else 0) else E
def b1 (X : List Int) (E : Int) : Int := if E = 0 then X.headD 0 else 0
def dv (X : List Int) (E : Int) : Nat := if E = 0 then (vget X).n else 0
def fv (X : List Int) (E : Int) : Int := if E = 0 then (vget X).e else E
/-- The readings of a head, one behind the other. -/
structure HS where
  X : List Int
  E : Int
  v : Int
def s1 (X : List Int) (E : Int) : HS := ⟨X.drop (d1 X E), f1 X E, b1 X E⟩
end Go.Proofs.YtlejobomjgccnaaGreat

namespace Go.Proofs.YtlejobomjgccnaaGreat
open Go.RowKit

end Go.Proofs.YtlejobomjgccnaaGreat

namespace Go.Proofs.YtlejobomjgccnaaGreat
open Go.RowKit

end Go.Proofs.YtlejobomjgccnaaGreat

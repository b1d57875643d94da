/-
  ConfLaws; ConfOwn; PkLeft; PkFits; FrStep; FrGetH2.
-/
import Derived.Deep.Cut
import Derived.Test.YtibojgoeaoinpaaM13
import Derived.Test.YtibojgoeaoinpaaM15
import Derived.Test.YtibojgoeaoinpaaM20
namespace Go.Proofs.Ytibojgoeaoinpaa
open Go.RowKit

def whereC (e s x : Nat) : Nat × Nat × Int := if mayC e s = true then (if x / 2 ^ e < s then (x / 2 ^ e, x % 2 ^ e, 0) else (0, 0, 10)) else (0, 0, 1)
def got8 (t : Nat × Int) : Value := .tuple #[.int .u32 (t.1 : Int), .int .i64 t.2]
def checkC (e s : Nat) : Int := if mayC e s = true then 0 else 1
def sizeC (e s : Nat) : Nat := if mayC e s = true then 2 ^ e else 0

end Go.Proofs.Ytibojgoeaoinpaa

namespace Go.Proofs.Ytibojgoeaoinpaa
open Go.RowKit

set_option maxHeartbeats 2000000 in
set_option maxRecDepth 10000 in
theorem check_conf (e s : Nat) (w : World) : Calls Try.prog 18 #[confV e s] w fun r w' => r = .returned (.int .i64 (checkC e s)) ∧ Keeps NoBlock w w' := by
  have HR := Lib.hid (Whole.new w 24 (confCells e s))
  have HK := Lib.hid ((Keeps.refl NoBlock w).alloc (.cells (confCells e s) 24))
  by_cases h1 : 12 ≤ e
  · have d1 : decide ((e : Int) < 12) = false := decide_eq_false (by omega)
    by_cases h2 : e ≤ 24
    · have d2 : decide ((24 : Int) < (e : Int)) = false := decide_eq_false (by omega)
      by_cases h3 : 1 ≤ s
      · have d3 : decide ((s : Int) < 1) = false := decide_eq_false (by omega)
        by_cases h4 : s ≤ 65536
        · have d4 : decide ((65536 : Int) < (s : Int)) = false := decide_eq_false (by omega)
          have HM := Lib.hid (show checkC e s = 0 by unfold checkC; rw [if_pos (mayC_true.2 ⟨h1, h2, h3, h4⟩)])
          unfold confV
          go_enter Try.func18, Try.ntmps18
          go_wp2_with fail
          go_ret
          rw [HM.out]
          exact ⟨rfl, HK.out⟩
        · have d4 : decide ((65536 : Int) < (s : Int)) = true := decide_eq_true (by omega)
          have HM := Lib.hid (show checkC e s = 1 by unfold checkC; rw [if_neg (fun h => by have := mayC_true.1 h; omega)])
          unfold confV
          go_enter Try.func18, Try.ntmps18
          go_wp2_with fail
          go_ret
          rw [HM.out]
          exact ⟨rfl, HK.out⟩
      · have d3 : decide ((s : Int) < 1) = true := decide_eq_true (by omega)
        have HM := Lib.hid (show checkC e s = 1 by unfold checkC; rw [if_neg (fun h => by have := mayC_true.1 h; omega)])
        unfold confV
        go_enter Try.func18, Try.ntmps18
        go_wp2_with fail
        go_ret
        rw [HM.out]
        exact ⟨rfl, HK.out⟩
    · have d2 : decide ((24 : Int) < (e : Int)) = true := decide_eq_true (by omega)
      have HM := Lib.hid (show checkC e s = 1 by unfold checkC; rw [if_neg (fun h => by have := mayC_true.1 h; omega)])
      unfold confV
      go_enter Try.func18, Try.ntmps18
      go_wp2_with fail
      go_ret
      rw [HM.out]
      exact ⟨rfl, HK.out⟩
  · have d1 : decide ((e : Int) < 12) = true := decide_eq_true (by omega)
    have HM := Lib.hid (show checkC e s = 1 by unfold checkC; rw [if_neg (fun h => by have := mayC_true.1 h; omega)])
    unfold confV
    go_enter Try.func18, Try.ntmps18
    go_wp2_with fail
    go_ret
    rw [HM.out]
    exact ⟨rfl, HK.out⟩

theorem checkC_may {e s : Nat} (h : mayC e s = true) : checkC e s = 0 := by unfold checkC; rw [if_pos h]
theorem checkC_not {e s : Nat} (h : mayC e s = false) : checkC e s = 1 := by unfold checkC; rw [if_neg (by rw [h]; decide)]
theorem shl_one {e : Nat} (h : e ≤ 24) : Op.shift BinOp.shl IntKind.i64 1 IntKind.u8 (e : Int) = pure (.int .i64 ((2 ^ e : Nat) : Int)) := by
  have : e = 0 ∨ e = 1 ∨ e = 2 ∨ e = 3 ∨ e = 4 ∨ e = 5 ∨ e = 6 ∨ e = 7 ∨ e = 8 ∨ e = 9 ∨ e = 10 ∨ e = 11 ∨ e = 12 ∨ e = 13 ∨ e = 14 ∨ e = 15 ∨ e = 16 ∨ e = 17 ∨ e = 18 ∨ e = 19 ∨ e = 20 ∨ e = 21 ∨ e = 22 ∨ e = 23 ∨ e = 24 := by omega
  rcases this with rfl | rfl | rfl | rfl | rfl | rfl | rfl | rfl | rfl | rfl | rfl | rfl | rfl | rfl | rfl | rfl | rfl | rfl | rfl | rfl | rfl | rfl | rfl | rfl | rfl <;> rfl

set_option maxHeartbeats 2000000 in
set_option maxRecDepth 10000 in
theorem size_conf (e s : Nat) (w : World) : Calls Try.prog 22 #[confV e s] w fun r w' => r = .returned (.int .i64 (sizeC e s : Int)) ∧ Keeps NoBlock w w' := by
  have HR := Lib.hid (Whole.new w 24 (confCells e s))
  have HK := Lib.hid ((Keeps.refl NoBlock w).alloc (.cells (confCells e s) 24))
  have H1 := Lib.hid (fun w => check_conf e s w)
  by_cases hm : mayC e s = true
  · have HM := Lib.hid (show sizeC e s = 2 ^ e by unfold sizeC; rw [if_pos hm])
    have he := (mayC_true.1 hm).2.1
    have hsh := shl_one he
    rw [checkC_may hm] at H1
    obtain ⟨q, hq⟩ : ∃ q, q = 2 ^ e := ⟨_, rfl⟩
    rw [← hq] at HM hsh
    clear hq hm he
    unfold confV at H1
    unfold confV
    go_enter Try.func22, Try.ntmps22
    go_wp2_with fail
    refine (H1.out _).mono ?_
    rintro r w1 ⟨rfl, hk⟩
    have HR := Lib.hid (HR.out.keep hk (fun h => h))
    have HK := Lib.hid (HK.out.trans hk)
    clear hk
    have c0 := HR.out.cell 0 rfl
    have c1 := HR.out.cell 1 rfl
    simp only [confCells, List.getElem_toArray, List.getElem_cons_zero, List.getElem_cons_succ] at c0 c1
    go_wp2_with fail
    go_ret
    rw [HM.out]
    exact ⟨rfl, HK.out⟩
  · have HM := Lib.hid (show sizeC e s = 0 by unfold sizeC; rw [if_neg hm])
    have hmf : mayC e s = false := by simpa using hm
    rw [checkC_not hmf] at H1
    clear hm hmf
    unfold confV at H1
    unfold confV
    go_enter Try.func22, Try.ntmps22
    go_wp2_with fail
    refine (H1.out _).mono ?_
    rintro r w1 ⟨rfl, hk⟩
    have HR := Lib.hid (HR.out.keep hk (fun h => h))
    have HK := Lib.hid (HK.out.trans hk)
    clear hk
    go_wp2_with fail
    go_ret
    rw [HM.out]
    exact ⟨rfl, HK.out⟩
end Go.Proofs.Ytibojgoeaoinpaa

namespace Go.Proofs.Ytibojgoeaoinpaa
open Go.RowKit

theorem sizeC_le (e s : Nat) : sizeC e s ≤ 16777216 := by
  unfold sizeC
  split
  · rename_i h
    exact (two_e (mayC_true.1 h).2.1).2
  · exact Nat.zero_le _

set_option maxHeartbeats 4000000 in
set_option maxRecDepth 10000 in
theorem left_any (r : Rm) (w : World) (hc : r.count ≤ 10000) (hu : r.used ≤ 16777216) (hcu : r.count < r.used) :
    Calls Try.prog 13 #[roomV r] w fun e w' => e = .returned (.int .i64 ((sizeC r.e r.s - (r.used + mostFt (r.count + 1)) : Nat) : Int)) ∧ Keeps NoBlock w w' := by
  have HSz := Lib.hid (fun w => size_conf r.e r.s w)
  have HMo := Lib.hid (fun w => ftmost_own ((r.count + 1 : Nat) : Int) w (by omega) (by omega))
  have hlin := mostFt_lin (r.count + 1)
  have hpos := mostFt_pos (r.count + 1)
  have hp := sizeC_le r.e r.s
  have HW := Lib.hid (Whole.new w 28 (roomCells r))
  have HK := Lib.hid ((Keeps.refl NoBlock w).alloc (.cells (roomCells r) 28))
  obtain ⟨p, hpp⟩ : ∃ p, p = sizeC r.e r.s := ⟨_, rfl⟩
  obtain ⟨m, hm⟩ : ∃ m, m = mostFt (r.count + 1) := ⟨_, rfl⟩
  rw [← hpp] at HSz hp ⊢
  rw [show ((r.count + 1 : Nat) : Int).toNat = r.count + 1 from Int.toNat_natCast _, ← hm] at HMo
  rw [← hm] at hlin hpos ⊢
  rw [show ((r.count + 1 : Nat) : Int) = (r.count : Int) + 1 by omega] at HMo
  obtain ⟨Z, hZ⟩ : ∃ Z, Z = p - (r.used + m) := ⟨_, rfl⟩
  rw [← hZ]
  have HZ := Lib.hid hZ
  obtain ⟨e, s, num, used, count⟩ := r
  simp only at hu hc hcu hlin HSz HMo hp HZ
  clear hpp hm hZ
  unfold roomV confV at *
  unfold roomCells at HW HK
  simp only at HW HK HSz ⊢
  obtain ⟨c0, c1, c2, c3, c4⟩ := room_at (r := ⟨e, s, num, used, count⟩) HW.out
  go_enter Try.func13, Try.ntmps13
  go_wp2_with fail
  refine (HSz.out _).mono ?_
  rintro e9 w1 ⟨rfl, hk⟩
  have HW := Lib.hid (HW.out.keep hk (fun h => h))
  have HK := Lib.hid (HK.out.trans hk)
  clear hk c0 c1 c2 c3 c4
  obtain ⟨c0, c1, c2, c3, c4⟩ := room_at (r := ⟨e, s, num, used, count⟩) HW.out
  have n1 : ¬ (count : Int) < 0 := by omega
  have n3 : ¬ (used : Int) < (count : Int) := by omega
  have n4 : ¬ used < count := by omega
  have n5 : decide ((count : Int) < 0) = false := decide_eq_false n1
  have n7 : ¬ (used : Int) ≤ (count : Int) := by omega
  have n8 : ¬ used ≤ count := by omega
  by_cases hs : p ≤ used
  · have g1 : decide ((p : Int) ≤ (used : Int)) = true := decide_eq_true (by omega)
    have g2 : decide (p ≤ used) = true := decide_eq_true hs
    go_wp2_with fail
    go_ret
    exact ⟨by rw [HZ.out, show p - (used + m) = 0 by omega]; rfl, HK.out⟩
  have g1 : decide ((p : Int) ≤ (used : Int)) = false := decide_eq_false (by omega)
  have g2 : decide (p ≤ used) = false := decide_eq_false hs
  have w6 : IntKind.i64.wrap ((count : Int) + 1) = (count : Int) + 1 := IntWalk.i64_in _ (by omega)
  have w7 : IntKind.i64.wrap ((p : Int) - (used : Int)) = (p : Int) - (used : Int) := IntWalk.i64_in _ (by omega)
  have w8 : IntKind.i64.wrap ((p : Int) - (used : Int) - (m : Int)) = (p : Int) - (used : Int) - (m : Int) := IntWalk.i64_in _ (by omega)
  have hmax : max ((p : Int) - (used : Int) - (m : Int)) 0 = (Z : Int) := by have := HZ.out; omega
  go_upto_region 4 with (fail)
  have s0 := And.intro ((Whole.drewN HW.out 1).cell 3 rfl) ((Whole.drewN HW.out 1).cell 4 rfl)
  have sN := And.intro (HW.out.cell 3 rfl) (HW.out.cell 4 rfl)
  simp only [List.getElem_toArray, List.getElem_cons_zero, List.getElem_cons_succ] at s0 sN
  go_region_held3 (fun w' => w'.cell? ⟨w.heap.size, 3, none⟩ = some (.int .i64 (used : Int)) ∧ w'.cell? ⟨w.heap.size, 4, none⟩ = some (.int .i64 (count : Int)))
    (first | exact s5 | exact s0 | exact sN)
    (first | (go_at_call 21; refine (HMo.out _).mono ?_; rintro e9 w5 ⟨rfl, hk⟩; have hk' : Keeps NoBlock w1 w5 := (by first | exact hk | exact hk.ofDrew | exact hk.ofDrewN); have HK := Lib.hid (HK.out.trans hk'); have HW := Lib.hid (HW.out.keep hk' (fun h => h)); have s5 := And.intro (HW.out.cell 3 rfl) (HW.out.cell 4 rfl); simp only [List.getElem_toArray, List.getElem_cons_zero, List.getElem_cons_succ] at s5; clear hk hk'; obtain ⟨w1, rfl⟩ : ∃ x, x = w5 := ⟨_, rfl⟩))
  go_wp2_with fail
  go_ret
  exact ⟨rfl, HK.out⟩

theorem left_own (r : Rm) (w : World) (hr : r.Real) : Calls Try.prog 13 #[roomV r] w fun e w' => e = .returned (.int .i64 ((leftP r : Nat) : Int)) ∧ Keeps NoBlock w w' := by
  obtain ⟨he, hu, hs, hn⟩ := hr.small
  have hh := (headLen_le (e := r.e) (s := r.s) (n := r.num) (by omega) (by omega)).1
  have hd := hr.head
  have h1 := left_any r w hr.few hu (by omega)
  have h2 := (mayHead_true.1 hr.may)
  have h3 : sizeC r.e r.s = 2 ^ r.e := by unfold sizeC; rw [if_pos (mayC_true.2 ⟨h2.1, h2.2.1, h2.2.2.1, h2.2.2.2.1⟩)]
  rw [h3] at h1
  exact h1

set_option maxHeartbeats 4000000 in
set_option maxRecDepth 10000 in
theorem left_none (w : World) : Calls Try.prog 13 #[roomV Rm.none] w fun e w' => e = .returned (.int .i64 (((0 : Nat) : Int))) ∧ Keeps NoBlock w w' := by
  have HSz := Lib.hid (fun w => size_conf 0 0 w)
  rw [show sizeC 0 0 = 0 from by decide] at HSz
  have HW := Lib.hid (Whole.new w 28 (roomCells Rm.none))
  have HK := Lib.hid ((Keeps.refl NoBlock w).alloc (.cells (roomCells Rm.none) 28))
  unfold Rm.none at *
  unfold roomV confV at *
  unfold roomCells at HW HK
  simp only at HW HK HSz ⊢
  obtain ⟨c0, c1, c2, c3, c4⟩ := room_at (r := ⟨0, 0, 0, 0, 0⟩) HW.out
  go_enter Try.func13, Try.ntmps13
  go_wp2_with fail
  refine (HSz.out _).mono ?_
  rintro e9 w1 ⟨rfl, hk⟩
  have HW := Lib.hid (HW.out.keep hk (fun h => h))
  have HK := Lib.hid (HK.out.trans hk)
  clear hk c0 c1 c2 c3 c4
  obtain ⟨c0, c1, c2, c3, c4⟩ := room_at (r := ⟨0, 0, 0, 0, 0⟩) HW.out
  go_wp2_with fail
  go_ret
  exact ⟨rfl, HK.out⟩
end Go.Proofs.Ytibojgoeaoinpaa

namespace Go.Proofs.Ytibojgoeaoinpaa
open Go.RowKit

theorem room_at5 {w : World} {g : Nat} {t : TypeId} {a b c d e : Value} (h : Whole w g t #[a, b, c, d, e]) :
    w.cell? ⟨g, 0, none⟩ = some a ∧ w.cell? ⟨g, 1, none⟩ = some b ∧ w.cell? ⟨g, 2, none⟩ = some c ∧ w.cell? ⟨g, 3, none⟩ = some d ∧ w.cell? ⟨g, 4, none⟩ = some e :=
  ⟨h.cell 0 rfl, h.cell 1 rfl, h.cell 2 rfl, h.cell 3 rfl, h.cell 4 rfl⟩
/-- A room whose Left is known. -/
def LeftIs (r : Rm) (L : Nat) : Prop := ∀ w, Calls Try.prog 13 #[roomV r] w fun e w' => e = .returned (.int .i64 ((L : Nat) : Int)) ∧ Keeps NoBlock w w'

set_option maxHeartbeats 4000000 in
set_option maxRecDepth 10000 in
theorem fits_any (r : Rm) (L : Nat) (HL : LeftIs r L) (z : Int) (w : World) :
    Calls Try.prog 11 #[roomV r, .int .i64 z] w fun e w' => e = .returned (.bool (decide (1 ≤ z) && decide (z ≤ (L : Int)))) ∧ Keeps NoBlock w w' := by
  have HL := Lib.hid HL
  unfold LeftIs at HL
  have HW := Lib.hid (Whole.new w 28 (roomCells r))
  have HK := Lib.hid ((Keeps.refl NoBlock w).alloc (.cells (roomCells r) 28))
  obtain ⟨e, s, num, used, count⟩ := r
  unfold roomV at *
  unfold roomCells at HW HK
  simp only at HW HK HL ⊢
  obtain ⟨c0, c1, c2, c3, c4⟩ := room_at (r := ⟨e, s, num, used, count⟩) HW.out
  by_cases z1 : 1 ≤ z
  · have d1 : decide (1 ≤ z) = true := decide_eq_true z1
    rw [d1, Bool.true_and]
    go_enter Try.func11, Try.ntmps11
    go_wp2_with fail
    refine (HL.out _).mono ?_
    rintro e9 w1 ⟨rfl, hk⟩
    have HK := Lib.hid (HK.out.trans hk)
    clear hk c0 c1 c2 c3 c4
    go_wp2_with fail
    go_ret
    exact ⟨rfl, HK.out⟩
  · have d1 : decide (1 ≤ z) = false := decide_eq_false z1
    rw [d1, Bool.false_and]
    go_enter Try.func11, Try.ntmps11
    go_wp2_with fail
    go_ret
    exact ⟨rfl, HK.out⟩
theorem fits_own (r : Rm) (z : Int) (w : World) (hr : r.Real) :
    Calls Try.prog 11 #[roomV r, .int .i64 z] w fun e w' => e = .returned (.bool (fitsP r z)) ∧ Keeps NoBlock w w' := by
  have h := fits_any r (leftP r) (fun w => left_own r w hr) z w
  rw [show fitsP r z = (decide (1 ≤ z) && decide (z ≤ (leftP r : Int))) from by
    rw [Bool.eq_iff_iff, fitsP_left, Bool.and_eq_true, decide_eq_true_iff, decide_eq_true_iff]]
  exact h
theorem fits_none (z : Int) (w : World) :
    Calls Try.prog 11 #[roomV Rm.none, .int .i64 z] w fun e w' => e = .returned (.bool false) ∧ Keeps NoBlock w w' := by
  have h := fits_any Rm.none 0 left_none z w
  rw [show (decide (1 ≤ z) && decide (z ≤ ((0 : Nat) : Int))) = false from by
    rw [Bool.eq_false_iff]; intro h; rw [Bool.and_eq_true, decide_eq_true_iff, decide_eq_true_iff] at h; omega] at h
  exact h

set_option maxHeartbeats 4000000 in
set_option maxRecDepth 10000 in
theorem take_own (r : Rm) (z : Int) (w : World) (hr : r.Real) (hc9 : r.count < 10000) :
    Calls Try.prog 14 #[roomV r, .int .i64 z] w fun e w' => e = .returned (.tuple #[roomV (if fitsP r z = true then takeP r z else Rm.none), .int .i64 (if fitsP r z = true then 0 else 7)]) ∧ Keeps NoBlock w w' := by
  have HF := Lib.hid (fun w => fits_own r z w hr)
  have HW := Lib.hid ((Whole.new w 28 (roomCells r)).alloc (.cells (roomCells Rm.none) 28))
  have HZ := Lib.hid (Whole.newAt (w.alloc (.cells (roomCells r) 28)) 28 (roomCells Rm.none) (w.heap.size + 1) (by simp))
  have HK := Lib.hid (((Keeps.refl NoBlock w).alloc (.cells (roomCells r) 28)).alloc (.cells (roomCells Rm.none) 28))
  by_cases hf : fitsP r z = true
  rotate_left
  · have hf0 : fitsP r z = false := by simpa using hf
    rw [if_neg hf, if_neg hf]
    rw [hf0] at HF
    clear hf hf0 hr hc9
    obtain ⟨e, s, num, used, count⟩ := r
    unfold Rm.none at *
    unfold roomV at *
    unfold roomCells at HW HK HZ
    simp only at HW HK HF HZ ⊢
    obtain ⟨c0, c1, c2, c3, c4⟩ := room_at (r := ⟨e, s, num, used, count⟩) HW.out
    go_enter Try.func14, Try.ntmps14
    go_wp2_with fail
    refine (HF.out _).mono ?_
    rintro e9 w1 ⟨rfl, hk⟩
    have HZ := Lib.hid (HZ.out.keep hk (fun h => h))
    have HK := Lib.hid (HK.out.trans hk)
    clear hk c0 c1 c2 c3 c4
    obtain ⟨c0, c1, c2, c3, c4⟩ := room_at (r := ⟨0, 0, 0, 0, 0⟩) HZ.out
    obtain ⟨q0, q1, q2, q3, q4⟩ := room_free HZ.out
    obtain ⟨g0, g1, g2, g3, g4⟩ := room_at (r := ⟨0, 0, 0, 0, 0⟩) (Whole.set5 HZ.out (.int .u8 (0 : Int)) (.int .u32 (0 : Int)) (.int .u32 (0 : Int)) (.int .i64 (0 : Int)) (.int .i64 (0 : Int)))
    go_wp2_with fail
    exact bodyPost_ret (v := .tuple #[roomV Rm.none, .int .i64 7]) (by simp [results, Try.results14, go_sem, roomV, Rm.none, c0, c1, c2, c3, c4]) rfl ⟨rfl, HK.out.new5 (by omega) (.int .u8 (0 : Int)) (.int .u32 (0 : Int)) (.int .u32 (0 : Int)) (.int .i64 (0 : Int)) (.int .i64 (0 : Int))⟩
  rw [if_pos hf, if_pos hf]
  rw [hf] at HF
  obtain ⟨hz1, hz2⟩ := fitsP_true.1 hf
  have hsm := hr.small
  have he2 := (two_e hsm.1).2
  have hU : takeP r z = ⟨r.e, r.s, r.num, r.used + z.toNat, r.count + 1⟩ := rfl
  obtain ⟨U, hUe⟩ : ∃ U, U = r.used + z.toNat := ⟨_, rfl⟩
  obtain ⟨P, hP⟩ : ∃ P, P = 2 ^ r.e := ⟨_, rfl⟩
  rw [← hUe] at hU
  rw [hU]
  rw [← hP] at hz2 he2
  have hsum : (r.used : Int) + z = (U : Int) := by omega
  have hsz : (U : Int) ≤ 16777216 := by omega
  clear hf hr hU hUe hP hz2 hz1 hsm
  obtain ⟨e, s, num, used, count⟩ := r
  simp only at hsum hc9
  unfold roomV at *
  unfold roomCells Rm.none at HW HK HZ
  simp only at HW HK HF HZ ⊢
  obtain ⟨c0, c1, c2, c3, c4⟩ := room_at (r := ⟨e, s, num, used, count⟩) HW.out
  have w1 : IntKind.i64.wrap ((used : Int) + z) = (U : Int) := by rw [hsum]; exact IntWalk.i64_in _ (by omega)
  have w2 : IntKind.i64.wrap ((count : Int) + 1) = (count : Int) + 1 := IntWalk.i64_in _ (by omega)
  go_enter Try.func14, Try.ntmps14
  go_wp2_with fail
  refine (HF.out _).mono ?_
  rintro e9 w1 ⟨rfl, hk⟩
  have HW := Lib.hid (HW.out.keep hk (fun h => h))
  have HZ := Lib.hid (HZ.out.keep hk (fun h => h))
  have HK := Lib.hid (HK.out.trans hk)
  clear hk c0 c1 c2 c3 c4
  obtain ⟨c0, c1, c2, c3, c4⟩ := room_at (r := ⟨e, s, num, used, count⟩) HW.out
  obtain ⟨p0, p1, p2, p3, p4⟩ := room_free HW.out
  obtain ⟨q0, q1, q2, q3, q4⟩ := room_free HZ.out
  obtain ⟨y0, y1, y2, y3, y4⟩ := room_at (r := ⟨0, 0, 0, 0, 0⟩) HZ.out
  have HZ2 := Lib.hid ((HZ.out.setOther (p := ⟨w.heap.size, 3, none⟩) (by simp) (.int .i64 (U : Int))).setOther (p := ⟨w.heap.size, 4, none⟩) (by simp) (.int .i64 ((count : Int) + 1)))
  have HK2 := Lib.hid ((HK.out.setNew (Nat.le_refl _) 3 (.int .i64 (U : Int))).setNew (Nat.le_refl _) 4 (.int .i64 ((count : Int) + 1)))
  obtain ⟨g0, g1, g2, g3, g4⟩ := room_at5 (Whole.set5 HZ2.out (.int .u8 ((e : Nat) : Int)) (.int .u32 ((s : Nat) : Int)) (.int .u32 ((num : Nat) : Int)) (.int .i64 ((U : Nat) : Int)) (.int .i64 ((count : Int) + 1)))
  have HK3 := Lib.hid (HK2.out.new5 (k := w.heap.size + 1) (by omega) (.int .u8 ((e : Nat) : Int)) (.int .u32 ((s : Nat) : Int)) (.int .u32 ((num : Nat) : Int)) (.int .i64 ((U : Nat) : Int)) (.int .i64 ((count : Int) + 1)))
  go_wp2_with fail
  exact bodyPost_ret (v := .tuple #[.agg #[.int .u8 (e : Int), .int .u32 (s : Int), .int .u32 (num : Int), .int .i64 (U : Int), .int .i64 ((count : Int) + 1)], .int .i64 0]) (by simp [results, Try.results14, go_sem, g0, g1, g2, g3, g4]) rfl ⟨rfl, HK3.out⟩
end Go.Proofs.Ytibojgoeaoinpaa

namespace Go.Proofs.Ytibojgoeaoinpaa
open Go.RowKit

def d1 (X : List Int) (E : Int) : Nat := if E = 0 then (if X = [] then 0 else 1) else 0
def f1 (X : List Int) (E : Int) : Int := if E = 0 then (if X = [] then 2 else 0) else E
def b1 (X : List Int) (E : Int) : Int := if E = 0 then X.headD 0 else 0
def get1Out (X : List Int) (A E : Int) : Value := .tuple #[rdr (X.drop (d1 X E)) (A + (d1 X E : Int)) (f1 X E), .int .u64 (b1 X E)]
theorem d1_le (X : List Int) (E : Int) : d1 X E ≤ X.length := by
  unfold d1
  split
  · split
    · omega
    · rename_i h
      exact List.length_pos_iff.2 h
  · omega
theorem b1_bound {X : List Int} (h : Octets X) (E : Int) : 0 ≤ b1 X E ∧ b1 X E < 256 := by
  unfold b1
  split
  · cases X with
    | nil => simp
    | cons x r => exact h x List.mem_cons_self
  · omega
def dv (X : List Int) (E : Int) : Nat := if E = 0 then (vget X).n else 0
def fv (X : List Int) (E : Int) : Int := if E = 0 then (vget X).e else E
def bv (X : List Int) (E : Int) : Int := if E = 0 then (if (vget X).e = 0 then (vget X).x else 0) else 0
def getvOut (X : List Int) (A E : Int) : Value := .tuple #[rdr (X.drop (dv X E)) (A + (dv X E : Int)) (fv X E), .int .u64 (bv X E)]
theorem dv_le (X : List Int) (E : Int) : dv X E ≤ X.length := by
  unfold dv
  split
  · exact vread_n 10 true X
  · omega
theorem bv_bound {X : List Int} (h : Octets X) (E : Int) : 0 ≤ bv X E ∧ bv X E < 18446744073709551616 := by
  unfold bv
  split
  · split
    · rename_i h1
      have := vread_bound 9 true X h h1
      exact ⟨this.1, this.2⟩
    · omega
  · omega
/-- The readings of a head, one behind the other. -/
structure HS where
  X : List Int
  E : Int
  v : Int
def s1 (X : List Int) (E : Int) : HS := ⟨X.drop (d1 X E), f1 X E, b1 X E⟩
def sv (X : List Int) (E : Int) : HS := ⟨X.drop (dv X E), fv X E, bv X E⟩
def lastH (a b c : Int) : Int × Nat × Nat × Nat :=
  if b ≤ 4294967295 ∧ c ≤ 4294967295 ∧ mayHead a.toNat b.toNat c.toNat = true then (0, a.toNat, b.toNat, c.toNat) else (1, 0, 0, 0)
def behindH (a : HS) (b : HS) (c : HS) : Int × Nat × Nat × Nat := if endE c.X c.E ≠ 0 then (endE c.X c.E, 0, 0, 0) else lastH a.v b.v c.v
def numsH (a : HS) : Int × Nat × Nat × Nat := behindH a (sv a.X a.E) (sv (sv a.X a.E).X (sv a.X a.E).E)
def verH (a : HS) : Int × Nat × Nat × Nat := if a.E = 0 ∧ a.v ≠ 2 then (4, 0, 0, 0) else numsH (s1 a.X a.E)
def kindH (a : HS) : Int × Nat × Nat × Nat := if a.E = 0 ∧ a.v ≠ 1 then (4, 0, 0, 0) else verH (s1 a.X a.E)
def stepsH (T : List Int) : Int × Nat × Nat × Nat := kindH (s1 T 0)

theorem endE_bad {X : List Int} {E : Int} (h : E ≠ 0) : endE X E = E := by unfold endE; rw [if_neg h]
theorem numsH_bad {a : HS} (h : a.E ≠ 0) : numsH a = (a.E, 0, 0, 0) := by
  have h1 : (sv a.X a.E).E = a.E := by unfold sv fv; rw [if_neg h]
  have h2 : (sv (sv a.X a.E).X (sv a.X a.E).E).E = a.E := by
    rw [h1]
    exact if_neg h
  unfold numsH behindH
  rw [h2, endE_bad h, if_pos h]
theorem verH_bad {a : HS} (h : a.E ≠ 0) : verH a = (a.E, 0, 0, 0) := by
  have h1 : (s1 a.X a.E).E = a.E := by unfold s1 f1; rw [if_neg h]
  unfold verH
  rw [if_neg (fun hh => h hh.1), numsH_bad (by rw [h1]; exact h), h1]
theorem numsH_read (e : Nat) (r : List Int) (hr : Octets r) : numsH ⟨r, 0, (e : Int)⟩ = headNums e r := by
  unfold numsH headNums
  by_cases h1 : (vget r).e ≠ 0
  · rw [if_pos h1]
    have e1 : sv r 0 = ⟨r.drop (vget r).n, (vget r).e, 0⟩ := by unfold sv dv fv bv; simp only [if_true]; rw [if_neg h1]
    simp only [e1]
    have e2 : (sv (r.drop (vget r).n) (vget r).e).E = (vget r).e := by unfold sv fv; rw [if_neg h1]
    unfold behindH
    rw [e2, endE_bad h1, if_pos h1]
  · have h1' : (vget r).e = 0 := by simpa using h1
    rw [if_neg h1]
    have e1 : sv r 0 = ⟨r.drop (vget r).n, 0, (vget r).x⟩ := by unfold sv dv fv bv; simp only [if_true]; rw [if_pos h1', h1']
    simp only [e1]
    have b1 := vread_bound 9 true r hr h1'
    rw [show vread (9 + 1) true r = vget r from rfl] at b1
    obtain ⟨s, hs⟩ := Int.eq_ofNat_of_zero_le b1.1
    have ho2 : Octets (r.drop (vget r).n) := hr.drop _
    obtain ⟨r2, hr2⟩ : ∃ r2, r2 = r.drop (vget r).n := ⟨_, rfl⟩
    rw [← hr2] at ho2 ⊢
    by_cases h2 : (vget r2).e ≠ 0
    · rw [if_pos h2]
      have e2 : (sv r2 0).E = (vget r2).e := by unfold sv fv; simp only [if_true]
      unfold behindH
      rw [e2, endE_bad h2, if_pos h2]
    · have h2' : (vget r2).e = 0 := by simpa using h2
      rw [if_neg h2]
      have e2 : sv r2 0 = ⟨r2.drop (vget r2).n, 0, (vget r2).x⟩ := by unfold sv dv fv bv; simp only [if_true]; rw [if_pos h2', h2']
      have b2 := vread_bound 9 true r2 ho2 h2'
      rw [show vread (9 + 1) true r2 = vget r2 from rfl] at b2
      obtain ⟨n, hn⟩ := Int.eq_ofNat_of_zero_le b2.1
      rw [e2]
      show (if endE (r2.drop (vget r2).n) 0 ≠ 0 then (endE (r2.drop (vget r2).n) 0, 0, 0, 0) else lastH (e : Int) (vget r).x (vget r2).x) = headLast e (vget r).x.toNat (vget r2).x.toNat (r2.drop (vget r2).n)
      unfold headLast
      by_cases h3 : r2.drop (vget r2).n = []
      · have e0 : endE (r2.drop (vget r2).n) 0 = 0 := by unfold endE; rw [if_pos rfl, if_pos h3]
        rw [e0, if_neg (by simp), if_neg (fun hh => hh h3)]
        unfold lastH
        rw [hs, hn]
        simp only [Int.toNat_natCast]
        have e3 : (((s : Int) ≤ 4294967295) ↔ s ≤ 4294967295) := by omega
        have e4 : (((n : Int) ≤ 4294967295) ↔ n ≤ 4294967295) := by omega
        simp only [e3, e4]
      · have e0 : endE (r2.drop (vget r2).n) 0 = 3 := by unfold endE; rw [if_pos rfl, if_neg h3]
        rw [e0, if_pos (by decide), if_pos h3]
theorem stepsH_read (T : List Int) (hT : Octets T) : stepsH T = headR T := by
  unfold stepsH
  cases T with
  | nil => rfl
  | cons b r =>
    have e1 : s1 (b :: r) 0 = ⟨r, 0, b⟩ := by simp [s1, d1, f1, b1]
    rw [e1]
    unfold kindH
    show _ = if b ≠ 1 then _ else headVer r
    by_cases h1 : b ≠ 1
    · rw [if_pos ⟨rfl, h1⟩, if_pos h1]
    · rw [if_neg (fun h => h1 h.2), if_neg h1]
      cases r with
      | nil =>
        have e2 : s1 [] 0 = ⟨[], 2, 0⟩ := rfl
        rw [e2, verH_bad (by decide)]
        rfl
      | cons b r =>
        have e2 : s1 (b :: r) 0 = ⟨r, 0, b⟩ := by simp [s1, d1, f1, b1]
        rw [e2]
        unfold verH
        show _ = if b ≠ 2 then _ else headExp r
        by_cases h2 : b ≠ 2
        · rw [if_pos ⟨rfl, h2⟩, if_pos h2]
        · rw [if_neg (fun h => h2 h.2), if_neg h2]
          cases r with
          | nil =>
            have e3 : s1 [] 0 = ⟨[], 2, 0⟩ := rfl
            rw [e3, numsH_bad (by decide)]
            rfl
          | cons x r =>
            have e3 : s1 (x :: r) 0 = ⟨r, 0, x⟩ := by simp [s1, d1, f1, b1]
            have hx := hT x (by simp)
            obtain ⟨e, he⟩ := Int.eq_ofNat_of_zero_le hx.1
            rw [e3, he]
            show numsH ⟨r, 0, (e : Int)⟩ = headNums (e : Int).toNat r
            rw [Int.toNat_natCast]
            exact numsH_read e r (fun b hb => hT b (by simp [hb]))
end Go.Proofs.Ytibojgoeaoinpaa

namespace Go.Proofs.Ytibojgoeaoinpaa
open Go.RowKit

def headOut (t : Int × Nat × Nat × Nat) : Value := .tuple #[confV t.2.1 t.2.2.1, .int .u64 (t.2.2.2 : Int), .int .i64 t.1]

theorem step_room {X : List Int} {A : Int} {d : Nat} (hd : d ≤ X.length) (h0 : 0 ≤ A) (h1 : A + X.length ≤ 10000000) : 0 ≤ A + (d : Int) ∧ A + (d : Int) + (X.drop d).length ≤ 10000000 ∧ (X.drop d).length ≤ X.length := by
  rw [List.length_drop]
  omega

end Go.Proofs.Ytibojgoeaoinpaa

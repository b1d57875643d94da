/-
  Package table's own Compare: by the Hash, then by the At; what it does to the world, to the letter.
-/
import Derived.Test.YtbchiccgkhnkaaaTabLaws
import Derived.Test.YtbchiccgkhnkaaaSwap
import Derived.Sort.Grow
namespace Go.Proofs.Ytbchiccgkhnkaaa
open Go.RowKit Go.Sort

/-- Nothing but draws, and blocks behind those that were there. -/
def Grown (w w' : World) : Prop := ∃ q os, w' = grow (w.drewN q) os
theorem Grown.refl (w : World) : Grown w w := ⟨0, #[], by rw [grow_empty]; rfl⟩
theorem Grown.drewN {w w' : World} (h : Grown w w') (n : Nat) : Grown w (w'.drewN n) := by
  obtain ⟨q, os, rfl⟩ := h
  exact ⟨q + n, os, by show grow ((w.drewN q).drewN n) os = _; rw [World.drewN_drewN]⟩
theorem Grown.drew {w w' : World} (h : Grown w w') : Grown w w'.drew := h.drewN 1
theorem Grown.alloc {w w' : World} (h : Grown w w') (o : Obj) : Grown w (w'.alloc o) := by
  obtain ⟨q, os, rfl⟩ := h
  exact ⟨q, os ++ #[o], by rw [alloc_eq_grow, grow_grow]⟩
theorem Grown.trans {a b c : World} (h : Grown a b) (g : Grown b c) : Grown a c := by
  obtain ⟨q, os, rfl⟩ := h
  obtain ⟨q', os', rfl⟩ := g
  exact ⟨q + q', os ++ os', by show grow (grow ((a.drewN q).drewN q') os) os' = _; rw [grow_grow, World.drewN_drewN]⟩
theorem Grown.keeps {w w' : World} (h : Grown w w') : Keeps NoBlock w w' := by
  obtain ⟨q, os, rfl⟩ := h
  refine ⟨rfl, rfl, rfl, by simp [grow], fun k hk _ => ?_⟩
  show ((w.drewN q).heap ++ os)[k]? = _
  rw [Array.getElem?_append_left (by show k < w.heap.size; exact hk)]
  rfl

/-- The order of two numbers. -/
def cmpN (x y : Nat) : Int := if x < y then -1 else if y < x then 1 else 0

theorem nan64_own (x : Nat) (w : World) : Calls Try.prog 62 #[.int .u64 (x : Int)] w fun e w' => e = .returned (.bool false) ∧ w' = w := by
  have h : ((x : Int) != (x : Int)) = false := by simp
  go_enter Try.func62, Try.ntmps62
  go_wp2_with fail
  go_ret
  exact ⟨rfl, rfl⟩
theorem nan32_own (x : Nat) (w : World) : Calls Try.prog 63 #[.int .u32 (x : Int)] w fun e w' => e = .returned (.bool false) ∧ w' = w := by
  have h : ((x : Int) != (x : Int)) = false := by simp
  go_enter Try.func63, Try.ntmps63
  go_wp2_with fail
  go_ret
  exact ⟨rfl, rfl⟩

set_option maxHeartbeats 1000000 in
theorem cmp64_own (x y : Nat) (w : World) : Calls Try.prog 34 #[.int .u64 (x : Int), .int .u64 (y : Int)] w fun e w' => e = .returned (.int .i64 (cmpN x y)) ∧ w' = w := by
  have HA := Lib.hid (fun w => nan64_own x w)
  have HB := Lib.hid (fun w => nan64_own y w)
  unfold cmpN
  by_cases h1 : x < y
  · rw [if_pos h1]
    have d1 : decide ((x : Int) < (y : Int)) = true := decide_eq_true (by omega)
    have d2 : decide (x < y) = true := decide_eq_true h1
    go_enter Try.func34, Try.ntmps34
    go_wp2_with fail
    refine (HA.out _).mono ?_
    rintro e w1 ⟨rfl, rfl⟩
    go_wp2_with fail
    refine (HB.out _).mono ?_
    rintro e w1 ⟨rfl, rfl⟩
    go_wp2_with fail
    go_ret
    exact ⟨rfl, rfl⟩
  · rw [if_neg h1]
    have d1 : decide ((x : Int) < (y : Int)) = false := decide_eq_false (by omega)
    have d2 : decide (x < y) = false := decide_eq_false h1
    by_cases h2 : y < x
    · rw [if_pos h2]
      have d3 : decide ((y : Int) < (x : Int)) = true := decide_eq_true (by omega)
      have d4 : decide (y < x) = true := decide_eq_true h2
      go_enter Try.func34, Try.ntmps34
      go_wp2_with fail
      refine (HA.out _).mono ?_
      rintro e w1 ⟨rfl, rfl⟩
      go_wp2_with fail
      refine (HB.out _).mono ?_
      rintro e w1 ⟨rfl, rfl⟩
      go_wp2_with fail
      go_ret
      exact ⟨rfl, rfl⟩
    · rw [if_neg h2]
      have d3 : decide ((y : Int) < (x : Int)) = false := decide_eq_false (by omega)
      have d4 : decide (y < x) = false := decide_eq_false h2
      go_enter Try.func34, Try.ntmps34
      go_wp2_with fail
      refine (HA.out _).mono ?_
      rintro e w1 ⟨rfl, rfl⟩
      go_wp2_with fail
      refine (HB.out _).mono ?_
      rintro e w1 ⟨rfl, rfl⟩
      go_wp2_with fail
      go_ret
      exact ⟨rfl, rfl⟩

set_option maxHeartbeats 1000000 in
theorem cmp32_own (x y : Nat) (w : World) : Calls Try.prog 35 #[.int .u32 (x : Int), .int .u32 (y : Int)] w fun e w' => e = .returned (.int .i64 (cmpN x y)) ∧ w' = w := by
  have HA := Lib.hid (fun w => nan32_own x w)
  have HB := Lib.hid (fun w => nan32_own y w)
  unfold cmpN
  by_cases h1 : x < y
  · rw [if_pos h1]
    have d1 : decide ((x : Int) < (y : Int)) = true := decide_eq_true (by omega)
    have d2 : decide (x < y) = true := decide_eq_true h1
    go_enter Try.func35, Try.ntmps35
    go_wp2_with fail
    refine (HA.out _).mono ?_
    rintro e w1 ⟨rfl, rfl⟩
    go_wp2_with fail
    refine (HB.out _).mono ?_
    rintro e w1 ⟨rfl, rfl⟩
    go_wp2_with fail
    go_ret
    exact ⟨rfl, rfl⟩
  · rw [if_neg h1]
    have d1 : decide ((x : Int) < (y : Int)) = false := decide_eq_false (by omega)
    have d2 : decide (x < y) = false := decide_eq_false h1
    by_cases h2 : y < x
    · rw [if_pos h2]
      have d3 : decide ((y : Int) < (x : Int)) = true := decide_eq_true (by omega)
      have d4 : decide (y < x) = true := decide_eq_true h2
      go_enter Try.func35, Try.ntmps35
      go_wp2_with fail
      refine (HA.out _).mono ?_
      rintro e w1 ⟨rfl, rfl⟩
      go_wp2_with fail
      refine (HB.out _).mono ?_
      rintro e w1 ⟨rfl, rfl⟩
      go_wp2_with fail
      go_ret
      exact ⟨rfl, rfl⟩
    · rw [if_neg h2]
      have d3 : decide ((y : Int) < (x : Int)) = false := decide_eq_false (by omega)
      have d4 : decide (y < x) = false := decide_eq_false h2
      go_enter Try.func35, Try.ntmps35
      go_wp2_with fail
      refine (HA.out _).mono ?_
      rintro e w1 ⟨rfl, rfl⟩
      go_wp2_with fail
      refine (HB.out _).mono ?_
      rintro e w1 ⟨rfl, rfl⟩
      go_wp2_with fail
      go_ret
      exact ⟨rfl, rfl⟩

set_option maxHeartbeats 1000000 in
/-- cmp.Or of two numbers: the first one, if it isn't 0. -/
theorem or_own (g : Nat) (x y : Int) (w : World) (h0 : w.cell? ⟨g, 0, none⟩ = some (.int .i64 x)) (h1 : w.cell? ⟨g, 1, none⟩ = some (.int .i64 y)) :
    Calls Try.prog 33 #[.slice (some ⟨g, 0, none⟩) 2 2] w fun e w' => e = .returned (.int .i64 (if x = 0 then y else x)) ∧ w' = w := by
  have G0 := Lib.hid h0
  have G1 := Lib.hid h1
  clear h0 h1
  by_cases hx : x = 0
  · have b1 : (x != 0) = false := by simpa using hx
    rw [if_pos hx]
    clear hx
    by_cases hy : y = 0
    · have b2 : (y != 0) = false := by simpa using hy
      have HY := Lib.hid hy
      clear hy
      go_enter Try.func33, Try.ntmps33
      go_wp2_with fail
      refine wp_loop_rounds 3 ?_
      rw [rounds_succ]
      have g0 := G0.out
      go_wp2_with fail
      rw [rounds_succ]
      have g1 := G1.out
      go_wp2_with fail
      rw [rounds_succ]
      go_wp2_with fail
      go_ret
      exact ⟨by rw [HY.out]; rfl, rfl⟩
    · have b2 : (y != 0) = true := by simpa using hy
      go_enter Try.func33, Try.ntmps33
      go_wp2_with fail
      refine wp_loop_rounds 3 ?_
      rw [rounds_succ]
      have g0 := G0.out
      go_wp2_with fail
      rw [rounds_succ]
      have g1 := G1.out
      go_wp2_with fail
      go_ret
      exact ⟨rfl, rfl⟩
  · have b1 : (x != 0) = true := by simpa using hx
    rw [if_neg hx]
    go_enter Try.func33, Try.ntmps33
    go_wp2_with fail
    refine wp_loop_rounds 3 ?_
    rw [rounds_succ]
    have g0 := G0.out
    go_wp2_with fail
    go_ret
    exact ⟨rfl, rfl⟩
end Go.Proofs.Ytbchiccgkhnkaaa

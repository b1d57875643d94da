/-
  Contracts of package cursor's leaves: within, Left, At, of a cursor that is nil, closed or open; stop and Fail.
-/
import Derived.Test.YtbchiccgkhnkaaaMem
import Derived.Recover
import Derived.Defers
import Derived.BigQuiet
import Derived.Deep.QuietTactic
namespace Go.Proofs.Ytbchiccgkhnkaaa
open Go.RowKit

theorem within_nil (w : World) : Calls Try.prog 65 #[.pointer none] w fun e w' => e = .returned (.bool false) ∧ w = w' := by
  go_enter Try.func65, Try.ntmps65
  go_wp2
  go_ret
  exact ⟨rfl, rfl⟩

theorem within_at (k : Nat) (o : Bool) (w : World) (h : w.cell? ⟨k, 2, none⟩ = some (.bool o)) : Calls Try.prog 65 #[.pointer (some ⟨k, 0, none⟩)] w fun e w' => e = .returned (.bool o) ∧ w = w' := by
  go_enter Try.func65, Try.ntmps65
  go_wp2
  go_ret
  exact ⟨rfl, rfl⟩

/-- A cursor that isn't within its reading: nil, or closed. -/
def Dead (w : World) (p : Option Addr) : Prop := p = none ∨ ∃ k, p = some ⟨k, 0, none⟩ ∧ w.cell? ⟨k, 2, none⟩ = some (.bool false)

theorem within_dead (p : Option Addr) (w : World) (h : Dead w p) : Calls Try.prog 65 #[.pointer p] w fun e w' => e = .returned (.bool false) ∧ w = w' := by
  rcases h with rfl | ⟨k, rfl, h⟩
  · exact within_nil w
  · exact within_at k false w h

theorem left_dead (p : Option Addr) (w : World) (h : Dead w p) : Calls Try.prog 42 #[.pointer p] w fun e w' => e = .returned (.int .i64 0) ∧ w = w' := by
  have H := Lib.hid h; clear h
  go_enter Try.func42, Try.ntmps42
  go_wp2_with (go_at_call 65; refine (within_dead _ _ H.out).mono ?_; rintro e w' ⟨rfl, rfl⟩)
  go_ret
  exact ⟨rfl, rfl⟩

theorem next_dead (p : Option Addr) (n : Int) (w : World) (h : Dead w p) : Calls Try.prog 68 #[.pointer p, .int .i64 n] w fun e w' => e = .returned (.slice none 0 0) ∧ w = w' := by
  have H := Lib.hid h; clear h
  go_enter Try.func68, Try.ntmps68
  go_wp2_with (go_at_call 65; refine (within_dead _ _ H.out).mono ?_; rintro e w' ⟨rfl, rfl⟩)
  go_ret
  exact ⟨rfl, rfl⟩

theorem fail_dead (p : Option Addr) (y : Int) (w : World) (h : Dead w p) : Calls Try.prog 43 #[.pointer p, .int .i64 y] w fun e w' => e = .returned (.tuple #[]) ∧ w = w' := by
  have H := Lib.hid h; clear h
  go_enter Try.func43, Try.ntmps43
  go_wp2_with (go_at_call 65; refine (within_dead _ _ H.out).mono ?_; rintro e w' ⟨rfl, rfl⟩)
  go_returns
  exact ⟨rfl, rfl⟩

theorem end_dead (p : Option Addr) (w : World) (h : Dead w p) : Calls Try.prog 21 #[.pointer p] w fun e w' => e = .returned (.tuple #[]) ∧ w = w' := by
  have H := Lib.hid h; clear h
  go_enter Try.func21, Try.ntmps21
  go_wp2_with (go_at_call 42; refine (left_dead _ _ H.out).mono ?_; rintro e w' ⟨rfl, rfl⟩)
  go_returns
  exact ⟨rfl, rfl⟩

/-- A cursor's block: what it reads (address, length, capacity), how many bytes were read, whether it is within its reading, why it stopped. -/
def CurB (w : World) (k : Nat) (p : Option Addr) (N c a : Nat) (o : Bool) (y : Int) : Prop := Whole w k 75 #[.slice p N c, .int .i64 a, .bool o, .int .i64 y]

theorem CurB.dead {w : World} {k : Nat} {p : Option Addr} {N c a : Nat} {y : Int} (h : CurB w k p N c a false y) : Dead w (some ⟨k, 0, none⟩) :=
  .inr ⟨k, rfl, Whole.cell h 2 rfl⟩

theorem CurB.step {w : World} {k : Nat} {p : Option Addr} {N c a n : Nat} {o : Bool} {y : Int} (h : CurB w k p N c a o y) (m q : Nat) :
    CurB (((w.drewN m).setCell ⟨k, 1, none⟩ (.int .i64 ((a : Int) + (n : Int)))).drewN q) k p N c (a + n) o y := by
  have g := Whole.set (Whole.drewN h m) 1 (.int .i64 ((a : Int) + (n : Int)))
  unfold CurB
  rw [show ((a + n : Nat) : Int) = (a : Int) + (n : Int) by omega]
  exact g

theorem left_at (k : Nat) (p : Option Addr) (N c a : Nat) (y : Int) (w : World) (h : CurB w k p N c a true y) (hn : a ≤ N) (hc : (N : Int) ≤ 9223372036854775807) :
    Calls Try.prog 42 #[.pointer (some ⟨k, 0, none⟩)] w fun e w' => e = .returned (.int .i64 (N - a)) ∧ ∃ m, w' = w.drewN m := by
  have h0 := Whole.cell h 0 rfl
  have h1 := Whole.cell h 1 rfl
  have h2 := Whole.cell h 2 rfl
  clear h
  go_enter Try.func42, Try.ntmps42
  go_wp2_with (go_at_call 65; refine (within_at _ true _ h2).mono ?_; rintro e w' ⟨rfl, rfl⟩)
  go_quiet (fail)
  go_wp2
  go_ret
  exact ⟨rfl, _, rfl⟩

/-- A reading is given up: the panic names its cursor. -/
def given (k : Nat) : List PanicEntry := [{ v := .iface 77 (.agg #[.pointer (some ⟨k, 0, none⟩)]), recovered := false }]

theorem stop_first (k : Nat) (p : Option Addr) (N c a : Nat) (y : Int) (w : World) (h : CurB w k p N c a true 0) :
    Calls Try.prog 66 #[.pointer (some ⟨k, 0, none⟩), .int .i64 y] w fun e w' => e = .panicked (given k) ∧ CurB w' k p N c a true y ∧ Keeps (Just k) w w' := by
  have h3 := Whole.cell h 3 rfl
  have f3 := Whole.free h 3
  have H := Lib.hid h; clear h
  go_enter Try.func66, Try.ntmps66
  go_wp2
  exact ⟨rfl, rfl, Whole.set H.out 3 _, (Keeps.refl _ _).setIn (Just.self k) _ _⟩

/-- The address, where there are bytes at all. -/
def From (p : Option Addr) (a n : Nat) (v : Value) : Prop := ∃ q c, v = .slice q n c ∧ (0 < n → q = p.map (·.add a))

theorem from_mk (p : Option Addr) (a n N c : Nat) (h : a + n ≤ N) (hc : N ≤ c) : From p a n (.slice (if c = a then p else p.map (·.add a)) n (c - a)) :=
  ⟨_, _, rfl, fun h0 => by rw [if_neg (by omega)]⟩

def NextOk (k : Nat) (p : Option Addr) (N c a n : Nat) (w : World) (e : Ending) (w' : World) : Prop :=
  ∃ v, e = .returned v ∧ From p a n v ∧ CurB w' k p N c (a + n) true 0 ∧ Keeps (Just k) w w'

theorem next_at (k : Nat) (p : Option Addr) (N c a n : Nat) (z : Int) (hz : z = n) (w : World) (h : CurB w k p N c a true 0) (hn : a + n ≤ N) (hN : N ≤ c) (hc : c ≤ 9223372036854775807) :
    Calls Try.prog 68 #[.pointer (some ⟨k, 0, none⟩), .int .i64 z] w (NextOk k p N c a n w) := by
  subst hz
  have hg : ¬ ((N : Int) - a < n) := by omega
  have h0 := Whole.cell h 0 rfl
  have h1 := Whole.cell h 1 rfl
  have h2 := Whole.cell h 2 rfl
  have h3 := Whole.cell h 3 rfl
  have f1 := Whole.free h 1
  have H := Lib.hid h; clear h
  go_enter Try.func68, Try.ntmps68
  go_wp2_with (first | (go_at_call 65; refine (within_at _ true _ h2).mono ?_; rintro e w' ⟨rfl, rfl⟩) | (go_at_call 42; refine (left_at k p N c a 0 _ H.out (by omega) (by omega)).mono ?_; rintro e w' ⟨rfl, m, rfl⟩))
  go_quiet (fail)
  go_wp2
  all_goals
    go_ret
    refine ⟨_, rfl, ?_, ?_, (((Keeps.refl _ _).drewN _).setIn (Just.self k) _ _).drewN _⟩
    · first | exact ⟨_, _, rfl, fun _ => rfl⟩ | exact ⟨_, _, rfl, fun _ => by omega⟩
    · first | exact CurB.step H.out _ _ | (obtain rfl : c = a := (by assumption); exact CurB.step H.out _ _)

theorem next_short (k : Nat) (p : Option Addr) (N c a : Nat) (n : Int) (w : World) (h : CurB w k p N c a true 0) (hn : a ≤ N) (hs : (N : Int) < a + n) (hc : N ≤ 9223372036854775807) :
    Calls Try.prog 68 #[.pointer (some ⟨k, 0, none⟩), .int .i64 n] w fun e w' => e = .panicked (given k) ∧ CurB w' k p N c a true 2 ∧ Keeps (Just k) w w' := by
  have hg : ((N : Int) - a < n) := by omega
  have h2 := Whole.cell h 2 rfl
  have h3 := Whole.cell h 3 rfl
  have H := Lib.hid h; clear h
  go_enter Try.func68, Try.ntmps68
  go_wp2_with (first | (go_at_call 65; refine (within_at _ true _ h2).mono ?_; rintro e w' ⟨rfl, rfl⟩) | (go_at_call 42; refine (left_at k p N c a 0 _ H.out (by omega) (by omega)).mono ?_; rintro e w' ⟨rfl, m, rfl⟩))
  refine (stop_first k p N c a 2 _ (Whole.drewN H.out m)).mono ?_
  rintro e w' ⟨rfl, hcur, hk⟩
  exact ⟨rfl, rfl, hcur, ((Keeps.refl _ _).drewN m).trans hk⟩
end Go.Proofs.Ytbchiccgkhnkaaa

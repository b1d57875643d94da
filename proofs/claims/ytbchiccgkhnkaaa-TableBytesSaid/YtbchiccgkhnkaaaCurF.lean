/-
  How a reading's End ends.
-/
import Derived.Test.YtbchiccgkhnkaaaCurE
import Derived.Test.YtbchiccgkhnkaaaVarGet
namespace Go.Proofs.Ytbchiccgkhnkaaa
open Go.RowKit

theorem end_whole (k : Nat) (p : Option Addr) (N c : Nat) (y : Int) (w : World) (h : CurB w k p N c N true y) (hc : (N : Int) ≤ 9223372036854775807) :
    Calls Try.prog 21 #[.pointer (some ⟨k, 0, none⟩)] w fun e w' => e = .returned (.tuple #[]) ∧ CurB w' k p N c N true y ∧ Keeps NoBlock w w' := by
  have H := Lib.hid h; clear h
  go_enter Try.func21, Try.ntmps21
  go_wp2_with fail
  refine (left_at k p N c N y _ H.out (Nat.le_refl _) hc).mono ?_
  rintro e w' ⟨rfl, m, rfl⟩
  go_wp2_with fail
  go_returns
  exact ⟨rfl, Whole.drewN H.out m, (Keeps.refl _ _).drewN m⟩

theorem end_more (k : Nat) (p : Option Addr) (N c a : Nat) (w : World) (h : CurB w k p N c a true 0) (ha : a < N) (hc : (N : Int) ≤ 9223372036854775807) :
    Calls Try.prog 21 #[.pointer (some ⟨k, 0, none⟩)] w fun e w' => e = .panicked (given k) ∧ CurB w' k p N c a true 3 ∧ Keeps (Just k) w w' := by
  have H := Lib.hid h; clear h
  have hlt : (0 : Int) < (N : Int) - (a : Int) := by omega
  go_enter Try.func21, Try.ntmps21
  go_wp2_with fail
  refine (left_at k p N c a 0 _ H.out (by omega) hc).mono ?_
  rintro e w' ⟨rfl, m, rfl⟩
  go_wp2_with fail
  refine (fail_at k p N c a 3 _ (Whole.drewN H.out m) (by decide)).mono ?_
  rintro e w2 ⟨rfl, hcur, hk⟩
  exact ⟨rfl, rfl, hcur, ((Keeps.refl (Just k) w).drewN m).trans hk⟩
end Go.Proofs.Ytbchiccgkhnkaaa

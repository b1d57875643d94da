/-
  Package cobs: its four functions, as the laws ask of them.
-/
import Derived.Test.YtckebghkilamjaaCobsUnstuff
namespace Go.Proofs.Ytckebghkilamjaa
open Go.RowKit

theorem cobs_ok : CobsOk where
  stuff p N c xs w hx hc hc' hn0 ho hN hb := by
    refine (callsIn_wide.1 (stuff_in 3 (Nat.le_refl _) p N c xs w hx hc hc' hn0 ho hN hb)).mono ?_
    rintro e w' ⟨v, rfl, h⟩
    rw [← stuff_groups] at h
    exact ⟨v, rfl, h.fresh rfl⟩
  unstuff p N c xs w hx hc hc' hn0 ho hN hb := unstuff_cobs p N c xs w hx hc hc' hn0 ho hN hb
  size p N c xs w hx hc hc' hn0 ho hN hb := by
    refine (callsIn_wide.1 (size_in 3 (Nat.le_refl _) p N c xs w hx hc hc' hn0 ho hN hb)).mono ?_
    rintro e w' ⟨rfl, h⟩
    rw [← stuff_groups]
    exact ⟨rfl, Keeps.ofBelow h⟩
  most z w h0 h1 := by
    refine (most_cobs z w h0 h1).mono ?_
    rintro e w' ⟨rfl, rfl⟩
    exact ⟨rfl, Keeps.refl _ _⟩
end Go.Proofs.Ytckebghkilamjaa

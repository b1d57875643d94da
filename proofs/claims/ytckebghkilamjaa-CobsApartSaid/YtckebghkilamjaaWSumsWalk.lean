/-
  The law WideSums: its walk.
-/
import Derived.Test.YtckebghkilamjaaWideLives
import Derived.Test.YtckebghkilamjaaWideRefSum
import Derived.Test.YtckebghkilamjaaSumsWalk
namespace Go.Proofs.Ytckebghkilamjaa
open Go.RowKit

theorem Copied.read2 {w0 wx : World} {N : Nat} {xs : List Int} {v : Value} (h : Copied w0 N xs v wx) (hn : N = xs.length) : ∃ q d, v = .slice q N d ∧ N ≤ d ∧ d ≤ 9223372036854775807 ∧ Bytes8 wx q xs ∧ (q = none → N = 0 ∧ d = 0) := by
  obtain ⟨q, d, hv, h1, h2, h3⟩ := h.read hn
  cases q with
  | some a => exact ⟨_, d, hv, h1, h2, h3, fun h => by simp at h⟩
  | none =>
    have hN : N = 0 := by
      rcases Nat.eq_zero_or_pos N with h0 | h0
      · exact h0
      · obtain ⟨a, ha, _⟩ := h3 (by omega)
        simp at ha
    obtain ⟨⟨_, ⟨rfl, _⟩ | ⟨g, cap, cur, rfl, _⟩⟩, _⟩ := h
    · exact ⟨none, 0, by rw [hN], by omega, by omega, h3, fun _ => ⟨hN, rfl⟩⟩
    · simp at hv

end Go.Proofs.Ytckebghkilamjaa

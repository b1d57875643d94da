/-
  The example of the laws of package varint, 'lives': it is true.
-/
import Derived.Test.YtillkgbnokkacaaVarPut
namespace Go.Proofs.Ytillkgbnokkacaa
open Go.RowKit

theorem ret_true {b : Bool} (h : b = true) : Ending.returned (.bool b) = .returned (.bool true) := by rw [h]

/-- A Buffer that wasn't there ahead of all: what is written into it turns nothing that was. -/
theorem keepsNewBuf {w w1 w2 : World} {base g : Nat} (h : Keeps NoBlock w w1) (k : Keeps (OnBuf base g) w1 w2) (hg : w.heap.size ≤ g) (hb : w.heap.size ≤ base) : Keeps NoBlock w w2 :=
  h.then k fun i hi hS => by
    rcases hS with rfl | h1
    · omega
    · omega

theorem bufNew (w : World) : BufAt (w.alloc (.cells #[.slice none 0 0] 35)) w.heap.size w.heap.size [] :=
  ⟨.slice none 0 0, Whole.new _ _ _, by simp, .inl ⟨rfl, by simp⟩⟩

end Go.Proofs.Ytillkgbnokkacaa

/-
  Contracts of package cursor's numbers and copies: number, Byte, Four, Eight, bytes.Clone, Take.
-/
import Derived.Test.YtldogkmmnamjbaaCurA
import Derived.Test.YtldogkmmnamjbaaNum
namespace Go.Proofs.Ytldogkmmnamjbaa
open Go.RowKit

theorem le_one (xs : List Int) (h : xs.length = 1) : le xs = xs.getD 0 0 := by
  match xs, h with
  | [b], _ => simp [le]

/-- A piece of the cursor's bytes, as next hands it out. -/
theorem piece_of {k : Nat} {p : Option Addr} {xs : List Int} {a n : Nat} {w w' : World} {v : Value} (hf : From p a n v) (hb : Bytes8 w p xs) (hn : a + n ≤ xs.length) (hk : Keeps (Just k) w w') (hp : 0 < xs.length → ∀ q, p = some q → q.block ≠ k) :
    ∃ q c, v = .slice q n c ∧ Bytes8 w' q ((xs.drop a).take n) := by
  obtain ⟨q, c, rfl, hq⟩ := hf
  exact ⟨q, c, rfl, (hb.keepPos hk fun h0 r hr => hp h0 r hr).piece a n hn hq⟩

end Go.Proofs.Ytldogkmmnamjbaa

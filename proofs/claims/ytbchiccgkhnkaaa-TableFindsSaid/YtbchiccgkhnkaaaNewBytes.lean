/-
  New bytes, as an answer.
-/
import Derived.Test.YtbchiccgkhnkaaaMem
namespace Go.Proofs.Ytbchiccgkhnkaaa
open Go.RowKit

/-- New bytes are answered. -/
def NewBytes (w : World) (ys : List Int) (v : Value) (w' : World) : Prop :=
  ∃ (q : Option Addr) (m d : Nat), v = .slice q m d ∧ m = ys.length ∧ m ≤ d ∧ d ≤ 9223372036854775807 ∧ (q = none → m = 0 ∧ d = 0) ∧ Bytes8 w' q ys ∧ Keeps NoBlock w w'
theorem NewBytes.ofNil (w w' : World) (h : Keeps NoBlock w w') : NewBytes w [] (.slice none 0 0) w' :=
  ⟨none, 0, 0, rfl, rfl, Nat.le_refl _, by decide, fun _ => ⟨rfl, rfl⟩, Bytes8.nil _ _, h⟩
end Go.Proofs.Ytbchiccgkhnkaaa

/-
  Contracts of the document's turn, mix, into.
-/
import Derived.Test.YtbchiccgkhnkaaaRef1
import Derived.Test.YtbchiccgkhnkaaaThinNum
import Derived.Deep.RegionHeld3
namespace Go.Proofs.Ytbchiccgkhnkaaa
open Go.RowKit

theorem half_half (x : Int) (k : Nat) : x / 2 ^ k / 2 = x / 2 ^ (k + 1) := by
  have hp : (0 : Int) < 2 ^ k := Int.pow_pos (by decide)
  rw [Int.pow_succ, Int.ediv_ediv, if_neg (fun h => absurd h.1 (by omega)), Int.sub_zero]

/-- Four numbers in a row, as cells. -/
def row4 (kd : IntKind) (v : Nat → Int) : Array Value := #[.int kd (v 0), .int kd (v 1), .int kd (v 2), .int kd (v 3)]
theorem row4_get {kd : IntKind} {v : Nat → Int} {k : Nat} (hk : k < 4) : (row4 kd v)[k]? = some (.int kd (v k)) := by
  have : k = 0 ∨ k = 1 ∨ k = 2 ∨ k = 3 := by omega
  rcases this with rfl | rfl | rfl | rfl <;> rfl
theorem row4_set {kd : IntKind} {v : Nat → Int} {k : Nat} (hk : k < 4) (x : Int) : (row4 kd v).setIfInBounds k (.int kd x) = row4 kd (upd v k x) := by
  have : k = 0 ∨ k = 1 ∨ k = 2 ∨ k = 3 := by omega
  rcases this with rfl | rfl | rfl | rfl <;> rfl
end Go.Proofs.Ytbchiccgkhnkaaa

/-
  The document's Check and Text of pairs.
-/
import Derived.Test.YtbchiccgkhnkaaaElNum
import Derived.Test.YtbchiccgkhnkaaaThinRefSum
import Derived.Test.YtbchiccgkhnkaaaTextEq
import Derived.Test.YtbchiccgkhnkaaaRecRef
import Derived.Deep.RegionHeld3
namespace Go.Proofs.Ytbchiccgkhnkaaa
open Go.RowKit

def prV (p : Pr) : Value := .agg #[.string (strOfNums p.key), .string (strOfNums p.val)]
def prCells (p : Pr) : Array Value := #[.string (strOfNums p.key), .string (strOfNums p.val)]
def PrAt (w : World) (g : Nat) (p : Pr) : Prop := w.cell? ⟨g, 0, none⟩ = some (.string (strOfNums p.key)) ∧ w.cell? ⟨g, 1, none⟩ = some (.string (strOfNums p.val))
theorem PrAt.ofWhole {w : World} {g : Nat} {t : TypeId} {p : Pr} (h : Whole w g t (prCells p)) : PrAt w g p := ⟨h.cell 0 rfl, h.cell 1 rfl⟩

end Go.Proofs.Ytbchiccgkhnkaaa

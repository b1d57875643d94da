/-
  Contracts of the document's turn, mix, into, of 64 bits.
-/
import Derived.Test.YtckebghkilamjaaRef1
import Derived.Test.YtckebghkilamjaaThinRef
import Derived.Test.YtckebghkilamjaaWideNum
import Derived.Deep.RegionHeld3
namespace Go.Proofs.Ytckebghkilamjaa
open Go.RowKit

/-- What Value reads of eight, of four. -/
theorem four8_value (ys : List Int) (k : Nat) : le ((ys.drop (8 * k)).take 8) = four8 ys k := rfl
theorem four4_value (ys : List Int) (k : Nat) : le ((ys.drop (4 * k)).take 4) = four4 ys k := rfl
theorem wtaken_drop (v : Nat → Int) (xs : List Int) (k : Nat) : wtaken (wnums v xs k) (xs.drop (32 * k)) 4 = wnums v xs (k + 1) := rfl
end Go.Proofs.Ytckebghkilamjaa

/-
  The document's begin: the blocks of 32 bytes.
-/
import Derived.Test.YtckebghkilamjaaWideRef
import Derived.Test.YtckebghkilamjaaThinRefSum
import Derived.StillTailTactics
namespace Go.Proofs.Ytckebghkilamjaa
open Go.RowKit

theorem four8_drop (xs : List Int) (a k : Nat) : ((xs.drop a).drop (8 * k)).take 8 = (xs.drop (a + 8 * k)).take 8 := by rw [List.drop_drop]

end Go.Proofs.Ytckebghkilamjaa

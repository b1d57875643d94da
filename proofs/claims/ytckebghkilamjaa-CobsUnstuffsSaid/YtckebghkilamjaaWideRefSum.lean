/-
  The document's Sum of 64 bits.
-/
import Derived.Test.YtckebghkilamjaaWideBegin
import Derived.Deep.CutRange
import Derived.Deep.DeepCutAuto
namespace Go.Proofs.Ytckebghkilamjaa
open Go.RowKit

end Go.Proofs.Ytckebghkilamjaa

/-
  Package wide: what the blocks come to, Sum and Len of a State.
-/
import Derived.Test.YtckebghkilamjaaWideWrite
import Derived.StillTailTactics
namespace Go.Proofs.Ytckebghkilamjaa
open Go.RowKit

end Go.Proofs.Ytckebghkilamjaa

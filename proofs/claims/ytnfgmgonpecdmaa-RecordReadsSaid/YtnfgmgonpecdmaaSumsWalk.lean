/-
  The law ThinSums: its walk.
-/
import Derived.Test.YtnfgmgonpecdmaaChecksWalk
import Derived.Test.YtnfgmgonpecdmaaCopied
namespace Go.Proofs.Ytnfgmgonpecdmaa
open Go.RowKit

end Go.Proofs.Ytnfgmgonpecdmaa

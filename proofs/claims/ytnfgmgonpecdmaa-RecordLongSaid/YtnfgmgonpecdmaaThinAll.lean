/-
  Contracts of package thin: Sum, Check.
-/
import Derived.Test.YtnfgmgonpecdmaaThinSum
namespace Go.Proofs.Ytnfgmgonpecdmaa
open Go.RowKit

end Go.Proofs.Ytnfgmgonpecdmaa

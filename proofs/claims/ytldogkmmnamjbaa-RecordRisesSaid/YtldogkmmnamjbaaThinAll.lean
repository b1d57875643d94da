/-
  Contracts of package thin: Sum, Check.
-/
import Derived.Test.YtldogkmmnamjbaaThinSum
namespace Go.Proofs.Ytldogkmmnamjbaa
open Go.RowKit

end Go.Proofs.Ytldogkmmnamjbaa

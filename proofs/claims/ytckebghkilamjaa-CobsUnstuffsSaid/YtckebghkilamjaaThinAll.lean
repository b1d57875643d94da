/-
  Contracts of package thin: Sum, Check.
-/
import Derived.Test.YtckebghkilamjaaThinSum
namespace Go.Proofs.Ytckebghkilamjaa
open Go.RowKit

end Go.Proofs.Ytckebghkilamjaa

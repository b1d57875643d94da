/-
  Contracts of package thin: Sum, Check.
-/
import Derived.Test.YtpajljjhmmjeeaaThinSum
namespace Go.Proofs.Ytpajljjhmmjeeaa
open Go.RowKit

end Go.Proofs.Ytpajljjhmmjeeaa

/-
  The contract of Run: a reading that goes on to its end, one that its own cursor gives up, one that an outer cursor gives up; and no reading at all.
-/
import Derived.Test.YtldogkmmnamjbaaCurD
namespace Go.Proofs.Ytldogkmmnamjbaa
open Go.RowKit

end Go.Proofs.Ytldogkmmnamjbaa

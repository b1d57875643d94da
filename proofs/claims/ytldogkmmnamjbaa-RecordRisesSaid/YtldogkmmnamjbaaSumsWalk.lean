/-
  The law ThinSums: its walk.
-/
import Derived.Test.YtldogkmmnamjbaaChecksWalk
import Derived.Test.YtldogkmmnamjbaaCopied
namespace Go.Proofs.Ytldogkmmnamjbaa
open Go.RowKit

end Go.Proofs.Ytldogkmmnamjbaa

/-
  Arguments, opened: bytes; what else the laws of a stage take stands beside them.
-/
import Derived.Test.YtiohjnannlekmaaLift
import Derived.Test.YtiohjnannlekmaaNum
import Derived.Deep.Slices
namespace Go.Proofs.Ytiohjnannlekmaa
open Go.ChangeShapes Go.WideShapes Go.ChangeAt Go.RowKit

theorem octet_wf {n : Int} (h : (Lit.int .u8 n).wf = true) : 0 ≤ n ∧ n < 256 := by
  have : 0 ≤ n ∧ n ≤ 255 := by simpa [Lit.wf, IntKind.min, IntKind.max, IntKind.signed, IntKind.bits] using h
  omega

end Go.Proofs.Ytiohjnannlekmaa

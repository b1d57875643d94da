/-
  The example of the laws of package thin, 'lives': it is true.
-/
import Derived.Test.YtldogkmmnamjbaaIn8
import Derived.Test.YtldogkmmnamjbaaThinAll
import Derived.Lib.SlBytesConst
namespace Go.Proofs.Ytldogkmmnamjbaa
open Go.RowKit

theorem xxh_nil : xxh 0 [] = 46947589 := by
  unfold xxh tblocks
  rw [if_pos (by decide), tails_end (by decide)]
  decide +kernel
theorem xxh_abc : xxh 0 [97, 98, 99] = 852579327 := by
  unfold xxh tblocks
  rw [if_pos (by decide), tails_end (by decide)]
  decide +kernel

end Go.Proofs.Ytldogkmmnamjbaa

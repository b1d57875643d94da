/-
  The law ThinChecks: its walk.
-/
import Derived.Test.YtldogkmmnamjbaaThinLives
namespace Go.Proofs.Ytldogkmmnamjbaa
open Go.RowKit

theorem xxh_bound (s : Int) (xs : List Int) : U32 (xxh s xs) := tend_bound _

end Go.Proofs.Ytldogkmmnamjbaa

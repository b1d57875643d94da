/-
  The law ThinChecks: its walk.
-/
import Derived.Test.YtnfgmgonpecdmaaThinLives
namespace Go.Proofs.Ytnfgmgonpecdmaa
open Go.RowKit

theorem xxh_bound (s : Int) (xs : List Int) : U32 (xxh s xs) := tend_bound _

end Go.Proofs.Ytnfgmgonpecdmaa

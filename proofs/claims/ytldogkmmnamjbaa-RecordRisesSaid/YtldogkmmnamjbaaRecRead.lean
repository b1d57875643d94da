/-
  Package record's own Read: its reading, all the ends that it has. Written by wip/tools/gen_recread.py.
-/
import Derived.Test.YtldogkmmnamjbaaRecOwn
import Derived.Test.YtldogkmmnamjbaaCurE
import Derived.Test.YtldogkmmnamjbaaVarRead
namespace Go.Proofs.Ytldogkmmnamjbaa
open Go.RowKit

/-- What the reading leaves: the record in block D, if there is one. -/
def Left7 (w0 : World) (D : Nat) (t : Int × Rec) (w2 : World) : Prop :=
  Keeps (Just D) w0 w2 ∧ (t.1 = 0 → Whole w2 D 31 (recCells t.2))

theorem drop_succ (b : Int) (ys : List Int) (n : Nat) : (b :: ys).drop (1 + n) = ys.drop n := by rw [Nat.add_comm, List.drop_succ_cons]

end Go.Proofs.Ytldogkmmnamjbaa

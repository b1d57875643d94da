/-
  The document's Sum.
-/
import Derived.Test.YtbchiccgkhnkaaaThinRef
import Derived.Deep.CutRange
import Derived.Deep.DeepCutAuto
import Derived.Deep.RegionHeld3
import Derived.StillTailTactics
namespace Go.Proofs.Ytbchiccgkhnkaaa
open Go.RowKit

theorem join_sum {a b c d : Int} (_ha : U32 a) (_hb : U32 b) (_hc : U32 c) (_hd : U32 d) :
    (IntKind.u64.wrap (IntKind.u64.wrap (IntKind.u64.wrap (a + b) + c) + d)).tmod 4294967296 = (a + b + c + d) % 4294967296 := by
  unfold U32 at *
  rw [IntKind.wrap_u64, IntKind.wrap_u64, IntKind.wrap_u64, Int.tmod_eq_emod_of_nonneg (by omega)]
  omega

end Go.Proofs.Ytbchiccgkhnkaaa

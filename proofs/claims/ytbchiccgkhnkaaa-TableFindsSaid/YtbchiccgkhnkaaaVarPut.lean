/-
  Contracts of Put, and of the document's Num: a number's bytes.
-/
import Derived.Test.YtbchiccgkhnkaaaVarNum
import Derived.Test.YtbchiccgkhnkaaaBufB
import Derived.Deep.RegionHeld3
namespace Go.Proofs.Ytbchiccgkhnkaaa
open Go.RowKit

/-- What Put leaves. -/
def PutOk (base g : Nat) (xs : List Int) (w : World) (e : Ending) (w' : World) : Prop :=
  e = .returned (.tuple #[]) ∧ BufAt w' base g xs ∧ Keeps (OnBuf base g) w w'

theorem one_conv {v : Int} {W : World} {g : Nat} {t : TypeId} (h : Whole W g t #[.int .u8 v]) : (convert 38 9 (.slice (some ⟨g, 0, none⟩) 1 1)).run Try.prog W = .ok (.string (strOfNums [v])) W :=
  textOf _ 1 1 [v] _ rfl (h.bytes [v] (fun i hi => by
    match i, hi with
    | 0, _ => rfl))

theorem vnum_conv (v : Int) (w : World) : (convert 38 9 (.slice (some ⟨w.heap.size, 0, none⟩) 1 1)).run Try.prog (w.alloc (.cells #[.int .u8 v] 5)) = .ok (.string (strOfNums [v])) (w.alloc (.cells #[.int .u8 v] 5)) :=
  one_conv (Whole.new w _ _)
theorem vnum_convD (v : Int) (w : World) : (convert 38 9 (.slice (some ⟨w.heap.size, 0, none⟩) 1 1)).run Try.prog (w.alloc (.cells #[.int .u8 v] 5)).drew = .ok (.string (strOfNums [v])) (w.alloc (.cells #[.int .u8 v] 5)).drew :=
  one_conv (W := (w.alloc (.cells #[.int .u8 v] 5)).drew) (show Whole _ _ 5 _ from Whole.new w _ _)
theorem vnum_conv_keep {v : Int} {w w1 : World} (h : Keeps NoBlock (w.alloc (.cells #[.int .u8 v] 5)).drew w1) :
    (convert 38 9 (.slice (some ⟨w.heap.size, 0, none⟩) 1 1)).run Try.prog w1 = .ok (.string (strOfNums [v])) w1 ∧ (convert 38 9 (.slice (some ⟨w.heap.size, 0, none⟩) 1 1)).run Try.prog w1.drew = .ok (.string (strOfNums [v])) w1.drew := by
  have hw : Whole w1 w.heap.size 5 #[.int .u8 v] := (show Whole (w.alloc (.cells #[.int .u8 v] 5)).drew _ _ _ from Whole.new w _ _).keep h (fun h => h)
  exact ⟨one_conv hw, one_conv (show Whole w1.drew _ 5 _ from hw)⟩

end Go.Proofs.Ytbchiccgkhnkaaa

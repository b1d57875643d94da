/-
  The example of the laws of package wide, 'lives': it is true.
-/
import Derived.Test.YtckebghkilamjaaWideAll
import Derived.Test.YtckebghkilamjaaThinLives
import Derived.Lib.SlBytesConst
import Derived.LaidEqlPtr
namespace Go.Proofs.Ytckebghkilamjaa
open Go.RowKit

theorem wxxh_nil : wxxh 0 [] = 17241709254077376921 := by
  unfold wxxh
  rw [weights_end (by decide), wfours_end (by decide)]
  decide +kernel
theorem wxxh_abc : wxxh 0 [97, 98, 99] = 4952883123889572249 := by
  unfold wxxh
  rw [weights_end (by decide), wfours_end (by decide)]
  decide +kernel
theorem abc_octets : Octets [97, 98, 99] := fun b hb => by simp at hb; omega
theorem abc_new (w : World) (t : TypeId) (f : Nat × Nat) : Bytes8 (w.alloc (.cells #[.int .u8 97, .int .u8 98, .int .u8 99] t f)) (some ⟨w.heap.size, 0, none⟩) [97, 98, 99] := fun _ => by
  refine ⟨_, rfl, fun i hi => ?_⟩
  have : i = 0 ∨ i = 1 ∨ i = 2 := by simp at hi; omega
  rcases this with rfl | rfl | rfl <;> (rw [addZero]; exact cell_new _ _ _ _ _ rfl)

end Go.Proofs.Ytckebghkilamjaa

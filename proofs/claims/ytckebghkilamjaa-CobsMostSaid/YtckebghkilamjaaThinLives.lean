/-
  The example of the laws of package thin, 'lives': it is true.
-/
import Derived.Test.YtckebghkilamjaaThinAll
import Derived.Lib.SlBytesConst
namespace Go.Proofs.Ytckebghkilamjaa
open Go.RowKit

theorem xxh_nil : xxh 0 [] = 46947589 := by
  unfold xxh tblocks
  rw [if_pos (by decide), tails_end (by decide)]
  decide +kernel
theorem xxh_abc : xxh 0 [97, 98, 99] = 852579327 := by
  unfold xxh tblocks
  rw [if_pos (by decide), tails_end (by decide)]
  decide +kernel

theorem cell_new (w : World) (cs : Array Value) (t : TypeId) (f : Nat × Nat) (i : Nat) {v : Value} (h : cs[i]? = some v) : (w.alloc (.cells cs t f)).cell? ⟨w.heap.size, i, none⟩ = some v := by
  have e : (w.alloc (.cells cs t f)).heap[w.heap.size]? = some (.cells cs t f) := by
    show (w.heap.push _)[w.heap.size]? = _
    simp
  unfold World.cell?
  simp only [e]
  simpa using h

end Go.Proofs.Ytckebghkilamjaa

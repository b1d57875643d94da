/-
  What a slice of bytes that comes in is.
-/
import Derived.Test.YtbchiccgkhnkaaaMem
import Derived.Test.YtbchiccgkhnkaaaNum
namespace Go.Proofs.Ytbchiccgkhnkaaa
open Go.RowKit

/-- What a slice of bytes is. -/
structure In8 (w : World) (p : Option Addr) (N c : Nat) (xs : List Int) : Prop where
  len : N = xs.length
  cap : N ≤ c
  room : c ≤ 9223372036854775807
  bare : p = none → N = 0 ∧ c = 0
  oct : Octets xs
  at_ : Bytes8 w p xs

theorem In8.nil (w : World) : In8 w none 0 0 [] := ⟨rfl, Nat.le_refl _, by decide, fun _ => ⟨rfl, rfl⟩, fun b hb => by simp at hb, Bytes8.nil _ _⟩

theorem Bytes8.left {w : World} {p : Option Addr} {xs ys : List Int} (h : Bytes8 w p (xs ++ ys)) : Bytes8 w p xs := fun h0 => by
  obtain ⟨a, ha, hc⟩ := h (by rw [List.length_append]; omega)
  refine ⟨a, ha, fun i hi => ?_⟩
  rw [hc i (by rw [List.length_append]; omega), List.getD_eq_getElem?_getD, List.getD_eq_getElem?_getD, List.getElem?_append_left hi]

theorem cell_new (w : World) (cs : Array Value) (t : TypeId) (f : Nat × Nat) (i : Nat) {v : Value} (h : cs[i]? = some v) : (w.alloc (.cells cs t f)).cell? ⟨w.heap.size, i, none⟩ = some v := by
  have e : (w.alloc (.cells cs t f)).heap[w.heap.size]? = some (.cells cs t f) := by
    show (w.heap.push _)[w.heap.size]? = _
    simp
  unfold World.cell?
  simp only [e]
  simpa using h
end Go.Proofs.Ytbchiccgkhnkaaa

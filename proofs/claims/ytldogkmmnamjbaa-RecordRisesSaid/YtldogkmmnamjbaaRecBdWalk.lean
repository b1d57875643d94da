/-
  The law RecordBodies: its walk.
-/
import Derived.Test.YtldogkmmnamjbaaRecLaws
namespace Go.Proofs.Ytldogkmmnamjbaa
open Go.RowKit

/-- A record in new memory is a row of one. -/
theorem RecsAt.one (w : World) (t : TypeId) (r : Rec) : RecsAt (w.alloc (.cells (recCells r) t)) (some ⟨w.heap.size, 0, none⟩) [r] := fun i hi => by
  have : i = 0 := by simp at hi; omega
  subst this
  have h := RecAt.ofWhole (r := r) (Whole.new w t (recCells r))
  exact ⟨_, rfl, h.1, h.2.1, h.2.2.1, h.2.2.2⟩

theorem fewR_one {r : Rec} {b : Nat} : fewR [r] 1 b = littleR b r := by
  unfold fewR
  simp
theorem little_modest {r : Rec} (hf : r.Fine) (h : littleR 5000 r = true) : r.Modest := by
  unfold littleR at h
  rw [Bool.and_eq_true, decide_eq_true_eq, decide_eq_true_eq] at h
  exact ⟨hf, by omega, by omega⟩

theorem recEq (r : Rec) (w : World) : (binOp .eql 31 (recV r) (recV r)).run Try.prog w = .ok (.bool true) w := by
  unfold recV
  simp [go_sem]

theorem bodyR_len {r : Rec} (h : r.Modest) : (bodyR r).length ≤ 5000000 := by
  have h1 := vnum_ten h.fine.seq
  have h2 := vnum_ten (x := r.key.length) (by have := h.key; omega)
  have h3 := vnum_ten (x := r.val.length) (by have := h.val; omega)
  have hk := h.key
  have hv := h.val
  unfold bodyR textB
  split
  · simp only [List.length_cons, List.length_append]
    omega
  · simp only [List.length_cons, List.length_append]
    omega

end Go.Proofs.Ytldogkmmnamjbaa

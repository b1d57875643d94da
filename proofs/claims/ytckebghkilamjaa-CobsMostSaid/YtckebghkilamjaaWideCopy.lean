/-
  Package wide: copy into a State.
-/
import Derived.Test.YtckebghkilamjaaWideState
import Derived.Laws.CopyRow
import Derived.Deep.CutRange
import Derived.Deep.DeepCutAuto
namespace Go.Proofs.Ytckebghkilamjaa
open Go.RowKit

theorem take_mid {α : Type} (A B C : List α) (n : Nat) (h : n = A.length + B.length) : (A ++ B ++ C).take n = A ++ B := by
  rw [List.take_append_of_le_length (by simp; omega), List.take_of_length_le (by simp; omega)]

/-- The bytes don't fill the block that is open. -/
theorem part_short (v : Nat → Int) (xs ys ps : List Int) (N : Nat) (hN : N = ys.length) (ht : ps.take (xs.length % 32) = wleft xs) (hs : xs.length % 32 + N < 32) :
    (ps.take (xs.length % 32) ++ ys.take (min N (32 - xs.length % 32)) ++ ps.drop (xs.length % 32 + min N (32 - xs.length % 32))).take ((xs ++ ys).length % 32) = wleft (xs ++ ys) ∧ wnums v (xs ++ ys) ((xs ++ ys).length / 32) = wnums v xs (xs.length / 32) := by
  have e1 : (xs ++ ys).length % 32 = xs.length % 32 + N := by rw [List.length_append]; omega
  have e2 : (xs ++ ys).length / 32 = xs.length / 32 := by rw [List.length_append]; omega
  have e3 : ys.take (min N (32 - xs.length % 32)) = ys := List.take_of_length_le (by omega)
  refine ⟨?_, ?_⟩
  · rw [e1, e3, ht, take_mid _ _ _ _ (by rw [wleft_length]; omega)]
    unfold wleft
    rw [e2, List.drop_append_of_le_length (by omega)]
  · rw [e2, wnums_append _ _ _ _ (by omega)]
/-- They fill it. -/
theorem part_full (v : Nat → Int) (xs ys ps : List Int) (N : Nat) (hN : N = ys.length) (hp : ps.length = 32) (ht : ps.take (xs.length % 32) = wleft xs) (hs : 32 ≤ xs.length % 32 + N) :
    wtaken (wnums v xs (xs.length / 32)) (ps.take (xs.length % 32) ++ ys.take (min N (32 - xs.length % 32)) ++ ps.drop (xs.length % 32 + min N (32 - xs.length % 32))) 4 = wnums v (xs ++ ys) (xs.length / 32 + 1) ∧ ys.drop (min N (32 - xs.length % 32)) = (xs ++ ys).drop (32 * (xs.length / 32 + 1)) := by
  have e1 : min N (32 - xs.length % 32) = 32 - xs.length % 32 := by omega
  have e2 : ps.drop (xs.length % 32 + (32 - xs.length % 32)) = [] := List.drop_eq_nil_of_le (by omega)
  rw [e1, e2, List.append_nil, ht]
  refine ⟨?_, ?_⟩
  · show _ = wtaken (wnums v (xs ++ ys) (xs.length / 32)) ((xs ++ ys).drop (32 * (xs.length / 32))) 4
    rw [wnums_append _ _ _ _ (by omega), List.drop_append_of_le_length (by omega)]
    have e3 : xs.drop (32 * (xs.length / 32)) ++ ys = wleft xs ++ ys.take (32 - xs.length % 32) ++ ys.drop (32 - xs.length % 32) := by
      rw [List.append_assoc, List.take_append_drop]
      rfl
    rw [e3, wtaken_append _ (wleft xs ++ ys.take (32 - xs.length % 32)) _ _ (by rw [List.length_append, wleft_length, List.length_take]; omega)]
  · rw [List.drop_append, show xs.drop (32 * (xs.length / 32 + 1)) = [] from List.drop_eq_nil_of_le (by omega), List.nil_append]
    congr 1
    omega
/-- What stands behind the last whole block goes into the part. -/
theorem part_end (all ps : List Int) (k m : Nat) (hm : m = (all.drop (32 * k)).length) (hk : 32 * k ≤ all.length) (hs : m < 32) :
    (ps.take 0 ++ (all.drop (32 * k)).take (min m 32) ++ ps.drop (0 + min m 32)).take (all.length % 32) = wleft all ∧ k = all.length / 32 := by
  rw [List.length_drop] at hm
  have e : k = all.length / 32 := by omega
  refine ⟨?_, e⟩
  rw [List.take_zero, List.nil_append]
  rw [List.take_append_of_le_length (by simp; omega), List.take_of_length_le (by simp; omega), List.take_of_length_le (by simp; omega)]
  unfold wleft
  rw [e]

theorem Keeps.setRow {S : Nat → Prop} {a b : World} (h : Keeps S a b) {g : Nat} (hg : S g) (cs : Array Value) : Keeps S a (b.setRow g cs) := by
  refine ⟨h.os, h.tape, h.output, ?_, fun k hk hn => ?_⟩
  · refine Nat.le_trans h.size ?_
    unfold World.setRow
    simp
  · refine Eq.trans ?_ (h.block k hk hn)
    have hkg : ¬ g = k := fun e => hn (e ▸ hg)
    unfold World.setRow
    simp [Array.getElem?_modify, hkg]
theorem Whole.setRow {w : World} {g : Nat} {t : TypeId} {cs : Array Value} (h : Whole w g t cs) (cs' : Array Value) : Whole (w.setRow g cs') g t cs' := setRow_heap w g cs cs' t (0, 0) h

end Go.Proofs.Ytckebghkilamjaa

/-
  Package wide: a State in memory; eight, New, take.
-/
import Derived.Test.YtckebghkilamjaaWideSum
namespace Go.Proofs.Ytckebghkilamjaa
open Go.RowKit

theorem four8_le {xs : List Int} (h8 : 8 ≤ xs.length) : four8 xs 0 = four4 xs 0 + 4294967296 * four4 (xs.drop 4) 0 := by
  match xs, h8 with
  | a :: b :: c :: d :: e :: f :: g :: h :: r, _ => simp [four4, four8, le]; omega

/-- A State's cells. -/
def scells (s : Int) (v : Nat → Int) (ps : List Int) (z : Int) : Array Value :=
  (Value.int .u64 s :: Value.int .u64 (v 0) :: Value.int .u64 (v 1) :: Value.int .u64 (v 2) :: Value.int .u64 (v 3) :: (ps.map (Value.int .u8) ++ [Value.int .u64 z])).toArray
theorem scells_seed (s : Int) (v : Nat → Int) (ps : List Int) (z : Int) : (scells s v ps z)[0]? = some (.int .u64 s) := rfl
theorem scells_num (s : Int) (v : Nat → Int) (ps : List Int) (z : Int) {j : Nat} (hj : j < 4) : (scells s v ps z)[1 + j]? = some (.int .u64 (v j)) := by
  have : j = 0 ∨ j = 1 ∨ j = 2 ∨ j = 3 := by omega
  rcases this with rfl | rfl | rfl | rfl <;> rfl
theorem scells_size (s : Int) (v : Nat → Int) {ps : List Int} (z : Int) (h : ps.length = 32) : (scells s v ps z)[37]? = some (.int .u64 z) := by
  unfold scells
  rw [List.getElem?_toArray]
  show (ps.map (Value.int .u8) ++ [Value.int .u64 z])[32]? = _
  rw [List.getElem?_append_right (by simp [h])]
  simp [h]
theorem scells_part (s : Int) (v : Nat → Int) {ps : List Int} (z : Int) (i : Nat) (h : i < ps.length) : (scells s v ps z)[5 + i]? = some (.int .u8 (ps.getD i 0)) := by
  unfold scells
  rw [List.getElem?_toArray, Nat.add_comm 5]
  show (ps.map (Value.int .u8) ++ [Value.int .u64 z])[i]? = _
  rw [List.getElem?_append_left (by simpa using h)]
  simp [h]
theorem scells_setNum (s : Int) (v : Nat → Int) (ps : List Int) (z : Int) {j : Nat} (hj : j < 4) (x : Int) : (scells s v ps z).setIfInBounds (1 + j) (.int .u64 x) = scells s (upd v j x) ps z := by
  have : j = 0 ∨ j = 1 ∨ j = 2 ∨ j = 3 := by omega
  rcases this with rfl | rfl | rfl | rfl <;> rfl
theorem scells_setSize (s : Int) (v : Nat → Int) {ps : List Int} (z y : Int) (h : ps.length = 32) : (scells s v ps z).setIfInBounds 37 (.int .u64 y) = scells s v ps y := by
  apply Array.ext'
  unfold scells
  rw [Array.toList_setIfInBounds]
  show (Value.int .u64 s :: Value.int .u64 (v 0) :: Value.int .u64 (v 1) :: Value.int .u64 (v 2) :: Value.int .u64 (v 3) :: ((ps.map (Value.int .u8) ++ [Value.int .u64 z]).set 32 (.int .u64 y))) = _
  rw [List.set_append_right _ _ (by simp [h])]
  simp [h]
theorem scells_copy (s : Int) (v : Nat → Int) {ps cs : List Int} (z : Int) (o : Nat) (h : ps.length = 32) (hf : o + cs.length ≤ 32) :
    ((scells s v ps z).toList.take (5 + o) ++ cs.map (Value.int .u8) ++ (scells s v ps z).toList.drop (5 + o + cs.length)).toArray = scells s v (ps.take o ++ cs ++ ps.drop (o + cs.length)) z := by
  unfold scells
  rw [show 5 + o + cs.length = 5 + (o + cs.length) by omega, Nat.add_comm 5 o, Nat.add_comm 5 (o + cs.length)]
  simp only [List.take_succ_cons, List.drop_succ_cons, List.cons_append]
  rw [List.take_append_of_le_length (by simp; omega), List.drop_append_of_le_length (by simp; omega)]
  simp [List.map_take, List.map_drop]

end Go.Proofs.Ytckebghkilamjaa

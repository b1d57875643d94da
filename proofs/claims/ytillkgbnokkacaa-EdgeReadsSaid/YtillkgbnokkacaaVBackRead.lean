/-
  The law VarintBack: its reading.
-/
import Derived.Test.YtillkgbnokkacaaVarRead
import Derived.Test.YtillkgbnokkacaaApartWalk
namespace Go.Proofs.Ytillkgbnokkacaa
open Go.RowKit

theorem end_here {p : Option Addr} {Nb cb : Nat} {w : World} (k : Nat) (y : Int) (h : CurB w k p Nb cb Nb true y) (hc : (Nb : Int) ≤ 9223372036854775807) :
    Calls Try.prog 24 #[.pointer (some ⟨k, 0, none⟩)] w fun e w' => e = .returned (.tuple #[]) ∧ ∃ m, w' = w.drewN m := by
  have H := Lib.hid h; clear h
  go_enter Try.func24, Try.ntmps24
  go_wp2_with fail
  refine (left_at k p Nb cb Nb y _ H.out (Nat.le_refl _) hc).mono ?_
  rintro e w' ⟨rfl, m, rfl⟩
  go_wp2_with fail
  go_returns
  exact ⟨rfl, m, rfl⟩

theorem RowN.keepAt {w w' : World} {p : Option Addr} {l : List Nat} (h : RowN w p l) {S : Nat → Prop} (hk : Keeps S w w') (hs : 0 < l.length → ∀ q, p = some q → ¬ S q.block) : RowN w' p l := fun i hi => by
  obtain ⟨a, rfl, hc⟩ := h i hi
  exact ⟨a, rfl, hk.cell hc (by rw [addBlock]; exact hs (by omega) a rfl)⟩

theorem vnums_append : ∀ (l m : List Nat), vnums (l ++ m) = vnums l ++ vnums m
  | [], m => by simp [vnums]
  | x :: r, m => by simp [vnums, vnums_append r m]

theorem vnums_split (l : List Nat) (k : Nat) (hk : k < l.length) : (vnums l).drop (vnums (l.take k)).length = vnum (l.getD k 0) ++ vnums (l.drop (k + 1)) := by
  have e : l = l.take k ++ (l.getD k 0 :: l.drop (k + 1)) := by
    conv => lhs; rw [← List.take_append_drop k l, List.drop_eq_getElem_cons hk]
    simp [hk]
  conv => lhs; arg 2; rw [e]
  rw [vnums_append, List.drop_left]
  rfl

theorem vnums_take_le (l : List Nat) (k : Nat) : (vnums (l.take k)).length ≤ (vnums l).length := by
  conv => rhs; rw [← List.take_append_drop k l]
  rw [vnums_append, List.length_append]
  omega

/-- What the reading's loop carries. -/
structure VLoop (w0 W : World) (RB : Nat) (p : Option Addr) (Nb cb a : Nat) (wr : World) : Prop where
  cur : CurB wr (w0.heap.size + 1 + 1) p Nb cb a true 0
  keep : Keeps (fun i => i = w0.heap.size + 1 + 1 ∨ i = RB) W wr
  right : Whole wr RB 4 #[.bool true]

end Go.Proofs.Ytillkgbnokkacaa

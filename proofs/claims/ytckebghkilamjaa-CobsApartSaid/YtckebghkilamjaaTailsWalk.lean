/-
  The law ThinTails: its walk.
-/
import Derived.Test.YtckebghkilamjaaSumsWalk
import Derived.Test.YtckebghkilamjaaTailsNum
namespace Go.Proofs.Ytckebghkilamjaa
open Go.RowKit

theorem Copied.whole {w0 wx : World} {N : Nat} {xs : List Int} {v : Value} (h : Copied w0 N xs v wx) (hn : N = xs.length) (h0 : 0 < N) :
    ∃ g d cur, v = .slice (some ⟨g, 0, none⟩) N d ∧ N ≤ d ∧ d ≤ 9223372036854775807 ∧ w0.heap.size ≤ g ∧ Whole wx g 5 cur ∧ ∀ i, i < N → cur[i]? = some (.int .u8 (xs.getD i 0)) := by
  obtain ⟨⟨_, ⟨rfl, rfl⟩ | ⟨g, cap, cur, rfl, hg, hh, hc1, hc2, hc3, hc4⟩⟩, _⟩ := h
  · omega
  · unfold maxLen at hc2
    refine ⟨g, cap, cur, rfl, hc1, by omega, hg, hh, fun i hi => ?_⟩
    have e : (cur.toList.take (N * 1))[i]? = (xs.map (Value.int .u8))[i]? := by rw [hc4]
    rw [List.getElem?_take, if_pos (by omega)] at e
    rw [← Array.getElem?_toList, e]
    simp [show i < xs.length by omega]

theorem u8_xor_apart (y t : Int) (hy : 0 ≤ y ∧ y < 256) (ht : 0 ≤ t ∧ t < 256) (h0 : t ≠ 0) : (0 ≤ bits BinOp.xor IntKind.u8 y t ∧ bits BinOp.xor IntKind.u8 y t < 256) ∧ y ≠ bits BinOp.xor IntKind.u8 y t := by
  obtain ⟨a, rfl⟩ := Int.eq_ofNat_of_zero_le hy.1
  obtain ⟨b, rfl⟩ := Int.eq_ofNat_of_zero_le ht.1
  have ha : a < 256 := by omega
  have hb : b < 256 := by omega
  rw [u8_xor_nat a b ha hb]
  have hx := Nat.xor_lt_two_pow (n := 8) ha hb
  refine ⟨⟨by omega, by omega⟩, fun e => ?_⟩
  have e1 : a = a ^^^ b := by exact_mod_cast e
  have e2 : b = 0 := by
    have : a ^^^ a = a ^^^ (a ^^^ b) := by rw [← e1]
    rw [Nat.xor_self, ← Nat.xor_assoc, Nat.xor_self, Nat.zero_xor] at this
    exact this.symm
  omega

theorem ret_bool {b : Bool} (h : b = true) : Ending.returned (.bool b) = .returned (.bool true) := by rw [h]

theorem snoc_of : ∀ (xs : List Int), 0 < xs.length → ∃ ys y, xs = ys ++ [y] := fun xs h =>
  ⟨xs.dropLast, xs.getLast (List.ne_nil_of_length_pos h), (List.dropLast_concat_getLast _).symm⟩

end Go.Proofs.Ytckebghkilamjaa

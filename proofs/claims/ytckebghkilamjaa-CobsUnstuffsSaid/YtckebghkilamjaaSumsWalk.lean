/-
  The law ThinSums: its walk.
-/
import Derived.Test.YtckebghkilamjaaChecksWalk
import Derived.Test.YtckebghkilamjaaCurC
import Derived.Deep.RegionHeld3
import Derived.Deep.CutRange
import Derived.Deep.DeepCutAuto
namespace Go.Proofs.Ytckebghkilamjaa
open Go.RowKit

/-- A copy of bytes in new memory. -/
def Copied (w0 : World) (N : Nat) (xs : List Int) (v : Value) (wx : World) : Prop :=
  wx.ownsRow w0.heap.size 5 1 v N (xs.map (Value.int .u8)) ∧ Below w0.heap.size w0 wx

theorem Copied.read {w0 wx : World} {N : Nat} {xs : List Int} {v : Value} (h : Copied w0 N xs v wx) (hn : N = xs.length) : ∃ q d, v = .slice q N d ∧ N ≤ d ∧ d ≤ 9223372036854775807 ∧ Bytes8 wx q xs := by
  obtain ⟨⟨_, ⟨rfl, rfl⟩ | ⟨g, cap, cur, rfl, hg, hh, hc1, hc2, hc3, hc4⟩⟩, _⟩ := h
  · exact ⟨none, 0, rfl, Nat.le_refl _, by omega, fun h => by omega⟩
  · unfold maxLen at hc2
    refine ⟨_, cap, rfl, hc1, by omega, fun hx => ⟨_, rfl, fun i hi => ?_⟩⟩
    have hw : Whole wx g 5 cur := hh
    have hcell : cur[i]? = some (.int .u8 (xs.getD i 0)) := by
      have e : (cur.toList.take (N * 1))[i]? = (xs.map (Value.int .u8))[i]? := by rw [hc4]
      rw [List.getElem?_take, if_pos (by omega)] at e
      rw [← Array.getElem?_toList, e]
      simp [hi]
    rw [addZero]
    exact hw.cell i hcell

theorem Keeps.ofDrew {S : Nat → Prop} {a b : World} (h : Keeps S a.drew b) : Keeps S a b := ⟨h.os, h.tape, h.output, h.size, h.block⟩
theorem Keeps.ofDrewN {S : Nat → Prop} {a b : World} {n : Nat} (h : Keeps S (a.drewN n) b) : Keeps S a b := ⟨h.os, h.tape, h.output, h.size, h.block⟩

end Go.Proofs.Ytckebghkilamjaa

/-
  A Buffer: a new one, and one that others' writings leave as it is.
-/
import Derived.Test.YtbchiccgkhnkaaaBufB
namespace Go.Proofs.Ytbchiccgkhnkaaa
open Go.RowKit

theorem bufNewB (w : World) (base : Nat) : BufAt (w.alloc (.cells #[.slice none 0 0] 40)) base w.heap.size [] :=
  ⟨.slice none 0 0, Whole.new _ _ _, by simp, .inl ⟨rfl, by simp⟩⟩

theorem BufAt.keepO {w w' : World} {base g : Nat} {xs : List Int} (h : BufAt w base g xs) {S : Nat → Prop} (hk : Keeps S w w') (hg : ¬ S g) (ho : ∀ j cs, Whole w j 5 cs → base ≤ j → ¬ S j) : BufAt w' base g xs := by
  obtain ⟨v, hv, hown⟩ := h
  refine ⟨v, hv.keep hk hg, hown.1, ?_⟩
  rcases hown.2 with h2 | ⟨j, cap, cur, rfl, hb, hh, r⟩
  · exact .inl h2
  · exact .inr ⟨j, cap, cur, rfl, hb, Whole.keep (show Whole w j 5 cur from hh) hk (ho j cur hh hb), r⟩

theorem BufAt.lower {w : World} {base base' g : Nat} {xs : List Int} (h : BufAt w base g xs) (hb : base' ≤ base) : BufAt w base' g xs := by
  obtain ⟨v, hv, hown⟩ := h
  refine ⟨v, hv, hown.1, ?_⟩
  rcases hown.2 with h2 | ⟨j, cap, cur, rfl, hb2, r⟩
  · exact .inl h2
  · exact .inr ⟨j, cap, cur, rfl, Nat.le_trans hb hb2, r⟩
end Go.Proofs.Ytbchiccgkhnkaaa

/-
  Contracts of bytes.Clone and of Take: a copy in new memory.
-/
import Derived.Test.YtckebghkilamjaaCurB
namespace Go.Proofs.Ytckebghkilamjaa
open Go.RowKit

theorem infoByte : (Try.prog.info? 5).map (fun i => (i.zero, i.size, i.bytes)) = some (some (.int .u8 0), 1, 1) := by kernel_rfl

/-- A slice of bytes in new memory (nil, if so wanted, too). -/
def Fresh8 (S : Nat → Prop) (n : Nat) (xs : List Int) (w : World) (v : Value) (w' : World) : Prop :=
  ∃ q c, v = .slice q n c ∧ n ≤ c ∧ c ≤ maxLen ∧ Bytes8 w' q xs ∧ (∀ a, q = some a → w.heap.size ≤ a.block ∧ a.block < w'.heap.size) ∧ Keeps S w w'

theorem fresh_of_own {S : Nat → Prop} {w w' : World} {v : Value} {n : Nat} {xs : List Int} (hn : n = xs.length) (hown : w'.ownsRow w.heap.size 5 1 v n (xs.map (Value.int .u8))) (hb : Below w.heap.size w w') : Fresh8 S n xs w v w' := by
  rcases hown with ⟨hl, ⟨rfl, rfl⟩ | ⟨g, cap, cur, rfl, hg, hh, hc1, hc2, hc3, hc4⟩⟩
  · exact ⟨none, 0, rfl, Nat.le_refl _, Nat.zero_le _, fun h => by omega, fun a h => by simp at h, .ofBelow hb⟩
  · refine ⟨_, cap, rfl, hc1, hc2, fun hx => ⟨_, rfl, fun i hi => ?_⟩, fun a ha => ?_, .ofBelow hb⟩
    · have hw : Whole w' g 5 cur := hh
      have hcell : cur[i]? = some (.int .u8 (xs.getD i 0)) := by
        have e : (cur.toList.take (n * 1))[i]? = (xs.map (Value.int .u8))[i]? := by rw [hc4]
        rw [List.getElem?_take, if_pos (by omega)] at e
        rw [← Array.getElem?_toList, e]
        simp [hi]
      have := hw.cell i hcell
      have e : Addr.add ⟨g, 0, none⟩ i = ⟨g, i, none⟩ := by unfold Addr.add; split <;> simp_all
      rw [e]
      exact this
    · obtain rfl := Option.some.inj ha
      exact ⟨hg, lt_of_block hh⟩

theorem fresh_nil (w : World) : Fresh8 NoBlock 0 [] w (.slice none 0 0) w :=
  ⟨none, 0, rfl, Nat.le_refl _, Nat.zero_le _, Bytes8.nil _ _, fun a h => by simp at h, Keeps.refl _ _⟩

/-- What was fresh behind another step, is. -/
theorem Fresh8.after {S S' : Nat → Prop} {n : Nat} {xs : List Int} {w w1 w2 : World} {v : Value} (h : Fresh8 S' n xs w1 v w2) (hk : Keeps S w w1) (hs : ∀ k, S' k → S k) : Fresh8 S n xs w v w2 := by
  obtain ⟨q, c, rfl, h1, h2, h3, h4, h5⟩ := h
  exact ⟨q, c, rfl, h1, h2, h3, fun a ha => ⟨Nat.le_trans hk.size (h4 a ha).1, (h4 a ha).2⟩, hk.then h5 fun k _ hS => hs k hS⟩

end Go.Proofs.Ytckebghkilamjaa

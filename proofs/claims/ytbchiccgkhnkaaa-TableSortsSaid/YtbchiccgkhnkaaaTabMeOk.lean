/-
  Sorted answers a row of its own; one cell of a row of one's own is written.
-/
import Derived.Test.YtbchiccgkhnkaaaTabLaws
import Derived.Test.YtbchiccgkhnkaaaRows2
namespace Go.Proofs.Ytbchiccgkhnkaaa
open Go.RowKit

/-- Sorted answers a row of its own (the laws append to it, and write into it). -/
structure MergeOk : Prop where
  sorted : ∀ (p : Option Addr) (n c : Nat) (l : List En) (w : World), InE w p n c l → n ≤ 100000 →
    Calls Try.prog 9 #[.slice p n c] w fun e w' => ∃ v, e = .returned v ∧ TwosSoFar enH enA 29 w (sortE l) v w'

section
variable {α : Type} {v0 v1 : α → Value} {dd : α}
theorem twoFlat_set : ∀ (l : List α) (i : Nat) (r : α), i < l.length → v0 r = v0 (l.getD i dd) → twoFlat v0 v1 (l.set i r) = (twoFlat v0 v1 l).set (i * 2 + 1) (v1 r)
  | [], i, r, h, _ => by simp at h
  | x :: l, 0, r, _, h => by
    have h' : v0 r = v0 x := by simpa using h
    simp [twoFlat, h']
  | x :: l, i + 1, r, h, h2 => by
    have ih := twoFlat_set l i r (by simpa using h) (by simpa using h2)
    have e : (i + 1) * 2 + 1 = (i * 2 + 1) + 1 + 1 := by omega
    rw [List.set_cons_succ, e]
    show v0 x :: v1 x :: twoFlat v0 v1 (l.set i r) = (v0 x :: v1 x :: twoFlat v0 v1 l).set (i * 2 + 1 + 1 + 1) (v1 r)
    rw [List.set_cons_succ, List.set_cons_succ, ih]
/-- A row of one's own in memory: its block, whole. -/
theorem TwosSoFar.whole {t : TypeId} {w0 wr : World} {l : List α} {g n d : Nat} (h : TwosSoFar v0 v1 t w0 l (.slice (some ⟨g, 0, none⟩) n d) wr) :
    ∃ cur, Whole wr g t cur ∧ n = l.length ∧ w0.heap.size ≤ g ∧ n ≤ d ∧ d ≤ maxLen ∧ cur.size = d * 2 ∧ cur.toList.take (l.length * 2) = twoFlat v0 v1 l := by
  obtain ⟨⟨_, ho⟩, _⟩ := h
  rcases ho with ⟨hn, _⟩ | ⟨g', cap, cur, hv, hb, hg, h1, h2, h3, h4⟩
  · simp at hn
  · simp only [Value.slice.injEq, Option.some.injEq, Addr.mk.injEq, and_true] at hv
    obtain ⟨rfl, rfl, rfl⟩ := hv
    exact ⟨cur, hg, rfl, hb, h1, h2, h3, h4⟩
theorem TwosSoFar.setTwo {t : TypeId} {w0 wr : World} {l : List α} {g n d i : Nat} (h : TwosSoFar v0 v1 t w0 l (.slice (some ⟨g, 0, none⟩) n d) wr) (hi : i < l.length) (r : α) (hr : v0 r = v0 (l.getD i dd)) :
    TwosSoFar v0 v1 t w0 (l.set i r) (.slice (some ⟨g, 0, none⟩) n d) (wr.setCell ⟨g, i * 2 + 1, none⟩ (v1 r)) := by
  obtain ⟨cur, hw, hn, hb, h1, h2, h3, h4⟩ := h.whole
  refine ⟨⟨by rw [twoFlat_length], .inr ⟨g, d, cur.setIfInBounds (i * 2 + 1) (v1 r), ?_, hb, hw.set (i * 2 + 1) (v1 r), ?_, h2, ?_, ?_⟩⟩, h.2.setCell hb _⟩
  · rw [List.length_set, ← hn]
  · rw [List.length_set, ← hn]; exact h1
  · rw [Array.size_setIfInBounds]; exact h3
  · rw [List.length_set, Array.toList_setIfInBounds, List.take_set, h4, twoFlat_set (dd := dd) l i r hi hr]
theorem TwosSoFar.setFar {t : TypeId} {w0 wr : World} {l : List α} {g n d : Nat} (h : TwosSoFar v0 v1 t w0 l (.slice (some ⟨g, 0, none⟩) n d) wr) {p : Addr} (hp : g ≠ p.block) (hb : w0.heap.size ≤ p.block) (x : Value) : TwosSoFar v0 v1 t w0 l (.slice (some ⟨g, 0, none⟩) n d) (wr.setCell p x) :=
  ⟨ownsRow_setCell_other h.1 (by simp [Value.ownBlock]; exact hp) _, h.2.setCell hb _⟩
theorem TwosSoFar.cells2 {t : TypeId} {w0 wr : World} {l : List α} {g n d i : Nat} (h : TwosSoFar v0 v1 t w0 l (.slice (some ⟨g, 0, none⟩) n d) wr) (hi : i < l.length) :
    wr.cell? ⟨g, i * 2, none⟩ = some (v0 (l.getD i dd)) ∧ wr.cell? ⟨g, i * 2 + 1, none⟩ = some (v1 (l.getD i dd)) ∧ wr.frozen? ⟨g, i * 2 + 1, none⟩ = false := by
  obtain ⟨cur, hw, hn, hb, h1, h2, h3, h4⟩ := h.whole
  have hc := h.1.cells (g := g) rfl
  refine ⟨?_, ?_, hw.free _⟩
  · have := hc (i * 2 + 0) _ (by rw [twoFlat_at (dd := dd) l i 0 hi (by decide)]; rfl)
    rw [Addr.add_lit, Nat.zero_add] at this
    exact this
  · have := hc (i * 2 + 1) _ (by rw [twoFlat_at (dd := dd) l i 1 hi (by decide)]; rfl)
    rw [Addr.add_lit, Nat.zero_add] at this
    exact this
end
end Go.Proofs.Ytbchiccgkhnkaaa

/-
  Rows of pairs in memory: what can be read, what is one's own.
-/
import Derived.Test.YtbchiccgkhnkaaaElRef
import Derived.Test.YtbchiccgkhnkaaaCurC
namespace Go.Proofs.Ytbchiccgkhnkaaa
open Go.RowKit

theorem own_keep {w w' : World} {base size n : Nat} {e : TypeId} {v : Value} {xs : List Value} (h : w.ownsRow base e size v n xs) {S : Nat → Prop} (hk : Keeps S w w') (hs : ∀ k, base ≤ k → ¬ S k) : w'.ownsRow base e size v n xs := by
  refine ⟨h.1, ?_⟩
  rcases h.2 with hn | ⟨g, cap, cur, rfl, hb, hgg, rest⟩
  · exact .inl hn
  · have hlt : g < w.heap.size := (Array.getElem?_eq_some_iff.1 hgg).1
    exact .inr ⟨g, cap, cur, rfl, hb, (hk.block g hlt (hs g hb)).trans hgg, rest⟩

/-- A row of pairs that can be read. -/
def PrsAt (w : World) (p : Option Addr) (l : List Pr) : Prop :=
  ∀ i, i < l.length → ∃ a : Addr, p = some a ∧ w.cell? (a.add (i * 2)) = some (.string (strOfNums (l.getD i Pr.none).key)) ∧ w.cell? ⟨(a.add (i * 2)).block, (a.add (i * 2)).off + 1, none⟩ = some (.string (strOfNums (l.getD i Pr.none).val))
theorem PrsAt.keep {w w' : World} {p : Option Addr} {l : List Pr} (h : PrsAt w p l) {S : Nat → Prop} (hk : Keeps S w w') (hs : ∀ k, k < w.heap.size → ¬ S k) : PrsAt w' p l := fun i hi => by
  obtain ⟨a, rfl, c0, c1⟩ := h i hi
  exact ⟨a, rfl, hk.cell c0 (hs _ (ltOfCell c0)), hk.cell c1 (hs _ (ltOfCell c1))⟩

def prTwo (p : Pr) : List Value := [.string (strOfNums p.key), .string (strOfNums p.val)]
def prFlat (l : List Pr) : List Value := l.flatMap prTwo
theorem prFlat_append (a b : List Pr) : prFlat (a ++ b) = prFlat a ++ prFlat b := List.flatMap_append
theorem prFlat_at : ∀ (l : List Pr) (i j : Nat), i < l.length → j < 2 → (prFlat l)[i * 2 + j]? = (prTwo (l.getD i Pr.none))[j]?
  | [], i, j, h, _ => by simp at h
  | r :: l, 0, j, _, hj => by
    rw [prFlat, List.flatMap_cons, List.getElem?_append_left (by simp [prTwo]; omega)]
    simp
  | r :: l, i + 1, j, h, hj => by
    rw [prFlat, List.flatMap_cons, List.getElem?_append_right (by simp [prTwo]; omega), ← prFlat]
    have e : (i + 1) * 2 + j - (prTwo r).length = i * 2 + j := by simp [prTwo]; omega
    rw [e, prFlat_at l i j (by simpa using h) hj]
    simp
theorem PrsAt.ofOwn {w : World} {base n : Nat} {t : TypeId} {v : Value} {l : List Pr} (h : w.ownsRow base t 2 v n (prFlat l)) (hn : n = l.length) :
    ∃ p c, v = .slice p n c ∧ n ≤ c ∧ c ≤ 9223372036854775807 ∧ (p = none → n = 0 ∧ c = 0) ∧ PrsAt w p l := by
  have h' := h
  rcases h with ⟨_, ⟨rfl, rfl⟩ | ⟨g, cap, cur, rfl, hg, hh, hc1, hc2, hc3, hc4⟩⟩
  · exact ⟨none, 0, rfl, Nat.le_refl _, by decide, fun _ => ⟨rfl, rfl⟩, fun i hi => by omega⟩
  · refine ⟨_, cap, rfl, hc1, by unfold maxLen at hc2; omega, fun h => by simp at h, fun i hi => ?_⟩
    have hc := h'.cells (g := g) rfl
    have ha : ∀ j u, j < 2 → (prTwo (l.getD i Pr.none))[j]? = some u → w.cell? ⟨g, i * 2 + j, none⟩ = some u := fun j u hj hu => by
      have := hc (i * 2 + j) u (by rw [prFlat_at l i j hi hj]; exact hu)
      rw [Addr.add_lit, Nat.zero_add] at this
      exact this
    refine ⟨⟨g, 0, none⟩, rfl, ?_, ?_⟩
    all_goals simp only [Addr.add_lit, Nat.zero_add]
    · exact ha 0 _ (by decide) rfl
    · exact ha 1 _ (by decide) rfl

/-- A new row of pairs. -/
def NewPrs (w : World) (l : List Pr) (v : Value) (w' : World) : Prop :=
  ∃ (q : Option Addr) (m d : Nat), v = .slice q m d ∧ m = l.length ∧ m ≤ d ∧ d ≤ 9223372036854775807 ∧ (q = none → m = 0 ∧ d = 0) ∧ PrsAt w' q l ∧ Keeps NoBlock w w'
/-- The pairs got so far. -/
def PrsSoFar (t : TypeId) (w0 : World) (l : List Pr) (v : Value) (wr : World) : Prop := wr.ownsRow w0.heap.size t 2 v l.length (prFlat l) ∧ Below w0.heap.size w0 wr
theorem PrsSoFar.new {t : TypeId} {w0 wr : World} {l : List Pr} {v : Value} (h : PrsSoFar t w0 l v wr) : NewPrs w0 l v wr := by
  obtain ⟨p, c, hv, h1, h2, h3, h4⟩ := PrsAt.ofOwn h.1 rfl
  exact ⟨p, _, c, hv, rfl, h1, h2, h3, h4, Keeps.ofBelow h.2⟩
end Go.Proofs.Ytbchiccgkhnkaaa

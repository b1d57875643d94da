/-
  A row of entries in a block of its own, place by place.
-/
import Derived.Test.YtbchiccgkhnkaaaTabMeOk
import Derived.OwnWalk
namespace Go.Proofs.Ytbchiccgkhnkaaa
open Go.RowKit

/-- Block g has room for d entries; the first n are those of f. -/
def RowF (wr : World) (g d n : Nat) (f : Nat → En) : Prop :=
  ∃ cur, Whole wr g 29 cur ∧ cur.size = d * 2 ∧ n ≤ d ∧ ∀ i, i < n → cur[i * 2]? = some (enH (f i)) ∧ cur[i * 2 + 1]? = some (enA (f i))
theorem RowF.lt {wr : World} {g d n : Nat} {f : Nat → En} (h : RowF wr g d n f) : g < wr.heap.size := by
  obtain ⟨cur, hw, _⟩ := h
  exact hw.lt
theorem RowF.le {wr : World} {g d n : Nat} {f : Nat → En} (h : RowF wr g d n f) : n ≤ d := by
  obtain ⟨cur, _, _, h, _⟩ := h
  exact h
theorem RowF.cell {wr : World} {g d n : Nat} {f : Nat → En} (h : RowF wr g d n f) {i : Nat} (hi : i < n) :
    wr.cell? ⟨g, i * 2, none⟩ = some (.int .u64 ((f i).hash : Int)) ∧ wr.cell? ⟨g, i * 2 + 1, none⟩ = some (.int .u32 ((f i).at_ : Int)) := by
  obtain ⟨cur, hw, _, _, hc⟩ := h
  exact ⟨hw.cell _ (hc i hi).1, hw.cell _ (hc i hi).2⟩
theorem RowF.free {wr : World} {g d n : Nat} {f : Nat → En} (h : RowF wr g d n f) (i : Nat) : wr.frozen? ⟨g, i, none⟩ = false := by
  obtain ⟨cur, hw, _⟩ := h
  exact hw.free i
theorem RowF.keep {w w' : World} {g d n : Nat} {f : Nat → En} (h : RowF w g d n f) {S : Nat → Prop} (hk : Keeps S w w') (hs : ¬ S g) : RowF w' g d n f := by
  obtain ⟨cur, hw, h1⟩ := h
  exact ⟨cur, hw.keep hk hs, h1⟩
theorem RowF.drew {w : World} {g d n : Nat} {f : Nat → En} (h : RowF w g d n f) : RowF w.drew g d n f := h
theorem RowF.congr {w : World} {g d n m : Nat} {f f' : Nat → En} (h : RowF w g d n f) (hm : m ≤ n) (he : ∀ i, i < m → f i = f' i) : RowF w g d m f' := by
  obtain ⟨cur, hw, h1, h2, h3⟩ := h
  exact ⟨cur, hw, h1, by omega, fun i hi => by rw [← he i hi]; exact h3 i (by omega)⟩
theorem RowF.put {w : World} {g d n : Nat} {f : Nat → En} (h : RowF w g d n f) {k : Nat} (hk : k < n) (x : En) :
    RowF ((w.setCell ⟨g, k * 2, none⟩ (.int .u64 (x.hash : Int))).setCell ⟨g, k * 2 + 1, none⟩ (.int .u32 (x.at_ : Int))) g d n (fun i => if i = k then x else f i) := by
  obtain ⟨cur, hw, h1, h2, h3⟩ := h
  refine ⟨_, (hw.set _ _).set _ _, by simpa using h1, h2, fun i hi => ?_⟩
  dsimp only
  by_cases e : i = k
  · subst e
    constructor
    · rw [if_pos rfl, Array.getElem?_setIfInBounds_ne (by omega), Array.getElem?_setIfInBounds_self_of_lt (by omega)]
      rfl
    · rw [if_pos rfl, Array.getElem?_setIfInBounds_self_of_lt (by simp; omega)]
      rfl
  · rw [if_neg e]
    constructor
    · rw [Array.getElem?_setIfInBounds_ne (by omega), Array.getElem?_setIfInBounds_ne (by omega)]
      exact (h3 i hi).1
    · rw [Array.getElem?_setIfInBounds_ne (by omega), Array.getElem?_setIfInBounds_ne (by omega)]
      exact (h3 i hi).2
theorem keepsPut {S : Nat → Prop} {a b : World} (h : Keeps S a b) {g : Nat} (hg : S g ∨ a.heap.size ≤ g) (i j : Nat) (u v : Value) : Keeps S a ((b.setCell ⟨g, i, none⟩ u).setCell ⟨g, j, none⟩ v) := (h.set hg u).set hg v

/-- The row as entries that can be read. -/
theorem RowF.ens {w : World} {g d n : Nat} {f : Nat → En} (h : RowF w g d n f) {l : List En} (hl : l.length ≤ n) (he : ∀ i, i < l.length → l.getD i En.none = f i) : EnsAt w (some ⟨g, 0, none⟩) l := fun i hi => by
  refine ⟨_, rfl, ?_⟩
  have hc := h.cell (i := i) (by omega)
  rw [← he i hi] at hc
  simp only [Addr.add_lit, Nat.zero_add]
  exact hc
/-- A row of one's own, place by place. -/
theorem RowF.ofOwn {w : World} {base g n d : Nat} {l : List En} (h : w.ownsRow base 29 2 (.slice (some ⟨g, 0, none⟩) n d) n (twoFlat enH enA l)) (hn : n = l.length) :
    RowF w g d n (fun i => l.getD i En.none) ∧ base ≤ g ∧ d ≤ maxLen := by
  rcases h with ⟨hl, ⟨h0, _⟩ | ⟨g', cap, cur, hv, hb, hg, h1, h2, h3, h4⟩⟩
  · simp at h0
  · simp only [Value.slice.injEq, Option.some.injEq, Addr.mk.injEq, and_true, true_and] at hv
    obtain ⟨rfl, rfl⟩ := hv
    refine ⟨⟨cur, hg, h3, h1, fun i hi => ?_⟩, hb, h2⟩
    have e : ∀ j u, j < 2 → [enH (l.getD i En.none), enA (l.getD i En.none)][j]? = some u → cur[i * 2 + j]? = some u := fun j u hj hu => by
      have h5 := twoFlat_at (v0 := enH) (v1 := enA) (dd := En.none) l i j (by omega) hj
      rw [← h4, hu, List.getElem?_take_of_lt (by omega)] at h5
      simpa using h5
    exact ⟨e 0 _ (by decide) rfl, e 1 _ (by decide) rfl⟩
/-- .. and back. -/
theorem RowF.own {w : World} {base g n d : Nat} {f : Nat → En} (h : RowF w g d n f) {l : List En} (hl : l.length ≤ n) (he : ∀ i, i < l.length → l.getD i En.none = f i) (hb : base ≤ g) (hd : d ≤ maxLen) :
    w.ownsRow base 29 2 (.slice (some ⟨g, 0, none⟩) l.length d) l.length (twoFlat enH enA l) := by
  obtain ⟨cur, hw, h1, h2, h3⟩ := h
  refine ⟨twoFlat_length l, .inr ⟨g, d, cur, rfl, hb, hw, by omega, hd, h1, ?_⟩⟩
  apply List.ext_getElem?
  intro j
  by_cases hj : j < l.length * 2
  · rw [List.getElem?_take_of_lt hj]
    have hi : j / 2 < l.length := by omega
    have h4 := h3 (j / 2) (by omega)
    rw [← he (j / 2) hi] at h4
    by_cases h5 : j % 2 = 0
    · have e : j = j / 2 * 2 + 0 := by omega
      rw [e, twoFlat_at (v0 := enH) (v1 := enA) (dd := En.none) l (j / 2) 0 hi (by decide)]
      simpa using h4.1
    · have e : j = j / 2 * 2 + 1 := by omega
      rw [e, twoFlat_at (v0 := enH) (v1 := enA) (dd := En.none) l (j / 2) 1 hi (by decide)]
      simpa using h4.2
  · rw [List.getElem?_eq_none (by rw [List.length_take]; omega), List.getElem?_eq_none (by rw [twoFlat_length]; omega)]

theorem madeTwos (n : Nat) : (madeCells (Value.agg #[.int .u64 0, .int .u32 0]).cells (n * 2)).toList = twoFlat enH enA (List.replicate n En.none) := by
  have hz : (Value.agg #[.int .u64 0, .int .u32 0]).cells = #[.int .u64 0, .int .u32 0] := rfl
  rw [hz]
  apply List.ext_getElem?
  intro j
  by_cases hj : j < n * 2
  · have hi : j / 2 < (List.replicate n En.none).length := by simp; omega
    have h6 : (madeCells #[.int .u64 0, .int .u32 0] (n * 2)).toList[j]? = some ((#[Value.int .u64 0, Value.int .u32 0])[j % 2]!) := by
      rw [Array.getElem?_toList]
      simp [madeCells, hj]
    have h7 : (List.replicate n En.none).getD (j / 2) En.none = En.none := by
      rw [List.getD_eq_getElem?_getD, List.getElem?_replicate]
      split <;> rfl
    rw [h6]
    by_cases h5 : j % 2 = 0
    · have e : j = j / 2 * 2 + 0 := by omega
      rw [h5]
      conv => rhs; rw [e]
      rw [twoFlat_at (v0 := enH) (v1 := enA) (dd := En.none) _ (j / 2) 0 hi (by decide), h7]
      rfl
    · have e : j = j / 2 * 2 + 1 := by omega
      rw [show j % 2 = 1 by omega]
      conv => rhs; rw [e]
      rw [twoFlat_at (v0 := enH) (v1 := enA) (dd := En.none) _ (j / 2) 1 hi (by decide), h7]
      rfl
  · rw [List.getElem?_eq_none (by simp [madeCells]; omega), List.getElem?_eq_none (by rw [twoFlat_length]; simp; omega)]
end Go.Proofs.Ytbchiccgkhnkaaa

/-
  TabMeOk; TabRow; TabCmp; TabCmp2; TabRis; TabComp; TabComp2; TabLay; TabSorted; TabFind; TabHash.
-/
import Derived.Test.YtbchiccgkhnkaaaTabLaws
import Derived.Test.YtbchiccgkhnkaaaRows2
import Derived.OwnWalk
import Derived.Test.YtbchiccgkhnkaaaSwap
import Derived.Sort.Grow
import Derived.Shelf.SlSortCmp.InsertionK
import Derived.Shelf.SlSortCmp.QuietGrown
import Derived.Lib.SlicesCompact
import Derived.Lib.SliceRun
import Derived.Sort.Statements
import Derived.Shelf.SlSortCmp.NoneTotal
import Derived.Shelf.SlSorted.Search
import Derived.Test.YtbchiccgkhnkaaaWideAll
import Derived.Test.YtbchiccgkhnkaaaStrBytes
namespace Go.Proofs.Ytbchiccgkhnkaaa
open Go.RowKit

/-- Sorted answers a row of its own (the laws append to it, and write into it). -/
structure MergeOk : Prop where
  sorted : ∀ (p : Option Addr) (n c : Nat) (l : List En) (w : World), InE w p n c l → n ≤ 100000 →
    Calls Try.prog 9 #[.slice p n c] w fun e w' => ∃ v, e = .returned v ∧ TwosSoFar enH enA 29 w (sortE l) v w'

section
variable {α : Type} {v0 v1 : α → Value} {dd : α}
theorem twoFlat_set : ∀ (l : List α) (i : Nat) (r : α), i < l.length → v0 r = v0 (l.getD i dd) → twoFlat v0 v1 (l.set i r) = (twoFlat v0 v1 l).set (i * 2 + 1) (v1 r)
  | [], i, r, h, _ => by simp at h
  | x :: l, 0, r, _, h => by
    have h' : v0 r = v0 x := by simpa using h
    simp [twoFlat, h']
  | x :: l, i + 1, r, h, h2 => by
    have ih := twoFlat_set l i r (by simpa using h) (by simpa using h2)
    have e : (i + 1) * 2 + 1 = (i * 2 + 1) + 1 + 1 := by omega
    rw [List.set_cons_succ, e]
    show v0 x :: v1 x :: twoFlat v0 v1 (l.set i r) = (v0 x :: v1 x :: twoFlat v0 v1 l).set (i * 2 + 1 + 1 + 1) (v1 r)
    rw [List.set_cons_succ, List.set_cons_succ, ih]
/-- A row of one's own in memory: its block, whole. -/
theorem TwosSoFar.whole {t : TypeId} {w0 wr : World} {l : List α} {g n d : Nat} (h : TwosSoFar v0 v1 t w0 l (.slice (some ⟨g, 0, none⟩) n d) wr) :
    ∃ cur, Whole wr g t cur ∧ n = l.length ∧ w0.heap.size ≤ g ∧ n ≤ d ∧ d ≤ maxLen ∧ cur.size = d * 2 ∧ cur.toList.take (l.length * 2) = twoFlat v0 v1 l := by
  obtain ⟨⟨_, ho⟩, _⟩ := h
  rcases ho with ⟨hn, _⟩ | ⟨g', cap, cur, hv, hb, hg, h1, h2, h3, h4⟩
  · simp at hn
  · simp only [Value.slice.injEq, Option.some.injEq, Addr.mk.injEq, and_true] at hv
    obtain ⟨rfl, rfl, rfl⟩ := hv
    exact ⟨cur, hg, rfl, hb, h1, h2, h3, h4⟩
theorem TwosSoFar.setTwo {t : TypeId} {w0 wr : World} {l : List α} {g n d i : Nat} (h : TwosSoFar v0 v1 t w0 l (.slice (some ⟨g, 0, none⟩) n d) wr) (hi : i < l.length) (r : α) (hr : v0 r = v0 (l.getD i dd)) :
    TwosSoFar v0 v1 t w0 (l.set i r) (.slice (some ⟨g, 0, none⟩) n d) (wr.setCell ⟨g, i * 2 + 1, none⟩ (v1 r)) := by
  obtain ⟨cur, hw, hn, hb, h1, h2, h3, h4⟩ := h.whole
  refine ⟨⟨by rw [twoFlat_length], .inr ⟨g, d, cur.setIfInBounds (i * 2 + 1) (v1 r), ?_, hb, hw.set (i * 2 + 1) (v1 r), ?_, h2, ?_, ?_⟩⟩, h.2.setCell hb _⟩
  · rw [List.length_set, ← hn]
  · rw [List.length_set, ← hn]; exact h1
  · rw [Array.size_setIfInBounds]; exact h3
  · rw [List.length_set, Array.toList_setIfInBounds, List.take_set, h4, twoFlat_set (dd := dd) l i r hi hr]
theorem TwosSoFar.setFar {t : TypeId} {w0 wr : World} {l : List α} {g n d : Nat} (h : TwosSoFar v0 v1 t w0 l (.slice (some ⟨g, 0, none⟩) n d) wr) {p : Addr} (hp : g ≠ p.block) (hb : w0.heap.size ≤ p.block) (x : Value) : TwosSoFar v0 v1 t w0 l (.slice (some ⟨g, 0, none⟩) n d) (wr.setCell p x) :=
  ⟨ownsRow_setCell_other h.1 (by simp [Value.ownBlock]; exact hp) _, h.2.setCell hb _⟩
theorem TwosSoFar.cells2 {t : TypeId} {w0 wr : World} {l : List α} {g n d i : Nat} (h : TwosSoFar v0 v1 t w0 l (.slice (some ⟨g, 0, none⟩) n d) wr) (hi : i < l.length) :
    wr.cell? ⟨g, i * 2, none⟩ = some (v0 (l.getD i dd)) ∧ wr.cell? ⟨g, i * 2 + 1, none⟩ = some (v1 (l.getD i dd)) ∧ wr.frozen? ⟨g, i * 2 + 1, none⟩ = false := by
  obtain ⟨cur, hw, hn, hb, h1, h2, h3, h4⟩ := h.whole
  have hc := h.1.cells (g := g) rfl
  refine ⟨?_, ?_, hw.free _⟩
  · have := hc (i * 2 + 0) _ (by rw [twoFlat_at (dd := dd) l i 0 hi (by decide)]; rfl)
    rw [Addr.add_lit, Nat.zero_add] at this
    exact this
  · have := hc (i * 2 + 1) _ (by rw [twoFlat_at (dd := dd) l i 1 hi (by decide)]; rfl)
    rw [Addr.add_lit, Nat.zero_add] at this
    exact this
end
end Go.Proofs.Ytbchiccgkhnkaaa

namespace Go.Proofs.Ytbchiccgkhnkaaa
open Go.RowKit

/-- Block g has room for d entries; the first n are those of f. -/
def RowF (wr : World) (g d n : Nat) (f : Nat → En) : Prop :=
  ∃ cur, Whole wr g 29 cur ∧ cur.size = d * 2 ∧ n ≤ d ∧ ∀ i, i < n → cur[i * 2]? = some (enH (f i)) ∧ cur[i * 2 + 1]? = some (enA (f i))
theorem RowF.lt {wr : World} {g d n : Nat} {f : Nat → En} (h : RowF wr g d n f) : g < wr.heap.size := by
  obtain ⟨cur, hw, _⟩ := h
  exact hw.lt
theorem RowF.le {wr : World} {g d n : Nat} {f : Nat → En} (h : RowF wr g d n f) : n ≤ d := by
  obtain ⟨cur, _, _, h, _⟩ := h
  exact h
theorem RowF.cell {wr : World} {g d n : Nat} {f : Nat → En} (h : RowF wr g d n f) {i : Nat} (hi : i < n) :
    wr.cell? ⟨g, i * 2, none⟩ = some (.int .u64 ((f i).hash : Int)) ∧ wr.cell? ⟨g, i * 2 + 1, none⟩ = some (.int .u32 ((f i).at_ : Int)) := by
  obtain ⟨cur, hw, _, _, hc⟩ := h
  exact ⟨hw.cell _ (hc i hi).1, hw.cell _ (hc i hi).2⟩
theorem RowF.free {wr : World} {g d n : Nat} {f : Nat → En} (h : RowF wr g d n f) (i : Nat) : wr.frozen? ⟨g, i, none⟩ = false := by
  obtain ⟨cur, hw, _⟩ := h
  exact hw.free i
theorem RowF.keep {w w' : World} {g d n : Nat} {f : Nat → En} (h : RowF w g d n f) {S : Nat → Prop} (hk : Keeps S w w') (hs : ¬ S g) : RowF w' g d n f := by
  obtain ⟨cur, hw, h1⟩ := h
  exact ⟨cur, hw.keep hk hs, h1⟩
theorem RowF.drew {w : World} {g d n : Nat} {f : Nat → En} (h : RowF w g d n f) : RowF w.drew g d n f := h
theorem RowF.congr {w : World} {g d n m : Nat} {f f' : Nat → En} (h : RowF w g d n f) (hm : m ≤ n) (he : ∀ i, i < m → f i = f' i) : RowF w g d m f' := by
  obtain ⟨cur, hw, h1, h2, h3⟩ := h
  exact ⟨cur, hw, h1, by omega, fun i hi => by rw [← he i hi]; exact h3 i (by omega)⟩
theorem RowF.put {w : World} {g d n : Nat} {f : Nat → En} (h : RowF w g d n f) {k : Nat} (hk : k < n) (x : En) :
    RowF ((w.setCell ⟨g, k * 2, none⟩ (.int .u64 (x.hash : Int))).setCell ⟨g, k * 2 + 1, none⟩ (.int .u32 (x.at_ : Int))) g d n (fun i => if i = k then x else f i) := by
  obtain ⟨cur, hw, h1, h2, h3⟩ := h
  refine ⟨_, (hw.set _ _).set _ _, by simpa using h1, h2, fun i hi => ?_⟩
  dsimp only
  by_cases e : i = k
  · subst e
    constructor
    · rw [if_pos rfl, Array.getElem?_setIfInBounds_ne (by omega), Array.getElem?_setIfInBounds_self_of_lt (by omega)]
      rfl
    · rw [if_pos rfl, Array.getElem?_setIfInBounds_self_of_lt (by simp; omega)]
      rfl
  · rw [if_neg e]
    constructor
    · rw [Array.getElem?_setIfInBounds_ne (by omega), Array.getElem?_setIfInBounds_ne (by omega)]
      exact (h3 i hi).1
    · rw [Array.getElem?_setIfInBounds_ne (by omega), Array.getElem?_setIfInBounds_ne (by omega)]
      exact (h3 i hi).2
theorem keepsPut {S : Nat → Prop} {a b : World} (h : Keeps S a b) {g : Nat} (hg : S g ∨ a.heap.size ≤ g) (i j : Nat) (u v : Value) : Keeps S a ((b.setCell ⟨g, i, none⟩ u).setCell ⟨g, j, none⟩ v) := (h.set hg u).set hg v

/-- The row as entries that can be read. -/
theorem RowF.ens {w : World} {g d n : Nat} {f : Nat → En} (h : RowF w g d n f) {l : List En} (hl : l.length ≤ n) (he : ∀ i, i < l.length → l.getD i En.none = f i) : EnsAt w (some ⟨g, 0, none⟩) l := fun i hi => by
  refine ⟨_, rfl, ?_⟩
  have hc := h.cell (i := i) (by omega)
  rw [← he i hi] at hc
  simp only [Addr.add_lit, Nat.zero_add]
  exact hc
/-- A row of one's own, place by place. -/
theorem RowF.ofOwn {w : World} {base g n d : Nat} {l : List En} (h : w.ownsRow base 29 2 (.slice (some ⟨g, 0, none⟩) n d) n (twoFlat enH enA l)) (hn : n = l.length) :
    RowF w g d n (fun i => l.getD i En.none) ∧ base ≤ g ∧ d ≤ maxLen := by
  rcases h with ⟨hl, ⟨h0, _⟩ | ⟨g', cap, cur, hv, hb, hg, h1, h2, h3, h4⟩⟩
  · simp at h0
  · simp only [Value.slice.injEq, Option.some.injEq, Addr.mk.injEq, and_true, true_and] at hv
    obtain ⟨rfl, rfl⟩ := hv
    refine ⟨⟨cur, hg, h3, h1, fun i hi => ?_⟩, hb, h2⟩
    have e : ∀ j u, j < 2 → [enH (l.getD i En.none), enA (l.getD i En.none)][j]? = some u → cur[i * 2 + j]? = some u := fun j u hj hu => by
      have h5 := twoFlat_at (v0 := enH) (v1 := enA) (dd := En.none) l i j (by omega) hj
      rw [← h4, hu, List.getElem?_take_of_lt (by omega)] at h5
      simpa using h5
    exact ⟨e 0 _ (by decide) rfl, e 1 _ (by decide) rfl⟩
/-- .. and back. -/
theorem RowF.own {w : World} {base g n d : Nat} {f : Nat → En} (h : RowF w g d n f) {l : List En} (hl : l.length ≤ n) (he : ∀ i, i < l.length → l.getD i En.none = f i) (hb : base ≤ g) (hd : d ≤ maxLen) :
    w.ownsRow base 29 2 (.slice (some ⟨g, 0, none⟩) l.length d) l.length (twoFlat enH enA l) := by
  obtain ⟨cur, hw, h1, h2, h3⟩ := h
  refine ⟨twoFlat_length l, .inr ⟨g, d, cur, rfl, hb, hw, by omega, hd, h1, ?_⟩⟩
  apply List.ext_getElem?
  intro j
  by_cases hj : j < l.length * 2
  · rw [List.getElem?_take_of_lt hj]
    have hi : j / 2 < l.length := by omega
    have h4 := h3 (j / 2) (by omega)
    rw [← he (j / 2) hi] at h4
    by_cases h5 : j % 2 = 0
    · have e : j = j / 2 * 2 + 0 := by omega
      rw [e, twoFlat_at (v0 := enH) (v1 := enA) (dd := En.none) l (j / 2) 0 hi (by decide)]
      simpa using h4.1
    · have e : j = j / 2 * 2 + 1 := by omega
      rw [e, twoFlat_at (v0 := enH) (v1 := enA) (dd := En.none) l (j / 2) 1 hi (by decide)]
      simpa using h4.2
  · rw [List.getElem?_eq_none (by rw [List.length_take]; omega), List.getElem?_eq_none (by rw [twoFlat_length]; omega)]

theorem madeTwos (n : Nat) : (madeCells (Value.agg #[.int .u64 0, .int .u32 0]).cells (n * 2)).toList = twoFlat enH enA (List.replicate n En.none) := by
  have hz : (Value.agg #[.int .u64 0, .int .u32 0]).cells = #[.int .u64 0, .int .u32 0] := rfl
  rw [hz]
  apply List.ext_getElem?
  intro j
  by_cases hj : j < n * 2
  · have hi : j / 2 < (List.replicate n En.none).length := by simp; omega
    have h6 : (madeCells #[.int .u64 0, .int .u32 0] (n * 2)).toList[j]? = some ((#[Value.int .u64 0, Value.int .u32 0])[j % 2]!) := by
      rw [Array.getElem?_toList]
      simp [madeCells, hj]
    have h7 : (List.replicate n En.none).getD (j / 2) En.none = En.none := by
      rw [List.getD_eq_getElem?_getD, List.getElem?_replicate]
      split <;> rfl
    rw [h6]
    by_cases h5 : j % 2 = 0
    · have e : j = j / 2 * 2 + 0 := by omega
      rw [h5]
      conv => rhs; rw [e]
      rw [twoFlat_at (v0 := enH) (v1 := enA) (dd := En.none) _ (j / 2) 0 hi (by decide), h7]
      rfl
    · have e : j = j / 2 * 2 + 1 := by omega
      rw [show j % 2 = 1 by omega]
      conv => rhs; rw [e]
      rw [twoFlat_at (v0 := enH) (v1 := enA) (dd := En.none) _ (j / 2) 1 hi (by decide), h7]
      rfl
  · rw [List.getElem?_eq_none (by simp [madeCells]; omega), List.getElem?_eq_none (by rw [twoFlat_length]; simp; omega)]
end Go.Proofs.Ytbchiccgkhnkaaa

namespace Go.Proofs.Ytbchiccgkhnkaaa
open Go.RowKit Go.Sort

/-- Nothing but draws, and blocks behind those that were there. -/
def Grown (w w' : World) : Prop := ∃ q os, w' = grow (w.drewN q) os
theorem Grown.refl (w : World) : Grown w w := ⟨0, #[], by rw [grow_empty]; rfl⟩
theorem Grown.drewN {w w' : World} (h : Grown w w') (n : Nat) : Grown w (w'.drewN n) := by
  obtain ⟨q, os, rfl⟩ := h
  exact ⟨q + n, os, by show grow ((w.drewN q).drewN n) os = _; rw [World.drewN_drewN]⟩
theorem Grown.drew {w w' : World} (h : Grown w w') : Grown w w'.drew := h.drewN 1
theorem Grown.alloc {w w' : World} (h : Grown w w') (o : Obj) : Grown w (w'.alloc o) := by
  obtain ⟨q, os, rfl⟩ := h
  exact ⟨q, os ++ #[o], by rw [alloc_eq_grow, grow_grow]⟩
theorem Grown.trans {a b c : World} (h : Grown a b) (g : Grown b c) : Grown a c := by
  obtain ⟨q, os, rfl⟩ := h
  obtain ⟨q', os', rfl⟩ := g
  exact ⟨q + q', os ++ os', by show grow (grow ((a.drewN q).drewN q') os) os' = _; rw [grow_grow, World.drewN_drewN]⟩
theorem Grown.keeps {w w' : World} (h : Grown w w') : Keeps NoBlock w w' := by
  obtain ⟨q, os, rfl⟩ := h
  refine ⟨rfl, rfl, rfl, by simp [grow], fun k hk _ => ?_⟩
  show ((w.drewN q).heap ++ os)[k]? = _
  rw [Array.getElem?_append_left (by show k < w.heap.size; exact hk)]
  rfl

/-- The order of two numbers. -/
def cmpN (x y : Nat) : Int := if x < y then -1 else if y < x then 1 else 0

theorem nan64_own (x : Nat) (w : World) : Calls Try.prog 62 #[.int .u64 (x : Int)] w fun e w' => e = .returned (.bool false) ∧ w' = w := by
  have h : ((x : Int) != (x : Int)) = false := by simp
  go_enter Try.func62, Try.ntmps62
  go_wp2_with fail
  go_ret
  exact ⟨rfl, rfl⟩
theorem nan32_own (x : Nat) (w : World) : Calls Try.prog 63 #[.int .u32 (x : Int)] w fun e w' => e = .returned (.bool false) ∧ w' = w := by
  have h : ((x : Int) != (x : Int)) = false := by simp
  go_enter Try.func63, Try.ntmps63
  go_wp2_with fail
  go_ret
  exact ⟨rfl, rfl⟩

set_option maxHeartbeats 1000000 in
theorem cmp64_own (x y : Nat) (w : World) : Calls Try.prog 34 #[.int .u64 (x : Int), .int .u64 (y : Int)] w fun e w' => e = .returned (.int .i64 (cmpN x y)) ∧ w' = w := by
  have HA := Lib.hid (fun w => nan64_own x w)
  have HB := Lib.hid (fun w => nan64_own y w)
  unfold cmpN
  by_cases h1 : x < y
  · rw [if_pos h1]
    have d1 : decide ((x : Int) < (y : Int)) = true := decide_eq_true (by omega)
    have d2 : decide (x < y) = true := decide_eq_true h1
    go_enter Try.func34, Try.ntmps34
    go_wp2_with fail
    refine (HA.out _).mono ?_
    rintro e w1 ⟨rfl, rfl⟩
    go_wp2_with fail
    refine (HB.out _).mono ?_
    rintro e w1 ⟨rfl, rfl⟩
    go_wp2_with fail
    go_ret
    exact ⟨rfl, rfl⟩
  · rw [if_neg h1]
    have d1 : decide ((x : Int) < (y : Int)) = false := decide_eq_false (by omega)
    have d2 : decide (x < y) = false := decide_eq_false h1
    by_cases h2 : y < x
    · rw [if_pos h2]
      have d3 : decide ((y : Int) < (x : Int)) = true := decide_eq_true (by omega)
      have d4 : decide (y < x) = true := decide_eq_true h2
      go_enter Try.func34, Try.ntmps34
      go_wp2_with fail
      refine (HA.out _).mono ?_
      rintro e w1 ⟨rfl, rfl⟩
      go_wp2_with fail
      refine (HB.out _).mono ?_
      rintro e w1 ⟨rfl, rfl⟩
      go_wp2_with fail
      go_ret
      exact ⟨rfl, rfl⟩
    · rw [if_neg h2]
      have d3 : decide ((y : Int) < (x : Int)) = false := decide_eq_false (by omega)
      have d4 : decide (y < x) = false := decide_eq_false h2
      go_enter Try.func34, Try.ntmps34
      go_wp2_with fail
      refine (HA.out _).mono ?_
      rintro e w1 ⟨rfl, rfl⟩
      go_wp2_with fail
      refine (HB.out _).mono ?_
      rintro e w1 ⟨rfl, rfl⟩
      go_wp2_with fail
      go_ret
      exact ⟨rfl, rfl⟩

set_option maxHeartbeats 1000000 in
theorem cmp32_own (x y : Nat) (w : World) : Calls Try.prog 35 #[.int .u32 (x : Int), .int .u32 (y : Int)] w fun e w' => e = .returned (.int .i64 (cmpN x y)) ∧ w' = w := by
  have HA := Lib.hid (fun w => nan32_own x w)
  have HB := Lib.hid (fun w => nan32_own y w)
  unfold cmpN
  by_cases h1 : x < y
  · rw [if_pos h1]
    have d1 : decide ((x : Int) < (y : Int)) = true := decide_eq_true (by omega)
    have d2 : decide (x < y) = true := decide_eq_true h1
    go_enter Try.func35, Try.ntmps35
    go_wp2_with fail
    refine (HA.out _).mono ?_
    rintro e w1 ⟨rfl, rfl⟩
    go_wp2_with fail
    refine (HB.out _).mono ?_
    rintro e w1 ⟨rfl, rfl⟩
    go_wp2_with fail
    go_ret
    exact ⟨rfl, rfl⟩
  · rw [if_neg h1]
    have d1 : decide ((x : Int) < (y : Int)) = false := decide_eq_false (by omega)
    have d2 : decide (x < y) = false := decide_eq_false h1
    by_cases h2 : y < x
    · rw [if_pos h2]
      have d3 : decide ((y : Int) < (x : Int)) = true := decide_eq_true (by omega)
      have d4 : decide (y < x) = true := decide_eq_true h2
      go_enter Try.func35, Try.ntmps35
      go_wp2_with fail
      refine (HA.out _).mono ?_
      rintro e w1 ⟨rfl, rfl⟩
      go_wp2_with fail
      refine (HB.out _).mono ?_
      rintro e w1 ⟨rfl, rfl⟩
      go_wp2_with fail
      go_ret
      exact ⟨rfl, rfl⟩
    · rw [if_neg h2]
      have d3 : decide ((y : Int) < (x : Int)) = false := decide_eq_false (by omega)
      have d4 : decide (y < x) = false := decide_eq_false h2
      go_enter Try.func35, Try.ntmps35
      go_wp2_with fail
      refine (HA.out _).mono ?_
      rintro e w1 ⟨rfl, rfl⟩
      go_wp2_with fail
      refine (HB.out _).mono ?_
      rintro e w1 ⟨rfl, rfl⟩
      go_wp2_with fail
      go_ret
      exact ⟨rfl, rfl⟩

set_option maxHeartbeats 1000000 in
/-- cmp.Or of two numbers: the first one, if it isn't 0. -/
theorem or_own (g : Nat) (x y : Int) (w : World) (h0 : w.cell? ⟨g, 0, none⟩ = some (.int .i64 x)) (h1 : w.cell? ⟨g, 1, none⟩ = some (.int .i64 y)) :
    Calls Try.prog 33 #[.slice (some ⟨g, 0, none⟩) 2 2] w fun e w' => e = .returned (.int .i64 (if x = 0 then y else x)) ∧ w' = w := by
  have G0 := Lib.hid h0
  have G1 := Lib.hid h1
  clear h0 h1
  by_cases hx : x = 0
  · have b1 : (x != 0) = false := by simpa using hx
    rw [if_pos hx]
    clear hx
    by_cases hy : y = 0
    · have b2 : (y != 0) = false := by simpa using hy
      have HY := Lib.hid hy
      clear hy
      go_enter Try.func33, Try.ntmps33
      go_wp2_with fail
      refine wp_loop_rounds 3 ?_
      rw [rounds_succ]
      have g0 := G0.out
      go_wp2_with fail
      rw [rounds_succ]
      have g1 := G1.out
      go_wp2_with fail
      rw [rounds_succ]
      go_wp2_with fail
      go_ret
      exact ⟨by rw [HY.out]; rfl, rfl⟩
    · have b2 : (y != 0) = true := by simpa using hy
      go_enter Try.func33, Try.ntmps33
      go_wp2_with fail
      refine wp_loop_rounds 3 ?_
      rw [rounds_succ]
      have g0 := G0.out
      go_wp2_with fail
      rw [rounds_succ]
      have g1 := G1.out
      go_wp2_with fail
      go_ret
      exact ⟨rfl, rfl⟩
  · have b1 : (x != 0) = true := by simpa using hx
    rw [if_neg hx]
    go_enter Try.func33, Try.ntmps33
    go_wp2_with fail
    refine wp_loop_rounds 3 ?_
    rw [rounds_succ]
    have g0 := G0.out
    go_wp2_with fail
    go_ret
    exact ⟨rfl, rfl⟩
end Go.Proofs.Ytbchiccgkhnkaaa

namespace Go.Proofs.Ytbchiccgkhnkaaa
open Go.RowKit Go.Sort

theorem cmpE_of (a b : En) : (if cmpN a.hash b.hash = 0 then cmpN a.at_ b.at_ else cmpN a.hash b.hash) = cmpE a b := by
  unfold cmpN cmpE
  have L1 : LessE a b ↔ (a.hash < b.hash ∨ a.hash = b.hash ∧ a.at_ < b.at_) := Iff.rfl
  by_cases h1 : a.hash < b.hash
  · have hne : ¬ a = b := fun e => by rw [e] at h1; omega
    rw [if_pos h1, if_neg (by omega), if_neg hne, if_pos (L1.2 (.inl h1))]
  · by_cases h2 : b.hash < a.hash
    · have hne : ¬ a = b := fun e => by rw [e] at h2; omega
      rw [if_neg h1, if_pos h2, if_neg (by omega), if_neg hne, if_neg (fun h => by have := L1.1 h; omega)]
    · have he : a.hash = b.hash := by omega
      rw [if_neg h1, if_neg h2, if_pos rfl]
      by_cases h3 : a.at_ < b.at_
      · have hne : ¬ a = b := fun e => by rw [e] at h3; omega
        rw [if_pos h3, if_neg hne, if_pos (L1.2 (.inr ⟨he, h3⟩))]
      · by_cases h4 : b.at_ < a.at_
        · have hne : ¬ a = b := fun e => by rw [e] at h4; omega
          rw [if_neg h3, if_pos h4, if_neg hne, if_neg (fun h => by have := L1.1 h; omega)]
        · rw [if_neg h3, if_neg h4, if_pos (En.ext' he (by omega))]

set_option maxHeartbeats 4000000 in
set_option maxRecDepth 10000 in
/-- Compare, whatever the numbers are: nothing but draws and new blocks. -/
theorem compare_grown (a b : En) (w : World) : Calls Try.prog 10 #[enV a, enV b] w fun e w' => e = .returned (.int .i64 (cmpE a b)) ∧ Grown w w' := by
  have H64 := Lib.hid (fun w => cmp64_own a.hash b.hash w)
  have H32 := Lib.hid (fun w => cmp32_own a.at_ b.at_ w)
  obtain ⟨R, hR⟩ : ∃ R, R = cmpE a b := ⟨_, rfl⟩
  have HO : Hid ((if cmpN a.hash b.hash = 0 then cmpN a.at_ b.at_ else cmpN a.hash b.hash) = R) := Lib.hid ((cmpE_of a b).trans hR.symm)
  rw [← hR]
  clear hR
  obtain ⟨X, hX⟩ : ∃ X, X = cmpN a.hash b.hash := ⟨_, rfl⟩
  obtain ⟨Y, hY⟩ : ∃ Y, Y = cmpN a.at_ b.at_ := ⟨_, rfl⟩
  rw [← hX] at H64 HO
  rw [← hY] at H32 HO
  clear hX hY
  have HWa := Lib.hid ((Whole.new w 29 (enCells a)).alloc (.cells (enCells b) 29))
  have HWb := Lib.hid (Whole.newAt (w.alloc (.cells (enCells a) 29)) 29 (enCells b) (w.heap.size + 1) (by simp))
  have HGw := Lib.hid (((Grown.refl w).alloc (.cells (enCells a) 29)).alloc (.cells (enCells b) 29))
  unfold enV
  go_enter Try.func10, Try.ntmps10
  go_wp2_with fail
  obtain ⟨W0, hW⟩ : ∃ W0, W0 = (w.alloc (.cells #[.int .u64 (a.hash : Int), .int .u32 (a.at_ : Int)] 29)).alloc (.cells #[.int .u64 (b.hash : Int), .int .u32 (b.at_ : Int)] 29) := ⟨_, rfl⟩
  have HA : Hid (Whole W0.drew w.heap.size 29 (enCells a)) := Lib.hid (by rw [hW]; exact HWa.out)
  have HB : Hid (Whole W0.drew (w.heap.size + 1) 29 (enCells b)) := Lib.hid (by rw [hW]; exact HWb.out)
  have HG : Hid (Grown w W0.drew) := Lib.hid (by rw [hW]; exact HGw.out.drew)
  rw [← hW]
  clear hW HWa HWb HGw
  obtain ⟨W, hWd⟩ : ∃ W, W = W0.drew := ⟨_, rfl⟩
  rw [← hWd] at HA HB HG
  have s0 := And.intro (And.intro (HA.out.cell 0 rfl) (HA.out.cell 1 rfl)) (And.intro (HB.out.cell 0 rfl) (HB.out.cell 1 rfl))
  simp only [enCells, List.getElem_toArray, List.getElem_cons_zero, List.getElem_cons_succ] at s0
  refine wp_region_held_drew (S := fun w' => ((w'.cell? ⟨w.heap.size, 0, none⟩ = some (.int .u64 (a.hash : Int)) ∧ w'.cell? ⟨w.heap.size, 1, none⟩ = some (.int .u32 (a.at_ : Int))) ∧ (w'.cell? ⟨w.heap.size + 1, 0, none⟩ = some (.int .u64 (b.hash : Int)) ∧ w'.cell? ⟨w.heap.size + 1, 1, none⟩ = some (.int .u32 (b.at_ : Int))))) (by kernel_rfl) (by rw [← hWd]; exact s0) (fun hHeld => ?_)
  rw [← hWd]
  rw [← hWd] at hHeld
  clear hWd
  refine wpAnyH_take (i := 0) (v := ?vT1) rfl ?aT1 ?bT1 ?cT1 ?dT1 (Or.inl ⟨?eT1, ?fT1⟩) hHeld ?gT1
  case fT1 => intro w hSw; (try dsimp only at hSw); go_simp; (try with_reducible rfl)
  case aT1 => kernel_rfl
  case bT1 => kernel_rfl
  case cT1 => kernel_rfl
  case dT1 => exact fun _ _ _ h => h
  case eT1 => rfl
  simp only [Act.put, List.getElem_toArray, List.getElem_cons_zero, List.setIfInBounds_toArray, List.set_cons_zero, List.set_cons_succ]
  refine wpAnyH_take (i := 1) (v := ?vT2) rfl ?aT2 ?bT2 ?cT2 ?dT2 (Or.inl ⟨?eT2, ?fT2⟩) hHeld ?gT2
  case fT2 => intro w hSw; (try dsimp only at hSw); go_simp; (try with_reducible rfl)
  case aT2 => kernel_rfl
  case bT2 => kernel_rfl
  case cT2 => kernel_rfl
  case dT2 => exact fun _ _ _ h => h
  case eT2 => rfl
  simp only [Act.put, List.getElem_toArray, List.getElem_cons_zero, List.getElem_cons_succ, List.setIfInBounds_toArray, List.set_cons_zero, List.set_cons_succ]
  refine wpAnyH_take (i := 2) (v := ?vT3) rfl ?aT3 ?bT3 ?cT3 ?dT3 (Or.inl ⟨?eT3, ?fT3⟩) hHeld ?gT3
  case fT3 => intro w hSw; (try dsimp only at hSw); go_simp; (try with_reducible rfl)
  case aT3 => kernel_rfl
  case bT3 => kernel_rfl
  case cT3 => kernel_rfl
  case dT3 => exact fun _ _ _ h => h
  case eT3 => rfl
  simp only [Act.put, List.getElem_toArray, List.getElem_cons_zero, List.getElem_cons_succ, List.setIfInBounds_toArray, List.set_cons_zero, List.set_cons_succ]
  refine wpAnyH_take (i := 3) (v := ?vT4) rfl ?aT4 ?bT4 ?cT4 ?dT4 (Or.inl ⟨?eT4, ?fT4⟩) hHeld ?gT4
  case fT4 => intro w hSw; (try dsimp only at hSw); go_simp; (try with_reducible rfl)
  case aT4 => kernel_rfl
  case bT4 => kernel_rfl
  case cT4 => kernel_rfl
  case dT4 => exact fun _ _ _ h => h
  case eT4 => rfl
  simp only [Act.put, List.getElem_toArray, List.getElem_cons_zero, List.getElem_cons_succ, List.setIfInBounds_toArray, List.set_cons_zero, List.set_cons_succ]
  refine wpAnyH_take (i := 5) (v := ?vT5) rfl ?aT5 ?bT5 ?cT5 ?dT5 (Or.inl ⟨?eT5, ?fT5⟩) hHeld ?gT5
  case fT5 => intro w hSw; (try dsimp only at hSw); go_simp; (try with_reducible rfl)
  case aT5 => kernel_rfl
  case bT5 => kernel_rfl
  case cT5 => kernel_rfl
  case dT5 => exact fun _ _ _ h => h
  case eT5 => rfl
  simp only [Act.put, List.getElem_toArray, List.getElem_cons_zero, List.getElem_cons_succ, List.setIfInBounds_toArray, List.set_cons_zero, List.set_cons_succ]
  refine wpAnyH_take (i := 6) (v := ?vT6) rfl ?aT6 ?bT6 ?cT6 ?dT6 (Or.inl ⟨?eT6, ?fT6⟩) hHeld ?gT6
  case fT6 => intro w hSw; (try dsimp only at hSw); go_simp; (try with_reducible rfl)
  case aT6 => kernel_rfl
  case bT6 => kernel_rfl
  case cT6 => kernel_rfl
  case dT6 => exact fun _ _ _ h => h
  case eT6 => rfl
  simp only [Act.put, List.getElem_toArray, List.getElem_cons_zero, List.getElem_cons_succ, List.setIfInBounds_toArray, List.set_cons_zero, List.set_cons_succ]
  refine wpAnyH_take (i := 7) (v := ?vT7) rfl ?aT7 ?bT7 ?cT7 ?dT7 (Or.inl ⟨?eT7, ?fT7⟩) hHeld ?gT7
  case fT7 => intro w hSw; (try dsimp only at hSw); go_simp; (try with_reducible rfl)
  case aT7 => kernel_rfl
  case bT7 => kernel_rfl
  case cT7 => kernel_rfl
  case dT7 => exact fun _ _ _ h => h
  case eT7 => rfl
  simp only [Act.put, List.getElem_toArray, List.getElem_cons_zero, List.getElem_cons_succ, List.setIfInBounds_toArray, List.set_cons_zero, List.set_cons_succ]
  refine wpAnyH_take (i := 8) (v := ?vT8) rfl ?aT8 ?bT8 ?cT8 ?dT8 (Or.inl ⟨?eT8, ?fT8⟩) hHeld ?gT8
  case fT8 => intro w hSw; (try dsimp only at hSw); go_simp; (try with_reducible rfl)
  case aT8 => kernel_rfl
  case bT8 => kernel_rfl
  case cT8 => kernel_rfl
  case dT8 => exact fun _ _ _ h => h
  case eT8 => rfl
  simp only [Act.put, List.getElem_toArray, List.getElem_cons_zero, List.getElem_cons_succ, List.setIfInBounds_toArray, List.set_cons_zero, List.set_cons_succ]
  refine wpAnyH_ready (rs := [4]) (by kernel_rfl) (by simp) ?_
  refine (AllReadyH.cons (o := _) rfl (fun K hK => ?_) AllReadyH.nil)
  go_simp
  refine (H64.out _).mono ?_
  rintro e9 w9 ⟨rfl, hw9⟩
  have hw9' : W = w9 := hw9.symm
  subst hw9'
  clear hw9
  go_wp2_with fail
  refine hK.out _ _ s0 (fun _ => ?_)
  clear hK K
  refine wpAnyH_ready (rs := [9]) (by kernel_rfl) (by simp) ?_
  refine (AllReadyH.cons (o := _) rfl (fun K hK => ?_) AllReadyH.nil)
  go_simp
  refine (H32.out _).mono ?_
  rintro e9 w9 ⟨rfl, hw9⟩
  have hw9' : W = w9 := hw9.symm
  subst hw9'
  clear hw9
  go_wp2_with fail
  refine hK.out _ _ s0 (fun _ => ?_)
  clear hK K
  refine wpAnyH_ready (rs := [10]) (by kernel_rfl) (by simp) ?_
  refine (AllReadyH.cons (o := _) rfl (fun K hK => ?_) AllReadyH.nil)
  go_simp
  have s1 : (fun w' => ((w'.cell? ⟨w.heap.size, 0, none⟩ = some (.int .u64 (a.hash : Int)) ∧ w'.cell? ⟨w.heap.size, 1, none⟩ = some (.int .u32 (a.at_ : Int))) ∧ (w'.cell? ⟨w.heap.size + 1, 0, none⟩ = some (.int .u64 (b.hash : Int)) ∧ w'.cell? ⟨w.heap.size + 1, 1, none⟩ = some (.int .u32 (b.at_ : Int))))) (W.alloc (.cells #[.int .i64 X, .int .i64 Y] 3)) := And.intro (And.intro ((HA.out.alloc _).cell 0 rfl) ((HA.out.alloc _).cell 1 rfl)) (And.intro ((HB.out.alloc _).cell 0 rfl) ((HB.out.alloc _).cell 1 rfl))
  have HR := (or_own W.heap.size X Y (W.alloc (.cells #[.int .i64 X, .int .i64 Y] 3)) (Whole.cell (Whole.new W 3 #[.int .i64 X, .int .i64 Y]) 0 rfl) (Whole.cell (Whole.new W 3 #[.int .i64 X, .int .i64 Y]) 1 rfl))
  rw [HO.out] at HR
  have HR := Lib.hid HR
  have HG := Lib.hid (HG.out.alloc (.cells #[.int .i64 X, .int .i64 Y] 3))
  refine hK.out _ _ s1 (fun _ => ?_)
  clear hK K
  refine wpAnyH_ready (rs := [11]) (by kernel_rfl) (by simp) ?_
  refine (AllReadyH.cons (o := _) rfl (fun K hK => ?_) AllReadyH.nil)
  go_simp
  refine HR.out.mono ?_
  rintro e9 w9 ⟨rfl, hw9⟩
  subst hw9
  go_wp2_with fail
  refine hK.out _ _ s1 (fun _ => ?_)
  clear hK K
  refine wpAnyH_take (i := 12) (v := ?vT9) rfl ?aT9 ?bT9 ?cT9 ?dT9 (Or.inl ⟨?eT9, ?fT9⟩) s1 ?gT9
  case fT9 => intro w hSw; (try dsimp only at hSw); go_simp; (try with_reducible rfl)
  case aT9 => kernel_rfl
  case bT9 => kernel_rfl
  case cT9 => kernel_rfl
  case dT9 => exact fun _ _ _ h => h
  case eT9 => rfl
  simp only [Act.put, List.getElem_toArray, List.getElem_cons_zero, List.getElem_cons_succ, List.setIfInBounds_toArray, List.set_cons_zero, List.set_cons_succ]
  refine wpAnyH_done (by kernel_rfl) ?_ _
  go_wp2_with fail
  go_ret
  exact ⟨rfl, by first | exact HG.out | exact HG.out.drew⟩
theorem compare_own (a b : En) (w : World) : Calls Try.prog 10 #[enV a, enV b] w fun e w' => e = .returned (.int .i64 (cmpE a b)) ∧ Keeps NoBlock w w' :=
  (compare_grown a b w).mono fun _ _ ⟨h, g⟩ => ⟨h, g.keeps⟩
theorem cmp_ok : CmpOk := ⟨fun a b w _ _ => compare_own a b w⟩
end Go.Proofs.Ytbchiccgkhnkaaa

namespace Go.Proofs.Ytbchiccgkhnkaaa
open Go.RowKit Go.Sort

theorem ltOfCell' {w : World} {a : Addr} {v : Value} (h : w.cell? a = some v) : a.block < w.heap.size := World.block_lt_of_cell? _ _ h
theorem cellG {w : World} {a : Addr} {v : Value} (h : w.cell? a = some v) (n : Nat) (os : Array Obj) : (grow (w.drewN n) os).cell? a = some v := cell_grown (ltOfCell' h) h n os
theorem keepsG {S : Nat → Prop} {w w' : World} (h : Keeps S w w') (n : Nat) (os : Array Obj) : Keeps S w (grow (w'.drewN n) os) :=
  h.then (show Grown w' _ from ⟨n, os, rfl⟩).keeps (fun _ _ h => h.elim)

set_option maxHeartbeats 4000000 in
set_option maxRecDepth 10000 in
theorem rising_own (p : Option Addr) (n c : Nat) (l : List En) (hn : n = l.length) (hn9 : n ≤ 1000000) (w : World) (hl : EnsAt w p l) :
    Calls Try.prog 14 #[.slice p n c] w fun e w' => e = .returned (.bool (risesE l)) ∧ Keeps NoBlock w w' := by
  have HL := Lib.hid hl
  have HN := Lib.hid hn
  have HCmp := Lib.hid (fun a b w => compare_grown a b w)
  unfold enV Grown at HCmp
  have mixed : Try.prog.follows .mixedOrders = true := by kernel_rfl
  clear hl hn
  go_enter Try.func14, Try.ntmps14
  go_wp2_with fail
  go_loopw [3] (fun i wr => ∃ m : Nat, m ≤ n ∧ i = .int .i64 ((m + 1 : Nat) : Int) ∧ Hid (∀ i, i + 1 < m + 1 → i + 1 < n → LessE (l.getD i En.none) (l.getD (i + 1) En.none)) ∧ Keeps NoBlock w wr) (fun i _ => n + 1 - (intOf i).toNat)
  case atStart => exact ⟨0, Nat.zero_le _, rfl, Lib.hid (fun i h => by omega), Keeps.refl _ _⟩
  case round =>
    obtain ⟨m, hm, rfl, HA, hkk⟩ := hrel
    have HK := Lib.hid hkk
    clear hkk
    by_cases hlt : m + 1 < n
    · have hdk : decide (((m + 1 : Nat) : Int) < (n : Int)) = true := decide_eq_true (by omega)
      have hdk2 : decide ((m : Int) + 1 < (n : Int)) = true := decide_eq_true (by omega)
      obtain ⟨a, rfl, c0, c1⟩ := (HL.out.keep HK.out).at_ (m + 1) (by have := HN.out; omega)
      obtain ⟨b, hb, d0, d1⟩ := (HL.out.keep HK.out).at_ m (by have := HN.out; omega)
      obtain rfl := Option.some.inj hb
      obtain ⟨r, hr⟩ : ∃ r, r = l.getD (m + 1) En.none := ⟨_, rfl⟩
      obtain ⟨s, hs⟩ : ∃ s, s = l.getD m En.none := ⟨_, rfl⟩
      rw [← hr] at c0 c1
      rw [← hs] at d0 d1
      have HRr := Lib.hid hr
      have HSs := Lib.hid hs
      clear hr hs hb
      have C0 : ∀ n os, (grow (wr.drewN n) os).cell? _ = _ := fun n os => cellG c0 n os
      have C1 : ∀ n os, (grow (wr.drewN n) os).cell? _ = _ := fun n os => cellG c1 n os
      have D0 : ∀ n os, (grow (wr.drewN n) os).cell? _ = _ := fun n os => cellG d0 n os
      have D1 : ∀ n os, (grow (wr.drewN n) os).cell? _ = _ := fun n os => cellG d1 n os
      clear c0 c1 d0 d1
      have hmn : (m : Int) < (n : Int) := by omega
      have hmn2 : m < n := by omega
      have hmn3 : (m : Int) + 1 < (n : Int) := by omega
      have hm3 : (0 : Int) ≤ (m : Int) + 1 := by omega
      have hm4 : ((m : Int) + 1).toNat = m + 1 := by omega
      have w1 : IntKind.i64.wrap (m : Int) = (m : Int) := by rw [IntKind.wrap_i64]; omega
      have hm0 : (0 : Int) ≤ (m : Int) := by omega
      have hcall := fun n os => HCmp.out s r (grow (wr.drewN n) os)
      by_cases hls : LessE s r
      · have hc : cmpE s r < 0 := cmpE_less.2 hls
        have HLs := Lib.hid hls
        obtain ⟨z, hz⟩ : ∃ z, z = cmpE s r := ⟨_, rfl⟩
        rw [← hz] at hcall hc
        have hz0 : decide (0 ≤ z) = false := decide_eq_false (by omega)
        clear hls hz
        go_wp2_with fail
        go_quiet_grown ((go_at_call 10; exact Calls.grown_of (hcall _ _)))
        go_wp2_with fail
        go_roundw
        case rel =>
          refine ⟨m + 1, by omega, by go_num, Lib.hid (fun i h h2 => ?_), by first | exact keepsG HK.out _ _ | exact (keepsG HK.out _ _).drew⟩
          by_cases he : i = m
          · rw [he, ← HRr.out, ← HSs.out]
            exact HLs.out
          · exact HA.out i (by omega) h2
        case measure => simp [intOf]; omega
      · have hc : ¬ cmpE s r < 0 := fun h => hls (cmpE_less.1 h)
        have HB : Hid (risesE l = false) := Lib.hid (by
          cases hb : risesE l
          · rfl
          · have h := risesE_adj.1 hb m (by have := HN.out; omega)
            rw [← HRr.out, ← HSs.out] at h
            exact absurd h hls)
        obtain ⟨z, hz⟩ : ∃ z, z = cmpE s r := ⟨_, rfl⟩
        rw [← hz] at hcall hc
        have hz0 : decide (0 ≤ z) = true := decide_eq_true (by omega)
        clear hls hz
        go_wp2_with fail
        go_quiet_grown ((go_at_call 10; exact Calls.grown_of (hcall _ _)))
        go_wp2_with fail
        go_ret
        rw [HB.out]
        exact ⟨rfl, by first | exact keepsG HK.out _ _ | exact (keepsG HK.out _ _).drew⟩
    · have hdk : decide (((m + 1 : Nat) : Int) < (n : Int)) = false := decide_eq_false (by omega)
      have hdk2 : decide ((m : Int) + 1 < (n : Int)) = false := decide_eq_false (by omega)
      have HB : Hid (risesE l = true) := Lib.hid (risesE_adj.2 fun i hi => HA.out i (by have := HN.out; omega) (by have := HN.out; omega))
      go_wp2_with fail
      go_ret
      rw [HB.out]
      exact ⟨rfl, HK.out⟩
theorem ris_ok : RisOk := ⟨fun p n c l w h h9 => rising_own p n c l h.len (by omega) w h.at_⟩
end Go.Proofs.Ytbchiccgkhnkaaa

namespace Go.Proofs.Ytbchiccgkhnkaaa
open Go.RowKit Go.Lib

instance : Inhabited En := ⟨En.none⟩

theorem lessE_le {a b : En} (h : ¬ LessE b a) : a = b ∨ LessE a b := by
  by_cases e : a = b
  · exact .inl e
  · exact .inr ((LessE.total e).resolve_right h)
theorem compact_rises (d : Array En) (hs : ∀ i j, i ≤ j → j < d.size → ¬ LessE d[j]! d[i]!) : ∀ m, m ≤ d.size → (compactUpTo d m).Pairwise LessE ∧ ∀ x, x ∈ compactUpTo d m ↔ ∃ i, i < m ∧ x = d[i]!
  | 0, _ => by simp [compactUpTo]
  | m + 1, hm => by
    obtain ⟨h1, h2⟩ := compact_rises d hs m (by omega)
    rw [compactUpTo_succ]
    by_cases hk : keeps d m = true
    · rw [if_pos hk]
      refine ⟨List.pairwise_append.2 ⟨h1, List.pairwise_singleton _ _, fun x hx y hy => ?_⟩, fun x => ?_⟩
      · obtain ⟨i, hi, rfl⟩ := (h2 x).1 hx
        obtain rfl : y = d[m]! := by simpa using hy
        have hne : d[m]! ≠ d[m - 1]! := by
          unfold keeps at hk
          rcases of_decide_eq_true hk with h | h
          · omega
          · exact h
        have a1 := lessE_le (hs i (m - 1) (by omega) (by omega))
        have a2 : LessE d[m - 1]! d[m]! := (lessE_le (hs (m - 1) m (by omega) (by omega))).resolve_left (fun e => hne e.symm)
        rcases a1 with e | h
        · rw [e]; exact a2
        · exact h.trans a2
      · rw [List.mem_append, List.mem_singleton, h2]
        constructor
        · rintro (⟨i, hi, rfl⟩ | rfl)
          · exact ⟨i, by omega, rfl⟩
          · exact ⟨m, by omega, rfl⟩
        · rintro ⟨i, hi, rfl⟩
          by_cases e : i = m
          · rw [e]; exact .inr rfl
          · exact .inl ⟨i, by omega, rfl⟩
    · rw [if_neg hk, List.append_nil]
      refine ⟨h1, fun x => ?_⟩
      have he : m ≠ 0 ∧ d[m]! = d[m - 1]! := by
        have h3 : ¬ (m = 0 ∨ d[m]! ≠ d[m - 1]!) := fun h => hk (by unfold keeps; exact decide_eq_true h)
        exact ⟨fun h => h3 (.inl h), Classical.byContradiction fun h => h3 (.inr h)⟩
      rw [h2]
      constructor
      · rintro ⟨i, hi, rfl⟩
        exact ⟨i, by omega, rfl⟩
      · rintro ⟨i, hi, rfl⟩
        by_cases e : i = m
        · rw [e, he.2]
          exact ⟨m - 1, by omega, rfl⟩
        · exact ⟨i, by omega, rfl⟩
theorem mem_arr (d : Array En) (x : En) : x ∈ d.toList ↔ ∃ i, i < d.size ∧ x = d[i]! := by
  rw [List.mem_iff_getElem]
  constructor
  · rintro ⟨i, hi, rfl⟩
    have hi' : i < d.size := by simpa using hi
    exact ⟨i, hi', by simp [getElem!_pos, hi']⟩
  · rintro ⟨i, hi, rfl⟩
    exact ⟨i, by simpa using hi, by simp [getElem!_pos, hi]⟩
theorem compact_sortE (d : Array En) (hs : ∀ i j, i ≤ j → j < d.size → ¬ LessE d[j]! d[i]!) : compactUpTo d d.size = sortE d.toList := by
  obtain ⟨h1, h2⟩ := compact_rises d hs d.size (Nat.le_refl _)
  exact rises_only h1 (sortE_pair _) fun x => by rw [h2, sortE_mem, mem_arr]

theorem setCells_whole {g : Nat} {t : TypeId} : ∀ (vs : List Value) (o : Nat) (w : World) (cur : Array Value), Whole w g t cur → ∃ cur', Whole (w.setCells g o vs) g t cur' ∧ cur'.size = cur.size ∧ ∀ i, i < o → cur'[i]? = cur[i]?
  | [], _, _, cur, h => ⟨cur, h, rfl, fun _ _ => rfl⟩
  | v :: vs, o, w, cur, h => by
    obtain ⟨cur', h1, h2, h3⟩ := setCells_whole vs (o + 1) _ _ (h.set o v)
    exact ⟨cur', h1, by rw [h2]; simp, fun i hi => by rw [h3 i (by omega), Array.getElem?_setIfInBounds_ne (by omega)]⟩
theorem setCells_keeps {S : Nat → Prop} {a : World} {g : Nat} (hg : S g ∨ a.heap.size ≤ g) : ∀ (vs : List Value) (o : Nat) (b : World), Keeps S a b → Keeps S a (b.setCells g o vs)
  | [], _, _, h => h
  | v :: vs, o, _, h => setCells_keeps hg vs (o + 1) _ (h.set hg v)
theorem RowF.setCells {w : World} {g d n : Nat} {f : Nat → En} (h : RowF w g d n f) (m : Nat) (hm : m ≤ n) (vs : List Value) : RowF (w.setCells g (m * 2) vs) g d m f := by
  obtain ⟨cur, hw, h1, h2, h3⟩ := h
  obtain ⟨cur', c1, c2, c3⟩ := setCells_whole vs (m * 2) w cur hw
  exact ⟨cur', c1, by omega, by omega, fun i hi => by rw [c3 _ (by omega), c3 _ (by omega)]; exact h3 i (by omega)⟩

/-- 'clear' of what is left of a row. -/
theorem run_clear_ens {w : World} {g d n : Nat} {f : Nat → En} (h : RowF w g d n f) (k m c : Nat) (hk : k + m = n) (hm : 0 < m) (ty : TypeId) :
    (Builtin.clear_ #[22] ty #[.slice (some ⟨g, k * 2, none⟩) m c]).run Try.prog w = .ok (.tuple #[]) (w.setCells g (k * 2) (Builtin.zeroCells #[.int .u64 0, .int .u32 0] m).toList) := by
  have hlen : (Builtin.zeroCells #[.int .u64 0, .int .u32 0] m).toList.length = m * 2 := by simp [Builtin.zeroCells]
  have hone : ∀ v ∈ (Builtin.zeroCells #[.int .u64 0, .int .u32 0] m).toList, v.oneCell' = true := fun v hv => by
    simp only [Builtin.zeroCells, Array.mem_toList_iff, Array.mem_map] at hv
    obtain ⟨j, _, rfl⟩ := hv
    have : j % 2 = 0 ∨ j % 2 = 1 := by omega
    rcases this with e | e
    · show ((#[Value.int .u64 0, Value.int .u32 0] : Array Value)[j % 2]!).oneCell' = true
      rw [e]; rfl
    · show ((#[Value.int .u64 0, Value.int .u32 0] : Array Value)[j % 2]!).oneCell' = true
      rw [e]; rfl
  have hst := run_storeCells_cells (P := Try.prog) g (k * 2) (Builtin.zeroCells #[.int .u64 0, .int .u32 0] m).toList 0 w (fun j hj => by
      rw [hlen] at hj
      have hc := h.cell (i := k + j / 2) (by omega)
      by_cases e : j % 2 = 0
      · rw [show k * 2 + 0 + j = (k + j / 2) * 2 by omega, hc.1]; rfl
      · rw [show k * 2 + 0 + j = (k + j / 2) * 2 + 1 by omega, hc.2]; rfl) (fun j _ => h.free _) hone
  simp only [Nat.add_zero] at hst
  obtain ⟨m', rfl⟩ : ∃ m', m = m' + 1 := ⟨m - 1, by omega⟩
  have hz := Try.zeroValue29
  have hu := run_underlying Try.underlying22
  simp [Builtin.clear_, hu, hz]
  rw [show (Value.agg #[Value.int .u64 0, Value.int .u32 0]).cells = #[.int .u64 0, .int .u32 0] from rfl, hst]
  rfl
end Go.Proofs.Ytbchiccgkhnkaaa

namespace Go.Proofs.Ytbchiccgkhnkaaa
open Go.RowKit Go.Lib

theorem enEqlT (a b : En) (w : World) : (binOp .eql 29 (.agg #[.int .u64 (a.hash : Int), .int .u32 (a.at_ : Int)]) (.agg #[.int .u64 (b.hash : Int), .int .u32 (b.at_ : Int)])).run Try.prog w = .ok (.bool (decide (a = b))) w := by
  by_cases h1 : a.hash = b.hash
  · by_cases h2 : a.at_ = b.at_
    · have hd : decide (a = b) = true := decide_eq_true (En.ext' h1 h2)
      rw [hd]
      simp [go_sem, h1, h2]
    · have hd : decide (a = b) = false := decide_eq_false (fun h => h2 (by rw [h]))
      rw [hd]
      have e : ((a.at_ : Int) == (b.at_ : Int)) = false := by rw [beq_eq_false_iff_ne]; omega
      simp [go_sem, h1, e]
  · have hd : decide (a = b) = false := decide_eq_false (fun h => h1 (by rw [h]))
    rw [hd]
    have e : ((a.hash : Int) == (b.hash : Int)) = false := by rw [beq_eq_false_iff_ne]; omega
    simp [go_sem, e]
theorem enNeqT (a b : En) (w : World) : (binOp .neq 29 (.agg #[.int .u64 (a.hash : Int), .int .u32 (a.at_ : Int)]) (.agg #[.int .u64 (b.hash : Int), .int .u32 (b.at_ : Int)])).run Try.prog w = .ok (.bool (decide (a ≠ b))) w := by
  by_cases h1 : a.hash = b.hash
  · by_cases h2 : a.at_ = b.at_
    · have hd : decide (a ≠ b) = false := decide_eq_false (fun h => h (En.ext' h1 h2))
      rw [hd]
      simp [go_sem, h1, h2]
    · have hd : decide (a ≠ b) = true := decide_eq_true (fun h => h2 (by rw [h]))
      rw [hd]
      have e : ((a.at_ : Int) == (b.at_ : Int)) = false := by rw [beq_eq_false_iff_ne]; omega
      simp [go_sem, h1, e]
  · have hd : decide (a ≠ b) = true := decide_eq_true (fun h => h1 (by rw [h]))
    rw [hd]
    have e : ((a.hash : Int) == (b.hash : Int)) = false := by rw [beq_eq_false_iff_ne]; omega
    simp [go_sem, e]

theorem cellDrewN {w : World} {a : Addr} {v : Value} (h : w.cell? a = some v) (n : Nat) : (w.drewN n).cell? a = some v := h
/-- What Compact answers. -/
def Compacted (A : Array En) (g d : Nat) (w : World) (e : Ending) (w' : World) : Prop :=
  ∃ m, m = (compactUpTo A A.size).length ∧ e = .returned (.slice (some ⟨g, 0, none⟩) m d) ∧ RowF w' g d m (fun i => (compactUpTo A A.size).getD i En.none) ∧ Keeps (Just g) w w'
theorem all_kept {A : Array En} (h : ∀ j, j < A.size → keeps A j = true) : compactUpTo A A.size = A.toList := by
  rw [compactUpTo_all A _ h, range_map_get]
theorem getD_arr (A : Array En) (i : Nat) (hi : i < A.size) : A.toList.getD i En.none = A[i]! := by
  rw [List.getD_eq_getElem?_getD, Array.getElem?_toList, Array.getElem?_eq_getElem hi, getElem!_pos A i hi]
  rfl
theorem Compacted.all {A : Array En} {g d : Nat} {w w' : World} (h : ∀ j, j < A.size → keeps A j = true) (hr : RowF w' g d A.size (fun i => A[i]!)) (hk : Keeps (Just g) w w') : Compacted A g d w (.returned (.slice (some ⟨g, 0, none⟩) A.size d)) w' := by
  refine ⟨A.size, by rw [all_kept h]; simp, rfl, ?_, hk⟩
  rw [all_kept h]
  exact hr.congr (Nat.le_refl _) (fun i hi => (getD_arr A i hi).symm)

set_option maxHeartbeats 4000000 in
set_option maxRecDepth 10000 in
theorem compact_own (g d n : Nat) (A : Array En) (hn : n = A.size) (w : World) (h : RowF w g d n (fun i => A[i]!)) (_hd : d ≤ 9223372036854775807) (hn9 : n ≤ 1000000) :
    Calls Try.prog 32 #[.slice (some ⟨g, 0, none⟩) n d] w (Compacted A g d w) := by
  have hnd : n ≤ d := h.le
  have HR := Lib.hid h
  have HN := Lib.hid hn
  clear h hn
  by_cases h2 : n < 2
  · have h2d : decide ((n : Int) < 2) = true := decide_eq_true (by omega)
    have h2e : decide (n < 2) = true := decide_eq_true h2
    go_enter Try.func32, Try.ntmps32
    go_wp2_with fail
    go_ret
    have hn := HN.out
    subst hn
    exact Compacted.all (fun j hj => keeps_lt_one A j (by omega)) HR.out (Keeps.refl _ _)
  · have h2d : decide ((n : Int) < 2) = false := decide_eq_false (by omega)
    have h2e : decide (n < 2) = false := decide_eq_false h2
    go_enter Try.func32, Try.ntmps32
    go_wp2_with fail
    go_loopw [3] (fun i wr => ∃ k : Nat, k + 1 ≤ n ∧ i = .int .i64 ((k + 1 : Nat) : Int) ∧ Hid (∀ j, j < k + 1 → keeps A j = true) ∧ Hid (Keeps NoBlock w wr)) (fun i _ => n - (intOf i).toNat)
    case atStart => exact ⟨0, by omega, rfl, Lib.hid (keeps_lt_one A), Lib.hid (Keeps.refl _ _)⟩
    case round =>
      obtain ⟨k, hk, rfl, HA, HK⟩ := hrel
      by_cases hlt : k + 1 < n
      · have hdk : decide (((k + 1 : Nat) : Int) < (n : Int)) = true := decide_eq_true (by omega)
        have hdk2 : decide ((k : Int) + 1 < (n : Int)) = true := decide_eq_true (by omega)
        have hdk3 : decide (k + 1 < n) = true := decide_eq_true hlt
        have c0 := ((HR.out.keep HK.out (fun h => h)).cell hlt).1
        have c1 := ((HR.out.keep HK.out (fun h => h)).cell hlt).2
        have e0 := ((HR.out.keep HK.out (fun h => h)).cell (i := k) (by omega)).1
        have e1 := ((HR.out.keep HK.out (fun h => h)).cell (i := k) (by omega)).2
        have hne := fun w => enEqlT A[k + 1]! A[k]! w
        obtain ⟨x, hx⟩ : ∃ x, x = A[k + 1]! := ⟨_, rfl⟩
        obtain ⟨y, hy⟩ : ∃ y, y = A[k]! := ⟨_, rfl⟩
        simp only [← hx, ← hy] at c0 c1 e0 e1 hne
        have HX := Lib.hid hx
        have HY := Lib.hid hy
        clear hx hy
        have hkn : (k : Int) < (n : Int) := by omega
        have hkn3 : (k : Int) + 1 < (n : Int) := by omega
        have hk3 : (0 : Int) ≤ (k : Int) + 1 := by omega
        have hk4 : ((k : Int) + 1).toNat = k + 1 := by omega
        have w1 : IntKind.i64.wrap (k : Int) = (k : Int) := by rw [IntKind.wrap_i64]; omega
        have hk0 : (0 : Int) ≤ (k : Int) := by omega
        by_cases hxy : x = y
        · have HE := Lib.hid hxy
          rw [decide_eq_true hxy] at hne
          clear hxy
          go_wp2_with fail
          go_quiet (fail)
          go_wp2_with fail
          obtain ⟨W, hW⟩ : ∃ W, W = wr.drewN nq := ⟨_, rfl⟩
          have HK1 : Hid (Keeps NoBlock w W) := Lib.hid (by rw [hW]; exact HK.out.drewN _)
          rw [← hW]
          clear hW
          have HKn : Hid (keeps A (k + 1) = false) := Lib.hid (keeps_neg (by omega) (by rw [show k + 1 - 1 = k by omega, ← HX.out, ← HY.out]; exact HE.out))
          have HI0 : Hid (CompInv A (k + 1 + (0 + 1)) (k + 1) A) := Lib.hid (CompInv.start HA.out HKn.out)
          obtain ⟨q, hq⟩ : ∃ q, q = k + 1 := ⟨_, rfl⟩
          obtain ⟨M, hM⟩ : ∃ M, M = n - q := ⟨_, rfl⟩
          obtain ⟨D, hD⟩ : ∃ D, D = d - q := ⟨_, rfl⟩
          rw [← hq] at hlt HI0
          simp only [← hq]
          rw [← hM, ← hD]
          have hqM : q + M = n := by omega
          have hqD : q + D = d := by omega
          have HQM := Lib.hid hqM
          have HQD := Lib.hid hqD
          have HQ1 := Lib.hid (show 1 ≤ M by omega)
          clear c0 c1 e0 e1 hne HX HY HE HKn HA hk hk0 w1 hk4 hk3 hkn3 hkn hdk hdk2 hdk3 hq hM hD hqM hqD hlt HK
          go_loopw [3, 5] (fun s3 s5 wz => ∃ (kk k2 : Nat) (dk : Array En), s3 = .int .i64 (kk : Int) ∧ s5 = .int .i64 ((k2 + 1 : Nat) : Int) ∧ k2 + 1 ≤ M ∧ Hid (RowF wz g d n (fun i => dk[i]!)) ∧ Hid (CompInv A (q + (k2 + 1)) kk dk) ∧ Hid (Keeps (Just g) w wz)) (fun _ s5 _ => M - (intOf s5).toNat)
          case atStart => exact ⟨q, 0, A, rfl, rfl, HQ1.out, Lib.hid (HR.out.keep HK1.out (fun h => h)), HI0, Lib.hid (HK1.out.wider (fun _ _ h => h.elim))⟩
          case round =>
            obtain ⟨kk, k2, dk, rfl, rfl, hk2, HR2, HI, HK2⟩ := hrel
            have hM9 : M ≤ 1000000 := by have := HQM.out; omega
            have hsz := HI.out.size
            have hlt0 := HI.out.lt
            have hkn : kk < n := by have := HQM.out; omega
            by_cases hlt : k2 + 1 < M
            · have d1 : decide (((k2 + 1 : Nat) : Int) < (M : Int)) = true := decide_eq_true (by omega)
              have d2 : decide ((k2 : Int) + 1 < (M : Int)) = true := decide_eq_true (by omega)
              have d3 : decide (k2 + 1 < M) = true := decide_eq_true hlt
              have c := HR2.out.cell (i := q + (k2 + 1)) (by have := HQM.out; omega)
              have e := HR2.out.cell (i := q + k2) (by have := HQM.out; omega)
              have o := HR2.out.cell (i := kk) hkn
              have hne := fun w => enNeqT A[q + (k2 + 1)]! A[q + k2]! w
              rw [show (q + (k2 + 1)) * 2 = q * 2 + (k2 + 1) * 2 by omega, HI.out.high (q + (k2 + 1)) (by omega)] at c
              rw [show (q + k2) * 2 = q * 2 + k2 * 2 by omega, HI.out.high (q + k2) (by omega)] at e
              obtain ⟨x, hx⟩ : ∃ x, x = A[q + (k2 + 1)]! := ⟨_, rfl⟩
              obtain ⟨y, hy⟩ : ∃ y, y = A[q + k2]! := ⟨_, rfl⟩
              obtain ⟨v, hv⟩ : ∃ v, v = dk[kk]! := ⟨_, rfl⟩
              rw [← hx] at c hne
              rw [← hy] at e hne
              rw [← hv] at o
              have HX := Lib.hid hx
              have HY := Lib.hid hy
              obtain ⟨c0, c1⟩ := c
              obtain ⟨e0, e1⟩ := e
              obtain ⟨o0, o1⟩ := o
              clear hx hy hv
              have HKn := Lib.hid hkn
              have HSz := Lib.hid hsz
              clear hsz hlt0
              have b1 : (k2 : Int) < (M : Int) := by omega
              have b2 : (k2 : Int) + 1 < (M : Int) := by omega
              have b3 : (0 : Int) ≤ (k2 : Int) + 1 := by omega
              have b4 : ((k2 : Int) + 1).toNat = k2 + 1 := by omega
              have w1 : IntKind.i64.wrap (k2 : Int) = (k2 : Int) := by rw [IntKind.wrap_i64]; have := HQM.out; omega
              have b5 : (0 : Int) ≤ (k2 : Int) := by omega
              have b6 : (kk : Int) < (n : Int) := by omega
              by_cases hxy : x = y
              · have HE := Lib.hid hxy
                rw [decide_eq_false (fun h => h hxy)] at hne
                clear hxy o0 o1
                go_wp2_with fail
                go_quiet (fail)
                go_wp2_with fail
                go_roundw
                case rel =>
                  refine ⟨kk, k2 + 1, dk, rfl, by go_num, by omega, Lib.hid (by first | exact HR2.out | exact HR2.out.drew), Lib.hid ?_, Lib.hid (by first | exact HK2.out.drewN _ | exact HK2.out)⟩
                  exact HI.out.skip (keeps_neg (by omega) (by rw [show q + (k2 + 1) - 1 = q + k2 by omega, ← HX.out, ← HY.out]; exact HE.out))
                case measure => simp [intOf]; omega
              · have HE := Lib.hid hxy
                rw [decide_eq_true hxy] at hne
                clear hxy
                go_wp2_with fail
                go_quiet (fail)
                obtain ⟨W2, hW2⟩ : ∃ W2, W2 = wr.drewN nq := ⟨_, rfl⟩
                have HR3 : Hid (RowF W2 g d n (fun i => dk[i]!)) := Lib.hid (by rw [hW2]; exact HR2.out)
                have HK3 : Hid (Keeps (Just g) w W2) := Lib.hid (by rw [hW2]; exact HK2.out.drewN _)
                have t0 := cellDrewN c0 nq
                have t1 := cellDrewN c1 nq
                have r0 := cellDrewN o0 nq
                have r1 := cellDrewN o1 nq
                rw [← hW2] at t0 t1 r0 r1 ⊢
                clear hW2 c0 c1 e0 e1 o0 o1
                have f0 := HR3.out.free (kk * 2)
                have f1 := HR3.out.free (kk * 2 + 1)
                have HRn := Lib.hid (HR3.out.put HKn.out x)
                have HKx := Lib.hid (keepsPut HK3.out (.inl (Just.self g)) (kk * 2) (kk * 2 + 1) (.int .u64 (x.hash : Int)) (.int .u32 (x.at_ : Int)))
                go_wp2_with fail
                go_roundw
                case rel =>
                  refine ⟨kk + 1, k2 + 1, dk.setIfInBounds kk x, by go_num, by go_num, by omega, Lib.hid ?_, Lib.hid ?_, Lib.hid (by first | exact HKx.out | exact HKx.out.drew)⟩
                  · refine RowF.congr (by first | exact HRn.out | exact HRn.out.drew) (Nat.le_refl _) (fun i hi => ?_)
                    have hkd : kk < dk.size := by have := HKn.out; have := HSz.out; have := HN.out; omega
                    by_cases e : i = kk
                    · subst e
                      rw [if_pos rfl, Go.Sort.getElem!_set_same dk i x hkd]
                    · rw [if_neg e, Go.Sort.getElem!_set_other dk kk i x e]
                  · have h := HI.out.keep (by have := HN.out; have := HQM.out; omega) (keeps_pos (by rw [show q + (k2 + 1) - 1 = q + k2 by omega, ← HX.out, ← HY.out]; exact HE.out))
                    rw [← HX.out] at h
                    exact h
                case measure => simp [intOf]; omega
            · have d1 : decide (((k2 + 1 : Nat) : Int) < (M : Int)) = false := decide_eq_false (by omega)
              have d2 : decide ((k2 : Int) + 1 < (M : Int)) = false := decide_eq_false (by omega)
              have d3 : decide (k2 + 1 < M) = false := decide_eq_false hlt
              have hall : q + (k2 + 1) = A.size := by have := HN.out; have := HQM.out; omega
              have HI2 : Hid (CompInv A A.size kk dk) := Lib.hid (by rw [← hall]; exact HI.out)
              have hcl := fun ty => run_clear_ens HR2.out kk (n - kk) (d - kk) (by omega) (by omega) ty
              have HRc := Lib.hid (HR2.out.setCells kk (by omega) (Builtin.zeroCells #[.int .u64 0, .int .u32 0] (n - kk)).toList)
              have HKc := Lib.hid (setCells_keeps (g := g) (.inl (Just.self g)) (Builtin.zeroCells #[.int .u64 0, .int .u32 0] (n - kk)).toList (kk * 2) _ HK2.out)
              obtain ⟨V, hV⟩ : ∃ V, V = wr.setCells g (kk * 2) (Builtin.zeroCells #[.int .u64 0, .int .u32 0] (n - kk)).toList := ⟨_, rfl⟩
              rw [← hV] at HRc HKc
              simp only [← hV] at hcl
              have b6 : (kk : Int) ≤ (n : Int) := by omega
              have b7 : kk ≤ n := by omega
              have b8 : kk ≤ d := by omega
              have b9 : (kk : Int) ≤ (d : Int) := by omega
              clear hV hall hsz hlt0 HI
              go_wp2_with fail
              go_ret
              refine ⟨kk, HI2.out.len.symm, rfl, ?_, HKc.out⟩
              refine HRc.out.congr (Nat.le_refl _) (fun i hi => ?_)
              rw [List.getD_eq_getElem?_getD, HI2.out.low i hi]
              rfl
        · have HE := Lib.hid hxy
          rw [decide_eq_false hxy] at hne
          clear hxy
          go_wp2_with fail
          go_quiet (fail)
          go_wp2_with fail
          go_roundw
          case rel =>
            refine ⟨k + 1, by omega, by go_num, Lib.hid (fun j hj => ?_), Lib.hid (by first | exact HK.out.drewN _ | exact HK.out)⟩
            by_cases e : j = k + 1
            · subst e
              exact keeps_pos (by rw [show k + 1 - 1 = k by omega, ← HX.out, ← HY.out]; exact HE.out)
            · exact HA.out j (by omega)
          case measure => simp [intOf]; omega
      · have hdk : decide (((k + 1 : Nat) : Int) < (n : Int)) = false := decide_eq_false (by omega)
        have hdk2 : decide ((k : Int) + 1 < (n : Int)) = false := decide_eq_false (by omega)
        have hdk3 : decide (k + 1 < n) = false := decide_eq_false hlt
        go_wp2_with fail
        go_ret
        have hn := HN.out
        subst hn
        exact Compacted.all (fun j hj => HA.out j (by omega)) (HR.out.keep HK.out (fun h => h)) (HK.out.wider (fun _ _ h => h.elim))
end Go.Proofs.Ytbchiccgkhnkaaa

namespace Go.Proofs.Ytbchiccgkhnkaaa
open Go.Shelf Go.RowKit Go.Lib Go.Sort

def sortLay_ren : Go.Shelf.Ren := ⟨fun | 6 => 31 | 15 => 61 | 14 => 60 | 28 => 81 | 29 => 82 | 20 => 73 | 21 => 74 | 22 => 75 | 23 => 76 | 24 => 77 | 25 => 78 | 26 => 79 | 27 => 80 | 46 => 91 | 47 => 92 | 48 => 93 | 49 => 94 | 50 => 95 | 57 => 96 | n => n, fun | 22 => 22 | 24 => 29 | 25 => 30 | 3 => 3 | 39 => 98 | 0 => 0 | 53 => 27 | 55 => 26 | 4 => 4 | 46 => 112 | 45 => 111 | 50 => 116 | 5 => 5 | 9 => 9 | 66 => 126 | 70 => 129 | 76 => 131 | 77 => 58 | n => n, fun | n => n⟩
theorem sortLay : SlLaysF0.n6 Try.prog sortLay_ren := {
  mixed := by kernel_rfl
  f6 := ⟨Try.f31.name, by decide, Try.func31.trans (congrArg some (by kernel_rfl))⟩
  f14 := ⟨Try.f60.name, by decide, Try.func60.trans (congrArg some (by kernel_rfl))⟩
  f15 := Try.func61.trans (congrArg some (by kernel_rfl))
  f20 := ⟨Try.f73.name, by decide, Try.func73.trans (congrArg some (by kernel_rfl))⟩
  f21 := ⟨Try.f74.name, by decide, Try.func74.trans (congrArg some (by kernel_rfl))⟩
  f22 := ⟨Try.f75.name, by decide, Try.func75.trans (congrArg some (by kernel_rfl))⟩
  f23 := ⟨Try.f76.name, by decide, Try.func76.trans (congrArg some (by kernel_rfl))⟩
  f24 := ⟨Try.f77.name, by decide, Try.func77.trans (congrArg some (by kernel_rfl))⟩
  f25 := ⟨Try.f78.name, by decide, Try.func78.trans (congrArg some (by kernel_rfl))⟩
  f26 := ⟨Try.f79.name, by decide, Try.func79.trans (congrArg some (by kernel_rfl))⟩
  f27 := ⟨Try.f80.name, by decide, Try.func80.trans (congrArg some (by kernel_rfl))⟩
  f28 := Try.func81.trans (congrArg some (by kernel_rfl))
  f29 := Try.func82.trans (congrArg some (by kernel_rfl))
  f46 := ⟨Try.f91.name, by decide, Try.func91.trans (congrArg some (by kernel_rfl))⟩
  f47 := Try.func92.trans (congrArg some (by kernel_rfl))
  f48 := Try.func93.trans (congrArg some (by kernel_rfl))
  f49 := ⟨Try.f94.name, by decide, Try.func94.trans (congrArg some (by kernel_rfl))⟩
  f50 := ⟨Try.f95.name, by decide, Try.func95.trans (congrArg some (by kernel_rfl))⟩
  f57 := ⟨Try.f96.name, by decide, Try.func96.trans (congrArg some (by kernel_rfl))⟩
  t0 := Try.underlying0
  a0 := Try.isAgg0
  z0 := Try.sizeOf0
  v0 := Try.zeroValue0
  t3 := Try.underlying3
  a3 := Try.isAgg3
  z3 := Try.sizeOf3
  v3 := Try.zeroValue3
  t4 := Try.underlying4
  a4 := Try.isAgg4
  z4 := Try.sizeOf4
  v4 := Try.zeroValue4
  t5 := Try.underlying5
  a5 := Try.isAgg5
  z5 := Try.sizeOf5
  v5 := Try.zeroValue5
  t9 := Try.underlying9
  a9 := Try.isAgg9
  z9 := Try.sizeOf9
  v9 := Try.zeroValue9
  t22 := Try.underlying22
  a22 := Try.isAgg22
  z22 := Try.sizeOf22
  v22 := Try.zeroValue22
  t25 := Try.underlying30
  a25 := Try.isAgg30
  z25 := Try.sizeOf30
  v25 := Try.zeroValue30
  t39 := Try.underlying98
  a39 := Try.isAgg98
  z39 := Try.sizeOf98
  v39 := Try.zeroValue98
  t45 := Try.underlying111
  a45 := Try.isAgg111
  z45 := Try.sizeOf111
  v45 := Try.zeroValue111
  t46 := Try.underlying112
  a46 := Try.isAgg112
  z46 := Try.sizeOf112
  v46 := Try.zeroValue112
  t50 := Try.underlying116
  a50 := Try.isAgg116
  z50 := Try.sizeOf116
  v50 := Try.zeroValue116
  t53 := Try.underlying27
  a53 := Try.isAgg27
  z53 := Try.sizeOf27
  v53 := Try.zeroValue27
  t55 := Try.underlying26
  a55 := Try.isAgg26
  z55 := Try.sizeOf26
  v55 := Try.zeroValue26
  t66 := Try.underlying126
  a66 := Try.isAgg126
  z66 := Try.sizeOf126
  v66 := Try.zeroValue126
  t70 := Try.underlying129
  a70 := Try.isAgg129
  z70 := Try.sizeOf129
  v70 := Try.zeroValue129
  t76 := Try.underlying131
  a76 := Try.isAgg131
  z76 := Try.sizeOf131
  v76 := Try.zeroValue131
  t77 := Try.underlying58
  a77 := Try.isAgg58
  z77 := Try.sizeOf58
  v77 := Try.zeroValue58 }

def searchLay_ren : Go.Shelf.Ren := ⟨fun | 16 => 50 | n => n, fun | 3 => 3 | 35 => 89 | 4 => 4 | 38 => 98 | n => n, fun | n => n⟩
theorem searchLay : SlLaysO.n16 Try.prog searchLay_ren := {
  mixed := by kernel_rfl
  f16 := Try.func50.trans (congrArg some (by kernel_rfl))
  t3 := Try.underlying3
  a3 := Try.isAgg3
  z3 := Try.sizeOf3
  v3 := Try.zeroValue3
  t4 := Try.underlying4
  a4 := Try.isAgg4
  z4 := Try.sizeOf4
  v4 := Try.zeroValue4
  t35 := Try.underlying89
  a35 := Try.isAgg89
  z35 := Try.sizeOf89
  v35 := Try.zeroValue89
  t38 := Try.underlying98
  a38 := Try.isAgg98
  z38 := Try.sizeOf98
  v38 := Try.zeroValue98 }
end Go.Proofs.Ytbchiccgkhnkaaa

namespace Go.Proofs.Ytbchiccgkhnkaaa
open Go.RowKit Go.Lib Go.Sort Go.Shelf

def encE (e : En) : List Value := [enH e, enA e]
theorem swoE : SWO (ltOf cmpE) where
  irrefl x := by
    unfold ltOf
    exact decide_eq_false (fun h => LessE.irrefl _ (cmpE_less.1 h))
  trans x y z h1 h2 := by
    unfold ltOf at *
    exact decide_eq_true (cmpE_less.2 ((cmpE_less.1 (of_decide_eq_true h1)).trans (cmpE_less.1 (of_decide_eq_true h2))))
  ntrans x y z h1 h2 := by
    unfold ltOf at *
    have a1 : ¬ LessE x y := fun h => of_decide_eq_false h1 (cmpE_less.2 h)
    have a2 : ¬ LessE y z := fun h => of_decide_eq_false h2 (cmpE_less.2 h)
    refine decide_eq_false (fun h => ?_)
    have h3 := cmpE_less.1 h
    unfold LessE at *
    omega
theorem cmpLaysE (blk off size : Nat) (w : World) : CmpLays Try.prog 10 #[] encE 2 cmpE blk off size w :=
  fun _ _ _ _ x y => compare_grown x y _

theorem RowF.holds {w : World} {g d n : Nat} {f : Nat → En} (h : RowF w g d n f) (A : Array En) (hA : A.size = n) (he : ∀ i, i < n → f i = A[i]!) : HoldsK encE 2 w g 0 A := by
  intro j hj
  rw [size_flatK] at hj
  refine ⟨?_, h.free _⟩
  have hc := h.cell (i := j / 2) (by omega)
  rw [he (j / 2) (by omega)] at hc
  show w.cell? ⟨g, 0 + j, none⟩ = some (flatK encE 2 A)[j]!
  rw [get_flatK _ _ _ _ hj]
  by_cases h5 : j % 2 = 0
  · rw [show 0 + j = j / 2 * 2 by omega, hc.1, h5]
    rfl
  · rw [show 0 + j = j / 2 * 2 + 1 by omega, hc.2, show j % 2 = 1 by omega]
    rfl
theorem RowF.sorted {w : World} {g d n : Nat} {f : Nat → En} (h : RowF w g d n f) (A : Array En) (hA : A.size = n) (m : Nat) (os : Array Obj) :
    RowF (sortWorldK encE 2 w g 0 m A os) g d n (fun i => A[i]!) := by
  obtain ⟨cur, hw, h1, h2, h3⟩ := h
  have hlt := hw.lt
  refine ⟨putCells id 0 (flatK encE 2 A) cur, ?_, by simpa [putCells] using h1, h2, fun i hi => ?_⟩
  · show ((w.heap.modify g _) ++ os)[g]? = _
    rw [Array.getElem?_append_left (by simpa using hlt), Array.getElem?_modify, if_pos rfl, show w.heap[g]? = _ from hw]
    rfl
  · obtain ⟨c0, c1⟩ := h3 i hi
    have hsz : (flatK encE 2 A).size = n * 2 := by rw [size_flatK, hA]
    have g0 := get_flatK encE 2 A (i * 2) (by rw [hA]; omega)
    have g1 := get_flatK encE 2 A (i * 2 + 1) (by rw [hA]; omega)
    rw [show i * 2 / 2 = i by omega, show i * 2 % 2 = 0 by omega] at g0
    rw [show (i * 2 + 1) / 2 = i by omega, show (i * 2 + 1) % 2 = 1 by omega] at g1
    constructor
    · unfold putCells
      rw [Array.getElem?_mapIdx, c0]
      simp only [Option.map_some]
      rw [if_pos ⟨Nat.zero_le _, by omega⟩, Nat.sub_zero, g0]
      rfl
    · unfold putCells
      rw [Array.getElem?_mapIdx, c1]
      simp only [Option.map_some]
      rw [if_pos ⟨Nat.zero_le _, by omega⟩, Nat.sub_zero, g1]
      rfl
theorem sortWorld_keeps (w : World) (g m : Nat) (A : Array En) (os : Array Obj) : Keeps (Just g) w (sortWorldK encE 2 w g 0 m A os) := by
  refine ⟨rfl, rfl, rfl, ?_, fun k hk hn => ?_⟩
  · show w.heap.size ≤ ((w.heap.modify g _) ++ os).size
    simp
  · show ((w.heap.modify g _) ++ os)[k]? = _
    rw [Array.getElem?_append_left (by simpa using hk), Array.getElem?_modify, if_neg (fun e => hn e.symm)]

set_option maxHeartbeats 2000000 in
set_option maxRecDepth 10000 in
theorem clone_own (p : Option Addr) (n c : Nat) (l : List En) (w : World) (hn : n = l.length) (hn9 : n ≤ 1000000) (hp : p = none → n = 0 ∧ c = 0) (hat : EnsAt w p l) :
    Calls Try.prog 30 #[.slice p n c] w fun e w' => ∃ v, e = .returned v ∧ TwosSoFar enH enA 29 w l v w' := by
  have q22 : ∀ (w : World) (a : Option Addr) (n c n' c' : Nat), (binOp .eql 22 (.slice a n c) (.slice none n' c')).run Try.prog w = .ok (.bool a.isNone) w := fun w a n c n' c' => Lib.run_eql_slice_nil w _ _ a n c n' c' Try.underlying22
  obtain ⟨i0, hi, hz0, hz1, hz2⟩ := info_parts infoEnL
  have HN := Lib.hid hn
  cases p with
  | none =>
    obtain ⟨rfl, rfl⟩ := hp rfl
    obtain rfl : l = [] := List.length_eq_zero_iff.1 hn.symm
    clear hat hn
    go_enter Try.func30, Try.ntmps30
    go_wp2_with fail
    go_ret
    exact ⟨_, rfl, TwosSoFar.start w⟩
  | some a =>
    have HA := Lib.hid hat
    have HO0 := Lib.hid (show TwosSoFar enH enA 29 w ([] : List En) (.slice (some ⟨w.heap.size, 0, none⟩) 0 0) (w.alloc (.cells #[] 29)) from ⟨World.ownsRow_made w #[] 0 (Nat.le_refl _) (Nat.zero_le _) (by simp), (Below.refl _ w).alloc (Nat.le_refl _) _⟩)
    clear hat hn hp
    go_enter Try.func30, Try.ntmps30
    go_wp2_with (at_builtin; refine wpList_append_twos (dd := En.none) rfl _ _ 22 rfl 29 i0 (.agg #[.int .u64 0, .int .u32 0]) 16 Try.underlying22 hi hz0 hz1 hz2 rfl _ _ rfl HO0.out (some a) n c l rfl (fun h => by simp at h) HN.out (TwosAt.keep HA.out ((Keeps.refl NoBlock w).alloc _) (fun _ _ h => h)) (fun _ => rfl) (fun _ => rfl) (by simp; omega) (by simp; omega) ?_)
    intro v w1 hv
    have HV := Lib.hid hv
    clear hv
    go_wp2_with fail
    go_ret
    exact ⟨_, rfl, HV.out⟩

set_option maxHeartbeats 2000000 in
theorem compact_nil (w : World) : Calls Try.prog 32 #[.slice none 0 0] w fun e w' => e = .returned (.slice none 0 0) ∧ w' = w := by
  go_enter Try.func32, Try.ntmps32
  go_wp2_with fail
  go_ret
  exact ⟨rfl, rfl⟩

/-- What the library's sort makes of a row of one's own. -/
theorem sortfunc_own (g cap n : Nat) (l : List En) (hl : n = l.length) (hn9 : n ≤ 1000000) (w : World) (h : RowF w g cap n (fun i => l.getD i En.none)) :
    Calls Try.prog 31 #[.slice (some ⟨g, 0, none⟩) n cap, .func (.func 10) #[] #[]] w fun e w' =>
      e = .returned (.tuple #[]) ∧ ∃ A : Array En, A.size = n ∧ compactUpTo A A.size = sortE l ∧ RowF w' g cap n (fun i => A[i]!) ∧ Keeps (Just g) w w' := by
  have eg : ∀ args w, (callFunc 10 args).run Try.prog w = .ok (.enter 10 args) w := enters_of Try.func10 (by kernel_rfl) rfl
  have hA : l.toArray.size = n := by simp [hl]
  have hf : ∀ i, i < n → l.getD i En.none = l.toArray[i]! := fun i hi => by
    rw [← getD_arr l.toArray i (by omega)]
  have hcon := AnyQ.slices_SortFunc sortLay 2 Try.isAgg29 Try.sizeOf29 encE (fun _ => rfl) (fun x v hv => by simp [encE] at hv; rcases hv with rfl | rfl <;> rfl) cmpE swoE 10 #[] g 0 cap l.toArray w eg (cmpLaysE g 0 l.toArray.size w) (h.holds l.toArray hA hf) h.lt (by omega)
  rw [hA] at hcon
  refine Calls.mono hcon ?_
  rintro e w' ⟨rfl, A, m, os, hp, hs, rfl⟩
  obtain ⟨p1, _, p3⟩ := hp
  have hAn : A.size = n := by rw [p1, hA]
  refine ⟨rfl, A, hAn, ?_, h.sorted A hAn m os, sortWorld_keeps w g m A os⟩
  rw [compact_sortE A (fun i j hij hj => ?_)]
  · have hmem : ∀ x, x ∈ A.toList ↔ x ∈ l := fun x => by
      have h1 := p3.mem_iff (a := x)
      rw [show A.extract 0 n = A by rw [← hAn]; exact Array.extract_size, show l.toArray.extract 0 n = l.toArray by rw [← hA]; exact Array.extract_size] at h1
      exact h1
    exact sortE_same hmem
  · by_cases e : i = j
    · rw [e]; exact LessE.irrefl _
    · have h2 := hs i j (Nat.zero_le _) (by omega) (by omega)
      unfold ltOf at h2
      exact fun h3 => of_decide_eq_false h2 (cmpE_less.2 h3)

set_option maxHeartbeats 2000000 in
set_option maxRecDepth 10000 in
theorem tsorted_own (p : Option Addr) (n c : Nat) (l : List En) (w : World) (h : InE w p n c l) (hn9 : n ≤ 100000) :
    Calls Try.prog 9 #[.slice p n c] w fun e w' => ∃ v, e = .returned v ∧ TwosSoFar enH enA 29 w (sortE l) v w' := by
  have HCl := Lib.hid (clone_own p n c l w h.len (by omega) h.bare h.at_)
  have HNo := Lib.hid (fun fv w => AnyF.slices_SortFunc_none sortLay none 0 fv w)
  have HLn := Lib.hid h.len
  clear h
  go_enter Try.func9, Try.ntmps9
  go_wp2_with fail
  refine HCl.out.mono ?_
  rintro e w1 ⟨v, rfl, hown, hbel⟩
  have HB := Lib.hid hbel
  rcases id hown with ⟨_, ⟨rfl, h0⟩ | ⟨g, cap, cur, rfl, hb, hg, h1, h2, h3, h4⟩⟩
  · obtain rfl : l = [] := List.length_eq_zero_iff.1 h0
    clear hown hbel HCl
    go_wp2_with fail
    refine (HNo.out _ _).mono ?_
    rintro e w2 ⟨rfl, rfl⟩
    go_wp2_with fail
    refine (compact_nil _).mono ?_
    rintro e w2 ⟨rfl, rfl⟩
    go_wp2_with fail
    go_ret
    exact ⟨_, rfl, ⟨by simp [sortE, twoFlat], .inl ⟨rfl, rfl⟩⟩, HB.out⟩
  · obtain ⟨hR, hbg, hcap⟩ := RowF.ofOwn hown rfl
    have HS := Lib.hid (sortfunc_own g cap l.length l rfl (by rw [← HLn.out]; omega) _ hR)
    have HBg := Lib.hid hbg
    have HCap := Lib.hid hcap
    have HL9 := Lib.hid (show l.length ≤ 100000 by rw [← HLn.out]; exact hn9)
    clear hown hbel HCl hR hbg hcap hb hg h1 h2 h3 h4
    go_wp2_with fail
    refine HS.out.mono ?_
    rintro e w2 ⟨rfl, A, hAn, hAs, hR2, hk2⟩
    have HC := Lib.hid (compact_own g cap A.size A rfl w2 (by rw [hAn]; exact hR2) (by have := HCap.out; unfold maxLen at this; exact this) (by have := HL9.out; omega))
    rw [hAn] at HC
    have HK2 := Lib.hid hk2
    have HAs := Lib.hid hAs
    clear hR2 hk2 hAs HS
    go_wp2_with fail
    refine HC.out.mono ?_
    rintro e w3 ⟨m, hm, rfl, hR3, hk3⟩
    rw [HAs.out] at hm hR3
    have HR3 := Lib.hid hR3
    have HM := Lib.hid hm
    have HK3 := Lib.hid (HK2.out.trans hk3)
    clear hR3 hm hk3 HC
    go_wp2_with fail
    go_ret
    have hm := HM.out
    subst hm
    exact ⟨_, rfl, HR3.out.own (Nat.le_refl _) (fun _ _ => rfl) HBg.out HCap.out, HB.out.trans (HK3.out.below HB.out.size (fun k hk e => by have := HBg.out; have e' : k = g := e; omega))⟩
theorem sort_ok : SortOk := ⟨fun p n c l w h h9 => (tsorted_own p n c l w h h9).mono fun _ _ ⟨v, he, hv⟩ => ⟨v, he, hv.new⟩⟩
theorem merge_ok : MergeOk := ⟨fun p n c l w h h9 => tsorted_own p n c l w h h9⟩
end Go.Proofs.Ytbchiccgkhnkaaa

namespace Go.Proofs.Ytbchiccgkhnkaaa
open Go.RowKit Go.Sort Go.Shelf Go.Lib

theorem ask_from (h hash b : Nat) (W : World) (hb : W.cell? ⟨b, 0, none⟩ = some (.int .u64 (hash : Int))) :
    Calls Try.prog 52 #[.int .u64 (h : Int), .pointer (some ⟨b, 0, none⟩)] W fun e w' => e = .returned (.bool (decide (hash ≤ h))) ∧ w' = W := by
  go_enter Try.func52, Try.ntmps52
  go_wp2_with fail
  go_ret
  exact ⟨rfl, rfl⟩
theorem ask_to (h hash b : Nat) (W : World) (hb : W.cell? ⟨b, 0, none⟩ = some (.int .u64 (hash : Int))) :
    Calls Try.prog 53 #[.int .u64 (h : Int), .pointer (some ⟨b, 0, none⟩)] W fun e w' => e = .returned (.bool (decide (hash < h))) ∧ w' = W := by
  go_enter Try.func53, Try.ntmps53
  go_wp2_with fail
  go_ret
  exact ⟨rfl, rfl⟩

/-- A question that is asked of a number, by a box that holds another one. -/
def AskAt (G b hash : Nat) (Pq : Nat → Bool) : Prop :=
  (∀ args w, (callFunc G args).run Try.prog w = .ok (.enter G args) w) ∧
  ∀ (h : Nat) (W : World), W.cell? ⟨b, 0, none⟩ = some (.int .u64 (hash : Int)) → Calls Try.prog G #[.int .u64 (h : Int), .pointer (some ⟨b, 0, none⟩)] W fun e w' => e = .returned (.bool (Pq h)) ∧ w' = W
theorem askFrom (b hash : Nat) : AskAt 52 b hash (fun h => decide (hash ≤ h)) := ⟨enters_of Try.func52 (by kernel_rfl) rfl, fun h W hb => ask_from h hash b W hb⟩
theorem askTo (b hash : Nat) : AskAt 53 b hash (fun h => decide (hash < h)) := ⟨enters_of Try.func53 (by kernel_rfl) rfl, fun h W hb => ask_to h hash b W hb⟩

set_option maxHeartbeats 2000000 in
set_option maxRecDepth 10000 in
theorem inner_own (G b hash : Nat) (Pq : Nat → Bool) (hA : AskAt G b hash Pq) (p : Option Addr) (n c : Nat) (l : List En) (hn : n = l.length) (bq bl : Nat) (i : Nat) (hi : i < n) (_hn9 : n ≤ 1000000) (W : World)
    (hq : W.cell? ⟨bq, 0, none⟩ = some (.func (.func G) #[] #[.pointer (some ⟨b, 0, none⟩)])) (hl : W.cell? ⟨bl, 0, none⟩ = some (.slice p n c)) (hb : W.cell? ⟨b, 0, none⟩ = some (.int .u64 (hash : Int))) (hat : EnsAt W p l) :
    Calls Try.prog 51 #[.int .i64 (i : Int), .pointer (some ⟨bq, 0, none⟩), .pointer (some ⟨bl, 0, none⟩)] W fun e w' => e = .returned (.bool (Pq (l.getD i En.none).hash)) ∧ ∃ q os, w' = grow (W.drewN q) os := by
  have mixed : Try.prog.follows .mixedOrders = true := by kernel_rfl
  obtain ⟨a, rfl, c0, c1⟩ := hat.at_ i (by omega)
  obtain ⟨r, hr⟩ : ∃ r, r = l.getD i En.none := ⟨_, rfl⟩
  rw [← hr] at c0 ⊢
  obtain ⟨z, hz⟩ : ∃ z, z = Pq r.hash := ⟨_, rfl⟩
  have eG := hA.1
  have hcall := fun n os => hA.2 r.hash (grow (W.drewN n) os) (cellG hb n os)
  rw [← hz] at hcall ⊢
  have HC : Hid (∀ n os, Calls Try.prog G #[.int .u64 (r.hash : Int), .pointer (some ⟨b, 0, none⟩)] (grow (W.drewN n) os) fun e w' => e = .returned (.bool z) ∧ ∃ q os', w' = grow ((grow (W.drewN n) os).drewN q) os') := Lib.hid (fun n os => (hcall n os).mono fun e w' ⟨h1, h2⟩ => ⟨h1, 0, #[], by rw [h2, grow_empty]; rfl⟩)
  have Q0 : ∀ n os, (grow (W.drewN n) os).cell? _ = _ := fun n os => cellG hq n os
  have L0 : ∀ n os, (grow (W.drewN n) os).cell? _ = _ := fun n os => cellG hl n os
  have C0 : ∀ n os, (grow (W.drewN n) os).cell? _ = _ := fun n os => cellG c0 n os
  have hin : (i : Int) < (n : Int) := by omega
  clear hA hat c0 c1 hq hl hb hcall hr hz hn
  go_enter Try.func51, Try.ntmps51
  go_wp2_with fail
  go_quiet_grown ((go_at_fn G; exact Calls.grown_of (HC.out _ _)))
  go_wp2_with fail
  go_ret
  exact ⟨rfl, nq, osq, rfl⟩

theorem rises_hash {l : List En} (h : risesE l = true) {i j : Nat} (hij : i ≤ j) (hj : j < l.length) : (l.getD i En.none).hash ≤ (l.getD j En.none).hash := by
  have hp := risesE_pair.1 h
  by_cases e : i = j
  · rw [e]; exact Nat.le_refl _
  · have := List.pairwise_iff_getElem.1 hp i j (by omega) hj (by omega)
    have e1 : l.getD i En.none = l[i] := by simp [show i < l.length by omega]
    have e2 : l.getD j En.none = l[j] := by simp [hj]
    rw [e1, e2]
    unfold LessE at this
    omega
theorem count_row (l : List En) (f : En → Bool) : (List.range l.length).countP (fun i => f (l.getD i En.none)) = l.countP f := by
  have h := Lib.countP_range l.toArray f
  have e : ∀ i, i < l.length → l.toArray[i]! = l.getD i En.none := fun i hi => by
    rw [getElem!_pos l.toArray i (by simpa using hi)]
    simp [hi]
  have h2 : (List.range l.length).countP (fun i => f (l.getD i En.none)) = (List.range l.toArray.size).countP (fun i => f l.toArray[i]!) := by
    rw [show l.toArray.size = l.length by simp]
    apply List.countP_congr
    intro i hi
    rw [e i (by simpa using hi)]
  rw [h2, h]

set_option maxHeartbeats 2000000 in
set_option maxRecDepth 10000 in
theorem first_own (G b hash : Nat) (Pq : Nat → Bool) (hA : AskAt G b hash Pq) (hm : ∀ x y, x ≤ y → Pq x = true → Pq y = true) (p : Option Addr) (n c : Nat) (l : List En) (hn : n = l.length) (hr : risesE l = true) (bl : Nat) (hn9 : n ≤ 1000000) (W : World)
    (hl : W.cell? ⟨bl, 0, none⟩ = some (.slice p n c)) (hb : W.cell? ⟨b, 0, none⟩ = some (.int .u64 (hash : Int))) (hat : EnsAt W p l) :
    Calls Try.prog 49 #[.func (.func G) #[] #[.pointer (some ⟨b, 0, none⟩)], .pointer (some ⟨bl, 0, none⟩)] W fun e w' => e = .returned (.int .i64 ((l.countP fun x => !Pq x.hash : Nat) : Int)) ∧ Grown W w' := by
  obtain ⟨V, hV⟩ : ∃ V, V = W.alloc (.cells #[.func (.func G) #[] #[.pointer (some ⟨b, 0, none⟩)]] 87) := ⟨_, rfl⟩
  have hk : Grown W V := by rw [hV]; exact (Grown.refl W).alloc _
  have hql : V.cell? ⟨W.heap.size, 0, none⟩ = some (.func (.func G) #[] #[.pointer (some ⟨b, 0, none⟩)]) := by rw [hV]; exact Whole.cell (Whole.new W _ _) 0 rfl
  have hl2 : V.cell? ⟨bl, 0, none⟩ = some (.slice p n c) := hk.keeps.cell hl (fun h => h)
  have hb2 : V.cell? ⟨b, 0, none⟩ = some (.int .u64 (hash : Int)) := hk.keeps.cell hb (fun h => h)
  have hat2 : EnsAt V p l := EnsAt.keep hat hk.keeps
  have hcon := Any.sort_Search searchLay 51 #[.pointer (some ⟨W.heap.size, 0, none⟩), .pointer (some ⟨bl, 0, none⟩)] n (fun i => Pq (l.getD i En.none).hash) V (enters_of Try.func51 (by kernel_rfl) rfl) (by omega)
    (fun m os i hi => inner_own G b hash Pq hA p n c l hn W.heap.size bl i hi hn9 _ (cellG hql m os) (cellG hl2 m os) (cellG hb2 m os) (EnsAt.keep hat2 (show Grown V _ from ⟨m, os, rfl⟩).keeps))
    (fun i j hij hj h => hm _ _ (rises_hash hr hij (by omega)) h)
  change Calls Try.prog 50 _ _ _ at hcon
  have hc2 := count_row l (fun x => !Pq x.hash)
  rw [← hn] at hc2
  rw [hc2] at hcon
  obtain ⟨K, hK⟩ : ∃ K, K = l.countP (fun x => !Pq x.hash) := ⟨_, rfl⟩
  rw [← hK] at hcon ⊢
  have HC := Lib.hid hcon
  have HG := Lib.hid hk
  have l1 := hl2
  clear hcon hc2 hK hat hat2 hA hm hr hk hql hb hb2 hn hl2
  go_enter Try.func49, Try.ntmps49
  rw [hV] at HC HG l1
  clear hV
  go_wp2_with fail
  refine HC.out.mono ?_
  rintro e w2 ⟨rfl, q, os, rfl⟩
  go_wp2_with fail
  go_ret
  exact ⟨rfl, HG.out.trans ⟨q, os, rfl⟩⟩

set_option maxHeartbeats 2000000 in
set_option maxRecDepth 10000 in
theorem find_own (p : Option Addr) (n c : Nat) (l : List En) (h : Nat) (w : World) (hn : n = l.length) (hn9 : n ≤ 1000000) (hr : risesE l = true) (hat : EnsAt w p l) :
    Calls Try.prog 26 #[.slice p n c, .int .u64 (h : Int)] w fun e w' => e = .returned (.tuple #[.int .i64 ((findE l h).1 : Int), .int .i64 ((findE l h).2 : Int)]) ∧ Keeps NoBlock w w' := by
  have e1 : (findE l h).1 = l.countP (fun x => !decide (h ≤ x.hash)) := by
    unfold findE
    apply List.countP_congr
    intro x _
    simp
  have e2 : (findE l h).2 = l.countP (fun x => !decide (h < x.hash)) := by
    unfold findE
    apply List.countP_congr
    intro x _
    simp
  have HF := Lib.hid (fun W hl hb hat => first_own 52 (w.heap.size + 1) h (fun x => decide (h ≤ x)) (askFrom _ _) (fun x y hxy hx => decide_eq_true (by have := of_decide_eq_true hx; omega)) p n c l hn hr w.heap.size hn9 W hl hb hat)
  have HT := Lib.hid (fun W hl hb hat => first_own 53 (w.heap.size + 1) h (fun x => decide (h < x)) (askTo _ _) (fun x y hxy hx => decide_eq_true (by have := of_decide_eq_true hx; omega)) p n c l hn hr w.heap.size hn9 W hl hb hat)
  rw [← e1] at HF
  rw [← e2] at HT
  clear e1 e2
  obtain ⟨A, hA⟩ : ∃ A, A = (findE l h).1 := ⟨_, rfl⟩
  obtain ⟨B, hB⟩ : ∃ B, B = (findE l h).2 := ⟨_, rfl⟩
  rw [← hA] at HF ⊢
  rw [← hB] at HT ⊢
  clear hA hB
  obtain ⟨V, hV⟩ : ∃ V, V = (w.alloc (.cells #[.slice p n c] 22)).alloc (.cells #[.int .u64 (h : Int)] 26) := ⟨_, rfl⟩
  have HK : Hid (Keeps NoBlock w V) := Lib.hid (by rw [hV]; exact ((Keeps.refl _ w).alloc _).alloc _)
  have HL : Hid (V.cell? ⟨w.heap.size, 0, none⟩ = some (.slice p n c)) := Lib.hid (by rw [hV]; exact Whole.cell ((Whole.new w _ _).alloc _) 0 rfl)
  have HB : Hid (V.cell? ⟨w.heap.size + 1, 0, none⟩ = some (.int .u64 (h : Int))) := Lib.hid (by rw [hV]; exact Whole.cell (Whole.newAt (w.alloc (.cells #[.slice p n c] 22)) _ _ (w.heap.size + 1) (by simp)) 0 rfl)
  have HE := Lib.hid (EnsAt.keep hat HK.out)
  clear hat hn hr
  go_enter Try.func26, Try.ntmps26
  go_wp2_with fail
  rw [← hV]
  clear hV
  refine (HF.out _ HL.out HB.out HE.out).mono ?_
  rintro e w1 ⟨rfl, hk⟩
  have HK1 := Lib.hid (HK.out.trans hk.keeps)
  have HL1 := Lib.hid (hk.keeps.cell HL.out (fun h => h))
  have HB1 := Lib.hid (hk.keeps.cell HB.out (fun h => h))
  have HE1 := Lib.hid (EnsAt.keep HE.out hk.keeps)
  clear hk HL HB HE HK
  go_wp2_with fail
  refine (HT.out _ HL1.out HB1.out HE1.out).mono ?_
  rintro e w2 ⟨rfl, hk⟩
  have HK2 := Lib.hid (HK1.out.trans hk.keeps)
  clear hk
  go_wp2_with fail
  refine bodyPost_ret (results_tmp2 rfl _ _ _) rfl ?_
  exact ⟨rfl, HK2.out⟩
theorem find_ok : FindOk := ⟨fun p n c l h w hi h9 hr _ => find_own p n c l h w hi.len (by omega) hr hi.at_⟩
end Go.Proofs.Ytbchiccgkhnkaaa

namespace Go.Proofs.Ytbchiccgkhnkaaa
open Go.RowKit

set_option maxHeartbeats 800000 in
theorem hash_own (xs : List Int) (w : World) (ho : Octets xs) (hl : xs.length ≤ 1000000) :
    Calls Try.prog 28 #[.string (strOfNums xs)] w fun e w' => e = .returned (.int .u64 (wxxh 0 xs)) ∧ Keeps NoBlock w w' := by
  have hz := str_size xs
  have hc := run_str_bytes xs w
  obtain ⟨C, hC⟩ : ∃ C, C = grownCap w xs.length 0 5 := ⟨_, rfl⟩
  have hC1 : xs.length ≤ C := by rw [hC]; exact grownCap_ge _ _ _ _
  have hC2 : C ≤ 9223372036854775807 := by rw [hC]; exact grownCap_le_maxLen _ _ _ _ (by unfold maxLen; omega)
  rw [← hC] at hc
  clear hC
  obtain ⟨W, hW⟩ : ∃ W, W = Lib.bytesWorld w 5 (strOfNums xs) := ⟨_, rfl⟩
  have HB : Hid (Bytes8 W (some ⟨w.heap.size, 0, none⟩) xs) := Lib.hid (by rw [hW]; exact bytesWorld_bytes w _ xs ho)
  have HK : Hid (Keeps NoBlock w W) := Lib.hid (by rw [hW]; exact bytesWorld_keeps _ _ _ _)
  rw [← hW] at hc
  clear hW
  have HS := Lib.hid (sum_wide 0 (by unfold U64; omega) (some ⟨w.heap.size, 0, none⟩) xs.length C xs rfl hC1 hC2 (fun h => by simp at h) ho (by omega) W HB.out)
  clear ho
  go_enter Try.func28, Try.ntmps28
  go_wp2_with fail
  refine HS.out.mono ?_
  rintro e w2 ⟨rfl, hk⟩
  have HK2 := Lib.hid (HK.out.trans hk)
  clear hk
  go_wp2_with fail
  go_ret
  exact ⟨rfl, HK2.out⟩
theorem hash_ok : HashOk := ⟨fun xs w ho hl => hash_own xs w ho hl⟩
end Go.Proofs.Ytbchiccgkhnkaaa

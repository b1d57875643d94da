/-
  Neighbours that are the same, once, of a sorted row: the document's sorted row; slices.Compact of entries.
-/
import Derived.Test.YtbchiccgkhnkaaaTabRow
import Derived.Test.YtbchiccgkhnkaaaTabRis
import Derived.Lib.SlicesCompact
import Derived.Lib.SliceRun
import Derived.Sort.Statements
namespace Go.Proofs.Ytbchiccgkhnkaaa
open Go.RowKit Go.Lib

instance : Inhabited En := ⟨En.none⟩

theorem lessE_le {a b : En} (h : ¬ LessE b a) : a = b ∨ LessE a b := by
  by_cases e : a = b
  · exact .inl e
  · exact .inr ((LessE.total e).resolve_right h)
theorem compact_rises (d : Array En) (hs : ∀ i j, i ≤ j → j < d.size → ¬ LessE d[j]! d[i]!) : ∀ m, m ≤ d.size → (compactUpTo d m).Pairwise LessE ∧ ∀ x, x ∈ compactUpTo d m ↔ ∃ i, i < m ∧ x = d[i]!
  | 0, _ => by simp [compactUpTo]
  | m + 1, hm => by
    obtain ⟨h1, h2⟩ := compact_rises d hs m (by omega)
    rw [compactUpTo_succ]
    by_cases hk : keeps d m = true
    · rw [if_pos hk]
      refine ⟨List.pairwise_append.2 ⟨h1, List.pairwise_singleton _ _, fun x hx y hy => ?_⟩, fun x => ?_⟩
      · obtain ⟨i, hi, rfl⟩ := (h2 x).1 hx
        obtain rfl : y = d[m]! := by simpa using hy
        have hne : d[m]! ≠ d[m - 1]! := by
          unfold keeps at hk
          rcases of_decide_eq_true hk with h | h
          · omega
          · exact h
        have a1 := lessE_le (hs i (m - 1) (by omega) (by omega))
        have a2 : LessE d[m - 1]! d[m]! := (lessE_le (hs (m - 1) m (by omega) (by omega))).resolve_left (fun e => hne e.symm)
        rcases a1 with e | h
        · rw [e]; exact a2
        · exact h.trans a2
      · rw [List.mem_append, List.mem_singleton, h2]
        constructor
        · rintro (⟨i, hi, rfl⟩ | rfl)
          · exact ⟨i, by omega, rfl⟩
          · exact ⟨m, by omega, rfl⟩
        · rintro ⟨i, hi, rfl⟩
          by_cases e : i = m
          · rw [e]; exact .inr rfl
          · exact .inl ⟨i, by omega, rfl⟩
    · rw [if_neg hk, List.append_nil]
      refine ⟨h1, fun x => ?_⟩
      have he : m ≠ 0 ∧ d[m]! = d[m - 1]! := by
        have h3 : ¬ (m = 0 ∨ d[m]! ≠ d[m - 1]!) := fun h => hk (by unfold keeps; exact decide_eq_true h)
        exact ⟨fun h => h3 (.inl h), Classical.byContradiction fun h => h3 (.inr h)⟩
      rw [h2]
      constructor
      · rintro ⟨i, hi, rfl⟩
        exact ⟨i, by omega, rfl⟩
      · rintro ⟨i, hi, rfl⟩
        by_cases e : i = m
        · rw [e, he.2]
          exact ⟨m - 1, by omega, rfl⟩
        · exact ⟨i, by omega, rfl⟩
theorem mem_arr (d : Array En) (x : En) : x ∈ d.toList ↔ ∃ i, i < d.size ∧ x = d[i]! := by
  rw [List.mem_iff_getElem]
  constructor
  · rintro ⟨i, hi, rfl⟩
    have hi' : i < d.size := by simpa using hi
    exact ⟨i, hi', by simp [getElem!_pos, hi']⟩
  · rintro ⟨i, hi, rfl⟩
    exact ⟨i, by simpa using hi, by simp [getElem!_pos, hi]⟩
theorem compact_sortE (d : Array En) (hs : ∀ i j, i ≤ j → j < d.size → ¬ LessE d[j]! d[i]!) : compactUpTo d d.size = sortE d.toList := by
  obtain ⟨h1, h2⟩ := compact_rises d hs d.size (Nat.le_refl _)
  exact rises_only h1 (sortE_pair _) fun x => by rw [h2, sortE_mem, mem_arr]

theorem setCells_whole {g : Nat} {t : TypeId} : ∀ (vs : List Value) (o : Nat) (w : World) (cur : Array Value), Whole w g t cur → ∃ cur', Whole (w.setCells g o vs) g t cur' ∧ cur'.size = cur.size ∧ ∀ i, i < o → cur'[i]? = cur[i]?
  | [], _, _, cur, h => ⟨cur, h, rfl, fun _ _ => rfl⟩
  | v :: vs, o, w, cur, h => by
    obtain ⟨cur', h1, h2, h3⟩ := setCells_whole vs (o + 1) _ _ (h.set o v)
    exact ⟨cur', h1, by rw [h2]; simp, fun i hi => by rw [h3 i (by omega), Array.getElem?_setIfInBounds_ne (by omega)]⟩
theorem setCells_keeps {S : Nat → Prop} {a : World} {g : Nat} (hg : S g ∨ a.heap.size ≤ g) : ∀ (vs : List Value) (o : Nat) (b : World), Keeps S a b → Keeps S a (b.setCells g o vs)
  | [], _, _, h => h
  | v :: vs, o, _, h => setCells_keeps hg vs (o + 1) _ (h.set hg v)
theorem RowF.setCells {w : World} {g d n : Nat} {f : Nat → En} (h : RowF w g d n f) (m : Nat) (hm : m ≤ n) (vs : List Value) : RowF (w.setCells g (m * 2) vs) g d m f := by
  obtain ⟨cur, hw, h1, h2, h3⟩ := h
  obtain ⟨cur', c1, c2, c3⟩ := setCells_whole vs (m * 2) w cur hw
  exact ⟨cur', c1, by omega, by omega, fun i hi => by rw [c3 _ (by omega), c3 _ (by omega)]; exact h3 i (by omega)⟩

/-- 'clear' of what is left of a row. -/
theorem run_clear_ens {w : World} {g d n : Nat} {f : Nat → En} (h : RowF w g d n f) (k m c : Nat) (hk : k + m = n) (hm : 0 < m) (ty : TypeId) :
    (Builtin.clear_ #[22] ty #[.slice (some ⟨g, k * 2, none⟩) m c]).run Try.prog w = .ok (.tuple #[]) (w.setCells g (k * 2) (Builtin.zeroCells #[.int .u64 0, .int .u32 0] m).toList) := by
  have hlen : (Builtin.zeroCells #[.int .u64 0, .int .u32 0] m).toList.length = m * 2 := by simp [Builtin.zeroCells]
  have hone : ∀ v ∈ (Builtin.zeroCells #[.int .u64 0, .int .u32 0] m).toList, v.oneCell' = true := fun v hv => by
    simp only [Builtin.zeroCells, Array.mem_toList_iff, Array.mem_map] at hv
    obtain ⟨j, _, rfl⟩ := hv
    have : j % 2 = 0 ∨ j % 2 = 1 := by omega
    rcases this with e | e
    · show ((#[Value.int .u64 0, Value.int .u32 0] : Array Value)[j % 2]!).oneCell' = true
      rw [e]; rfl
    · show ((#[Value.int .u64 0, Value.int .u32 0] : Array Value)[j % 2]!).oneCell' = true
      rw [e]; rfl
  have hst := run_storeCells_cells (P := Try.prog) g (k * 2) (Builtin.zeroCells #[.int .u64 0, .int .u32 0] m).toList 0 w (fun j hj => by
      rw [hlen] at hj
      have hc := h.cell (i := k + j / 2) (by omega)
      by_cases e : j % 2 = 0
      · rw [show k * 2 + 0 + j = (k + j / 2) * 2 by omega, hc.1]; rfl
      · rw [show k * 2 + 0 + j = (k + j / 2) * 2 + 1 by omega, hc.2]; rfl) (fun j _ => h.free _) hone
  simp only [Nat.add_zero] at hst
  obtain ⟨m', rfl⟩ : ∃ m', m = m' + 1 := ⟨m - 1, by omega⟩
  have hz := Try.zeroValue29
  have hu := run_underlying Try.underlying22
  simp [Builtin.clear_, hu, hz]
  rw [show (Value.agg #[Value.int .u64 0, Value.int .u32 0]).cells = #[.int .u64 0, .int .u32 0] from rfl, hst]
  rfl
end Go.Proofs.Ytbchiccgkhnkaaa

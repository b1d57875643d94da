/-
  Arguments, opened: pairs, and rows of them.
-/
import Derived.Test.YtdkpkpmgiglnhaaElRow
import Derived.Test.YtdkpkpmgiglnhaaOpenS
import Derived.Lib.SmallJoins
import Derived.Deep.Slices
namespace Go.Proofs.Ytdkpkpmgiglnhaa
open Go.Joins Go.ChangeShapes Go.WideShapes Go.ChangeAt Go.RowKit Go.Deep

/-- What is known of a pair of an argument. -/
structure Pr.Arg (r : Pr) : Prop where
  fine : r.Fine
  key : r.key.length ≤ 9223372036854775807
  val : r.val.length ≤ 9223372036854775807

theorem pr_of_two {H : Type} {enc : TypeId × Value → H} {W : World} {sp : Nat → Bool} {v0 v1 : Value} {y0 y1 : DataW H × List MemPlace} {n0 n1 : Nat}
    (t0 : DataW.trod enc Try.prog W 0 sp true n0 9 [v0] = some y0) (t1 : DataW.trod enc Try.prog W 0 sp true n1 9 [v1] = some y1) :
    ∃ r : Pr, v0 = .string (strOfNums r.key) ∧ v1 = .string (strOfNums r.val) ∧ r.Arg := by
  obtain ⟨s, e0, _, hs⟩ := DataW.trod_string Try.underlying9 t0
  obtain ⟨u, e1, _, hu⟩ := DataW.trod_string Try.underlying9 t1
  obtain ⟨xs, rfl, ox, lx⟩ := nums_of_str s
  obtain ⟨ys, rfl, oy, ly⟩ := nums_of_str u
  unfold maxLen at hs hu
  exact ⟨⟨xs, ys⟩, by simpa using e0, by simpa using e1, ⟨⟨ox, oy⟩, by simp only; omega, by simp only; omega⟩⟩

set_option maxRecDepth 100000 in
theorem open_pair {H : Type} {enc : TypeId × Value → H} {W : World} {base : Nat} {v : Value} {d : DataW H} {ps : List MemPlace} (hv : Value.okWide Try.prog W .any base 30 v) (h : DataW.Trod enc Try.prog W 0 (fun _ => true) true 30 v d ps) :
    ∃ r : Pr, v = prV r ∧ r.Arg := by
  obtain ⟨v0, v1, y0, y1, n, rfl, _, _, t0, t1⟩ := open_agg2 Try.underlying30 (by kernel_rfl) (by kernel_rfl) hv h
  obtain ⟨r, rfl, rfl, hr⟩ := pr_of_two t0 t1
  exact ⟨r, rfl, hr⟩

set_option maxRecDepth 100000 in
theorem open_pairs {H : Type} {enc : TypeId × Value → H} {W : World} {base : Nat} {v : Value} {d : DataW H} {ps : List MemPlace} (hv : Value.okWide Try.prog W .any base 22 v) (h : DataW.Trod enc Try.prog W 0 (fun _ => true) true 22 v d ps) :
    ∃ (p : Option Addr) (n c : Nat) (l : List Pr), v = .slice p n c ∧ n = l.length ∧ n ≤ c ∧ c ≤ 9223372036854775807 ∧ PrsAt W p l ∧ (∀ r ∈ l, r.Arg) := by
  obtain ⟨a0, len, cap, rfl⟩ := okWide_slice Try.underlying22 hv
  obtain ⟨fuel, hf⟩ := h
  rcases Go.Deep.open_slice Try.underlying22 hf with ⟨hcs, _⟩ | ⟨a, len', cap', m, n, D, Pl, hcs, _, hl, hm, hmm, _, hi⟩
  · simp [Value.cells] at hcs
    obtain ⟨rfl, rfl, rfl⟩ := hcs
    exact ⟨none, 0, 0, [], rfl, rfl, Nat.le_refl _, by omega, fun i hi => by simp at hi, fun b hb => by simp at hb⟩
  · simp [Value.cells] at hcs
    obtain ⟨rfl, rfl, rfl⟩ := hcs
    simp only [if_true] at hmm
    have hall : ∀ i, i < len → ∃ r : Pr, (W.cell? (a.add (i * 2)) = some (.string (strOfNums r.key)) ∧ W.cell? ⟨(a.add (i * 2)).block, (a.add (i * 2)).off + 1, none⟩ = some (.string (strOfNums r.val))) ∧ r.Arg := by
      intro i hlt
      obtain ⟨cs, hc, ht⟩ := hi i (by omega)
      obtain ⟨ys, n', _, _, hlen, hyl, hfs⟩ := DataW.trod_struct Try.underlying30 ht
      have hyl2 : ys.length = 2 := hyl
      have h2 : Try.prog.cellsOf 30 = 2 := by kernel_rfl
      rw [h2] at hc hlen
      have hs : Try.prog.cellsOf 9 = 1 := by kernel_rfl
      obtain ⟨_, _, hat⟩ := World.cells?_some hc
      match cs, hlen with
      | [v0, v1], _ =>
        have t0 := hfs 0 _ rfl
        have t1 := hfs 1 _ rfl
        simp only [List.getElem_toArray, List.getElem_cons_zero, List.getElem_cons_succ] at t0 t1
        simp only [hs, List.drop_zero, List.drop_succ_cons, List.take_succ_cons, List.take_zero] at t0 t1
        obtain ⟨y0, hy0⟩ : ∃ y, ys[0]? = some y := ⟨_, List.getElem?_eq_getElem (by omega)⟩
        obtain ⟨y1, hy1⟩ : ∃ y, ys[1]? = some y := ⟨_, List.getElem?_eq_getElem (by omega)⟩
        rw [hy0] at t0; rw [hy1] at t1
        obtain ⟨r, rfl, rfl, hr⟩ := pr_of_two t0 t1
        have k0 : W.cell? (a.add (i * 2)) = some (.string (strOfNums r.key)) := hat 0 (by omega)
        have k1 := hat 1 (by omega)
        rw [plusPlain 1 k0] at k1
        exact ⟨r, ⟨k0, k1⟩, hr⟩
    haveI : Inhabited Pr := ⟨Pr.none⟩
    obtain ⟨f, hf⟩ := Go.Deep.choose_lt (α := Pr) hall
    refine ⟨some a, len, cap, (List.range len).map f, rfl, by simp, hl, by unfold maxLen at hm; omega, fun i hi => ⟨a, rfl, ?_⟩, fun z hz => ?_⟩
    · have hi' : i < len := by simpa using hi
      have := (hf i hi').1
      simpa [hi'] using this
    · obtain ⟨i, hi, rfl⟩ := List.mem_map.1 hz
      exact (hf i (by simpa using hi)).2
end Go.Proofs.Ytdkpkpmgiglnhaa

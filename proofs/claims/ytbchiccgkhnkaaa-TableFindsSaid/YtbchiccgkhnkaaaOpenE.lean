/-
  Arguments, opened: entries, and rows of them.
-/
import Derived.Test.YtbchiccgkhnkaaaTabLaws
import Derived.Test.YtbchiccgkhnkaaaOpen
import Derived.Test.YtbchiccgkhnkaaaOpenS
import Derived.Lib.SmallJoins
import Derived.Deep.Slices
namespace Go.Proofs.Ytbchiccgkhnkaaa
open Go.Joins Go.ChangeShapes Go.WideShapes Go.ChangeAt Go.RowKit Go.Deep

theorem num_u64E {n : Int} (h : (Lit.int .u64 n).wf = true) : ∃ x : Nat, n = (x : Int) ∧ x < 18446744073709551616 := by
  have : 0 ≤ n ∧ n ≤ 18446744073709551615 := by simpa [Lit.wf, IntKind.min, IntKind.max, IntKind.signed, IntKind.bits] using h
  exact ⟨n.toNat, by omega, by omega⟩
theorem en_of_two {H : Type} {enc : TypeId × Value → H} {W : World} {sp : Nat → Bool} {v0 v1 : Value} {y0 y1 : DataW H × List MemPlace} {n0 n1 : Nat}
    (t0 : DataW.trod enc Try.prog W 0 sp true n0 26 [v0] = some y0) (t1 : DataW.trod enc Try.prog W 0 sp true n1 27 [v1] = some y1) :
    ∃ r : En, v0 = .int .u64 (r.hash : Int) ∧ v1 = .int .u32 (r.at_ : Int) ∧ r.Fine := by
  obtain ⟨a, e0, _, w0⟩ := DataW.trod_int Try.underlying26 t0
  obtain ⟨b, e1, _, w1⟩ := DataW.trod_int Try.underlying27 t1
  obtain ⟨x, rfl, hx⟩ := num_u64E w0
  have hb : 0 ≤ b ∧ b ≤ 4294967295 := by simpa [Lit.wf, IntKind.min, IntKind.max, IntKind.signed, IntKind.bits] using w1
  obtain ⟨y, rfl⟩ : ∃ y : Nat, b = (y : Int) := ⟨b.toNat, by omega⟩
  exact ⟨⟨x, y⟩, by simpa using e0, by simpa using e1, ⟨hx, by simp only; omega⟩⟩

set_option maxRecDepth 100000 in
theorem open_strE {H : Type} {enc : TypeId × Value → H} {W : World} {base : Nat} {v : Value} {d : DataW H} {ps : List MemPlace} (hv : Value.okWide Try.prog W .any base 9 v) (h : DataW.Trod enc Try.prog W 0 (fun _ => true) true 9 v d ps) :
    ∃ xs : List Int, v = .string (strOfNums xs) ∧ Octets xs ∧ xs.length ≤ 9223372036854775807 := by
  obtain ⟨fuel, hf⟩ := h
  obtain ⟨s, e0, _, hs⟩ := DataW.trod_string Try.underlying9 hf
  obtain ⟨xs, rfl, ox, lx⟩ := nums_of_str s
  unfold maxLen at hs
  obtain ⟨s', rfl⟩ := okWide_string Try.underlying9 hv
  refine ⟨xs, ?_, ox, by omega⟩
  simpa [Value.cells] using e0

set_option maxRecDepth 100000 in
theorem open_en {H : Type} {enc : TypeId × Value → H} {W : World} {base : Nat} {v : Value} {d : DataW H} {ps : List MemPlace} (hv : Value.okWide Try.prog W .any base 29 v) (h : DataW.Trod enc Try.prog W 0 (fun _ => true) true 29 v d ps) :
    ∃ r : En, v = enV r ∧ r.Fine := by
  obtain ⟨v0, v1, y0, y1, n, rfl, _, _, t0, t1⟩ := open_agg2 Try.underlying29 (by kernel_rfl) (by kernel_rfl) hv h
  obtain ⟨r, rfl, rfl, hr⟩ := en_of_two t0 t1
  exact ⟨r, rfl, hr⟩

set_option maxRecDepth 100000 in
theorem ens_of_trod {H : Type} {enc : TypeId × Value → H} {W : World} {a0 : Option Addr} {len cap : Nat} {d : DataW H} {ps : List MemPlace} (h : DataW.Trod enc Try.prog W 0 (fun _ => true) true 22 (.slice a0 len cap) d ps) :
    ∃ (p : Option Addr) (n c : Nat) (l : List En), Value.slice a0 len cap = .slice p n c ∧ InE W p n c l := by
  obtain ⟨fuel, hf⟩ := h
  rcases Go.Deep.open_slice Try.underlying22 hf with ⟨hcs, _⟩ | ⟨a, len', cap', m, n, D, Pl, hcs, _, hl, hm, hmm, _, hi⟩
  · simp [Value.cells] at hcs
    obtain ⟨rfl, rfl, rfl⟩ := hcs
    exact ⟨none, 0, 0, [], rfl, rfl, Nat.le_refl _, by omega, fun _ => ⟨rfl, rfl⟩, fun b hb => by simp at hb, fun i hi => by simp at hi⟩
  · simp [Value.cells] at hcs
    obtain ⟨rfl, rfl, rfl⟩ := hcs
    simp only [if_true] at hmm
    have hall : ∀ i, i < len → ∃ r : En, (W.cell? (a.add (i * 2)) = some (.int .u64 (r.hash : Int)) ∧ W.cell? ⟨(a.add (i * 2)).block, (a.add (i * 2)).off + 1, none⟩ = some (.int .u32 (r.at_ : Int))) ∧ r.Fine := by
      intro i hlt
      obtain ⟨cs, hc, ht⟩ := hi i (by omega)
      obtain ⟨ys, n', _, _, hlen, hyl, hfs⟩ := DataW.trod_struct Try.underlying29 ht
      have hyl2 : ys.length = 2 := hyl
      have h2 : Try.prog.cellsOf 29 = 2 := by kernel_rfl
      rw [h2] at hc hlen
      have hs : Try.prog.cellsOf 26 = 1 := by kernel_rfl
      have hs2 : Try.prog.cellsOf 27 = 1 := by kernel_rfl
      obtain ⟨_, _, hat⟩ := World.cells?_some hc
      match cs, hlen with
      | [v0, v1], _ =>
        have t0 := hfs 0 _ rfl
        have t1 := hfs 1 _ rfl
        simp only [List.getElem_toArray, List.getElem_cons_zero, List.getElem_cons_succ] at t0 t1
        simp only [hs, hs2, List.drop_zero, List.drop_succ_cons, List.take_succ_cons, List.take_zero] at t0 t1
        obtain ⟨y0, hy0⟩ : ∃ y, ys[0]? = some y := ⟨_, List.getElem?_eq_getElem (by omega)⟩
        obtain ⟨y1, hy1⟩ : ∃ y, ys[1]? = some y := ⟨_, List.getElem?_eq_getElem (by omega)⟩
        rw [hy0] at t0; rw [hy1] at t1
        obtain ⟨r, rfl, rfl, hr⟩ := en_of_two t0 t1
        have k0 : W.cell? (a.add (i * 2)) = some (.int .u64 (r.hash : Int)) := hat 0 (by omega)
        have k1 := hat 1 (by omega)
        rw [plusPlain 1 k0] at k1
        exact ⟨r, ⟨k0, k1⟩, hr⟩
    haveI : Inhabited En := ⟨En.none⟩
    obtain ⟨f, hf⟩ := Go.Deep.choose_lt (α := En) hall
    refine ⟨some a, len, cap, (List.range len).map f, rfl, by simp, hl, by unfold maxLen at hm; omega, fun h => by simp at h, fun z hz => ?_, fun i hi => ⟨a, rfl, ?_⟩⟩
    · obtain ⟨i, hi, rfl⟩ := List.mem_map.1 hz
      exact (hf i (by simpa using hi)).2
    · have hi' : i < len := by simpa using hi
      have := (hf i hi').1
      simpa [hi', enH, enA] using this

set_option maxRecDepth 100000 in
theorem open_ens {H : Type} {enc : TypeId × Value → H} {W : World} {base : Nat} {v : Value} {d : DataW H} {ps : List MemPlace} (hv : Value.okWide Try.prog W .any base 22 v) (h : DataW.Trod enc Try.prog W 0 (fun _ => true) true 22 v d ps) :
    ∃ (p : Option Addr) (n c : Nat) (l : List En), v = .slice p n c ∧ InE W p n c l := by
  obtain ⟨a0, len, cap, rfl⟩ := okWide_slice Try.underlying22 hv
  exact ens_of_trod h
end Go.Proofs.Ytbchiccgkhnkaaa

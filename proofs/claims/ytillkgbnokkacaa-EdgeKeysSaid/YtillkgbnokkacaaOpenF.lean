/-
  Arguments, opened: doubles, and rows of them.
-/
import Derived.Test.YtillkgbnokkacaaOpen
import Derived.Test.YtillkgbnokkacaaEdgeLaws
import Derived.Laws.Cover2
namespace Go.Proofs.Ytillkgbnokkacaa
open Go.ChangeShapes Go.WideShapes Go.ChangeAt Go.RowKit

theorem word_wf {b : Nat} (h : (Lit.float .f64 b).wf = true) : Word64 b := by
  simp only [Lit.wf, decide_eq_true_eq] at h
  exact h
theorem word_u64 {n : Int} (h : (Lit.int .u64 n).wf = true) : ∃ x : Nat, n = (x : Int) ∧ Word64 x := by
  have : 0 ≤ n ∧ n ≤ 18446744073709551615 := by simpa [Lit.wf, IntKind.min, IntKind.max, IntKind.signed, IntKind.bits] using h
  exact ⟨n.toNat, by omega, by unfold Word64; omega⟩

set_option maxRecDepth 100000 in
theorem trod_double {H : Type} {enc : TypeId × Value → H} {W : World} {fuel : Nat} {t : TypeId} {v : Value} {x : DataW H × List MemPlace} (ht : Try.prog.underlying t = some (.float .f64)) (h : DataW.trod enc Try.prog W 0 (fun _ => true) true fuel t [v] = some x) :
    ∃ b, v = .float .f64 b ∧ (Lit.float .f64 b).wf = true := by
  cases fuel with
  | zero => simp [DataW.trod] at h
  | succ n =>
    cases v <;> simp only [DataW.trod, ht] at h <;> try (cases h; done)
    rename_i k b
    by_cases hw : FloatKind.f64 = k ∧ (Lit.float k b).wf = true
    · obtain ⟨rfl, hw⟩ := hw
      exact ⟨b, rfl, hw⟩
    · exfalso
      revert h
      split
      · rename_i h1
        intro _
        obtain ⟨rfl, h2⟩ := h1
        exact hw ⟨rfl, h2⟩
      · intro h
        cases h

set_option maxRecDepth 100000 in
theorem open_floats {H : Type} {enc : TypeId × Value → H} {W : World} {base : Nat} {v : Value} {d : DataW H} {ps : List MemPlace} (hv : Value.okWide Try.prog W .any base 32 v) (h : DataW.Trod enc Try.prog W 0 (fun _ => true) true 32 v d ps) :
    ∃ (p : Option Addr) (n c : Nat) (l : List Nat), v = .slice p n c ∧ n = l.length ∧ n ≤ c ∧ c ≤ 9223372036854775807 ∧ RowF W p l ∧ (∀ z ∈ l, Word64 z) := by
  obtain ⟨a0, len, cap, rfl⟩ := okWide_slice Try.underlying32 hv
  obtain ⟨fuel, hf⟩ := h
  rcases Go.Deep.open_slice1 Try.underlying32 (by kernel_rfl) hf with ⟨hcs, _⟩ | ⟨a, len', cap', m, n, V, D, Pl, hcs, _, hl, hm, hmm, _, hi⟩
  · simp [Value.cells] at hcs
    obtain ⟨rfl, rfl, rfl⟩ := hcs
    exact ⟨none, 0, 0, [], rfl, rfl, Nat.le_refl _, by omega, fun i hi => by simp at hi, fun b hb => by simp at hb⟩
  · simp [Value.cells] at hcs
    obtain ⟨rfl, rfl, rfl⟩ := hcs
    simp only [if_true] at hmm
    have hall : ∀ i, i < len → ∃ b : Nat, W.cell? (a.add i) = some (.float .f64 b) ∧ Word64 b := by
      intro i hlt
      obtain ⟨hc, ht⟩ := hi i (by omega)
      obtain ⟨b, hb, hw⟩ := trod_double Try.underlying22 ht
      exact ⟨b, by rw [hc, hb], word_wf hw⟩
    obtain ⟨f, hf⟩ := Go.Deep.choose_lt (α := Nat) (p := fun i b => W.cell? (a.add i) = some (.float .f64 b) ∧ Word64 b) hall
    refine ⟨some a, len, cap, (List.range len).map f, rfl, by simp, hl, by unfold maxLen at hm; omega, fun i hi => ⟨a, rfl, ?_⟩, fun z hz => ?_⟩
    · have hi' : i < len := by simpa using hi
      rw [(hf i hi').1]
      simp [hi']
    · obtain ⟨i, hi, rfl⟩ := List.mem_map.1 hz
      exact (hf i (by simpa using hi)).2

theorem trodAll_seven {H : Type} {enc : TypeId × Value → H} {w : World} {t0 t1 t2 t3 t4 t5 t6 : TypeId} {args : Array Value} {ds : List (DataW H)} {ps : List MemPlace} (h : DataW.TrodAll enc Try.prog w 0 (fun _ => true) true [t0, t1, t2, t3, t4, t5, t6] args.toList ds ps) :
    ∃ v0 v1 v2 v3 v4 v5 v6 d0 d1 d2 d3 d4 d5 d6 p0 p1 p2 p3 p4 p5 p6, args = #[v0, v1, v2, v3, v4, v5, v6] ∧ ds = [d0, d1, d2, d3, d4, d5, d6] ∧ ps = p0 ++ p1 ++ p2 ++ p3 ++ p4 ++ p5 ++ p6 ∧ DataW.Trod enc Try.prog w 0 (fun _ => true) true t0 v0 d0 p0 ∧ DataW.Trod enc Try.prog w 0 (fun _ => true) true t1 v1 d1 p1 ∧ DataW.Trod enc Try.prog w 0 (fun _ => true) true t2 v2 d2 p2 ∧ DataW.Trod enc Try.prog w 0 (fun _ => true) true t3 v3 d3 p3 ∧ DataW.Trod enc Try.prog w 0 (fun _ => true) true t4 v4 d4 p4 ∧ DataW.Trod enc Try.prog w 0 (fun _ => true) true t5 v5 d5 p5 ∧ DataW.Trod enc Try.prog w 0 (fun _ => true) true t6 v6 d6 p6 := by
  obtain ⟨v0, vs0, d0, ds0, p0, q0, hargs, rfl, rfl, h0, r0⟩ := trodAll_cons h
  obtain ⟨v1, vs1, d1, ds1, p1, q1, rfl, rfl, rfl, h1, r1⟩ := trodAll_cons r0
  obtain ⟨v2, vs2, d2, ds2, p2, q2, rfl, rfl, rfl, h2, r2⟩ := trodAll_cons r1
  obtain ⟨v3, vs3, d3, ds3, p3, q3, rfl, rfl, rfl, h3, r3⟩ := trodAll_cons r2
  obtain ⟨v4, vs4, d4, ds4, p4, q4, rfl, rfl, rfl, h4, r4⟩ := trodAll_cons r3
  obtain ⟨v5, vs5, d5, ds5, p5, q5, rfl, rfl, rfl, h5, r5⟩ := trodAll_cons r4
  obtain ⟨v6, vs6, d6, ds6, p6, q6, rfl, rfl, rfl, h6, r6⟩ := trodAll_cons r5
  obtain ⟨rfl, rfl, rfl⟩ := trodAll_nil r6
  exact ⟨v0, v1, v2, v3, v4, v5, v6, d0, d1, d2, d3, d4, d5, d6, p0, p1, p2, p3, p4, p5, p6, by cases args; simp_all, rfl, by simp, h0, h1, h2, h3, h4, h5, h6⟩
end Go.Proofs.Ytillkgbnokkacaa

/-
  An argument, opened: a slice of slices of bytes.
-/
import Derived.Test.YtpajljjhmmjeeaaOpen
import Derived.Test.YtpajljjhmmjeeaaWPartsWalk
namespace Go.Proofs.Ytpajljjhmmjeeaa
open Go.ChangeShapes Go.WideShapes Go.ChangeAt Go.RowKit

theorem open_parts {H : Type} {enc : TypeId × Value → H} {W : World} {base : Nat} {v : Value} {d : DataW H} {ps : List MemPlace} (hv : Value.okWide Try.prog W .any base 28 v) (h : DataW.Trod enc Try.prog W 0 (fun _ => true) true 28 v d ps) :
    ∃ (q : Option Addr) (n c : Nat) (f : Nat → List Int), v = .slice q n c ∧ RowB W q n f := by
  obtain ⟨a0, len, cap, rfl⟩ := okWide_slice Try.underlying28 hv
  obtain ⟨fuel, hf⟩ := h
  rcases Go.Deep.open_slice1 Try.underlying28 (by kernel_rfl) hf with ⟨hcs, _⟩ | ⟨a, len', cap', m, n, V, D, Pl, hcs, _, hl, hm, hmm, _, hi⟩
  · simp [Value.cells] at hcs
    obtain ⟨rfl, rfl, rfl⟩ := hcs
    exact ⟨none, 0, 0, fun _ => [], rfl, fun i h => by omega⟩
  · simp [Value.cells] at hcs
    obtain ⟨rfl, rfl, rfl⟩ := hcs
    simp only [if_true] at hmm
    have hall : ∀ i, i < len → ∃ xs : List Int, ∃ (p : Option Addr) (N c : Nat), W.cell? (a.add i) = some (.slice p N c) ∧ N = xs.length ∧ N ≤ c ∧ c ≤ 9223372036854775807 ∧ Bytes8 W p xs ∧ Octets xs ∧ (p = none → N = 0 ∧ c = 0) := by
      intro i hlt
      obtain ⟨hc, ht⟩ := hi i (by omega)
      rcases open_ints Try.underlying23 Try.underlying5 (by kernel_rfl) ht with ⟨hcs, hx⟩ | ⟨b, len', cap', zs, hcs, _, hl, hm, hz, hx, hcell, hwz⟩
      · simp only [List.cons.injEq, and_true] at hcs
        exact ⟨[], none, 0, 0, by rw [hc, hcs], rfl, Nat.le_refl _, by omega, Bytes8.nil _ _, fun b hb => by simp at hb, fun _ => ⟨rfl, rfl⟩⟩
      · simp only [List.cons.injEq, and_true] at hcs
        simp only [if_true] at hz
        have hxl : (zs.take len').length = len' := by simp; omega
        have hb8 : Bytes8 W (some b) (zs.take len') := fun _ => ⟨b, rfl, fun i hi => by
          rw [hxl] at hi
          rw [hcell i (by omega)]
          simp [hi]⟩
        exact ⟨zs.take len', some b, len', cap', by rw [hc, hcs], hxl.symm, hl, by unfold maxLen at hm; omega, hb8, fun b hb => octet_wf (hwz b (List.mem_of_mem_take hb)), fun h => by simp at h⟩
    obtain ⟨f, hf⟩ := Go.Deep.choose_lt (α := List Int) (p := fun i xs => ∃ (p : Option Addr) (N c : Nat), W.cell? (a.add i) = some (.slice p N c) ∧ N = xs.length ∧ N ≤ c ∧ c ≤ 9223372036854775807 ∧ Bytes8 W p xs ∧ Octets xs ∧ (p = none → N = 0 ∧ c = 0)) hall
    refine ⟨some a, len, cap, f, rfl, fun i hlt => ?_⟩
    obtain ⟨p, N, c, h1⟩ := hf i hlt
    exact ⟨a, p, N, c, rfl, h1⟩

set_option maxRecDepth 10000 in
theorem parts_walk (s : Int) (hs : U64 s) (q : Option Addr) (n c : Nat) (f : Nat → List Int) (w : World) (hr : RowB w q n f) :
    Calls Try.prog 4 #[.int .u64 s, .slice q n c] w fun e w' => e = .returned (.bool true) ∧ Keeps NoBlock w w' := by
  by_cases hg : n ≤ 16
  · exact parts_small s hs q n c f w hr hg
  · have hgn : decide ((16 : Int) < (n : Int)) = true := decide_eq_true (by omega)
    clear hs hr
    go_enter Try.func4, Try.ntmps4
    go_wp2_with fail
    refine (lives4_true _).mono ?_
    rintro e w1 ⟨rfl, hk⟩
    have HK := Lib.hid hk
    clear hk
    go_wp2_with fail
    refine (lives4_true _).mono ?_
    rintro e w2 ⟨rfl, hk2⟩
    have HK2 := Lib.hid (HK.out.trans hk2)
    clear hk2
    go_wp2_with fail
    go_ret
    exact ⟨rfl, HK2.out⟩
end Go.Proofs.Ytpajljjhmmjeeaa

/-
  The law CursorBack returns true for every list of numbers and every slice of bytes, and its arguments read afterwards as they did: no condition.
-/
import Derived.Test.YthgjipgkbinjkaaLawBack2
import Derived.Test.YthgjipgkbinjkaaOpen
namespace Go.Proofs.Ythgjipgkbinjkaa.cursorBack
open Go.ChangeShapes Go.WideShapes Go.ChangeAt Go.RowKit

theorem walk (lp pr : Option Addr) (n lc N c : Nat) (zs ys : List Int) (w : World) (hn : n = zs.length) (hN : N = ys.length) (hw : Words w lp zs) (hy : Bytes8 w pr ys) (hz : ∀ z ∈ zs, 0 ≤ z ∧ z < 18446744073709551616) (ho : Octets ys)
    (h0 : pr = none → N = 0 ∧ c = 0) :
    Calls Try.prog 5 #[.slice lp n lc, .slice pr N c] w fun e w' => e = .returned (.bool true) ∧ Keeps NoBlock w w' := by
  by_cases hg : n ≤ 40 ∧ N ≤ 500
  · exact back_small lp pr n lc N c zs ys w hn hN hw hy hz ho h0 hg.1 hg.2
  · clear hn hN hw hy hz ho h0
    go_enter Try.func5, Try.ntmps5
    go_wp2_with fail
    refine (lives_true _).mono ?_
    rintro e w1 ⟨rfl, hk⟩
    have d1 := (((Whole.new w 38 #[.slice lp n lc]).alloc _).keep hk (fun h => h)).cell 0 rfl
    have d3 := ((Whole.newAt (w.alloc (.cells #[.slice lp n lc] 38)) 22 #[.slice pr N c] (w.heap.size + 1) (by simp)).keep hk (fun h => h)).cell 0 rfl
    simp only [List.getElem_toArray, List.getElem_cons_zero] at d1 d3
    have HK := Lib.hid ((((Keeps.refl _ w).alloc _).alloc _).trans hk)
    clear hk
    go_wp2_with fail
    all_goals
      refine (lives_true _).mono ?_
      rintro e w2 ⟨rfl, hk2⟩
      have HK2 := Lib.hid (HK.out.trans hk2)
      clear hk2
      go_wp2_with fail
      go_ret
      exact ⟨rfl, HK2.out⟩

theorem spec : LawSpec Rows.cursorBackSpec 2 := ⟨rfl, fun H ds h => by
  match ds, h with
  | [d1, d2], _ => exact ⟨rfl, rfl, rfl⟩⟩

theorem word_wf {n : Int} (h : (Lit.int .u64 n).wf = true) : 0 ≤ n ∧ n < 18446744073709551616 := by
  have : 0 ≤ n ∧ n ≤ 18446744073709551615 := by simpa [Lit.wf, IntKind.min, IntKind.max, IntKind.signed, IntKind.bits] using h
  omega

/-- The first argument: a list of numbers. -/
theorem open_words {H : Type} {enc : TypeId × Value → H} {W : World} {base : Nat} {v : Value} {d : DataW H} {ps : List MemPlace} (hv : Value.okWide Try.prog W .any base 38 v) (h : DataW.Trod enc Try.prog W 0 (fun _ => true) true 38 v d ps) :
    ∃ (p : Option Addr) (n c : Nat) (zs : List Int), v = .slice p n c ∧ n = zs.length ∧ Words W p zs ∧ ∀ z ∈ zs, 0 ≤ z ∧ z < 18446744073709551616 := by
  obtain ⟨a0, len, cap, rfl⟩ := okWide_slice Try.underlying38 hv
  obtain ⟨fuel, hf⟩ := h
  rcases open_ints Try.underlying38 Try.underlying33 (by kernel_rfl) hf with ⟨hcs, hx⟩ | ⟨a, len', cap', zs, hcs, _, hl, hm, hz, hx, hcell, hwz⟩
  · simp [Value.cells] at hcs
    obtain ⟨rfl, rfl, rfl⟩ := hcs
    exact ⟨none, 0, 0, [], rfl, rfl, fun i hi => by simp at hi, fun b hb => by simp at hb⟩
  · simp [Value.cells] at hcs
    obtain ⟨rfl, rfl, rfl⟩ := hcs
    simp only [if_true] at hz
    have hxl : (zs.take len).length = len := by simp; omega
    refine ⟨some a, len, cap, zs.take len, rfl, hxl.symm, fun i hi => ⟨a, rfl, ?_⟩, fun b hb => word_wf (hwz b (List.mem_of_mem_take hb))⟩
    rw [hxl] at hi
    rw [hcell i (by omega)]
    simp [hi]

theorem contract (H : Type) (enc : TypeId × Value → H) (W : World) (base : Nat) (args : Array Value) (ds gs : List (DataW H)) (before : List MemPlace)
    (hval : ∀ (j : Nat) t v, Try.f5.params[j]? = some t → args[j]? = some v → Value.okWide Try.prog W .any base t v)
    (hW : DataW.Whole enc Try.prog Try.f5.params.toList Rows.cursorBackSpec.vars false W args.toList ds gs before) :
    Calls Try.prog 5 args W fun e W' => ∃ v, e = .returned v ∧ Rows.cursorBackSpec.post enc Try.prog Try.f5 false true false false W args v W' := by
  have hW' := hW
  obtain ⟨p, q, hA0, hV, rfl, _, _⟩ := hW
  have hA : DataW.TrodAll enc Try.prog W 0 (fun _ => true) true Try.f5.params.toList args.toList ds p := hA0
  rw [Try.params5] at hA hval
  obtain ⟨v0, v1, d0, d1, p0, p1, rfl, rfl, rfl, h0, h1⟩ := trodAll_two hA
  obtain ⟨lp, n, lc, zs, rfl, hn, hw, hz⟩ := open_words (hval 0 _ v0 rfl rfl) h0
  obtain ⟨pr, N, c, ys, rfl, hN, _, _, hy, ho, _, hnone⟩ := open_octets (hval 1 _ v1 rfl rfl) h1
  refine (walk lp pr n lc N c zs ys W hn hN hw hy hz ho hnone).mono fun e W' ⟨he, hk⟩ => ?_
  subst he
  exact ⟨_, rfl, law_post (f := Try.f5) spec rfl (by kernel_rfl) hW' (hk.below (Nat.le_refl _) (fun _ _ h => h))⟩

set_option maxRecDepth 100000 in
theorem lifted (os : Os) (started : os.Started) (H : Type) (enc : TypeId × Value → H) :
    ReturnsInHanded {} Try.checked os 5 .any (Rows.cursorBackSpec.pre6 enc Try.prog Try.f5 Rows.cursorBackRow.domain false) (Rows.cursorBackSpec.post enc Try.prog Try.f5 false true false false) := by
  refine returnsInHanded_of_change (C := Try.checked) own started (by kernel_rfl) Try.func5
    (ChangeSpec.witness6 (enc := enc) (C := Try.checked) false ⟨#[], #[.slice none 0 0, .slice none 0 0], []⟩ 8 (by kernel_rfl) (by kernel_rfl) (by kernel_rfl) (by kernel_rfl)) ?_
  intro W base args ds gs before hval hW _ _
  exact contract H enc W base args ds gs before hval hW

theorem holds : Rows.CursorBackSaid :=
  OpenClaim.holds_of_wide 5 Try.f5 rfl rfl rfl rfl rfl rfl rfl ⟨rfl, rfl, rfl, rfl, rfl⟩ rfl rfl rfl rfl rfl (by kernel_rfl) Try.func5 (by kernel_rfl)
    (of_decide_eq_true (by kernel_rfl)) (by unfold Func.isWrapper; first | (rw [if_pos (by decide +kernel)]; kernel_rfl) | (rw [if_neg (by decide +kernel)]; exact ⟨rfl, rfl⟩))
    (fun os started H enc _ => lifted os started H enc)

#print axioms holds
end Go.Proofs.Ythgjipgkbinjkaa.cursorBack

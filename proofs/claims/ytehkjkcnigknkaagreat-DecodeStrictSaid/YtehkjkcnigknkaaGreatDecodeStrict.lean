/-
  The law DecodeStrict returns true for every config's number, row of records, row of edits and cut, and its arguments read afterwards as they did: no condition.
-/
import Derived.Test.YtehkjkcnigknkaaGreatM08
import Derived.Test.YtehkjkcnigknkaaGreatM39
import Derived.Test.YtehkjkcnigknkaaGreatM42
import Derived.Test.YtehkjkcnigknkaaGreatM43
import Derived.Test.YtehkjkcnigknkaaGreatM44
import Derived.Test.YtehkjkcnigknkaaGreatM45
namespace Go.Proofs.YtehkjkcnigknkaaGreat.decodeStrict
open Go.ChangeShapes Go.WideShapes Go.ChangeAt Go.RowKit

theorem spec : LawSpec Rows.decodeStrictSpec 4 := ⟨rfl, fun H ds h => by
  match ds, h with
  | [d1, d2, d3, d4], _ => exact ⟨rfl, rfl, rfl⟩⟩

set_option maxRecDepth 100000 in
theorem contract (H : Type) (enc : TypeId × Value → H) (W : World) (base : Nat) (args : Array Value) (ds gs : List (DataW H)) (before : List MemPlace)
    (hval : ∀ (j : Nat) t v, Tryz.f4.params[j]? = some t → args[j]? = some v → Value.okWide Tryz.prog W .any base t v)
    (hW : DataW.Whole enc Tryz.prog Tryz.f4.params.toList Rows.decodeStrictSpec.vars false W args.toList ds gs before) :
    Calls Tryz.prog 4 args W fun e W' => ∃ v, e = .returned v ∧ Rows.decodeStrictSpec.post enc Tryz.prog Tryz.f4 false true false false W args v W' := by
  have hW' := hW
  obtain ⟨p, q, hA0, hV, rfl, _, _⟩ := hW
  have hA : DataW.TrodAll enc Tryz.prog W 0 (fun _ => true) true Tryz.f4.params.toList args.toList ds p := hA0
  rw [Tryz.params4] at hA hval
  obtain ⟨v0, v1, v2, v3, d0, d1, d2, d3, p0, p1, p2, p3, rfl, rfl, rfl, h0, h1, h2, h3⟩ := trodAll_four hA
  obtain ⟨z0, rfl, rfl, rfl, hz0⟩ := open_int Tryz.underlying5 (hval 0 _ v0 rfl rfl) h0
  obtain ⟨k, rfl, hk⟩ := nat_u8 hz0
  obtain ⟨p, n, c, l, rfl, hn, hc, hc', hl, hr⟩ := open_recs (hval 1 _ v1 rfl rfl) h1
  obtain ⟨p2, n2, c2, el, rfl, hn2, hn2', he, hel⟩ := open_edits (hval 2 _ v2 rfl rfl) h2
  obtain ⟨z3, rfl, rfl, rfl, hz3⟩ := open_int Tryz.underlying3 (hval 3 _ v3 rfl rfl) h3
  refine (destrict_walk sg_build sg_new sg_open im_enc de_dec de_is k p n c l p2 n2 c2 el z3 W hk hn hc hc' (fun r h => (hr r h).fine) (fun r h => ⟨(hr r h).key, (hr r h).val⟩) hl hn2 hn2' he hel (i64_wf hz3)).mono fun e W' ⟨he, hk⟩ => ?_
  subst he
  exact ⟨_, rfl, law_post (f := Tryz.f4) spec rfl (by kernel_rfl) hW' (hk.below (Nat.le_refl _) (fun _ _ h => h))⟩

set_option maxRecDepth 100000 in
theorem lifted (os : Os) (started : os.Started) (H : Type) (enc : TypeId × Value → H) :
    ReturnsInHanded {} Tryz.checked os 4 .any (Rows.decodeStrictSpec.pre6 enc Tryz.prog Tryz.f4 Rows.decodeStrictRow.domain false) (Rows.decodeStrictSpec.post enc Tryz.prog Tryz.f4 false true false false) := by
  refine returnsInHanded_of_change (C := Tryz.checked) own started (by kernel_rfl) Tryz.func4
    (ChangeSpec.witness6 (enc := enc) (C := Tryz.checked) false ⟨#[], #[.int .u8 0, .slice none 0 0, .slice none 0 0, .int .i64 0], []⟩ 8 (by kernel_rfl) (by kernel_rfl) (by kernel_rfl) (by kernel_rfl)) ?_
  intro W base args ds gs before hval hW _ _
  exact contract H enc W base args ds gs before hval hW

theorem holds : Rows.DecodeStrictSaid :=
  OpenClaim.holds_of_wide 4 Tryz.f4 rfl rfl rfl rfl rfl rfl rfl ⟨rfl, rfl, rfl, rfl, rfl⟩ rfl rfl rfl rfl rfl (by kernel_rfl) Tryz.func4 (by kernel_rfl)
    (of_decide_eq_true (by kernel_rfl)) (by unfold Func.isWrapper; first | (rw [if_pos (by decide +kernel)]; kernel_rfl) | (rw [if_neg (by decide +kernel)]; exact ⟨rfl, rfl⟩))
    (fun os started H enc _ => lifted os started H enc)

#print axioms holds
end Go.Proofs.YtehkjkcnigknkaaGreat.decodeStrict

/-
  The law ImageApart returns true for every config's number and two rows of records, and its arguments read afterwards as they did: no condition.
-/
import Derived.Test.YtjeammmfdniokaaGreatM08
import Derived.Test.YtjeammmfdniokaaGreatM38
import Derived.Test.YtjeammmfdniokaaGreatM39
import Derived.Test.YtjeammmfdniokaaGreatM40
namespace Go.Proofs.YtjeammmfdniokaaGreat.imageApart
open Go.ChangeShapes Go.WideShapes Go.ChangeAt Go.RowKit

theorem spec : LawSpec Rows.imageApartSpec 3 := ⟨rfl, fun H ds h => by
  match ds, h with
  | [d1, d2, d3], _ => exact ⟨rfl, rfl, rfl⟩⟩

set_option maxRecDepth 100000 in
theorem contract (H : Type) (enc : TypeId × Value → H) (W : World) (base : Nat) (args : Array Value) (ds gs : List (DataW H)) (before : List MemPlace)
    (hval : ∀ (j : Nat) t v, Tryz.f6.params[j]? = some t → args[j]? = some v → Value.okWide Tryz.prog W .any base t v)
    (hW : DataW.Whole enc Tryz.prog Tryz.f6.params.toList Rows.imageApartSpec.vars false W args.toList ds gs before) :
    Calls Tryz.prog 6 args W fun e W' => ∃ v, e = .returned v ∧ Rows.imageApartSpec.post enc Tryz.prog Tryz.f6 false true false false W args v W' := by
  have hW' := hW
  obtain ⟨p, q, hA0, hV, rfl, _, _⟩ := hW
  have hA : DataW.TrodAll enc Tryz.prog W 0 (fun _ => true) true Tryz.f6.params.toList args.toList ds p := hA0
  rw [Tryz.params6] at hA hval
  obtain ⟨v0, v1, v2, d0, d1, d2, p0, p1, p2, rfl, rfl, rfl, h0, h1, h2⟩ := trodAll_three hA
  obtain ⟨z0, rfl, rfl, rfl, hz0⟩ := open_int Tryz.underlying5 (hval 0 _ v0 rfl rfl) h0
  obtain ⟨k, rfl, hk⟩ := nat_u8 hz0
  obtain ⟨p, n, c, l, rfl, hn, hc, hc', hl, hr⟩ := open_recs (hval 1 _ v1 rfl rfl) h1
  obtain ⟨p', n', c', l', rfl, hn', hcn, hcn', hl', hr'⟩ := open_recs (hval 2 _ v2 rfl rfl) h2
  refine (imapart_walk sg_build sg_new sg_open im_enc im_same k p n c l p' n' c' l' W hk hn hc hc' (fun r h => (hr r h).fine) (fun r h => ⟨(hr r h).key, (hr r h).val⟩) hl hn' hcn hcn' (fun r h => (hr' r h).fine) (fun r h => ⟨(hr' r h).key, (hr' r h).val⟩) hl').mono fun e W' ⟨he, hk⟩ => ?_
  subst he
  exact ⟨_, rfl, law_post (f := Tryz.f6) spec rfl (by kernel_rfl) hW' (hk.below (Nat.le_refl _) (fun _ _ h => h))⟩

set_option maxRecDepth 100000 in
theorem lifted (os : Os) (started : os.Started) (H : Type) (enc : TypeId × Value → H) :
    ReturnsInHanded {} Tryz.checked os 6 .any (Rows.imageApartSpec.pre6 enc Tryz.prog Tryz.f6 Rows.imageApartRow.domain false) (Rows.imageApartSpec.post enc Tryz.prog Tryz.f6 false true false false) := by
  refine returnsInHanded_of_change (C := Tryz.checked) own started (by kernel_rfl) Tryz.func6
    (ChangeSpec.witness6 (enc := enc) (C := Tryz.checked) false ⟨#[], #[.int .u8 0, .slice none 0 0, .slice none 0 0], []⟩ 8 (by kernel_rfl) (by kernel_rfl) (by kernel_rfl) (by kernel_rfl)) ?_
  intro W base args ds gs before hval hW _ _
  exact contract H enc W base args ds gs before hval hW

theorem holds : Rows.ImageApartSaid :=
  OpenClaim.holds_of_wide 6 Tryz.f6 rfl rfl rfl rfl rfl rfl rfl ⟨rfl, rfl, rfl, rfl, rfl⟩ rfl rfl rfl rfl rfl (by kernel_rfl) Tryz.func6 (by kernel_rfl)
    (of_decide_eq_true (by kernel_rfl)) (by unfold Func.isWrapper; first | (rw [if_pos (by decide +kernel)]; kernel_rfl) | (rw [if_neg (by decide +kernel)]; exact ⟨rfl, rfl⟩))
    (fun os started H enc _ => lifted os started H enc)

#print axioms holds
end Go.Proofs.YtjeammmfdniokaaGreat.imageApart

/-
  The law FoldSame returns true for every two rows of records, and its arguments read afterwards as they did: no condition.
-/
import Derived.Test.YtbmhdfjaakkoaaaM13
import Derived.Test.YtbmhdfjaakkoaaaM23
import Derived.Test.YtbmhdfjaakkoaaaM24
namespace Go.Proofs.Ytbmhdfjaakkoaaa.foldSame
open Go.ChangeShapes Go.WideShapes Go.ChangeAt Go.RowKit

theorem spec : LawSpec Rows.foldSameSpec 2 := ⟨rfl, fun H ds h => by
  match ds, h with
  | [d1, d2], _ => exact ⟨rfl, rfl, rfl⟩⟩

set_option maxRecDepth 100000 in
theorem contract (H : Type) (enc : TypeId × Value → H) (W : World) (base : Nat) (args : Array Value) (ds gs : List (DataW H)) (before : List MemPlace)
    (hval : ∀ (j : Nat) t v, Try.f5.params[j]? = some t → args[j]? = some v → Value.okWide Try.prog W .any base t v)
    (hW : DataW.Whole enc Try.prog Try.f5.params.toList Rows.foldSameSpec.vars false W args.toList ds gs before) :
    Calls Try.prog 5 args W fun e W' => ∃ v, e = .returned v ∧ Rows.foldSameSpec.post enc Try.prog Try.f5 false true false false W args v W' := by
  have hW' := hW
  obtain ⟨p, q, hA0, hV, rfl, _, _⟩ := hW
  have hA : DataW.TrodAll enc Try.prog W 0 (fun _ => true) true Try.f5.params.toList args.toList ds p := hA0
  rw [Try.params5] at hA hval
  obtain ⟨v0, v1, d0, d1, p0, p1, rfl, rfl, rfl, h0, h1⟩ := trodAll_two hA
  obtain ⟨p, n, c, l, rfl, hn, hc, hc', hl, hr⟩ := open_recs (hval 0 _ v0 rfl rfl) h0
  have hb := recs_bare h0
  obtain ⟨q, m, d, k, rfl, hm, hd, hd', hk, hs⟩ := open_recs (hval 1 _ v1 rfl rfl) h1
  have hq := recs_bare h1
  refine (foldsame_walk foat_ok fosame_ok focompact_ok folive_ok p n c l q m d k W hn hc hc' hb (fun r h => (hr r h).fine) (fun r h => ⟨(hr r h).key, (hr r h).val⟩) hl hm hd hd' hq (fun r h => (hs r h).fine) (fun r h => ⟨(hs r h).key, (hs r h).val⟩) hk).mono fun e W' ⟨he, hk⟩ => ?_
  subst he
  exact ⟨_, rfl, law_post (f := Try.f5) spec rfl (by kernel_rfl) hW' (hk.below (Nat.le_refl _) (fun _ _ h => h))⟩

set_option maxRecDepth 100000 in
theorem lifted (os : Os) (started : os.Started) (H : Type) (enc : TypeId × Value → H) :
    ReturnsInHanded {} Try.checked os 5 .any (Rows.foldSameSpec.pre6 enc Try.prog Try.f5 Rows.foldSameRow.domain false) (Rows.foldSameSpec.post enc Try.prog Try.f5 false true false false) := by
  refine returnsInHanded_of_change (C := Try.checked) own started (by kernel_rfl) Try.func5
    (ChangeSpec.witness6 (enc := enc) (C := Try.checked) false ⟨#[], #[.slice none 0 0, .slice none 0 0], []⟩ 8 (by kernel_rfl) (by kernel_rfl) (by kernel_rfl) (by kernel_rfl)) ?_
  intro W base args ds gs before hval hW _ _
  exact contract H enc W base args ds gs before hval hW

theorem holds : Rows.FoldSameSaid :=
  OpenClaim.holds_of_wide 5 Try.f5 rfl rfl rfl rfl rfl rfl rfl ⟨rfl, rfl, rfl, rfl, rfl⟩ rfl rfl rfl rfl rfl (by kernel_rfl) Try.func5 (by kernel_rfl)
    (of_decide_eq_true (by kernel_rfl)) (by unfold Func.isWrapper; first | (rw [if_pos (by decide +kernel)]; kernel_rfl) | (rw [if_neg (by decide +kernel)]; exact ⟨rfl, rfl⟩))
    (fun os started H enc _ => lifted os started H enc)

#print axioms holds
end Go.Proofs.Ytbmhdfjaakkoaaa.foldSame

/-
  The law FooterMade returns true for every row of entries, and its argument reads afterwards as it did: no condition.
-/
import Derived.Test.YtmifbohdepejaaaM08
import Derived.Test.YtmifbohdepejaaaM19
import Derived.Test.YtmifbohdepejaaaM25
import Derived.Test.YtmifbohdepejaaaM27
import Derived.Test.YtmifbohdepejaaaM30
import Derived.Test.YtmifbohdepejaaaM31
namespace Go.Proofs.Ytmifbohdepejaaa.footerMade
open Go.ChangeShapes Go.WideShapes Go.ChangeAt Go.RowKit

theorem spec : LawSpec Rows.footerMadeSpec 1 := ⟨rfl, fun H ds h => by
  match ds, h with
  | [d1], _ => exact ⟨rfl, rfl, rfl⟩⟩

set_option maxRecDepth 100000 in
theorem contract (H : Type) (enc : TypeId × Value → H) (W : World) (base : Nat) (args : Array Value) (ds gs : List (DataW H)) (before : List MemPlace)
    (hval : ∀ (j : Nat) t v, Try.f7.params[j]? = some t → args[j]? = some v → Value.okWide Try.prog W .any base t v)
    (hW : DataW.Whole enc Try.prog Try.f7.params.toList Rows.footerMadeSpec.vars false W args.toList ds gs before) :
    Calls Try.prog 7 args W fun e W' => ∃ v, e = .returned v ∧ Rows.footerMadeSpec.post enc Try.prog Try.f7 false true false false W args v W' := by
  have hW' := hW
  obtain ⟨p, q, hA0, hV, rfl, _, _⟩ := hW
  have hA : DataW.TrodAll enc Try.prog W 0 (fun _ => true) true Try.f7.params.toList args.toList ds p := hA0
  rw [Try.params7] at hA hval
  obtain ⟨v0, d0, rfl, rfl, h0⟩ := trodAll_one hA
  obtain ⟨p, n, c, l, rfl, hl⟩ := open_ens (hval 0 _ v0 rfl rfl) h0
  refine (ftmade_walk ftmost_ok merge_ok ftput_ok p n c l W hl).mono fun e W' ⟨he, hk⟩ => ?_
  subst he
  exact ⟨_, rfl, law_post (f := Try.f7) spec rfl (by kernel_rfl) hW' (hk.below (Nat.le_refl _) (fun _ _ h => h))⟩

set_option maxRecDepth 100000 in
theorem lifted (os : Os) (started : os.Started) (H : Type) (enc : TypeId × Value → H) :
    ReturnsInHanded {} Try.checked os 7 .any (Rows.footerMadeSpec.pre6 enc Try.prog Try.f7 Rows.footerMadeRow.domain false) (Rows.footerMadeSpec.post enc Try.prog Try.f7 false true false false) := by
  refine returnsInHanded_of_change (C := Try.checked) own started (by kernel_rfl) Try.func7
    (ChangeSpec.witness6 (enc := enc) (C := Try.checked) false ⟨#[], #[.slice none 0 0], []⟩ 8 (by kernel_rfl) (by kernel_rfl) (by kernel_rfl) (by kernel_rfl)) ?_
  intro W base args ds gs before hval hW _ _
  exact contract H enc W base args ds gs before hval hW

theorem holds : Rows.FooterMadeSaid :=
  OpenClaim.holds_of_wide 7 Try.f7 rfl rfl rfl rfl rfl rfl rfl ⟨rfl, rfl, rfl, rfl, rfl⟩ rfl rfl rfl rfl rfl (by kernel_rfl) Try.func7 (by kernel_rfl)
    (of_decide_eq_true (by kernel_rfl)) (by unfold Func.isWrapper; first | (rw [if_pos (by decide +kernel)]; kernel_rfl) | (rw [if_neg (by decide +kernel)]; exact ⟨rfl, rfl⟩))
    (fun os started H enc _ => lifted os started H enc)

#print axioms holds
end Go.Proofs.Ytmifbohdepejaaa.footerMade

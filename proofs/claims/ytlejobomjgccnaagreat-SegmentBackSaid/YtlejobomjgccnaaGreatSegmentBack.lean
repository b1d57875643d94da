/-
  The law SegmentBack returns true for every config's number, records, seal, place and byte, and its arguments read afterwards as they did: no condition.
-/
import Derived.Test.YtlejobomjgccnaaGreatM08
import Derived.Test.YtlejobomjgccnaaGreatM18
import Derived.Test.YtlejobomjgccnaaGreatM34
import Derived.Test.YtlejobomjgccnaaGreatM35
namespace Go.Proofs.YtlejobomjgccnaaGreat.segmentBack
open Go.ChangeShapes Go.WideShapes Go.ChangeAt Go.RowKit

theorem spec : LawSpec Rows.segmentBackSpec 5 := ⟨rfl, fun H ds h => by
  match ds, h with
  | [d1, d2, d3, d4, d5], _ => exact ⟨rfl, rfl, rfl⟩⟩

set_option maxRecDepth 100000 in
theorem contract (H : Type) (enc : TypeId × Value → H) (W : World) (base : Nat) (args : Array Value) (ds gs : List (DataW H)) (before : List MemPlace)
    (hval : ∀ (j : Nat) t v, Tryz.f5.params[j]? = some t → args[j]? = some v → Value.okWide Tryz.prog W .any base t v)
    (hW : DataW.Whole enc Tryz.prog Tryz.f5.params.toList Rows.segmentBackSpec.vars false W args.toList ds gs before) :
    Calls Tryz.prog 5 args W fun e W' => ∃ v, e = .returned v ∧ Rows.segmentBackSpec.post enc Tryz.prog Tryz.f5 false true false false W args v W' := by
  have hW' := hW
  obtain ⟨p, q, hA0, hV, rfl, _, _⟩ := hW
  have hA : DataW.TrodAll enc Tryz.prog W 0 (fun _ => true) true Tryz.f5.params.toList args.toList ds p := hA0
  rw [Tryz.params5] at hA hval
  obtain ⟨v0, v1, v2, v3, v4, d0, d1, d2, d3, d4, p0, p1, p2, p3, p4, rfl, rfl, rfl, h0, h1, h2, h3, h4⟩ := trodAll_five hA
  obtain ⟨z0, rfl, rfl, rfl, hz0⟩ := open_int Tryz.underlying5 (hval 0 _ v0 rfl rfl) h0
  obtain ⟨k, rfl, hk⟩ := nat_u8 hz0
  obtain ⟨p, n, c, l, rfl, hn, hc, hc', hl, hr⟩ := open_recs (hval 1 _ v1 rfl rfl) h1
  obtain ⟨g, rfl, rfl, rfl⟩ := open_bool Tryz.underlying4 (hval 2 _ v2 rfl rfl) h2
  obtain ⟨z3, rfl, rfl, rfl, hz3⟩ := open_int Tryz.underlying66 (hval 3 _ v3 rfl rfl) h3
  obtain ⟨x, rfl, hx⟩ := nat_u16 hz3
  obtain ⟨z4, rfl, rfl, rfl, hz4⟩ := open_int Tryz.underlying5 (hval 4 _ v4 rfl rfl) h4
  obtain ⟨y, rfl, hy⟩ := nat_u8 hz4
  refine (segback_walk sg_build sg_new sg_add sg_frames sg_open sg_seal sg_parse k p n c l g x y W hk hn hc hc' (fun r h => (hr r h).fine) (fun r h => ⟨(hr r h).key, (hr r h).val⟩) hl hx hy).mono fun e W' ⟨he, hk⟩ => ?_
  subst he
  exact ⟨_, rfl, law_post (f := Tryz.f5) spec rfl (by kernel_rfl) hW' (hk.below (Nat.le_refl _) (fun _ _ h => h))⟩

set_option maxRecDepth 100000 in
theorem lifted (os : Os) (started : os.Started) (H : Type) (enc : TypeId × Value → H) :
    ReturnsInHanded {} Tryz.checked os 5 .any (Rows.segmentBackSpec.pre6 enc Tryz.prog Tryz.f5 Rows.segmentBackRow.domain false) (Rows.segmentBackSpec.post enc Tryz.prog Tryz.f5 false true false false) := by
  refine returnsInHanded_of_change (C := Tryz.checked) own started (by kernel_rfl) Tryz.func5
    (ChangeSpec.witness6 (enc := enc) (C := Tryz.checked) false ⟨#[], #[.int .u8 0, .slice none 0 0, .bool false, .int .u16 0, .int .u8 0], []⟩ 8 (by kernel_rfl) (by kernel_rfl) (by kernel_rfl) (by kernel_rfl)) ?_
  intro W base args ds gs before hval hW _ _
  exact contract H enc W base args ds gs before hval hW

theorem holds : Rows.SegmentBackSaid :=
  OpenClaim.holds_of_wide 5 Tryz.f5 rfl rfl rfl rfl rfl rfl rfl ⟨rfl, rfl, rfl, rfl, rfl⟩ rfl rfl rfl rfl rfl (by kernel_rfl) Tryz.func5 (by kernel_rfl)
    (of_decide_eq_true (by kernel_rfl)) (by unfold Func.isWrapper; first | (rw [if_pos (by decide +kernel)]; kernel_rfl) | (rw [if_neg (by decide +kernel)]; exact ⟨rfl, rfl⟩))
    (fun os started H enc _ => lifted os started H enc)

#print axioms holds
end Go.Proofs.YtlejobomjgccnaaGreat.segmentBack

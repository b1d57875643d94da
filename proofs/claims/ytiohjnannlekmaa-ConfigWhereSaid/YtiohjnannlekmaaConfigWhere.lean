/-
  The law ConfigWhere returns true for every config and three numbers, and its arguments read afterwards as they did: no condition.
-/
import Derived.Test.YtiohjnannlekmaaConfWhWalk
import Derived.Test.YtiohjnannlekmaaConfAll
import Derived.Test.YtiohjnannlekmaaOpenCf
namespace Go.Proofs.Ytiohjnannlekmaa.configWhere
open Go.ChangeShapes Go.WideShapes Go.ChangeAt Go.RowKit

theorem spec : LawSpec Rows.configWhereSpec 4 := ⟨rfl, fun H ds h => by
  match ds, h with
  | [d1, d2, d3, d4], _ => exact ⟨rfl, rfl, rfl⟩⟩

set_option maxRecDepth 100000 in
theorem contract (H : Type) (enc : TypeId × Value → H) (W : World) (base : Nat) (args : Array Value) (ds gs : List (DataW H)) (before : List MemPlace)
    (hval : ∀ (j : Nat) t v, Try.f5.params[j]? = some t → args[j]? = some v → Value.okWide Try.prog W .any base t v)
    (hW : DataW.Whole enc Try.prog Try.f5.params.toList Rows.configWhereSpec.vars false W args.toList ds gs before) :
    Calls Try.prog 5 args W fun e W' => ∃ v, e = .returned v ∧ Rows.configWhereSpec.post enc Try.prog Try.f5 false true false false W args v W' := by
  have hW' := hW
  obtain ⟨p, q, hA0, hV, rfl, _, _⟩ := hW
  have hA : DataW.TrodAll enc Try.prog W 0 (fun _ => true) true Try.f5.params.toList args.toList ds p := hA0
  rw [Try.params5] at hA hval
  obtain ⟨v0, v1, v2, v3, d0, d1, d2, d3, p0, p1, p2, p3, rfl, rfl, rfl, h0, h1, h2, h3⟩ := trodAll_four hA
  obtain ⟨e, s, rfl, he, hs⟩ := open_conf (hval 0 _ v0 rfl rfl) h0
  obtain ⟨zn, rfl, rfl, rfl, hn0⟩ := open_int Try.underlying25 (hval 1 _ v1 rfl rfl) h1
  obtain ⟨n, rfl, hn⟩ := num_u64 hn0
  obtain ⟨zx, rfl, rfl, rfl, hx0⟩ := open_int Try.underlying25 (hval 2 _ v2 rfl rfl) h2
  obtain ⟨x, rfl, hx⟩ := num_u64 hx0
  obtain ⟨zo, rfl, rfl, rfl, ho0⟩ := open_int Try.underlying25 (hval 3 _ v3 rfl rfl) h3
  obtain ⟨o, rfl, ho⟩ := num_u64 ho0
  refine (where8_walk conf_ok e s n x o he hs hn hx ho W).mono fun e W' ⟨he, hk⟩ => ?_
  subst he
  exact ⟨_, rfl, law_post (f := Try.f5) spec rfl (by kernel_rfl) hW' (hk.below (Nat.le_refl _) (fun _ _ h => h))⟩

set_option maxRecDepth 100000 in
theorem lifted (os : Os) (started : os.Started) (H : Type) (enc : TypeId × Value → H) :
    ReturnsInHanded {} Try.checked os 5 .any (Rows.configWhereSpec.pre6 enc Try.prog Try.f5 Rows.configWhereRow.domain false) (Rows.configWhereSpec.post enc Try.prog Try.f5 false true false false) := by
  refine returnsInHanded_of_change (C := Try.checked) own started (by kernel_rfl) Try.func5
    (ChangeSpec.witness6 (enc := enc) (C := Try.checked) false ⟨#[], #[.agg #[.int .u8 0, .int .u32 0], .int .u64 0, .int .u64 0, .int .u64 0], []⟩ 8 (by kernel_rfl) (by kernel_rfl) (by kernel_rfl) (by kernel_rfl)) ?_
  intro W base args ds gs before hval hW _ _
  exact contract H enc W base args ds gs before hval hW

theorem holds : Rows.ConfigWhereSaid :=
  OpenClaim.holds_of_wide 5 Try.f5 rfl rfl rfl rfl rfl rfl rfl ⟨rfl, rfl, rfl, rfl, rfl⟩ rfl rfl rfl rfl rfl (by kernel_rfl) Try.func5 (by kernel_rfl)
    (of_decide_eq_true (by kernel_rfl)) (by unfold Func.isWrapper; first | (rw [if_pos (by decide +kernel)]; kernel_rfl) | (rw [if_neg (by decide +kernel)]; exact ⟨rfl, rfl⟩))
    (fun os started H enc _ => lifted os started H enc)

#print axioms holds
end Go.Proofs.Ytiohjnannlekmaa.configWhere

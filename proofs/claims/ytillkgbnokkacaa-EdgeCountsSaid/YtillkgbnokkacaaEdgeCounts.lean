/-
  The law EdgeCounts returns true for every three numbers, three doubles and row of doubles, and its arguments read afterwards as they did: no condition.
-/
import Derived.Test.YtillkgbnokkacaaEdgeCtWalk
import Derived.Test.YtillkgbnokkacaaOpenF
import Derived.Test.YtillkgbnokkacaaEdgeAll
namespace Go.Proofs.Ytillkgbnokkacaa.edgeCounts
open Go.ChangeShapes Go.WideShapes Go.ChangeAt Go.RowKit

theorem spec : LawSpec Rows.edgeCountsSpec 7 := ⟨rfl, fun H ds h => by
  match ds, h with
  | [d1, d2, d3, d4, d5, d6, d7], _ => exact ⟨rfl, rfl, rfl⟩⟩

set_option maxRecDepth 100000 in
theorem contract (H : Type) (enc : TypeId × Value → H) (W : World) (base : Nat) (args : Array Value) (ds gs : List (DataW H)) (before : List MemPlace)
    (hval : ∀ (j : Nat) t v, Try.f6.params[j]? = some t → args[j]? = some v → Value.okWide Try.prog W .any base t v)
    (hW : DataW.Whole enc Try.prog Try.f6.params.toList Rows.edgeCountsSpec.vars false W args.toList ds gs before) :
    Calls Try.prog 6 args W fun e W' => ∃ v, e = .returned v ∧ Rows.edgeCountsSpec.post enc Try.prog Try.f6 false true false false W args v W' := by
  have hW' := hW
  obtain ⟨p, q, hA0, hV, rfl, _, _⟩ := hW
  have hA : DataW.TrodAll enc Try.prog W 0 (fun _ => true) true Try.f6.params.toList args.toList ds p := hA0
  rw [Try.params6] at hA hval
  obtain ⟨v0, v1, v2, v3, v4, v5, v6, d0, d1, d2, d3, d4, d5, d6, p0, p1, p2, p3, p4, p5, p6, rfl, rfl, rfl, h0, h1, h2, h3, h4, h5, h6⟩ := trodAll_seven hA
  obtain ⟨z0, rfl, rfl, rfl, e0⟩ := open_int Try.underlying25 (hval 0 _ v0 rfl rfl) h0
  obtain ⟨z1, rfl, rfl, rfl, e1⟩ := open_int Try.underlying25 (hval 1 _ v1 rfl rfl) h1
  obtain ⟨z2, rfl, rfl, rfl, e2⟩ := open_int Try.underlying25 (hval 2 _ v2 rfl rfl) h2
  obtain ⟨m, rfl, hm⟩ := word_u64 e0
  obtain ⟨n, rfl, hn⟩ := word_u64 e1
  obtain ⟨k, rfl, hk⟩ := word_u64 e2
  obtain ⟨x, rfl, rfl, rfl, e3⟩ := open_float Try.underlying22 (hval 3 _ v3 rfl rfl) h3
  obtain ⟨lo, rfl, rfl, rfl, e4⟩ := open_float Try.underlying22 (hval 4 _ v4 rfl rfl) h4
  obtain ⟨hi, rfl, rfl, rfl, e5⟩ := open_float Try.underlying22 (hval 5 _ v5 rfl rfl) h5
  obtain ⟨lp, N, c, l, rfl, hN, hc, hc', hl, bl⟩ := open_floats (hval 6 _ v6 rfl rfl) h6
  refine (counts_walk edge_ok m n k x lo hi hm hn hk (word_wf e3) (word_wf e4) (word_wf e5) lp N c l hN hc hc' W hl bl).mono fun e W' ⟨he, hk⟩ => ?_
  subst he
  exact ⟨_, rfl, law_post (f := Try.f6) spec rfl (by kernel_rfl) hW' (hk.below (Nat.le_refl _) (fun _ _ h => h))⟩

set_option maxRecDepth 100000 in
theorem lifted (os : Os) (started : os.Started) (H : Type) (enc : TypeId × Value → H) :
    ReturnsInHanded {} Try.checked os 6 .any (Rows.edgeCountsSpec.pre6 enc Try.prog Try.f6 Rows.edgeCountsRow.domain false) (Rows.edgeCountsSpec.post enc Try.prog Try.f6 false true false false) := by
  refine returnsInHanded_of_change (C := Try.checked) own started (by kernel_rfl) Try.func6
    (ChangeSpec.witness6 (enc := enc) (C := Try.checked) false ⟨#[], #[.int .u64 0, .int .u64 0, .int .u64 0, .float .f64 0, .float .f64 0, .float .f64 0, .slice none 0 0], []⟩ 8 (by kernel_rfl) (by kernel_rfl) (by kernel_rfl) (by kernel_rfl)) ?_
  intro W base args ds gs before hval hW _ _
  exact contract H enc W base args ds gs before hval hW

theorem holds : Rows.EdgeCountsSaid :=
  OpenClaim.holds_of_wide 6 Try.f6 rfl rfl rfl rfl rfl rfl rfl ⟨rfl, rfl, rfl, rfl, rfl⟩ rfl rfl rfl rfl rfl (by kernel_rfl) Try.func6 (by kernel_rfl)
    (of_decide_eq_true (by kernel_rfl)) (by unfold Func.isWrapper; first | (rw [if_pos (by decide +kernel)]; kernel_rfl) | (rw [if_neg (by decide +kernel)]; exact ⟨rfl, rfl⟩))
    (fun os started H enc _ => lifted os started H enc)

#print axioms holds
end Go.Proofs.Ytillkgbnokkacaa.edgeCounts

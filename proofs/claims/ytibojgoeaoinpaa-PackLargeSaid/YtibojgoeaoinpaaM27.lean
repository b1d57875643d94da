/-
  PkLaWalk.
-/
import Derived.Test.YtibojgoeaoinpaaM15
namespace Go.Proofs.Ytibojgoeaoinpaa
open Go.RowKit

theorem one_in (z : Int) (hz : -9223372036854775808 ≤ z ∧ z ≤ 9223372036854775807) (w : World) : InZ (w.alloc (.cells #[.int .i64 z] 3)) (some ⟨w.heap.size, 0, none⟩) 1 1 [z] :=
  ⟨rfl, Nat.le_refl _, by decide, fun h => by simp at h, fun x hx => by rw [List.mem_singleton.1 hx]; exact hz, fun i hi => ⟨_, rfl, by
      have hW := Whole.new w 3 #[.int .i64 z]
      have : i = 0 := by simp at hi; omega
      subst this
      exact hW.cell 0 rfl⟩⟩
/-- One frame alone: it is too large, or it can be packed. -/
theorem plan_one {e s : Nat} (hm : mayC e s = true) (z : Int) : (planP e s [z]).1 = if fitsP (emptyP e s (s - 1)) z = true then 0 else 6 := by
  obtain ⟨m1, m2, m3, m4⟩ := mayC_true.1 hm
  unfold planP
  rw [if_pos hm]
  show (stepP e s ⟨0, emptyP e s 0, []⟩ z).y = _
  unfold stepP
  rw [if_neg (by simp)]
  by_cases hf : fitsP (emptyP e s (s - 1)) z = true
  · rw [if_pos hf, if_pos hf, if_pos (fits_empty (by omega) (by omega) (Nat.zero_le _) hf)]
  · rw [if_neg hf, if_neg hf]
theorem large_more {e s : Nat} {z : Int} {k : Nat} (h1 : 1 ≤ z) (h : largeP e s z = true) : largeP e s (z + (k : Int)) = true := by
  unfold largeP at h ⊢
  cases hm : mayC e s
  · rfl
  · rw [hm] at h
    simp only [Bool.not_true, Bool.false_or, Bool.not_eq_true'] at h ⊢
    rw [Bool.eq_false_iff] at h ⊢
    intro hc
    refine h ?_
    rw [fitsP_true] at hc ⊢
    omega

set_option maxHeartbeats 4000000 in
set_option maxRecDepth 10000 in
theorem pklarge_walk (H : PkPlanOk) (HL : PkLargeOk) (e s : Nat) (z : Int) (k : Nat) (w : World) (he : e < 256) (hs : s < 4294967296) (hz : -9223372036854775808 ≤ z ∧ z ≤ 9223372036854775807) (hk : k < 65536) :
    Calls Try.prog 6 #[confV e s, .int .i64 z, .int .u16 (k : Int)] w fun e w' => e = .returned (.bool true) ∧ Keeps NoBlock w w' := by
  have HLv := Lib.hid (fun w => lives14_true H w)
  have HC0 := Lib.hid (Whole.new w 24 (confCells e s))
  have HK0 := Lib.hid ((Keeps.refl NoBlock w).alloc (.cells (confCells e s) 24))
  have HM := Lib.hid (fun w => may_ref e s w)
  have HLa := Lib.hid (fun w => HL.large e s z w he hs hz.1 hz.2)
  cases hm : mayC e s with
  | false =>
    rw [hm] at HM
    have hl : largeP e s z = true := by unfold largeP; rw [hm]; rfl
    rw [hl] at HLa
    clear H HL hm hl he hs hz hk
    unfold confV at HM HLa ⊢
    go_enter Try.func6, Try.ntmps6
    go_wp2_with fail
    refine (HLv.out _).mono ?_
    rintro e9 w1 ⟨rfl, hk⟩
    have HK := Lib.hid (HK0.out.trans hk)
    have HC := Lib.hid (HC0.out.keep hk (fun h => h))
    have c0 := HC.out.cell 0 rfl
    have c1 := HC.out.cell 1 rfl
    simp only [confCells, List.getElem_toArray, List.getElem_cons_zero, List.getElem_cons_succ] at c0 c1
    clear hk
    go_wp2_with fail
    refine (HM.out _).mono ?_
    rintro e9 w2 ⟨rfl, hk⟩
    have HK := Lib.hid (HK.out.trans hk)
    have HC := Lib.hid (HC.out.keep hk (fun h => h))
    clear c0 c1 hk
    have c0 := HC.out.cell 0 rfl
    have c1 := HC.out.cell 1 rfl
    simp only [confCells, List.getElem_toArray, List.getElem_cons_zero, List.getElem_cons_succ] at c0 c1
    go_wp2_with fail
    refine (HLa.out _).mono ?_
    rintro e9 w3 ⟨rfl, hk⟩
    have HK := Lib.hid (HK.out.trans hk)
    clear hk
    go_wp2_with fail
    go_ret
    exact ⟨rfl, HK.out⟩
  | true =>
    rw [hm] at HM
    have HPl := Lib.hid (fun w => H.plan e s (some ⟨(w : World).heap.size, 0, none⟩) 1 1 [z] _ he hs (one_in z hz w) (by decide))
    have hone := plan_one hm z
    have hlz : largeP e s z = !(fitsP (emptyP e s (s - 1)) z) := by unfold largeP; rw [hm]; rfl
    have HMo := Lib.hid (fun (h1 : 1 ≤ z) h => large_more (e := e) (s := s) (z := z) (k := k) h1 h)
    have HLb := Lib.hid (fun w (h1 : z + (k : Int) ≤ 9223372036854775807) => HL.large e s (z + (k : Int)) w he hs (by omega) h1)
    obtain ⟨f, hf⟩ : ∃ f, f = fitsP (emptyP e s (s - 1)) z := ⟨_, rfl⟩
    rw [← hf] at hone hlz
    rw [hone] at HPl
    rw [hlz] at HLa HMo
    have wk : IntKind.i64.wrap (k : Int) = (k : Int) := IntWalk.i64_in _ (by omega)
    clear H HL hm hone hlz hf he hs
    unfold confV at HM HLa HLb HPl ⊢
    cases f with
    | true =>
      simp only [Bool.not_true, if_true] at HLa HPl
      go_enter Try.func6, Try.ntmps6
      go_wp2_with fail
      refine (HLv.out _).mono ?_
      rintro e9 w1 ⟨rfl, hk⟩
      have HK := Lib.hid (HK0.out.trans hk)
      have HC := Lib.hid (HC0.out.keep hk (fun h => h))
      have c0 := HC.out.cell 0 rfl
      have c1 := HC.out.cell 1 rfl
      simp only [confCells, List.getElem_toArray, List.getElem_cons_zero, List.getElem_cons_succ] at c0 c1
      clear hk
      go_wp2_with fail
      refine (HM.out _).mono ?_
      rintro e9 w2 ⟨rfl, hk⟩
      have HK := Lib.hid (HK.out.trans hk)
      have HC := Lib.hid (HC.out.keep hk (fun h => h))
      clear c0 c1 hk
      have c0 := HC.out.cell 0 rfl
      have c1 := HC.out.cell 1 rfl
      simp only [confCells, List.getElem_toArray, List.getElem_cons_zero, List.getElem_cons_succ] at c0 c1
      go_wp2_with fail
      refine (HLa.out _).mono ?_
      rintro e9 w3 ⟨rfl, hk⟩
      have HK := Lib.hid (HK.out.trans hk)
      have HC := Lib.hid (HC.out.keep hk (fun h => h))
      clear c0 c1 hk
      have c0 := HC.out.cell 0 rfl
      have c1 := HC.out.cell 1 rfl
      simp only [confCells, List.getElem_toArray, List.getElem_cons_zero, List.getElem_cons_succ] at c0 c1
      go_wp2_with fail
      refine (HPl.out _).mono ?_
      rintro e9 w4 ⟨v, rfl, q, m, d, rfl, _, _, _, _, _, hk⟩
      have HK := Lib.hid ((HK.out.alloc (.cells #[.int .i64 z] 3)).trans hk)
      have HC := Lib.hid ((HC.out.alloc (.cells #[.int .i64 z] 3)).keep hk (fun h => h))
      clear c0 c1 hk
      have c0 := HC.out.cell 0 rfl
      have c1 := HC.out.cell 1 rfl
      simp only [confCells, List.getElem_toArray, List.getElem_cons_zero, List.getElem_cons_succ] at c0 c1
      go_wp2_with fail
      go_ret
      exact ⟨by first | rfl | simp, HK.out⟩
    | false =>
      simp only [Bool.not_false, if_neg (show ¬ (false = true) by decide)] at HLa HPl HMo
      by_cases z1 : z < 1
      · have d1 : decide (z < 1) = true := decide_eq_true z1
        go_enter Try.func6, Try.ntmps6
        go_wp2_with fail
        refine (HLv.out _).mono ?_
        rintro e9 w1 ⟨rfl, hk⟩
        have HK := Lib.hid (HK0.out.trans hk)
        have HC := Lib.hid (HC0.out.keep hk (fun h => h))
        have c0 := HC.out.cell 0 rfl
        have c1 := HC.out.cell 1 rfl
        simp only [confCells, List.getElem_toArray, List.getElem_cons_zero, List.getElem_cons_succ] at c0 c1
        clear hk
        go_wp2_with fail
        refine (HM.out _).mono ?_
        rintro e9 w2 ⟨rfl, hk⟩
        have HK := Lib.hid (HK.out.trans hk)
        have HC := Lib.hid (HC.out.keep hk (fun h => h))
        clear c0 c1 hk
        have c0 := HC.out.cell 0 rfl
        have c1 := HC.out.cell 1 rfl
        simp only [confCells, List.getElem_toArray, List.getElem_cons_zero, List.getElem_cons_succ] at c0 c1
        go_wp2_with fail
        refine (HLa.out _).mono ?_
        rintro e9 w3 ⟨rfl, hk⟩
        have HK := Lib.hid (HK.out.trans hk)
        have HC := Lib.hid (HC.out.keep hk (fun h => h))
        clear c0 c1 hk
        have c0 := HC.out.cell 0 rfl
        have c1 := HC.out.cell 1 rfl
        simp only [confCells, List.getElem_toArray, List.getElem_cons_zero, List.getElem_cons_succ] at c0 c1
        go_wp2_with fail
        refine (HPl.out _).mono ?_
        rintro e9 w4 ⟨v, rfl, q, m, d, rfl, _, _, _, _, _, hk⟩
        have HK := Lib.hid ((HK.out.alloc (.cells #[.int .i64 z] 3)).trans hk)
        have HC := Lib.hid ((HC.out.alloc (.cells #[.int .i64 z] 3)).keep hk (fun h => h))
        clear c0 c1 hk
        have c0 := HC.out.cell 0 rfl
        have c1 := HC.out.cell 1 rfl
        simp only [confCells, List.getElem_toArray, List.getElem_cons_zero, List.getElem_cons_succ] at c0 c1
        go_wp2_with fail
        go_ret
        exact ⟨by first | rfl | simp, HK.out⟩
      have d1 : decide (z < 1) = false := decide_eq_false z1
      by_cases z2 : 1099511627776 < z
      · have d2 : decide (1099511627776 < z) = true := decide_eq_true z2
        go_enter Try.func6, Try.ntmps6
        go_wp2_with fail
        refine (HLv.out _).mono ?_
        rintro e9 w1 ⟨rfl, hk⟩
        have HK := Lib.hid (HK0.out.trans hk)
        have HC := Lib.hid (HC0.out.keep hk (fun h => h))
        have c0 := HC.out.cell 0 rfl
        have c1 := HC.out.cell 1 rfl
        simp only [confCells, List.getElem_toArray, List.getElem_cons_zero, List.getElem_cons_succ] at c0 c1
        clear hk
        go_wp2_with fail
        refine (HM.out _).mono ?_
        rintro e9 w2 ⟨rfl, hk⟩
        have HK := Lib.hid (HK.out.trans hk)
        have HC := Lib.hid (HC.out.keep hk (fun h => h))
        clear c0 c1 hk
        have c0 := HC.out.cell 0 rfl
        have c1 := HC.out.cell 1 rfl
        simp only [confCells, List.getElem_toArray, List.getElem_cons_zero, List.getElem_cons_succ] at c0 c1
        go_wp2_with fail
        refine (HLa.out _).mono ?_
        rintro e9 w3 ⟨rfl, hk⟩
        have HK := Lib.hid (HK.out.trans hk)
        have HC := Lib.hid (HC.out.keep hk (fun h => h))
        clear c0 c1 hk
        have c0 := HC.out.cell 0 rfl
        have c1 := HC.out.cell 1 rfl
        simp only [confCells, List.getElem_toArray, List.getElem_cons_zero, List.getElem_cons_succ] at c0 c1
        go_wp2_with fail
        refine (HPl.out _).mono ?_
        rintro e9 w4 ⟨v, rfl, q, m, d, rfl, _, _, _, _, _, hk⟩
        have HK := Lib.hid ((HK.out.alloc (.cells #[.int .i64 z] 3)).trans hk)
        have HC := Lib.hid ((HC.out.alloc (.cells #[.int .i64 z] 3)).keep hk (fun h => h))
        clear c0 c1 hk
        have c0 := HC.out.cell 0 rfl
        have c1 := HC.out.cell 1 rfl
        simp only [confCells, List.getElem_toArray, List.getElem_cons_zero, List.getElem_cons_succ] at c0 c1
        go_wp2_with fail
        go_ret
        exact ⟨by first | rfl | simp, HK.out⟩
      have d2 : decide (1099511627776 < z) = false := decide_eq_false z2
      have hlm := HMo.out (by omega) (by first | rfl | trivial)
      have HLc := Lib.hid (fun w => HLb.out w (by omega))
      rw [hlm] at HLc
      have wz : IntKind.i64.wrap (z + (k : Int)) = z + (k : Int) := IntWalk.i64_in _ (by omega)
      clear HMo HLb hlm
      go_enter Try.func6, Try.ntmps6
      go_wp2_with fail
      refine (HLv.out _).mono ?_
      rintro e9 w1 ⟨rfl, hk⟩
      have HK := Lib.hid (HK0.out.trans hk)
      have HC := Lib.hid (HC0.out.keep hk (fun h => h))
      have c0 := HC.out.cell 0 rfl
      have c1 := HC.out.cell 1 rfl
      simp only [confCells, List.getElem_toArray, List.getElem_cons_zero, List.getElem_cons_succ] at c0 c1
      clear hk
      go_wp2_with fail
      refine (HM.out _).mono ?_
      rintro e9 w2 ⟨rfl, hk⟩
      have HK := Lib.hid (HK.out.trans hk)
      have HC := Lib.hid (HC.out.keep hk (fun h => h))
      clear c0 c1 hk
      have c0 := HC.out.cell 0 rfl
      have c1 := HC.out.cell 1 rfl
      simp only [confCells, List.getElem_toArray, List.getElem_cons_zero, List.getElem_cons_succ] at c0 c1
      go_wp2_with fail
      refine (HLa.out _).mono ?_
      rintro e9 w3 ⟨rfl, hk⟩
      have HK := Lib.hid (HK.out.trans hk)
      have HC := Lib.hid (HC.out.keep hk (fun h => h))
      clear c0 c1 hk
      have c0 := HC.out.cell 0 rfl
      have c1 := HC.out.cell 1 rfl
      simp only [confCells, List.getElem_toArray, List.getElem_cons_zero, List.getElem_cons_succ] at c0 c1
      go_wp2_with fail
      refine (HPl.out _).mono ?_
      rintro e9 w4 ⟨v, rfl, q, m, d, rfl, _, _, _, _, _, hk⟩
      have HK := Lib.hid ((HK.out.alloc (.cells #[.int .i64 z] 3)).trans hk)
      have HC := Lib.hid ((HC.out.alloc (.cells #[.int .i64 z] 3)).keep hk (fun h => h))
      clear c0 c1 hk
      have c0 := HC.out.cell 0 rfl
      have c1 := HC.out.cell 1 rfl
      simp only [confCells, List.getElem_toArray, List.getElem_cons_zero, List.getElem_cons_succ] at c0 c1
      go_wp2_with fail
      refine (HLc.out _).mono ?_
      rintro e9 w5 ⟨rfl, hk⟩
      have HK := Lib.hid (HK.out.trans hk)
      clear hk
      go_wp2_with fail
      go_ret
      exact ⟨by first | rfl | simp, HK.out⟩
end Go.Proofs.Ytibojgoeaoinpaa

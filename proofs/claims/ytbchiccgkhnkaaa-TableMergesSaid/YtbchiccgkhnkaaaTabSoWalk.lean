/-
  The walk of the law TableSorts. Written by wip/tools/gen_tabsorts.py.
-/
import Derived.Test.YtbchiccgkhnkaaaTabLaws
import Derived.Test.YtbchiccgkhnkaaaTabOrWalk
namespace Go.Proofs.Ytbchiccgkhnkaaa
open Go.RowKit

/-- A row of one's own is that it was copied from: told so, place by place (the laws' last loop is of this kind). -/
theorem enNeSelf (r : En) (w : World) : (binOp .neq 29 (.agg #[.int .u64 (r.hash : Int), .int .u32 (r.at_ : Int)]) (.agg #[.int .u64 (r.hash : Int), .int .u32 (r.at_ : Int)])).run Try.prog w = .ok (.bool false) w := by
  simp [go_sem]

set_option maxHeartbeats 8000000 in
set_option maxRecDepth 10000 in
theorem tabsorts_walk (H : SortOk) (HR : RisOk) (p : Option Addr) (n c : Nat) (l : List En) (w : World) (h : InE w p n c l) :
    Calls Try.prog 4 #[.slice p n c] w fun e w' => e = .returned (.bool true) ∧ Keeps NoBlock w w' := by
  have HL := Lib.hid (fun w => lives11_true H w)
  by_cases hn : n ≤ 60
  rotate_left
  · have hd : decide ((60 : Int) < (n : Int)) = true := decide_eq_true (by omega)
    have hd2 : decide (60 < n) = true := decide_eq_true (by omega)
    have hn2 : 60 < n := by omega
    clear h H HR hn
    go_enter Try.func4, Try.ntmps4
    go_wp2_with fail
    refine (HL.out _).mono ?_
    rintro e w1 ⟨rfl, hk⟩
    have HK := Lib.hid hk
    clear hk
    go_wp2_with fail
    refine (HL.out _).mono ?_
    rintro e w2 ⟨rfl, hk⟩
    have HK := Lib.hid (HK.out.trans hk)
    clear hk
    go_wp2_with fail
    go_ret
    exact ⟨rfl, HK.out⟩
  have hd : decide ((60 : Int) < (n : Int)) = false := decide_eq_false (by omega)
  have hd2 : decide (60 < n) = false := decide_eq_false (by omega)
  have hn2 : ¬ 60 < n := by omega
  obtain ⟨i0, hi, hz0, hz1, hz2⟩ := info_parts infoEnL
  have HLn := Lib.hid h.len
  have HFine := Lib.hid h.fine
  have HBare := Lib.hid h.bare
  have HAt := Lib.hid h.at_
  have HCap := Lib.hid (And.intro h.cap h.room)
  have hsl := sortE_len l
  rw [← h.len] at hsl
  obtain ⟨M, hM⟩ : ∃ M, M = (sortE l).length := ⟨_, rfl⟩
  rw [← hM] at hsl
  have HMl := Lib.hid hM
  have hm60 : M ≤ 60 := by omega
  have HSo := Lib.hid (fun q d w h => H.sorted q n d l w h (by omega))
  have HRs := Lib.hid (fun q d w h => HR.rising q M d (sortE l) w h (by omega))
  rw [sortE_rises] at HRs
  have HRl := Lib.hid (fun w h => HR.rising p n c l w h (by omega))
  have HRef := Lib.hid (fun w h => refs_go p n c l HLn.out (by omega) w h)
  have HSr := Lib.hid (fun q d w h => sorted11_ref q n d l HLn.out (by omega) w h)
  have HRr := Lib.hid (fun q d w h => rising11_ref q n d l HLn.out (by omega) w h)
  have HSa := Lib.hid (fun q q2 d d2 w h1 h2 => same11_go q q2 M d d2 (sortE l) w HMl.out (by omega) h1 h2)
  have HFs := Lib.hid (sortE_fine HFine.out)
  obtain ⟨R, hR⟩ : ∃ R, R = risesE l := ⟨_, rfl⟩
  rw [← hR] at HRl HRr
  clear h H HR hM hsl hR hn
  go_enter Try.func4, Try.ntmps4
  go_wp2_with fail
  refine (HL.out _).mono ?_
  rintro e w1 ⟨rfl, hk⟩
  have HAt := Lib.hid (EnsAt.keep HAt.out hk)
  have HK := Lib.hid hk
  clear hk HL
  go_wp2_with (at_builtin; refine wpList_append_twos (v0 := enH) (v1 := enA) (dd := En.none) rfl _ _ 22 rfl 29 i0 (.agg #[.int .u64 0, .int .u32 0]) 16 Try.underlying22 hi hz0 hz1 hz2 rfl _ [] rfl (TwosSoFar.made w1) p n c l rfl HBare.out HLn.out (EnsAt.keep HAt.out ((Keeps.refl NoBlock w1).alloc _)) (fun _ => rfl) (fun _ => rfl) (by simp; omega) (by simp; omega) ?_)
  intro v2 w2 h2
  obtain ⟨q1, m1, d1, rfl, hm, hmd, hd1, hq, hat, hk⟩ := TwosSoFar.new (dd := En.none) h2
  have hme : n = m1 := by rw [hm, ← HLn.out]
  subst hme
  have HOw := Lib.hid (show EnsAt w2 q1 l from hat)
  have HOd := Lib.hid (show n ≤ d1 ∧ d1 ≤ 9223372036854775807 ∧ (q1 = none → n = 0 ∧ d1 = 0) from ⟨hmd, hd1, hq⟩)
  have HAt := Lib.hid (EnsAt.keep HAt.out hk)
  have HK := Lib.hid (HK.out.trans hk)
  clear h2 hm hmd hd1 hq hat hk
  go_wp2_with fail
  refine (HSo.out q1 d1 _ ⟨HLn.out, HOd.out.1, HOd.out.2.1, HOd.out.2.2, HFine.out, HOw.out⟩).mono ?_
  rintro e w3 ⟨v, rfl, q2, m2, d2, rfl, hm, hmd, hdd, hq, hat, hk⟩
  have hme : M = m2 := by rw [hm, ← HMl.out]
  subst hme
  have HAt := Lib.hid (EnsAt.keep HAt.out hk)
  have HOw := Lib.hid (EnsAt.keep HOw.out hk)
  have HS2 := Lib.hid (show EnsAt w3 q2 (sortE l) from hat)
  have HS2d := Lib.hid (show M ≤ d2 ∧ d2 ≤ 9223372036854775807 ∧ (q2 = none → M = 0 ∧ d2 = 0) from ⟨hmd, hdd, hq⟩)
  have HK := Lib.hid (HK.out.trans hk)
  clear hm hmd hdd hq hat hk
  go_wp2_with fail
  refine (HRef.out _ HAt.out).mono ?_
  rintro e w4 ⟨v, rfl, q3, m3, d3, rfl, hm, hmd, hdd, hq, hat, hk⟩
  have hme : n = m3 := by rw [hm, ← HLn.out]
  subst hme
  have HAt := Lib.hid (EnsAt.keep HAt.out hk)
  have HOw := Lib.hid (EnsAt.keep HOw.out hk)
  have HS2 := Lib.hid (EnsAt.keep HS2.out hk)
  have HR3 := Lib.hid (show EnsAt w4 q3 l from hat)
  have HR3d := Lib.hid (show n ≤ d3 ∧ d3 ≤ 9223372036854775807 ∧ (q3 = none → n = 0 ∧ d3 = 0) from ⟨hmd, hdd, hq⟩)
  have HK := Lib.hid (HK.out.trans hk)
  clear hm hmd hdd hq hat hk
  go_wp2_with fail
  refine (HSr.out q3 d3 _ HR3.out).mono ?_
  rintro e w5 ⟨v, rfl, q4, m4, d4, rfl, hm, hmd, hdd, hq, hat, hk⟩
  have hme : M = m4 := by rw [hm, ← HMl.out]
  subst hme
  have HAt := Lib.hid (EnsAt.keep HAt.out hk)
  have HOw := Lib.hid (EnsAt.keep HOw.out hk)
  have HS2 := Lib.hid (EnsAt.keep HS2.out hk)
  have HS4 := Lib.hid (show EnsAt w5 q4 (sortE l) from hat)
  have HS4d := Lib.hid (show M ≤ d4 ∧ d4 ≤ 9223372036854775807 ∧ (q4 = none → M = 0 ∧ d4 = 0) from ⟨hmd, hdd, hq⟩)
  have HK := Lib.hid (HK.out.trans hk)
  clear hm hmd hdd hq hat hk
  go_wp2_with fail
  refine (HSa.out q2 q4 d2 d4 _ HS2.out HS4.out).mono ?_
  rintro e w6 ⟨rfl, hk⟩
  have HAt := Lib.hid (EnsAt.keep HAt.out hk)
  have HOw := Lib.hid (EnsAt.keep HOw.out hk)
  have HS2 := Lib.hid (EnsAt.keep HS2.out hk)
  have HK := Lib.hid (HK.out.trans hk)
  clear hk
  go_wp2_with fail
  refine (HRs.out q2 d2 _ ⟨HMl.out, HS2d.out.1, HS2d.out.2.1, HS2d.out.2.2, HFs.out, HS2.out⟩).mono ?_
  rintro e w7 ⟨rfl, hk⟩
  have HAt := Lib.hid (EnsAt.keep HAt.out hk)
  have HOw := Lib.hid (EnsAt.keep HOw.out hk)
  have HK := Lib.hid (HK.out.trans hk)
  clear hk
  go_wp2_with fail
  refine (HRl.out _ ⟨HLn.out, HCap.out.1, HCap.out.2, HBare.out, HFine.out, HAt.out⟩).mono ?_
  rintro e w8 ⟨rfl, hk⟩
  have HAt := Lib.hid (EnsAt.keep HAt.out hk)
  have HOw := Lib.hid (EnsAt.keep HOw.out hk)
  have HK := Lib.hid (HK.out.trans hk)
  clear hk
  go_wp2_with fail
  refine (HRef.out _ HAt.out).mono ?_
  rintro e w9 ⟨v, rfl, q5, m5, d5, rfl, hm, hmd, hdd, hq, hat, hk⟩
  have hme : n = m5 := by rw [hm, ← HLn.out]
  subst hme
  have HAt := Lib.hid (EnsAt.keep HAt.out hk)
  have HOw := Lib.hid (EnsAt.keep HOw.out hk)
  have HR5 := Lib.hid (show EnsAt w9 q5 l from hat)
  have HR5d := Lib.hid (show n ≤ d5 ∧ d5 ≤ 9223372036854775807 ∧ (q5 = none → n = 0 ∧ d5 = 0) from ⟨hmd, hdd, hq⟩)
  have HK := Lib.hid (HK.out.trans hk)
  clear hm hmd hdd hq hat hk
  go_wp2_with fail
  refine (HRr.out q5 d5 _ HR5.out).mono ?_
  rintro e w10 ⟨rfl, hk⟩
  have HAt := Lib.hid (EnsAt.keep HAt.out hk)
  have HOw := Lib.hid (EnsAt.keep HOw.out hk)
  have HK := Lib.hid (HK.out.trans hk)
  clear hk
  go_wp2_with fail
  go_loopw [40] (fun i wr => ∃ j : Nat, j ≤ n ∧ i = .int .i64 (j : Int) ∧ Hid (Keeps NoBlock w10 wr)) (fun i _ => n - (intOf i).toNat)
  case atStart => exact ⟨0, Nat.zero_le _, rfl, Lib.hid (Keeps.refl _ _)⟩
  case round =>
    obtain ⟨j, hj, rfl, HKr⟩ := hrel
    by_cases hlt : j < n
    · have hdj : decide (j < n) = true := decide_eq_true hlt
      have hdj2 : decide ((j : Int) < (n : Int)) = true := decide_eq_true (by omega)
      have hjl : j < l.length := by rw [← HLn.out]; exact hlt
      obtain ⟨a, rfl, a0, a1⟩ := (EnsAt.keep HAt.out HKr.out).at_ j hjl
      obtain ⟨b, rfl, b0, b1⟩ := (EnsAt.keep HOw.out HKr.out).at_ j hjl
      obtain ⟨r, hr⟩ : ∃ r, r = l.getD j En.none := ⟨_, rfl⟩
      rw [← hr] at a0 a1 b0 b1
      have hne := enNeSelf r
      clear hr hjl
      go_wp2_with fail
      go_quiet (fail)
      go_wp2_with fail
      go_roundw
      case rel => exact ⟨j + 1, by omega, by go_num, Lib.hid (by first | exact HKr.out.drewN _ | exact HKr.out)⟩
      case measure => simp [intOf]; omega
    · have hdj : decide (j < n) = false := decide_eq_false hlt
      have hdj2 : decide ((j : Int) < (n : Int)) = false := decide_eq_false (by omega)
      go_wp2_with fail
      go_ret
      exact ⟨rfl, HK.out.trans HKr.out⟩
end Go.Proofs.Ytbchiccgkhnkaaa

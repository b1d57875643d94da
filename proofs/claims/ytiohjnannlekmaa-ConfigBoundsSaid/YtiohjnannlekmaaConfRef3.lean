/-
  The document's Bounds of a config's segment.
-/
import Derived.Test.YtiohjnannlekmaaConfRef2
namespace Go.Proofs.Ytiohjnannlekmaa
open Go.RowKit

def boundsC (e s n i : Nat) : Nat × Nat × Int := if mayC e s = true then (if s ≤ i ∨ n ≤ i * 2 ^ e then (0, 0, 10) else (i * 2 ^ e, min (i * 2 ^ e + 2 ^ e) n, 0)) else (0, 0, 1)
def boundsOut (t : Nat × Nat × Int) : Value := .tuple #[.int .u64 (t.1 : Int), .int .u64 (t.2.1 : Int), .int .i64 t.2.2]

set_option maxHeartbeats 4000000 in
set_option maxRecDepth 10000 in
theorem bounds_ref (e s n i : Nat) (hn : n < 18446744073709551616) (hi : i < 18446744073709551616) (w : World) : Calls Try.prog 14 #[confV e s, .int .u64 (n : Int), .int .u64 (i : Int)] w fun r w' => r = .returned (boundsOut (boundsC e s n i)) ∧ Keeps NoBlock w w' := by
  have HR := Lib.hid (Whole.new w 24 (confCells e s))
  have HK := Lib.hid ((Keeps.refl NoBlock w).alloc (.cells (confCells e s) 24))
  have HMay := Lib.hid (fun w => may_ref e s w)
  by_cases hm : mayC e s = true
  · have he := (mayC_true.1 hm).2.1
    have hs := (mayC_true.1 hm).2.2.2
    have HSz := Lib.hid (fun w => size8_ref e s he w)
    obtain ⟨q1, q2⟩ := two_e he
    have HC : Hid (boundsC e s n i = if s ≤ i ∨ n ≤ i * 2 ^ e then (0, 0, 10) else (i * 2 ^ e, min (i * 2 ^ e + 2 ^ e) n, 0)) := Lib.hid (by unfold boundsC; rw [if_pos hm])
    rw [hm] at HMay
    obtain ⟨q, hq⟩ : ∃ q, q = 2 ^ e := ⟨_, rfl⟩
    rw [← hq] at HSz HC q1 q2
    clear hq he hm
    unfold confV at HMay HSz
    unfold confV
    by_cases hsi : s ≤ i
    · have d1 : decide ((s : Int) ≤ (i : Int)) = true := decide_eq_true (by omega)
      have HV : Hid (boundsC e s n i = (0, 0, 10)) := Lib.hid (by rw [HC.out, if_pos (.inl hsi)])
      go_enter Try.func14, Try.ntmps14
      go_wp2_with fail
      refine (HMay.out _).mono ?_
      rintro r w1 ⟨rfl, hk⟩
      have HR := Lib.hid (HR.out.keep hk (fun h => h))
      have HK := Lib.hid (HK.out.trans hk)
      clear hk
      have c0 := HR.out.cell 0 rfl
      have c1 := HR.out.cell 1 rfl
      simp only [confCells, List.getElem_toArray, List.getElem_cons_zero, List.getElem_cons_succ] at c0 c1
      go_wp2_with fail
      refine bodyPost_ret (results_tmp3 rfl _ _ _) rfl ?_
      rw [HV.out]
      exact ⟨rfl, HK.out⟩
    · have d1 : decide ((s : Int) ≤ (i : Int)) = false := decide_eq_false (by omega)
      obtain ⟨b, hb⟩ : ∃ b, b = i * q := ⟨_, rfl⟩
      have hb9 : b ≤ 65536 * 16777216 := by rw [hb]; exact Nat.mul_le_mul (by omega) q2
      rw [← hb] at HC
      have e1 : (i : Int) * (q : Int) = (b : Int) := by rw [hb, Int.natCast_mul]
      clear hb
      by_cases hnb : n ≤ b
      · have d2 : decide ((n : Int) ≤ (b : Int)) = true := decide_eq_true (by omega)
        have HV : Hid (boundsC e s n i = (0, 0, 10)) := Lib.hid (by rw [HC.out, if_pos (.inr hnb)])
        go_enter Try.func14, Try.ntmps14
        go_wp2_with fail
        refine (HMay.out _).mono ?_
        rintro r w1 ⟨rfl, hk⟩
        have HR := Lib.hid (HR.out.keep hk (fun h => h))
        have HK := Lib.hid (HK.out.trans hk)
        clear hk
        have c0 := HR.out.cell 0 rfl
        have c1 := HR.out.cell 1 rfl
        simp only [confCells, List.getElem_toArray, List.getElem_cons_zero, List.getElem_cons_succ] at c0 c1
        go_wp2_with fail
        refine (HSz.out _).mono ?_
        rintro r w2 ⟨rfl, hk⟩
        have HR := Lib.hid (HR.out.keep hk (fun h => h))
        have HK := Lib.hid (HK.out.trans hk)
        clear hk c0 c1
        have c0 := HR.out.cell 0 rfl
        have c1 := HR.out.cell 1 rfl
        simp only [confCells, List.getElem_toArray, List.getElem_cons_zero, List.getElem_cons_succ] at c0 c1
        go_wp2_with fail
        refine bodyPost_ret (results_tmp3 rfl _ _ _) rfl ?_
        rw [HV.out]
        exact ⟨rfl, HK.out⟩
      · have d2 : decide ((n : Int) ≤ (b : Int)) = false := decide_eq_false (by omega)
        by_cases hto : n < b + q
        · have d3 : decide ((n : Int) < (b : Int) + (q : Int)) = true := decide_eq_true (by omega)
          have HV : Hid (boundsC e s n i = (b, n, 0)) := Lib.hid (by rw [HC.out, if_neg (by omega), Nat.min_eq_right (by omega)])
          go_enter Try.func14, Try.ntmps14
          go_wp2_with fail
          refine (HMay.out _).mono ?_
          rintro r w1 ⟨rfl, hk⟩
          have HR := Lib.hid (HR.out.keep hk (fun h => h))
          have HK := Lib.hid (HK.out.trans hk)
          clear hk
          have c0 := HR.out.cell 0 rfl
          have c1 := HR.out.cell 1 rfl
          simp only [confCells, List.getElem_toArray, List.getElem_cons_zero, List.getElem_cons_succ] at c0 c1
          go_wp2_with fail
          refine (HSz.out _).mono ?_
          rintro r w2 ⟨rfl, hk⟩
          have HR := Lib.hid (HR.out.keep hk (fun h => h))
          have HK := Lib.hid (HK.out.trans hk)
          clear hk c0 c1
          have c0 := HR.out.cell 0 rfl
          have c1 := HR.out.cell 1 rfl
          simp only [confCells, List.getElem_toArray, List.getElem_cons_zero, List.getElem_cons_succ] at c0 c1
          go_wp2_with fail
          refine (HSz.out _).mono ?_
          rintro r w3 ⟨rfl, hk⟩
          have HR := Lib.hid (HR.out.keep hk (fun h => h))
          have HK := Lib.hid (HK.out.trans hk)
          clear hk c0 c1
          have c0 := HR.out.cell 0 rfl
          have c1 := HR.out.cell 1 rfl
          simp only [confCells, List.getElem_toArray, List.getElem_cons_zero, List.getElem_cons_succ] at c0 c1
          go_wp2_with fail
          refine bodyPost_ret (results_tmp3 rfl _ _ _) rfl ?_
          rw [HV.out]
          exact ⟨rfl, HK.out⟩
        · have d3 : decide ((n : Int) < (b : Int) + (q : Int)) = false := decide_eq_false (by omega)
          have HV : Hid (boundsC e s n i = (b, b + q, 0)) := Lib.hid (by rw [HC.out, if_neg (by omega), Nat.min_eq_left (by omega)])
          go_enter Try.func14, Try.ntmps14
          go_wp2_with fail
          refine (HMay.out _).mono ?_
          rintro r w1 ⟨rfl, hk⟩
          have HR := Lib.hid (HR.out.keep hk (fun h => h))
          have HK := Lib.hid (HK.out.trans hk)
          clear hk
          have c0 := HR.out.cell 0 rfl
          have c1 := HR.out.cell 1 rfl
          simp only [confCells, List.getElem_toArray, List.getElem_cons_zero, List.getElem_cons_succ] at c0 c1
          go_wp2_with fail
          refine (HSz.out _).mono ?_
          rintro r w2 ⟨rfl, hk⟩
          have HR := Lib.hid (HR.out.keep hk (fun h => h))
          have HK := Lib.hid (HK.out.trans hk)
          clear hk c0 c1
          have c0 := HR.out.cell 0 rfl
          have c1 := HR.out.cell 1 rfl
          simp only [confCells, List.getElem_toArray, List.getElem_cons_zero, List.getElem_cons_succ] at c0 c1
          go_wp2_with fail
          refine (HSz.out _).mono ?_
          rintro r w3 ⟨rfl, hk⟩
          have HR := Lib.hid (HR.out.keep hk (fun h => h))
          have HK := Lib.hid (HK.out.trans hk)
          clear hk c0 c1
          have c0 := HR.out.cell 0 rfl
          have c1 := HR.out.cell 1 rfl
          simp only [confCells, List.getElem_toArray, List.getElem_cons_zero, List.getElem_cons_succ] at c0 c1
          go_wp2_with fail
          refine bodyPost_ret (results_tmp3 rfl _ _ _) rfl ?_
          rw [HV.out]
          exact ⟨rfl, HK.out⟩
  · have hmf : mayC e s = false := by simpa using hm
    rw [hmf] at HMay
    have HV : Hid (boundsC e s n i = (0, 0, 1)) := Lib.hid (by unfold boundsC; rw [if_neg hm])
    clear hm hmf
    unfold confV at HMay
    unfold confV
    go_enter Try.func14, Try.ntmps14
    go_wp2_with fail
    refine (HMay.out _).mono ?_
    rintro r w1 ⟨rfl, hk⟩
    have HR := Lib.hid (HR.out.keep hk (fun h => h))
    have HK := Lib.hid (HK.out.trans hk)
    clear hk
    go_wp2_with fail
    refine bodyPost_ret (results_tmp3 rfl _ _ _) rfl ?_
    rw [HV.out]
    exact ⟨rfl, HK.out⟩
end Go.Proofs.Ytiohjnannlekmaa

/-
  Package config's own Count, Bounds and Where; its contracts together.
-/
import Derived.Test.YtiohjnannlekmaaConfOwn
namespace Go.Proofs.Ytiohjnannlekmaa
open Go.RowKit

theorem sizeC_may {e s : Nat} (h : mayC e s = true) : sizeC e s = 2 ^ e := by unfold sizeC; rw [if_pos h]

set_option maxHeartbeats 4000000 in
set_option maxRecDepth 10000 in
theorem count_conf (e s n : Nat) (hn : n < 18446744073709551616) (w : World) : Calls Try.prog 9 #[confV e s, .int .u64 (n : Int)] w fun r w' => r = .returned (got8 (countC e s n)) ∧ Keeps NoBlock w w' := by
  have HR := Lib.hid (Whole.new w 24 (confCells e s))
  have HK := Lib.hid ((Keeps.refl NoBlock w).alloc (.cells (confCells e s) 24))
  have H1 := Lib.hid (fun w => check_conf e s w)
  by_cases hm : mayC e s = true
  · have he := (mayC_true.1 hm).2.1
    have hs := (mayC_true.1 hm).2.2.2
    have HSz := Lib.hid (fun w => size_conf e s w)
    obtain ⟨q1, q2⟩ := two_e he
    obtain ⟨k, m, hk, hmk, hmn, hnm, h0, hsk⟩ := whole_parts (q := 2 ^ e) (n := n) q1
    have HC : Hid (countC e s n = if s * 2 ^ e < n then (0, 7) else if n % 2 ^ e = 0 then (n / 2 ^ e, 0) else (0, 4)) := Lib.hid (by unfold countC; rw [if_pos hm])
    rw [sizeC_may hm] at HSz
    rw [checkC_may hm] at H1
    rw [hk] at HC
    obtain ⟨q, hq⟩ : ∃ q, q = 2 ^ e := ⟨_, rfl⟩
    rw [← hq] at HSz HC hsk h0 q1 q2 hk hmk hnm
    obtain ⟨b, hb⟩ : ∃ b, b = s * q := ⟨_, rfl⟩
    have hb9 : b ≤ 65536 * 16777216 := by rw [hb]; exact Nat.mul_le_mul hs q2
    have hbk := hsk s
    rw [← hb] at HC hbk
    have e1 : (q : Int) * (s : Int) = (b : Int) := by rw [hb, Int.natCast_mul, Int.mul_comm]
    have e2 : (n : Int) / (q : Int) = (k : Int) := by rw [← hk]; exact (Int.natCast_ediv n q).symm
    obtain ⟨r, hr⟩ : ∃ r, r = n % q := ⟨_, rfl⟩
    have e3 : (n : Int) % (q : Int) = (r : Int) := by rw [hr]; exact (Int.natCast_emod n q).symm
    have hr9 : r < q := by rw [hr]; exact Nat.mod_lt _ (by omega)
    rw [← hr] at HC h0
    have wq : IntKind.u64.wrap (q : Int) = (q : Int) := by rw [IntKind.wrap_u64]; omega
    have wb : IntKind.u64.wrap (b : Int) = (b : Int) := by rw [IntKind.wrap_u64]; omega
    have hq0 : ¬ (q : Int) = 0 := by omega
    clear hq hb hr hm he hsk hmk
    unfold confV at H1 HSz
    unfold confV
    by_cases hbn : b < n
    · have d1 : decide ((b : Int) < (n : Int)) = true := decide_eq_true (by omega)
      have HV : Hid (countC e s n = (0, 7)) := Lib.hid (by rw [HC.out, if_pos hbn])
      clear hk h0 hbk
      go_enter Try.func9, Try.ntmps9
      go_wp2_with fail
      refine (H1.out _).mono ?_
      rintro r w1 ⟨rfl, hk⟩
      have HR := Lib.hid (HR.out.keep hk (fun h => h))
      have HK := Lib.hid (HK.out.trans hk)
      clear hk
      have c0 := HR.out.cell 0 rfl
      have c1 := HR.out.cell 1 rfl
      simp only [confCells, List.getElem_toArray, List.getElem_cons_zero, List.getElem_cons_succ] at c0 c1
      go_wp2_with fail
      refine (HSz.out _).mono ?_
      rintro r w2 ⟨rfl, hk⟩
      have HR := Lib.hid (HR.out.keep hk (fun h => h))
      have HK := Lib.hid (HK.out.trans hk)
      clear hk c0 c1
      have c0 := HR.out.cell 0 rfl
      have c1 := HR.out.cell 1 rfl
      simp only [confCells, List.getElem_toArray, List.getElem_cons_zero, List.getElem_cons_succ] at c0 c1
      go_wp2_with fail
      refine bodyPost_ret (results_tmp2 rfl _ _ _) rfl ?_
      rw [HV.out]
      exact ⟨rfl, HK.out⟩
    · have d1 : decide ((b : Int) < (n : Int)) = false := decide_eq_false (by omega)
      have hks : k ≤ s := by
        by_cases h : s < k
        · have := hbk.2 (.inl h); omega
        · omega
      have wk : IntKind.u32.wrap (k : Int) = (k : Int) := by rw [IntKind.wrap_u32]; omega
      have wk6 : IntKind.u64.wrap (k : Int) = (k : Int) := by rw [IntKind.wrap_u64]; omega
      have HV0 : Hid (countC e s n = if r = 0 then (k, 0) else (0, 4)) := Lib.hid (by rw [HC.out, if_neg hbn])
      by_cases hr0 : r = 0
      · have d2 : ((r : Int) != 0) = false := by simp; omega
        have d3 : decide ((r : Int) = 0) = true := decide_eq_true (by omega)
        have HV : Hid (countC e s n = (k, 0)) := Lib.hid (by rw [HV0.out, if_pos hr0])
        clear hk h0 hbk HV0 HC
        subst hr0
        go_enter Try.func9, Try.ntmps9
        go_wp2_with fail
        refine (H1.out _).mono ?_
        rintro r w1 ⟨rfl, hk⟩
        have HR := Lib.hid (HR.out.keep hk (fun h => h))
        have HK := Lib.hid (HK.out.trans hk)
        clear hk
        have c0 := HR.out.cell 0 rfl
        have c1 := HR.out.cell 1 rfl
        simp only [confCells, List.getElem_toArray, List.getElem_cons_zero, List.getElem_cons_succ] at c0 c1
        go_wp2_with fail
        refine (HSz.out _).mono ?_
        rintro r w2 ⟨rfl, hk⟩
        have HR := Lib.hid (HR.out.keep hk (fun h => h))
        have HK := Lib.hid (HK.out.trans hk)
        clear hk c0 c1
        have c0 := HR.out.cell 0 rfl
        have c1 := HR.out.cell 1 rfl
        simp only [confCells, List.getElem_toArray, List.getElem_cons_zero, List.getElem_cons_succ] at c0 c1
        go_wp2_with fail
        refine bodyPost_ret (results_tmp2 rfl _ _ _) rfl ?_
        rw [HV.out]
        exact ⟨rfl, HK.out⟩
      · have d2 : ((r : Int) != 0) = true := by simp; omega
        have d3 : decide ((r : Int) = 0) = false := decide_eq_false (by omega)
        have HV : Hid (countC e s n = (0, 4)) := Lib.hid (by rw [HV0.out, if_neg hr0])
        clear hk h0 hbk HV0 HC
        go_enter Try.func9, Try.ntmps9
        go_wp2_with fail
        refine (H1.out _).mono ?_
        rintro r' w1 ⟨rfl, hk⟩
        have HR := Lib.hid (HR.out.keep hk (fun h => h))
        have HK := Lib.hid (HK.out.trans hk)
        clear hk
        have c0 := HR.out.cell 0 rfl
        have c1 := HR.out.cell 1 rfl
        simp only [confCells, List.getElem_toArray, List.getElem_cons_zero, List.getElem_cons_succ] at c0 c1
        go_wp2_with fail
        refine (HSz.out _).mono ?_
        rintro r' w2 ⟨rfl, hk⟩
        have HR := Lib.hid (HR.out.keep hk (fun h => h))
        have HK := Lib.hid (HK.out.trans hk)
        clear hk c0 c1
        have c0 := HR.out.cell 0 rfl
        have c1 := HR.out.cell 1 rfl
        simp only [confCells, List.getElem_toArray, List.getElem_cons_zero, List.getElem_cons_succ] at c0 c1
        go_wp2_with fail
        refine bodyPost_ret (results_tmp2 rfl _ _ _) rfl ?_
        rw [HV.out]
        exact ⟨rfl, HK.out⟩
  · have hmf : mayC e s = false := by simpa using hm
    have HV : Hid (countC e s n = (0, 1)) := Lib.hid (by unfold countC; rw [if_neg hm])
    rw [checkC_not hmf] at H1
    clear hm hmf
    unfold confV at H1
    unfold confV
    go_enter Try.func9, Try.ntmps9
    go_wp2_with fail
    refine (H1.out _).mono ?_
    rintro r w1 ⟨rfl, hk⟩
    have HK := Lib.hid (HK.out.trans hk)
    clear hk
    go_wp2_with fail
    refine bodyPost_ret (results_tmp2 rfl _ _ _) rfl ?_
    rw [HV.out]
    exact ⟨rfl, HK.out⟩

set_option maxHeartbeats 4000000 in
set_option maxRecDepth 10000 in
theorem bounds_conf (e s n i : Nat) (hi : i < 18446744073709551616) (w : World) : Calls Try.prog 13 #[confV e s, .int .u64 (n : Int), .int .u64 (i : Int)] w fun r w' => r = .returned (boundsOut (boundsC e s n i)) ∧ Keeps NoBlock w w' := by
  have HR := Lib.hid (Whole.new w 24 (confCells e s))
  have HK := Lib.hid ((Keeps.refl NoBlock w).alloc (.cells (confCells e s) 24))
  have H1 := Lib.hid (fun w => check_conf e s w)
  by_cases hm : mayC e s = true
  · have he := (mayC_true.1 hm).2.1
    have hs := (mayC_true.1 hm).2.2.2
    have HSz := Lib.hid (fun w => size_conf e s w)
    obtain ⟨q1, q2⟩ := two_e he
    have HC : Hid (boundsC e s n i = if s ≤ i ∨ n ≤ i * 2 ^ e then (0, 0, 10) else (i * 2 ^ e, min (i * 2 ^ e + 2 ^ e) n, 0)) := Lib.hid (by unfold boundsC; rw [if_pos hm])
    rw [sizeC_may hm] at HSz
    rw [checkC_may hm] at H1
    obtain ⟨q, hq⟩ : ∃ q, q = 2 ^ e := ⟨_, rfl⟩
    rw [← hq] at HSz HC q1 q2
    have wq : IntKind.u64.wrap (q : Int) = (q : Int) := by rw [IntKind.wrap_u64]; omega
    clear hq he hm
    unfold confV at H1 HSz
    unfold confV
    by_cases hsi : s ≤ i
    · have d1 : decide ((s : Int) ≤ (i : Int)) = true := decide_eq_true (by omega)
      have HV : Hid (boundsC e s n i = (0, 0, 10)) := Lib.hid (by rw [HC.out, if_pos (.inl hsi)])
      go_enter Try.func13, Try.ntmps13
      go_wp2_with fail
      refine (H1.out _).mono ?_
      rintro r w1 ⟨rfl, hk⟩
      have HR := Lib.hid (HR.out.keep hk (fun h => h))
      have HK := Lib.hid (HK.out.trans hk)
      clear hk
      have c0 := HR.out.cell 0 rfl
      have c1 := HR.out.cell 1 rfl
      simp only [confCells, List.getElem_toArray, List.getElem_cons_zero, List.getElem_cons_succ] at c0 c1
      go_wp2_with fail
      refine bodyPost_ret (results_tmp3 rfl _ _ _) rfl ?_
      rw [HV.out]
      exact ⟨rfl, HK.out⟩
    · have d1 : decide ((s : Int) ≤ (i : Int)) = false := decide_eq_false (by omega)
      obtain ⟨b, hb⟩ : ∃ b, b = i * q := ⟨_, rfl⟩
      have hb9 : b ≤ 65536 * 16777216 := by rw [hb]; exact Nat.mul_le_mul (by omega) q2
      rw [← hb] at HC
      have e1 : (i : Int) * (q : Int) = (b : Int) := by rw [hb, Int.natCast_mul]
      have wb : IntKind.u64.wrap (b : Int) = (b : Int) := by rw [IntKind.wrap_u64]; omega
      have wbq : IntKind.u64.wrap ((b : Int) + (q : Int)) = (b : Int) + (q : Int) := by rw [IntKind.wrap_u64]; omega
      clear hb
      by_cases hnb : n ≤ b
      · have d2 : decide ((n : Int) ≤ (b : Int)) = true := decide_eq_true (by omega)
        have HV : Hid (boundsC e s n i = (0, 0, 10)) := Lib.hid (by rw [HC.out, if_pos (.inr hnb)])
        go_enter Try.func13, Try.ntmps13
        go_wp2_with fail
        refine (H1.out _).mono ?_
        rintro r w1 ⟨rfl, hk⟩
        have HR := Lib.hid (HR.out.keep hk (fun h => h))
        have HK := Lib.hid (HK.out.trans hk)
        clear hk
        have c0 := HR.out.cell 0 rfl
        have c1 := HR.out.cell 1 rfl
        simp only [confCells, List.getElem_toArray, List.getElem_cons_zero, List.getElem_cons_succ] at c0 c1
        go_wp2_with fail
        refine (HSz.out _).mono ?_
        rintro r w2 ⟨rfl, hk⟩
        have HR := Lib.hid (HR.out.keep hk (fun h => h))
        have HK := Lib.hid (HK.out.trans hk)
        clear hk c0 c1
        go_wp2_with fail
        refine bodyPost_ret (results_tmp3 rfl _ _ _) rfl ?_
        rw [HV.out]
        exact ⟨rfl, HK.out⟩
      · have d2 : decide ((n : Int) ≤ (b : Int)) = false := decide_eq_false (by omega)
        have HV0 : Hid (boundsC e s n i = (b, min (b + q) n, 0)) := Lib.hid (by rw [HC.out, if_neg (by omega)])
        by_cases hto : ¬ b + q ≤ n
        · have d3 : ¬ (b : Int) + (q : Int) ≤ (n : Int) := by omega
          have HV : Hid (boundsC e s n i = (b, n, 0)) := Lib.hid (by rw [HV0.out, Nat.min_eq_right (by omega)])
          clear HV0 HC
          go_enter Try.func13, Try.ntmps13
          go_wp2_with fail
          refine (H1.out _).mono ?_
          rintro r w1 ⟨rfl, hk⟩
          have HR := Lib.hid (HR.out.keep hk (fun h => h))
          have HK := Lib.hid (HK.out.trans hk)
          clear hk
          have c0 := HR.out.cell 0 rfl
          have c1 := HR.out.cell 1 rfl
          simp only [confCells, List.getElem_toArray, List.getElem_cons_zero, List.getElem_cons_succ] at c0 c1
          go_wp2_with fail
          refine (HSz.out _).mono ?_
          rintro r w2 ⟨rfl, hk⟩
          have HR := Lib.hid (HR.out.keep hk (fun h => h))
          have HK := Lib.hid (HK.out.trans hk)
          clear hk c0 c1
          go_wp2_with fail
          refine bodyPost_ret (results_tmp3 rfl _ _ _) rfl ?_
          rw [HV.out]
          exact ⟨rfl, HK.out⟩
        · have d4 : (b : Int) + (q : Int) ≤ (n : Int) := by omega
          have HV : Hid (boundsC e s n i = (b, b + q, 0)) := Lib.hid (by rw [HV0.out, Nat.min_eq_left (by omega)])
          clear HV0 HC
          go_enter Try.func13, Try.ntmps13
          go_wp2_with fail
          refine (H1.out _).mono ?_
          rintro r w1 ⟨rfl, hk⟩
          have HR := Lib.hid (HR.out.keep hk (fun h => h))
          have HK := Lib.hid (HK.out.trans hk)
          clear hk
          have c0 := HR.out.cell 0 rfl
          have c1 := HR.out.cell 1 rfl
          simp only [confCells, List.getElem_toArray, List.getElem_cons_zero, List.getElem_cons_succ] at c0 c1
          go_wp2_with fail
          refine (HSz.out _).mono ?_
          rintro r w2 ⟨rfl, hk⟩
          have HR := Lib.hid (HR.out.keep hk (fun h => h))
          have HK := Lib.hid (HK.out.trans hk)
          clear hk c0 c1
          go_wp2_with fail
          refine bodyPost_ret (results_tmp3 rfl _ _ _) rfl ?_
          rw [HV.out]
          exact ⟨rfl, HK.out⟩
  · have hmf : mayC e s = false := by simpa using hm
    have HV : Hid (boundsC e s n i = (0, 0, 1)) := Lib.hid (by unfold boundsC; rw [if_neg hm])
    rw [checkC_not hmf] at H1
    clear hm hmf
    unfold confV at H1
    unfold confV
    go_enter Try.func13, Try.ntmps13
    go_wp2_with fail
    refine (H1.out _).mono ?_
    rintro r w1 ⟨rfl, hk⟩
    have HK := Lib.hid (HK.out.trans hk)
    clear hk
    go_wp2_with fail
    refine bodyPost_ret (results_tmp3 rfl _ _ _) rfl ?_
    rw [HV.out]
    exact ⟨rfl, HK.out⟩

set_option maxHeartbeats 4000000 in
set_option maxRecDepth 10000 in
theorem where_conf (e s x : Nat) (hx : x < 18446744073709551616) (w : World) : Calls Try.prog 15 #[confV e s, .int .u64 (x : Int)] w fun r w' => r = .returned (boundsOut (whereC e s x)) ∧ Keeps NoBlock w w' := by
  have HR := Lib.hid (Whole.new w 24 (confCells e s))
  have HK := Lib.hid ((Keeps.refl NoBlock w).alloc (.cells (confCells e s) 24))
  have H1 := Lib.hid (fun w => check_conf e s w)
  by_cases hm : mayC e s = true
  · have he := (mayC_true.1 hm).2.1
    have hs := (mayC_true.1 hm).2.2.2
    have HSz := Lib.hid (fun w => size_conf e s w)
    obtain ⟨q1, q2⟩ := two_e he
    have HC : Hid (whereC e s x = if x / 2 ^ e < s then (x / 2 ^ e, x % 2 ^ e, 0) else (0, 0, 10)) := Lib.hid (by unfold whereC; rw [if_pos hm])
    rw [sizeC_may hm] at HSz
    rw [checkC_may hm] at H1
    obtain ⟨q, hq⟩ : ∃ q, q = 2 ^ e := ⟨_, rfl⟩
    rw [← hq] at HSz HC q1 q2
    have wq : IntKind.u64.wrap (q : Int) = (q : Int) := by rw [IntKind.wrap_u64]; omega
    have hq0 : ¬ (q : Int) = 0 := by omega
    obtain ⟨k, hk⟩ : ∃ k, k = x / q := ⟨_, rfl⟩
    obtain ⟨m, hmk⟩ : ∃ m, m = x % q := ⟨_, rfl⟩
    have hkx : k ≤ x := by rw [hk]; exact Nat.div_le_self _ _
    have hmq : m < q := by rw [hmk]; exact Nat.mod_lt _ (by omega)
    have e2 : (x : Int) / (q : Int) = (k : Int) := by rw [hk]; exact (Int.natCast_ediv x q).symm
    have e3 : (x : Int) % (q : Int) = (m : Int) := by rw [hmk]; exact (Int.natCast_emod x q).symm
    have wk : IntKind.u64.wrap (k : Int) = (k : Int) := by rw [IntKind.wrap_u64]; omega
    have wm : IntKind.u64.wrap (m : Int) = (m : Int) := by rw [IntKind.wrap_u64]; omega
    rw [← hk, ← hmk] at HC
    clear hq he hm hk hmk
    unfold confV at H1 HSz
    unfold confV
    by_cases hks : k < s
    · have d1 : decide ((s : Int) ≤ (k : Int)) = false := decide_eq_false (by omega)
      have HV : Hid (whereC e s x = (k, m, 0)) := Lib.hid (by rw [HC.out, if_pos hks])
      clear HC
      go_enter Try.func15, Try.ntmps15
      go_wp2_with fail
      refine (H1.out _).mono ?_
      rintro r w1 ⟨rfl, hk⟩
      have HR := Lib.hid (HR.out.keep hk (fun h => h))
      have HK := Lib.hid (HK.out.trans hk)
      clear hk
      have c0 := HR.out.cell 0 rfl
      have c1 := HR.out.cell 1 rfl
      simp only [confCells, List.getElem_toArray, List.getElem_cons_zero, List.getElem_cons_succ] at c0 c1
      go_wp2_with fail
      refine (HSz.out _).mono ?_
      rintro r w2 ⟨rfl, hk⟩
      have HR := Lib.hid (HR.out.keep hk (fun h => h))
      have HK := Lib.hid (HK.out.trans hk)
      clear hk c0 c1
      have c0 := HR.out.cell 0 rfl
      have c1 := HR.out.cell 1 rfl
      simp only [confCells, List.getElem_toArray, List.getElem_cons_zero, List.getElem_cons_succ] at c0 c1
      go_wp2_with fail
      go_region
      go_wp2_with fail
      refine bodyPost_ret (results_tmp3 rfl _ _ _) rfl ?_
      have hv : boundsOut (k, m, 0) = .tuple #[.int .u64 (k : Int), .int .u64 ((x : Int) % (q : Int)), .int .i64 0] := by rw [e3]; rfl
      rw [HV.out, hv]
      exact ⟨rfl, HK.out.drew⟩
    · have d1 : decide ((s : Int) ≤ (k : Int)) = true := decide_eq_true (by omega)
      have HV : Hid (whereC e s x = (0, 0, 10)) := Lib.hid (by rw [HC.out, if_neg hks])
      clear HC
      go_enter Try.func15, Try.ntmps15
      go_wp2_with fail
      refine (H1.out _).mono ?_
      rintro r w1 ⟨rfl, hk⟩
      have HR := Lib.hid (HR.out.keep hk (fun h => h))
      have HK := Lib.hid (HK.out.trans hk)
      clear hk
      have c0 := HR.out.cell 0 rfl
      have c1 := HR.out.cell 1 rfl
      simp only [confCells, List.getElem_toArray, List.getElem_cons_zero, List.getElem_cons_succ] at c0 c1
      go_wp2_with fail
      refine (HSz.out _).mono ?_
      rintro r w2 ⟨rfl, hk⟩
      have HR := Lib.hid (HR.out.keep hk (fun h => h))
      have HK := Lib.hid (HK.out.trans hk)
      clear hk c0 c1
      have c0 := HR.out.cell 0 rfl
      have c1 := HR.out.cell 1 rfl
      simp only [confCells, List.getElem_toArray, List.getElem_cons_zero, List.getElem_cons_succ] at c0 c1
      go_wp2_with fail
      refine bodyPost_ret (results_tmp3 rfl _ _ _) rfl ?_
      rw [HV.out]
      exact ⟨rfl, HK.out⟩
  · have hmf : mayC e s = false := by simpa using hm
    have HV : Hid (whereC e s x = (0, 0, 1)) := Lib.hid (by unfold whereC; rw [if_neg hm])
    rw [checkC_not hmf] at H1
    clear hm hmf
    unfold confV at H1
    unfold confV
    go_enter Try.func15, Try.ntmps15
    go_wp2_with fail
    refine (H1.out _).mono ?_
    rintro r w1 ⟨rfl, hk⟩
    have HK := Lib.hid (HK.out.trans hk)
    clear hk
    go_wp2_with fail
    refine bodyPost_ret (results_tmp3 rfl _ _ _) rfl ?_
    rw [HV.out]
    exact ⟨rfl, HK.out⟩

theorem conf_ok : ConfOk := ⟨fun e s w _ _ => check_conf e s w, fun e s w _ _ => size_conf e s w, fun e s n w _ _ hn => count_conf e s n hn w, fun e s n i w _ _ _ hi => bounds_conf e s n i hi w, fun e s x w _ _ hx => where_conf e s x hx w⟩
end Go.Proofs.Ytiohjnannlekmaa

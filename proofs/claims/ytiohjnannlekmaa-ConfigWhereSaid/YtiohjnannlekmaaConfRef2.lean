/-
  The document's Count of a config.
-/
import Derived.Test.YtiohjnannlekmaaConfRef
namespace Go.Proofs.Ytiohjnannlekmaa
open Go.RowKit

def countC (e s n : Nat) : Nat × Int := if mayC e s = true then (if s * 2 ^ e < n then (0, 7) else if n % 2 ^ e = 0 then (n / 2 ^ e, 0) else (0, 4)) else (0, 1)

/-- How n bytes lie to a segment's: k whole ones, m bytes. -/
theorem whole_parts {q n : Nat} (hq : 1 ≤ q) : ∃ k m : Nat, n / q = k ∧ m = k * q ∧ m ≤ n ∧ n < m + q ∧ (n % q = 0 ↔ m = n) ∧ ∀ s, (s * q < n ↔ s < k ∨ s = k ∧ m < n) := by
  have h := Nat.div_add_mod n q
  have hr := Nat.mod_lt n (show 0 < q by omega)
  have hc : q * (n / q) = n / q * q := Nat.mul_comm _ _
  refine ⟨n / q, n / q * q, rfl, rfl, by omega, by omega, by omega, fun s => ?_⟩
  rcases Nat.lt_trichotomy s (n / q) with hs | hs | hs
  · have : (s + 1) * q ≤ n / q * q := Nat.mul_le_mul_right q hs
    rw [Nat.succ_mul] at this
    constructor
    · intro _; exact .inl hs
    · intro _; omega
  · rw [hs]
    constructor
    · intro h; exact .inr ⟨rfl, h⟩
    · rintro (h | ⟨_, h⟩)
      · omega
      · exact h
  · have : (n / q + 1) * q ≤ s * q := Nat.mul_le_mul_right q hs
    rw [Nat.succ_mul] at this
    constructor
    · intro h; omega
    · rintro (h | ⟨h, _⟩) <;> omega

def countOut (t : Nat × Int) : Value := .tuple #[.int .u64 (t.1 : Int), .int .i64 t.2]
set_option maxHeartbeats 4000000 in
set_option maxRecDepth 10000 in
theorem count_ref (e s n : Nat) (hs : s < 4294967296) (hn : n < 18446744073709551616) (w : World) : Calls Try.prog 10 #[confV e s, .int .u64 (n : Int)] w fun r w' => r = .returned (countOut (countC e s n)) ∧ Keeps NoBlock w w' := by
  have HR := Lib.hid (Whole.new w 24 (confCells e s))
  have HK := Lib.hid ((Keeps.refl NoBlock w).alloc (.cells (confCells e s) 24))
  have HMay := Lib.hid (fun w => may_ref e s w)
  by_cases hm : mayC e s = true
  · have he := (mayC_true.1 hm).2.1
    have HSz := Lib.hid (fun w => size8_ref e s he w)
    obtain ⟨q1, q2⟩ := two_e he
    obtain ⟨k, m, hk, hmk, hmn, hnm, h0, hsk⟩ := whole_parts (q := 2 ^ e) (n := n) q1
    have HC : Hid (countC e s n = if s * 2 ^ e < n then (0, 7) else if n % 2 ^ e = 0 then (n / 2 ^ e, 0) else (0, 4)) := Lib.hid (by unfold countC; rw [if_pos hm])
    rw [hm] at HMay
    rw [hk] at HC
    have HSK := Lib.hid (hsk s)
    have H0 := Lib.hid h0
    obtain ⟨q, hq⟩ : ∃ q, q = 2 ^ e := ⟨_, rfl⟩
    rw [← hq] at HSz HC HSK H0 q1 q2 hk hmk hnm
    have e1 : (n : Int) / (q : Int) = (k : Int) := by rw [← hk]; exact (Int.natCast_ediv n q).symm
    have e2 : (k : Int) * (q : Int) = (m : Int) := by rw [hmk, Int.natCast_mul]
    have wk : IntKind.u64.wrap (k : Int) = (k : Int) := by
      have : k ≤ n := by rw [← hk]; exact Nat.div_le_self _ _
      rw [IntKind.wrap_u64]; omega
    have wm : IntKind.u64.wrap (m : Int) = (m : Int) := by rw [IntKind.wrap_u64]; omega
    clear h0 hsk hq hk hmk he hm
    unfold confV at HMay HSz
    unfold confV
    go_enter Try.func10, Try.ntmps10
    go_wp2_with fail
    refine (HMay.out _).mono ?_
    rintro r w1 ⟨rfl, hk⟩
    have HR := Lib.hid (HR.out.keep hk (fun h => h))
    have HK := Lib.hid (HK.out.trans hk)
    have c0 := HR.out.cell 0 rfl
    have c1 := HR.out.cell 1 rfl
    simp only [confCells, List.getElem_toArray, List.getElem_cons_zero, List.getElem_cons_succ] at c0 c1
    clear hk
    go_wp2_with fail
    refine (HSz.out _).mono ?_
    rintro r w2 ⟨rfl, hk⟩
    have HR := Lib.hid (HR.out.keep hk (fun h => h))
    have HK := Lib.hid (HK.out.trans hk)
    clear c0 c1 hk
    have c0 := HR.out.cell 0 rfl
    have c1 := HR.out.cell 1 rfl
    simp only [confCells, List.getElem_toArray, List.getElem_cons_zero, List.getElem_cons_succ] at c0 c1
    rcases Nat.lt_trichotomy s k with h | h | h
    · have d1 : decide ((s : Int) < (k : Int)) = true := decide_eq_true (by omega)
      have HV : Hid (countC e s n = (0, 7)) := Lib.hid (by rw [HC.out]; rw [if_pos (HSK.out.2 (.inl h))])
      go_wp2_with fail
      refine bodyPost_ret (results_tmp2 rfl _ _ _) rfl ?_
      rw [HV.out]
      exact ⟨rfl, HK.out⟩
    · subst h
      have d1 : decide ((s : Int) < (s : Int)) = false := decide_eq_false (by omega)
      have d2 : ((s : Int) == (s : Int)) = true := by simp
      by_cases hmn' : m < n
      · have d3 : decide ((m : Int) < (n : Int)) = true := decide_eq_true (by omega)
        have HV : Hid (countC e s n = (0, 7)) := Lib.hid (by rw [HC.out]; rw [if_pos (HSK.out.2 (.inr ⟨rfl, hmn'⟩))])
        go_wp2_with fail
        refine (HSz.out _).mono ?_
        rintro r w3 ⟨rfl, hk⟩
        have HR := Lib.hid (HR.out.keep hk (fun h => h))
        have HK := Lib.hid (HK.out.trans hk)
        clear c0 c1 hk
        have c0 := HR.out.cell 0 rfl
        have c1 := HR.out.cell 1 rfl
        simp only [confCells, List.getElem_toArray, List.getElem_cons_zero, List.getElem_cons_succ] at c0 c1
        go_wp2_with fail
        refine bodyPost_ret (results_tmp2 rfl _ _ _) rfl ?_
        rw [HV.out]
        exact ⟨rfl, HK.out⟩
      · have d3 : decide ((m : Int) < (n : Int)) = false := decide_eq_false (by omega)
        have d4 : ((m : Int) != (n : Int)) = false := by simp; omega
        have d5 : decide ((m : Int) = (n : Int)) = true := decide_eq_true (by omega)
        have HV : Hid (countC e s n = (s, 0)) := Lib.hid (by rw [HC.out]; rw [if_neg (fun hh => by have := HSK.out.1 hh; omega), if_pos (H0.out.2 (by omega))])
        go_wp2_with fail
        refine (HSz.out _).mono ?_
        rintro r w3 ⟨rfl, hk⟩
        have HR := Lib.hid (HR.out.keep hk (fun h => h))
        have HK := Lib.hid (HK.out.trans hk)
        clear c0 c1 hk
        have c0 := HR.out.cell 0 rfl
        have c1 := HR.out.cell 1 rfl
        simp only [confCells, List.getElem_toArray, List.getElem_cons_zero, List.getElem_cons_succ] at c0 c1
        go_wp2_with fail
        refine (HSz.out _).mono ?_
        rintro r w3 ⟨rfl, hk⟩
        have HR := Lib.hid (HR.out.keep hk (fun h => h))
        have HK := Lib.hid (HK.out.trans hk)
        clear c0 c1 hk
        have c0 := HR.out.cell 0 rfl
        have c1 := HR.out.cell 1 rfl
        simp only [confCells, List.getElem_toArray, List.getElem_cons_zero, List.getElem_cons_succ] at c0 c1
        go_wp2_with fail
        refine bodyPost_ret (results_tmp2 rfl _ _ _) rfl ?_
        rw [HV.out]
        exact ⟨rfl, HK.out⟩
    · have d1 : decide ((s : Int) < (k : Int)) = false := decide_eq_false (by omega)
      have d2 : ((k : Int) == (s : Int)) = false := by simp; omega
      by_cases hmn' : m < n
      · have d4 : ((m : Int) != (n : Int)) = true := by simp; omega
        have d5 : decide ((m : Int) = (n : Int)) = false := decide_eq_false (by omega)
        have HV : Hid (countC e s n = (0, 4)) := Lib.hid (by rw [HC.out]; rw [if_neg (fun hh => by have := HSK.out.1 hh; omega), if_neg (fun hh => by have := H0.out.1 hh; omega)])
        go_wp2_with fail
        refine (HSz.out _).mono ?_
        rintro r w3 ⟨rfl, hk⟩
        have HR := Lib.hid (HR.out.keep hk (fun h => h))
        have HK := Lib.hid (HK.out.trans hk)
        clear c0 c1 hk
        have c0 := HR.out.cell 0 rfl
        have c1 := HR.out.cell 1 rfl
        simp only [confCells, List.getElem_toArray, List.getElem_cons_zero, List.getElem_cons_succ] at c0 c1
        go_wp2_with fail
        refine bodyPost_ret (results_tmp2 rfl _ _ _) rfl ?_
        rw [HV.out]
        exact ⟨rfl, HK.out⟩
      · have d4 : ((m : Int) != (n : Int)) = false := by simp; omega
        have d5 : decide ((m : Int) = (n : Int)) = true := decide_eq_true (by omega)
        have HV : Hid (countC e s n = (k, 0)) := Lib.hid (by rw [HC.out]; rw [if_neg (fun hh => by have := HSK.out.1 hh; omega), if_pos (H0.out.2 (by omega))])
        go_wp2_with fail
        refine (HSz.out _).mono ?_
        rintro r w3 ⟨rfl, hk⟩
        have HR := Lib.hid (HR.out.keep hk (fun h => h))
        have HK := Lib.hid (HK.out.trans hk)
        clear c0 c1 hk
        have c0 := HR.out.cell 0 rfl
        have c1 := HR.out.cell 1 rfl
        simp only [confCells, List.getElem_toArray, List.getElem_cons_zero, List.getElem_cons_succ] at c0 c1
        go_wp2_with fail
        refine bodyPost_ret (results_tmp2 rfl _ _ _) rfl ?_
        rw [HV.out]
        exact ⟨rfl, HK.out⟩
  · have hmf : mayC e s = false := by simpa using hm
    rw [hmf] at HMay
    have HV : Hid (countC e s n = (0, 1)) := Lib.hid (by unfold countC; rw [if_neg hm])
    clear hm hmf
    unfold confV at HMay
    unfold confV
    go_enter Try.func10, Try.ntmps10
    go_wp2_with fail
    refine (HMay.out _).mono ?_
    rintro r w1 ⟨rfl, hk⟩
    have HK := Lib.hid (HK.out.trans hk)
    clear hk
    go_wp2_with fail
    refine bodyPost_ret (results_tmp2 rfl _ _ _) rfl ?_
    rw [HV.out]
    exact ⟨rfl, HK.out⟩
end Go.Proofs.Ytiohjnannlekmaa

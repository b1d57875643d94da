/-
  The law ConfigWhere: its walk.
-/
import Derived.Test.YtiohjnannlekmaaConfLaws
namespace Go.Proofs.Ytiohjnannlekmaa
open Go.RowKit

/-- Of a segment behind x, or ahead of it: x is not within its bounds. -/
theorem bounds_out {e s n i k x u v : Nat} {g : Int} (hq : 1 ≤ 2 ^ e) (hk : x / 2 ^ e = k) (hi : i ≠ k) (hb : boundsC e s n i = (u, v, g)) : g ≠ 0 ∨ x < u ∨ v ≤ x := by
  obtain ⟨k', m, h1, h2, h3, h4, _, _⟩ := whole_parts (q := 2 ^ e) (n := x) hq
  rw [hk] at h1
  subst h1
  obtain ⟨q, hqq⟩ : ∃ q, q = 2 ^ e := ⟨_, rfl⟩
  unfold boundsC at hb
  rw [← hqq] at hb h2 h4 hq
  by_cases hm : mayC e s = true
  · rw [if_pos hm] at hb
    by_cases h5 : s ≤ i ∨ n ≤ i * q
    · rw [if_pos h5] at hb
      simp only [Prod.mk.injEq] at hb
      exact .inl (by omega)
    · rw [if_neg h5] at hb
      simp only [Prod.mk.injEq] at hb
      obtain ⟨rfl, rfl, rfl⟩ := hb
      rcases Nat.lt_or_gt_of_ne hi with h6 | h6
      · have : (i + 1) * q ≤ k * q := Nat.mul_le_mul_right q h6
        rw [Nat.succ_mul] at this
        exact .inr (.inr (by omega))
      · have : (k + 1) * q ≤ i * q := Nat.mul_le_mul_right q h6
        rw [Nat.succ_mul] at this
        exact .inr (.inl (by omega))
  · rw [if_neg hm] at hb
    simp only [Prod.mk.injEq] at hb
    exact .inl (by omega)

set_option maxHeartbeats 8000000 in
set_option maxRecDepth 10000 in
theorem where8_walk (H : ConfOk) (e s n x o : Nat) (he : e < 256) (hs : s < 4294967296) (hn : n < 18446744073709551616) (hx : x < 18446744073709551616) (ho : o < 18446744073709551616) (w : World) :
    Calls Try.prog 5 #[confV e s, .int .u64 (n : Int), .int .u64 (x : Int), .int .u64 (o : Int)] w fun e w' => e = .returned (.bool true) ∧ Keeps NoBlock w w' := by
  have HLv := Lib.hid (fun w => lives8_true H w)
  have HW := Lib.hid (fun w => H.where_ e s x w he hs hx)
  have HC := Lib.hid (fun w => H.check e s w he hs)
  have HS := Lib.hid (fun w => H.size e s w he hs)
  have HR := Lib.hid (Whole.new w 24 (confCells e s))
  have HK := Lib.hid ((Keeps.refl NoBlock w).alloc (.cells (confCells e s) 24))
  unfold confV boundsOut whereC at HW
  unfold confV checkC at HC
  unfold confV sizeC at HS
  by_cases hm : mayC e s = true
  · rw [if_pos hm] at HW HC HS
    obtain ⟨q1, q2⟩ := two_e (mayC_true.1 hm).2.1
    by_cases hw : x / 2 ^ e < s
    · rw [if_pos hw] at HW
      obtain ⟨k, m, h1, h2, h3, h4, _, _⟩ := whole_parts (q := 2 ^ e) (n := x) q1
      have hr : x % 2 ^ e = x - m := by
        have := Nat.div_add_mod x (2 ^ e)
        rw [h1, Nat.mul_comm, ← h2] at this
        omega
      rw [h1, hr] at HW
      rw [h1] at hw
      obtain ⟨r, hrm⟩ : ∃ r, r = x - m := ⟨_, rfl⟩
      rw [← hrm] at HW
      have HB1 := Lib.hid (fun w => H.bounds e s n k w he hs hn (by have := Nat.div_le_self x (2 ^ e); omega))
      have HB2 := Lib.hid (fun w => H.bounds e s n o w he hs hn ho)
      have hout : ∀ u v g, boundsC e s n o = (u, v, g) → o ≠ k → g ≠ 0 ∨ x < u ∨ v ≤ x := fun u v g hb hok => bounds_out q1 h1 hok hb
      have hin : x < n → boundsC e s n k = (m, min (m + 2 ^ e) n, 0) := fun h => by
        unfold boundsC
        rw [if_pos hm, ← h2, if_neg (by omega)]
      obtain ⟨q, hq⟩ : ∃ q, q = 2 ^ e := ⟨_, rfl⟩
      rw [← hq] at HS q1 q2 h4 hin
      have dq : decide ((q : Int) ≤ (r : Int)) = false := decide_eq_false (by omega)
      have dqn : decide (q ≤ r) = false := decide_eq_false (by omega)
      by_cases hxn : n ≤ x
      · have d1 : decide ((n : Int) ≤ (x : Int)) = true := decide_eq_true (by omega)
        have d1n : decide (n ≤ x) = true := decide_eq_true (by omega)
        clear H he hs hn hx ho h1 h2 hr hw hout hin hq hm hrm
        unfold confV
        go_enter Try.func5, Try.ntmps5
        go_wp2_with fail
        refine (HLv.out _).mono ?_
        rintro r9 w1 ⟨rfl, hk⟩
        have HR := Lib.hid (HR.out.keep hk (fun h => h))
        have HK := Lib.hid (HK.out.trans hk)
        clear hk
        have c0 := HR.out.cell 0 rfl
        have c1 := HR.out.cell 1 rfl
        simp only [confCells, List.getElem_toArray, List.getElem_cons_zero, List.getElem_cons_succ] at c0 c1
        go_wp2_with fail
        refine (HW.out _).mono ?_
        rintro r9 w2 ⟨rfl, hk⟩
        have HR := Lib.hid (HR.out.keep hk (fun h => h))
        have HK := Lib.hid (HK.out.trans hk)
        clear hk c0 c1
        have c0 := HR.out.cell 0 rfl
        have c1 := HR.out.cell 1 rfl
        simp only [confCells, List.getElem_toArray, List.getElem_cons_zero, List.getElem_cons_succ] at c0 c1
        go_wp2_with fail
        refine (HS.out _).mono ?_
        rintro r9 w3 ⟨rfl, hk⟩
        have HR := Lib.hid (HR.out.keep hk (fun h => h))
        have HK := Lib.hid (HK.out.trans hk)
        clear hk c0 c1
        have c0 := HR.out.cell 0 rfl
        have c1 := HR.out.cell 1 rfl
        simp only [confCells, List.getElem_toArray, List.getElem_cons_zero, List.getElem_cons_succ] at c0 c1
        go_wp2_with fail
        go_ret
        exact ⟨rfl, HK.out⟩
      · have d1 : decide ((n : Int) ≤ (x : Int)) = false := decide_eq_false (by omega)
        have d1n : decide (n ≤ x) = false := decide_eq_false (by omega)
        rw [hin (by omega)] at HB1
        obtain ⟨t, htt⟩ : ∃ t, t = min (m + q) n := ⟨_, rfl⟩
        rw [← htt] at HB1
        have d2 : decide ((x : Int) < (m : Int)) = false := decide_eq_false (by omega)
        have d2n : decide (x < m) = false := decide_eq_false (by omega)
        have d3 : decide ((t : Int) ≤ (x : Int)) = false := decide_eq_false (by omega)
        have d3n : decide (t ≤ x) = false := decide_eq_false (by omega)
        have e1 : (x : Int) - (m : Int) = (r : Int) := by omega
        have e2 : IntKind.u64.wrap (r : Int) = (r : Int) := by rw [IntKind.wrap_u64]; omega
        obtain ⟨u, v, g, hb⟩ : ∃ u v g, boundsC e s n o = (u, v, g) := ⟨_, _, _, rfl⟩
        have hd := hout u v g hb
        rw [hb] at HB2
        unfold confV boundsOut at HB1 HB2
        unfold confV
        clear H he hs hn ho h1 h2 hr hw hout hin hq hm hb htt hrm
        by_cases hok : o = k
        · subst hok
          clear hd
          have d5 : ((o : Int) == (o : Int)) = true := by simp
          go_enter Try.func5, Try.ntmps5
          go_wp2_with fail
          refine (HLv.out _).mono ?_
          rintro r9 w1 ⟨rfl, hk⟩
          have HR := Lib.hid (HR.out.keep hk (fun h => h))
          have HK := Lib.hid (HK.out.trans hk)
          clear hk
          have c0 := HR.out.cell 0 rfl
          have c1 := HR.out.cell 1 rfl
          simp only [confCells, List.getElem_toArray, List.getElem_cons_zero, List.getElem_cons_succ] at c0 c1
          go_wp2_with fail
          refine (HW.out _).mono ?_
          rintro r9 w2 ⟨rfl, hk⟩
          have HR := Lib.hid (HR.out.keep hk (fun h => h))
          have HK := Lib.hid (HK.out.trans hk)
          clear hk c0 c1
          have c0 := HR.out.cell 0 rfl
          have c1 := HR.out.cell 1 rfl
          simp only [confCells, List.getElem_toArray, List.getElem_cons_zero, List.getElem_cons_succ] at c0 c1
          go_wp2_with fail
          refine (HS.out _).mono ?_
          rintro r9 w3 ⟨rfl, hk⟩
          have HR := Lib.hid (HR.out.keep hk (fun h => h))
          have HK := Lib.hid (HK.out.trans hk)
          clear hk c0 c1
          have c0 := HR.out.cell 0 rfl
          have c1 := HR.out.cell 1 rfl
          simp only [confCells, List.getElem_toArray, List.getElem_cons_zero, List.getElem_cons_succ] at c0 c1
          go_wp2_with fail
          refine (HB1.out _).mono ?_
          rintro r9 w4 ⟨rfl, hk⟩
          have HR := Lib.hid (HR.out.keep hk (fun h => h))
          have HK := Lib.hid (HK.out.trans hk)
          clear hk c0 c1
          have c0 := HR.out.cell 0 rfl
          have c1 := HR.out.cell 1 rfl
          simp only [confCells, List.getElem_toArray, List.getElem_cons_zero, List.getElem_cons_succ] at c0 c1
          go_wp2_with fail
          refine (HB2.out _).mono ?_
          rintro r9 w5 ⟨rfl, hk⟩
          have HR := Lib.hid (HR.out.keep hk (fun h => h))
          have HK := Lib.hid (HK.out.trans hk)
          clear hk c0 c1
          have c0 := HR.out.cell 0 rfl
          have c1 := HR.out.cell 1 rfl
          simp only [confCells, List.getElem_toArray, List.getElem_cons_zero, List.getElem_cons_succ] at c0 c1
          go_wp2_with fail
          go_ret
          exact ⟨rfl, HK.out⟩
        · have d5 : ((o : Int) == (k : Int)) = false := by simp; omega
          have hd2 := hd hok
          clear hd
          by_cases hg : g = 0
          · have d6 : decide (g = 0) = true := decide_eq_true hg
            have d6' : (g != 0) = false := by simp [hg]
            subst hg
            by_cases hu : x < u
            · have d7 : decide ((x : Int) < (u : Int)) = true := decide_eq_true (by omega)
              have d7n : decide (x < u) = true := decide_eq_true (by omega)
              clear hd2
              go_enter Try.func5, Try.ntmps5
              go_wp2_with fail
              refine (HLv.out _).mono ?_
              rintro r9 w1 ⟨rfl, hk⟩
              have HR := Lib.hid (HR.out.keep hk (fun h => h))
              have HK := Lib.hid (HK.out.trans hk)
              clear hk
              have c0 := HR.out.cell 0 rfl
              have c1 := HR.out.cell 1 rfl
              simp only [confCells, List.getElem_toArray, List.getElem_cons_zero, List.getElem_cons_succ] at c0 c1
              go_wp2_with fail
              refine (HW.out _).mono ?_
              rintro r9 w2 ⟨rfl, hk⟩
              have HR := Lib.hid (HR.out.keep hk (fun h => h))
              have HK := Lib.hid (HK.out.trans hk)
              clear hk c0 c1
              have c0 := HR.out.cell 0 rfl
              have c1 := HR.out.cell 1 rfl
              simp only [confCells, List.getElem_toArray, List.getElem_cons_zero, List.getElem_cons_succ] at c0 c1
              go_wp2_with fail
              refine (HS.out _).mono ?_
              rintro r9 w3 ⟨rfl, hk⟩
              have HR := Lib.hid (HR.out.keep hk (fun h => h))
              have HK := Lib.hid (HK.out.trans hk)
              clear hk c0 c1
              have c0 := HR.out.cell 0 rfl
              have c1 := HR.out.cell 1 rfl
              simp only [confCells, List.getElem_toArray, List.getElem_cons_zero, List.getElem_cons_succ] at c0 c1
              go_wp2_with fail
              refine (HB1.out _).mono ?_
              rintro r9 w4 ⟨rfl, hk⟩
              have HR := Lib.hid (HR.out.keep hk (fun h => h))
              have HK := Lib.hid (HK.out.trans hk)
              clear hk c0 c1
              have c0 := HR.out.cell 0 rfl
              have c1 := HR.out.cell 1 rfl
              simp only [confCells, List.getElem_toArray, List.getElem_cons_zero, List.getElem_cons_succ] at c0 c1
              go_wp2_with fail
              refine (HB2.out _).mono ?_
              rintro r9 w5 ⟨rfl, hk⟩
              have HR := Lib.hid (HR.out.keep hk (fun h => h))
              have HK := Lib.hid (HK.out.trans hk)
              clear hk c0 c1
              have c0 := HR.out.cell 0 rfl
              have c1 := HR.out.cell 1 rfl
              simp only [confCells, List.getElem_toArray, List.getElem_cons_zero, List.getElem_cons_succ] at c0 c1
              go_wp2_with fail
              go_ret
              exact ⟨rfl, HK.out⟩
            · have d7 : decide ((x : Int) < (u : Int)) = false := decide_eq_false (by omega)
              have d7n : decide (x < u) = false := decide_eq_false (by omega)
              have d8 : decide ((v : Int) ≤ (x : Int)) = true := decide_eq_true (by omega)
              have d8n : decide (v ≤ x) = true := decide_eq_true (by omega)
              clear hd2
              go_enter Try.func5, Try.ntmps5
              go_wp2_with fail
              refine (HLv.out _).mono ?_
              rintro r9 w1 ⟨rfl, hk⟩
              have HR := Lib.hid (HR.out.keep hk (fun h => h))
              have HK := Lib.hid (HK.out.trans hk)
              clear hk
              have c0 := HR.out.cell 0 rfl
              have c1 := HR.out.cell 1 rfl
              simp only [confCells, List.getElem_toArray, List.getElem_cons_zero, List.getElem_cons_succ] at c0 c1
              go_wp2_with fail
              refine (HW.out _).mono ?_
              rintro r9 w2 ⟨rfl, hk⟩
              have HR := Lib.hid (HR.out.keep hk (fun h => h))
              have HK := Lib.hid (HK.out.trans hk)
              clear hk c0 c1
              have c0 := HR.out.cell 0 rfl
              have c1 := HR.out.cell 1 rfl
              simp only [confCells, List.getElem_toArray, List.getElem_cons_zero, List.getElem_cons_succ] at c0 c1
              go_wp2_with fail
              refine (HS.out _).mono ?_
              rintro r9 w3 ⟨rfl, hk⟩
              have HR := Lib.hid (HR.out.keep hk (fun h => h))
              have HK := Lib.hid (HK.out.trans hk)
              clear hk c0 c1
              have c0 := HR.out.cell 0 rfl
              have c1 := HR.out.cell 1 rfl
              simp only [confCells, List.getElem_toArray, List.getElem_cons_zero, List.getElem_cons_succ] at c0 c1
              go_wp2_with fail
              refine (HB1.out _).mono ?_
              rintro r9 w4 ⟨rfl, hk⟩
              have HR := Lib.hid (HR.out.keep hk (fun h => h))
              have HK := Lib.hid (HK.out.trans hk)
              clear hk c0 c1
              have c0 := HR.out.cell 0 rfl
              have c1 := HR.out.cell 1 rfl
              simp only [confCells, List.getElem_toArray, List.getElem_cons_zero, List.getElem_cons_succ] at c0 c1
              go_wp2_with fail
              refine (HB2.out _).mono ?_
              rintro r9 w5 ⟨rfl, hk⟩
              have HR := Lib.hid (HR.out.keep hk (fun h => h))
              have HK := Lib.hid (HK.out.trans hk)
              clear hk c0 c1
              have c0 := HR.out.cell 0 rfl
              have c1 := HR.out.cell 1 rfl
              simp only [confCells, List.getElem_toArray, List.getElem_cons_zero, List.getElem_cons_succ] at c0 c1
              go_wp2_with fail
              go_ret
              exact ⟨rfl, HK.out⟩
          · have d6 : decide (g = 0) = false := decide_eq_false hg
            have d6' : (g != 0) = true := by simp [hg]
            clear hd2
            go_enter Try.func5, Try.ntmps5
            go_wp2_with fail
            refine (HLv.out _).mono ?_
            rintro r9 w1 ⟨rfl, hk⟩
            have HR := Lib.hid (HR.out.keep hk (fun h => h))
            have HK := Lib.hid (HK.out.trans hk)
            clear hk
            have c0 := HR.out.cell 0 rfl
            have c1 := HR.out.cell 1 rfl
            simp only [confCells, List.getElem_toArray, List.getElem_cons_zero, List.getElem_cons_succ] at c0 c1
            go_wp2_with fail
            refine (HW.out _).mono ?_
            rintro r9 w2 ⟨rfl, hk⟩
            have HR := Lib.hid (HR.out.keep hk (fun h => h))
            have HK := Lib.hid (HK.out.trans hk)
            clear hk c0 c1
            have c0 := HR.out.cell 0 rfl
            have c1 := HR.out.cell 1 rfl
            simp only [confCells, List.getElem_toArray, List.getElem_cons_zero, List.getElem_cons_succ] at c0 c1
            go_wp2_with fail
            refine (HS.out _).mono ?_
            rintro r9 w3 ⟨rfl, hk⟩
            have HR := Lib.hid (HR.out.keep hk (fun h => h))
            have HK := Lib.hid (HK.out.trans hk)
            clear hk c0 c1
            have c0 := HR.out.cell 0 rfl
            have c1 := HR.out.cell 1 rfl
            simp only [confCells, List.getElem_toArray, List.getElem_cons_zero, List.getElem_cons_succ] at c0 c1
            go_wp2_with fail
            refine (HB1.out _).mono ?_
            rintro r9 w4 ⟨rfl, hk⟩
            have HR := Lib.hid (HR.out.keep hk (fun h => h))
            have HK := Lib.hid (HK.out.trans hk)
            clear hk c0 c1
            have c0 := HR.out.cell 0 rfl
            have c1 := HR.out.cell 1 rfl
            simp only [confCells, List.getElem_toArray, List.getElem_cons_zero, List.getElem_cons_succ] at c0 c1
            go_wp2_with fail
            refine (HB2.out _).mono ?_
            rintro r9 w5 ⟨rfl, hk⟩
            have HR := Lib.hid (HR.out.keep hk (fun h => h))
            have HK := Lib.hid (HK.out.trans hk)
            clear hk c0 c1
            have c0 := HR.out.cell 0 rfl
            have c1 := HR.out.cell 1 rfl
            simp only [confCells, List.getElem_toArray, List.getElem_cons_zero, List.getElem_cons_succ] at c0 c1
            go_wp2_with fail
            go_ret
            exact ⟨rfl, HK.out⟩
    · rw [if_neg hw] at HW
      clear H he hs hn hx ho hw hm
      unfold confV
      go_enter Try.func5, Try.ntmps5
      go_wp2_with fail
      refine (HLv.out _).mono ?_
      rintro r9 w1 ⟨rfl, hk⟩
      have HR := Lib.hid (HR.out.keep hk (fun h => h))
      have HK := Lib.hid (HK.out.trans hk)
      clear hk
      have c0 := HR.out.cell 0 rfl
      have c1 := HR.out.cell 1 rfl
      simp only [confCells, List.getElem_toArray, List.getElem_cons_zero, List.getElem_cons_succ] at c0 c1
      go_wp2_with fail
      refine (HW.out _).mono ?_
      rintro r9 w2 ⟨rfl, hk⟩
      have HR := Lib.hid (HR.out.keep hk (fun h => h))
      have HK := Lib.hid (HK.out.trans hk)
      clear hk c0 c1
      have c0 := HR.out.cell 0 rfl
      have c1 := HR.out.cell 1 rfl
      simp only [confCells, List.getElem_toArray, List.getElem_cons_zero, List.getElem_cons_succ] at c0 c1
      go_wp2_with fail
      refine (HC.out _).mono ?_
      rintro r9 w3 ⟨rfl, hk⟩
      have HR := Lib.hid (HR.out.keep hk (fun h => h))
      have HK := Lib.hid (HK.out.trans hk)
      clear hk c0 c1
      have c0 := HR.out.cell 0 rfl
      have c1 := HR.out.cell 1 rfl
      simp only [confCells, List.getElem_toArray, List.getElem_cons_zero, List.getElem_cons_succ] at c0 c1
      go_wp2_with fail
      go_ret
      exact ⟨rfl, HK.out⟩
  · rw [if_neg hm] at HW HC HS
    clear H he hs hn hx ho hm
    unfold confV
    go_enter Try.func5, Try.ntmps5
    go_wp2_with fail
    refine (HLv.out _).mono ?_
    rintro r9 w1 ⟨rfl, hk⟩
    have HR := Lib.hid (HR.out.keep hk (fun h => h))
    have HK := Lib.hid (HK.out.trans hk)
    clear hk
    have c0 := HR.out.cell 0 rfl
    have c1 := HR.out.cell 1 rfl
    simp only [confCells, List.getElem_toArray, List.getElem_cons_zero, List.getElem_cons_succ] at c0 c1
    go_wp2_with fail
    refine (HW.out _).mono ?_
    rintro r9 w2 ⟨rfl, hk⟩
    have HR := Lib.hid (HR.out.keep hk (fun h => h))
    have HK := Lib.hid (HK.out.trans hk)
    clear hk c0 c1
    have c0 := HR.out.cell 0 rfl
    have c1 := HR.out.cell 1 rfl
    simp only [confCells, List.getElem_toArray, List.getElem_cons_zero, List.getElem_cons_succ] at c0 c1
    go_wp2_with fail
    refine (HC.out _).mono ?_
    rintro r9 w3 ⟨rfl, hk⟩
    have HR := Lib.hid (HR.out.keep hk (fun h => h))
    have HK := Lib.hid (HK.out.trans hk)
    clear hk c0 c1
    have c0 := HR.out.cell 0 rfl
    have c1 := HR.out.cell 1 rfl
    simp only [confCells, List.getElem_toArray, List.getElem_cons_zero, List.getElem_cons_succ] at c0 c1
    go_wp2_with fail
    go_ret
    exact ⟨rfl, HK.out⟩
end Go.Proofs.Ytiohjnannlekmaa

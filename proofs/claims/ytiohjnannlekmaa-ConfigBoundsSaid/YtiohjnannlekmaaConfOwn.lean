/-
  Package config's own Check and Size.
-/
import Derived.Test.YtiohjnannlekmaaConfLaws
namespace Go.Proofs.Ytiohjnannlekmaa
open Go.RowKit

set_option maxHeartbeats 2000000 in
set_option maxRecDepth 10000 in
theorem check_conf (e s : Nat) (w : World) : Calls Try.prog 11 #[confV e s] w fun r w' => r = .returned (.int .i64 (checkC e s)) ∧ Keeps NoBlock w w' := by
  have HR := Lib.hid (Whole.new w 24 (confCells e s))
  have HK := Lib.hid ((Keeps.refl NoBlock w).alloc (.cells (confCells e s) 24))
  by_cases h1 : 12 ≤ e
  · have d1 : decide ((e : Int) < 12) = false := decide_eq_false (by omega)
    by_cases h2 : e ≤ 24
    · have d2 : decide ((24 : Int) < (e : Int)) = false := decide_eq_false (by omega)
      by_cases h3 : 1 ≤ s
      · have d3 : decide ((s : Int) < 1) = false := decide_eq_false (by omega)
        by_cases h4 : s ≤ 65536
        · have d4 : decide ((65536 : Int) < (s : Int)) = false := decide_eq_false (by omega)
          have HM := Lib.hid (show checkC e s = 0 by unfold checkC; rw [if_pos (mayC_true.2 ⟨h1, h2, h3, h4⟩)])
          unfold confV
          go_enter Try.func11, Try.ntmps11
          go_wp2_with fail
          go_ret
          rw [HM.out]
          exact ⟨rfl, HK.out⟩
        · have d4 : decide ((65536 : Int) < (s : Int)) = true := decide_eq_true (by omega)
          have HM := Lib.hid (show checkC e s = 1 by unfold checkC; rw [if_neg (fun h => by have := mayC_true.1 h; omega)])
          unfold confV
          go_enter Try.func11, Try.ntmps11
          go_wp2_with fail
          go_ret
          rw [HM.out]
          exact ⟨rfl, HK.out⟩
      · have d3 : decide ((s : Int) < 1) = true := decide_eq_true (by omega)
        have HM := Lib.hid (show checkC e s = 1 by unfold checkC; rw [if_neg (fun h => by have := mayC_true.1 h; omega)])
        unfold confV
        go_enter Try.func11, Try.ntmps11
        go_wp2_with fail
        go_ret
        rw [HM.out]
        exact ⟨rfl, HK.out⟩
    · have d2 : decide ((24 : Int) < (e : Int)) = true := decide_eq_true (by omega)
      have HM := Lib.hid (show checkC e s = 1 by unfold checkC; rw [if_neg (fun h => by have := mayC_true.1 h; omega)])
      unfold confV
      go_enter Try.func11, Try.ntmps11
      go_wp2_with fail
      go_ret
      rw [HM.out]
      exact ⟨rfl, HK.out⟩
  · have d1 : decide ((e : Int) < 12) = true := decide_eq_true (by omega)
    have HM := Lib.hid (show checkC e s = 1 by unfold checkC; rw [if_neg (fun h => by have := mayC_true.1 h; omega)])
    unfold confV
    go_enter Try.func11, Try.ntmps11
    go_wp2_with fail
    go_ret
    rw [HM.out]
    exact ⟨rfl, HK.out⟩

theorem checkC_may {e s : Nat} (h : mayC e s = true) : checkC e s = 0 := by unfold checkC; rw [if_pos h]
theorem checkC_not {e s : Nat} (h : mayC e s = false) : checkC e s = 1 := by unfold checkC; rw [if_neg (by rw [h]; decide)]
theorem shl_one {e : Nat} (h : e ≤ 24) : Op.shift BinOp.shl IntKind.i64 1 IntKind.u8 (e : Int) = pure (.int .i64 ((2 ^ e : Nat) : Int)) := by
  have : e = 0 ∨ e = 1 ∨ e = 2 ∨ e = 3 ∨ e = 4 ∨ e = 5 ∨ e = 6 ∨ e = 7 ∨ e = 8 ∨ e = 9 ∨ e = 10 ∨ e = 11 ∨ e = 12 ∨ e = 13 ∨ e = 14 ∨ e = 15 ∨ e = 16 ∨ e = 17 ∨ e = 18 ∨ e = 19 ∨ e = 20 ∨ e = 21 ∨ e = 22 ∨ e = 23 ∨ e = 24 := by omega
  rcases this with rfl | rfl | rfl | rfl | rfl | rfl | rfl | rfl | rfl | rfl | rfl | rfl | rfl | rfl | rfl | rfl | rfl | rfl | rfl | rfl | rfl | rfl | rfl | rfl | rfl <;> rfl

set_option maxHeartbeats 2000000 in
set_option maxRecDepth 10000 in
theorem size_conf (e s : Nat) (w : World) : Calls Try.prog 12 #[confV e s] w fun r w' => r = .returned (.int .i64 (sizeC e s : Int)) ∧ Keeps NoBlock w w' := by
  have HR := Lib.hid (Whole.new w 24 (confCells e s))
  have HK := Lib.hid ((Keeps.refl NoBlock w).alloc (.cells (confCells e s) 24))
  have H1 := Lib.hid (fun w => check_conf e s w)
  by_cases hm : mayC e s = true
  · have HM := Lib.hid (show sizeC e s = 2 ^ e by unfold sizeC; rw [if_pos hm])
    have he := (mayC_true.1 hm).2.1
    have hsh := shl_one he
    rw [checkC_may hm] at H1
    obtain ⟨q, hq⟩ : ∃ q, q = 2 ^ e := ⟨_, rfl⟩
    rw [← hq] at HM hsh
    clear hq hm he
    unfold confV at H1
    unfold confV
    go_enter Try.func12, Try.ntmps12
    go_wp2_with fail
    refine (H1.out _).mono ?_
    rintro r w1 ⟨rfl, hk⟩
    have HR := Lib.hid (HR.out.keep hk (fun h => h))
    have HK := Lib.hid (HK.out.trans hk)
    clear hk
    have c0 := HR.out.cell 0 rfl
    have c1 := HR.out.cell 1 rfl
    simp only [confCells, List.getElem_toArray, List.getElem_cons_zero, List.getElem_cons_succ] at c0 c1
    go_wp2_with fail
    go_ret
    rw [HM.out]
    exact ⟨rfl, HK.out⟩
  · have HM := Lib.hid (show sizeC e s = 0 by unfold sizeC; rw [if_neg hm])
    have hmf : mayC e s = false := by simpa using hm
    rw [checkC_not hmf] at H1
    clear hm hmf
    unfold confV at H1
    unfold confV
    go_enter Try.func12, Try.ntmps12
    go_wp2_with fail
    refine (H1.out _).mono ?_
    rintro r w1 ⟨rfl, hk⟩
    have HR := Lib.hid (HR.out.keep hk (fun h => h))
    have HK := Lib.hid (HK.out.trans hk)
    clear hk
    go_wp2_with fail
    go_ret
    rw [HM.out]
    exact ⟨rfl, HK.out⟩
end Go.Proofs.Ytiohjnannlekmaa

/-
  The document's answers for a config: may it be, a segment's bytes.
-/
import Derived.Test.YtiohjnannlekmaaMem
import Derived.Test.YtiohjnannlekmaaNum
namespace Go.Proofs.Ytiohjnannlekmaa
open Go.RowKit

def confV (e s : Nat) : Value := .agg #[.int .u8 (e : Int), .int .u32 (s : Int)]
def confCells (e s : Nat) : Array Value := #[.int .u8 (e : Int), .int .u32 (s : Int)]
def mayC (e s : Nat) : Bool := decide (12 ≤ e) && decide (e ≤ 24) && decide (1 ≤ s) && decide (s ≤ 65536)
theorem mayC_true {e s : Nat} : mayC e s = true ↔ 12 ≤ e ∧ e ≤ 24 ∧ 1 ≤ s ∧ s ≤ 65536 := by
  unfold mayC
  simp only [Bool.and_eq_true, decide_eq_true_eq]
  omega
theorem two_e {e : Nat} (h : e ≤ 24) : 1 ≤ 2 ^ e ∧ 2 ^ e ≤ 16777216 := by
  constructor
  · exact Nat.one_le_two_pow
  · have := Nat.pow_le_pow_right (n := 2) (by omega) h
    omega

set_option maxHeartbeats 2000000 in
set_option maxRecDepth 10000 in
theorem may_ref (e s : Nat) (w : World) : Calls Try.prog 7 #[confV e s] w fun r w' => r = .returned (.bool (mayC e s)) ∧ Keeps NoBlock w w' := by
  have HR := Lib.hid (Whole.new w 24 (confCells e s))
  have HK := Lib.hid ((Keeps.refl NoBlock w).alloc (.cells (confCells e s) 24))
  by_cases h1 : 12 ≤ e
  · have d1 : decide ((12 : Int) ≤ (e : Int)) = true := decide_eq_true (by omega)
    by_cases h2 : e ≤ 24
    · have d2 : decide ((e : Int) ≤ 24) = true := decide_eq_true (by omega)
      by_cases h3 : 1 ≤ s
      · have d3 : decide ((1 : Int) ≤ (s : Int)) = true := decide_eq_true (by omega)
        by_cases h4 : s ≤ 65536
        · have d4 : decide ((s : Int) ≤ 65536) = true := decide_eq_true (by omega)
          have HM := Lib.hid (mayC_true.2 ⟨h1, h2, h3, h4⟩)
          unfold confV
          go_enter Try.func7, Try.ntmps7
          go_wp2_with fail
          go_ret
          rw [HM.out]
          exact ⟨rfl, HK.out⟩
        · have d4 : decide ((s : Int) ≤ 65536) = false := decide_eq_false (by omega)
          have HM : Hid (mayC e s = false) := Lib.hid (by cases h : mayC e s with | false => rfl | true => have := mayC_true.1 h; omega)
          unfold confV
          go_enter Try.func7, Try.ntmps7
          go_wp2_with fail
          go_ret
          rw [HM.out]
          exact ⟨rfl, HK.out⟩
      · have d3 : decide ((1 : Int) ≤ (s : Int)) = false := decide_eq_false (by omega)
        have HM : Hid (mayC e s = false) := Lib.hid (by cases h : mayC e s with | false => rfl | true => have := mayC_true.1 h; omega)
        unfold confV
        go_enter Try.func7, Try.ntmps7
        go_wp2_with fail
        go_ret
        rw [HM.out]
        exact ⟨rfl, HK.out⟩
    · have d2 : decide ((e : Int) ≤ 24) = false := decide_eq_false (by omega)
      have HM : Hid (mayC e s = false) := Lib.hid (by cases h : mayC e s with | false => rfl | true => have := mayC_true.1 h; omega)
      unfold confV
      go_enter Try.func7, Try.ntmps7
      go_wp2_with fail
      go_ret
      rw [HM.out]
      exact ⟨rfl, HK.out⟩
  · have d1 : decide ((12 : Int) ≤ (e : Int)) = false := decide_eq_false (by omega)
    have HM : Hid (mayC e s = false) := Lib.hid (by cases h : mayC e s with | false => rfl | true => have := mayC_true.1 h; omega)
    unfold confV
    go_enter Try.func7, Try.ntmps7
    go_wp2_with fail
    go_ret
    rw [HM.out]
    exact ⟨rfl, HK.out⟩

set_option maxHeartbeats 2000000 in
set_option maxRecDepth 10000 in
theorem size8_ref (e s : Nat) (he : e ≤ 24) (w : World) : Calls Try.prog 8 #[confV e s] w fun r w' => r = .returned (.int .u64 ((2 ^ e : Nat) : Int)) ∧ Keeps NoBlock w w' := by
  have HR := Lib.hid (Whole.new w 24 (confCells e s))
  have HK := Lib.hid ((Keeps.refl NoBlock w).alloc (.cells (confCells e s) 24))
  have H24 := Lib.hid (two_e he)
  unfold confV
  go_enter Try.func8, Try.ntmps8
  go_wp2_with fail
  go_loopw [6, 3] (fun i x wr => ∃ j : Nat, j ≤ e ∧ i = .int .u8 (j : Int) ∧ x = .int .u64 ((2 ^ j : Nat) : Int) ∧ Keeps NoBlock w wr) (fun i _ _ => e - (intOf i).toNat)
  case atStart => exact ⟨0, Nat.zero_le _, rfl, rfl, HK.out⟩
  case round =>
    obtain ⟨j, hj, rfl, rfl, hk⟩ := hrel
    have HK1 := Lib.hid hk
    clear hk
    by_cases hlt : j < e
    · have hdj : decide ((j : Int) < (e : Int)) = true := decide_eq_true (by omega)
      have h2 := two_e (e := j) (by omega)
      have e2 : 2 ^ (j + 1) = 2 * 2 ^ j := by rw [Nat.pow_succ, Nat.mul_comm]
      obtain ⟨q, hq⟩ : ∃ q, q = 2 ^ j := ⟨_, rfl⟩
      rw [← hq] at h2 e2 ⊢
      have HE := Lib.hid e2
      clear hq e2
      go_wp2_with fail
      exact ⟨⟨j + 1, by omega, by go_num, by rw [HE.out]; go_num, HK1.out⟩, by simp [intOf]; omega⟩
    · have hdj : decide ((j : Int) < (e : Int)) = false := decide_eq_false (by omega)
      obtain rfl : j = e := by omega
      go_wp2_with fail
      go_ret
      exact ⟨rfl, HK1.out⟩
end Go.Proofs.Ytiohjnannlekmaa

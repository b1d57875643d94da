/-
  A double made a whole number.
-/
import Derived.Test.YtillkgbnokkacaaIeeeWord
import Derived.Laws.FloatArith
namespace Go.Proofs.Ytillkgbnokkacaa

theorem cut_zero (neg : Bool) (n d : Nat) : Ieee.Toward.zero.cut neg n d = n / 2 ^ d := by
  unfold Ieee.Toward.cut
  show n / 1 <<< min d (n.log2 + 2) + Bool.toNat false = n / 2 ^ d
  rw [Nat.shiftLeft_eq, Nat.one_mul]
  show n / 2 ^ min d (n.log2 + 2) = n / 2 ^ d
  by_cases h : d ≤ n.log2 + 2
  · rw [Nat.min_eq_left h]
  · rw [Nat.min_eq_right (by omega)]
    have h1 : n < 2 ^ (n.log2 + 2) := Nat.lt_of_lt_of_le Nat.lt_log2_self (Nat.pow_le_pow_right (by decide) (by omega))
    have h2 : n < 2 ^ d := Nat.lt_of_lt_of_le h1 (Nat.pow_le_pow_right (by decide) (by omega))
    rw [Nat.div_eq_of_lt h1, Nat.div_eq_of_lt h2]

theorem to_int {x : Nat} (h : rung x < rInf) : (Ieee.double.read x).toInt .zero = some (if negw x then -((val (rung x) / 2 ^ eU : Nat) : Int) else ((val (rung x) / 2 ^ eU : Nat) : Int)) := by
  obtain ⟨mag, k, h1, h2, _⟩ := read_num h
  rw [h1]
  have hE : eU = 1074 := rfl
  have key : Ieee.Toward.zero.cut (negw x) (mag <<< (-1074 + (k : Int)).toNat) (-(-1074 + (k : Int))).toNat = val (rung x) / 2 ^ eU := by
    rw [cut_zero, ← h2, Nat.shiftLeft_eq]
    by_cases hk : 1074 ≤ k
    · obtain ⟨j, rfl⟩ : ∃ j, k = eU + j := ⟨k - eU, by omega⟩
      have e1 : (-1074 + ((eU + j : Nat) : Int)).toNat = j := by omega
      have e2 : (-(-1074 + ((eU + j : Nat) : Int))).toNat = 0 := by omega
      rw [e1, e2, Nat.pow_zero, Nat.div_one, Nat.pow_add, Nat.mul_comm (2 ^ eU), ← Nat.mul_assoc, Nat.mul_div_cancel _ (Nat.two_pow_pos _)]
    · obtain ⟨j, hj⟩ : ∃ j, eU = k + j := ⟨eU - k, by omega⟩
      have e1 : (-1074 + (k : Int)).toNat = 0 := by omega
      have e2 : (-(-1074 + (k : Int))).toNat = j := by omega
      rw [e1, e2, hj, Nat.pow_zero, Nat.mul_one, Nat.pow_add, Nat.mul_comm mag, Nat.mul_div_mul_left _ _ (Nat.two_pow_pos _)]
  unfold Ieee.Datum.toInt Ieee.Datum.integral
  simp only [key]
  unfold Ieee.signed
  rw [Nat.shiftLeft_zero]

theorem to_u64 {x : Nat} (h : rung x < rInf) (hp : negw x = false) (hb : val (rung x) / 2 ^ eU < 18446744073709551616) : floatToIntVal .f64 x .u64 = some ((val (rung x) / 2 ^ eU : Nat) : Int) := by
  unfold floatToIntVal
  have e : (FloatKind.f64.decode x).toInt .zero = some ((val (rung x) / 2 ^ eU : Nat) : Int) := by
    have := to_int h
    rw [hp] at this
    exact this
  rw [e]
  obtain ⟨q, hq⟩ : ∃ q, q = val (rung x) / 2 ^ eU := ⟨_, rfl⟩
  rw [← hq] at hb ⊢
  have h0 : IntKind.u64.min = 0 := by decide
  have h1 : IntKind.u64.max = 18446744073709551615 := by decide
  show (if IntKind.u64.min ≤ _ ∧ _ ≤ IntKind.u64.max then some _ else none) = _
  rw [h0, h1, if_pos ⟨by omega, by omega⟩]
end Go.Proofs.Ytillkgbnokkacaa

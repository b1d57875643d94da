/-
  Doubles: what a word reads as, the order of two, quotients.
-/
import Derived.Test.YtillkgbnokkacaaIeee
namespace Go.Proofs.Ytillkgbnokkacaa

/-- Two rungs' sum, by the lower one's binade. -/
theorem mid_split (N : Nat) : (N < rB ∧ val N + val (N + 1) = 2 * N + 1) ∨ ∃ e k, rB ≤ k ∧ k < 2 * rB ∧ val N + val (N + 1) = (2 * k + 1) * 2 ^ e := by
  have hB : 0 < rB := by decide
  by_cases h : N < rB
  · left
    rw [val_low N (by omega), val_low (N + 1) (by omega)]
    exact ⟨h, by omega⟩
  · right
    obtain ⟨e, k, rfl, h1, h2⟩ := rung_split N (by omega)
    refine ⟨e, k, h1, h2, ?_⟩
    rw [val_at e k h1 (by omega), Nat.add_assoc, val_at e (k + 1) (by omega) (by omega), ← Nat.add_mul]
    congr 1
    omega

/-- A quotient to the half, and one that tells whether anything is left over. -/
def stick (A n : Nat) : Nat := 2 * (A / n) + (A % n != 0).toNat
theorem stick_le {A n h : Nat} (hn : 0 < n) : stick A n ≤ 2 * h ↔ A ≤ h * n := by
  have hd := Nat.div_add_mod A n
  have hm := Nat.mod_lt A hn
  unfold stick
  by_cases h0 : A % n = 0
  · rw [h0]
    rw [h0, Nat.add_zero] at hd
    have e : ((0 : Nat) != 0).toNat = 0 := rfl
    rw [e, Nat.add_zero]
    constructor
    · intro h1
      rw [← hd, Nat.mul_comm]
      exact Nat.mul_le_mul_right _ (by omega)
    · intro h1
      have : A / n ≤ h := (Nat.div_le_iff_le_mul_add_pred hn).2 (by rw [Nat.mul_comm]; omega)
      omega
  · have e : (A % n != 0).toNat = 1 := by
      have : (A % n != 0) = true := by rw [bne_iff_ne]; exact h0
      rw [this]; rfl
    rw [e]
    constructor
    · intro h1
      have h2 : A / n + 1 ≤ h := by omega
      have h3 := Nat.mul_le_mul_right n h2
      rw [Nat.add_mul, Nat.one_mul, Nat.mul_comm (A / n)] at h3
      omega
    · intro h1
      have h2 : A / n < h := by
        rcases Nat.lt_or_ge (A / n) h with h3 | h3
        · exact h3
        · have h4 := Nat.mul_le_mul_right n h3
          rw [Nat.mul_comm (A / n)] at h4
          omega
      omega
theorem le_stick {A n h : Nat} (hn : 0 < n) : 2 * h ≤ stick A n ↔ h * n ≤ A := by
  unfold stick
  have e : (A % n != 0).toNat ≤ 1 := by cases (A % n != 0) <;> decide
  constructor
  · intro h1
    exact (Nat.le_div_iff_mul_le hn).1 (by omega)
  · intro h1
    have := (Nat.le_div_iff_mul_le hn).2 h1
    omega

/-- The quotient A / n in units of 2^(s+1) lies above the middle of rung N and the next one. -/
def AboveQ (N A n s : Nat) : Prop := (val N + val (N + 1)) * n < 4 * A * 2 ^ s ∨ ((val N + val (N + 1)) * n = 4 * A * 2 ^ s ∧ N % 2 = 1)

theorem lt_rnd_stick (N A n s : Nat) (hn : 0 < n) (hA : 9007199254740992 * n ≤ A) : N < rnd (stick A n * 2 ^ s) ↔ AboveQ N A n s := by
  have hBp : rB = 2 ^ 52 := by decide
  have ps := Nat.two_pow_pos s
  rw [lt_rnd]
  unfold Above AboveQ
  have hst : 2 * 9007199254740992 ≤ stick A n := (le_stick hn).2 hA
  obtain ⟨T, hT⟩ : ∃ T, T = val N + val (N + 1) := ⟨_, rfl⟩
  obtain ⟨S, hS⟩ : ∃ S, S = stick A n := ⟨_, rfl⟩
  rw [← hT, ← hS]
  rw [← hS] at hst
  -- a middle far below
  have far : T < 36028797018963968 * 2 ^ s → ((T < 2 * (S * 2 ^ s) ∨ (T = 2 * (S * 2 ^ s) ∧ N % 2 = 1)) ↔ (T * n < 4 * A * 2 ^ s ∨ (T * n = 4 * A * 2 ^ s ∧ N % 2 = 1))) := by
    intro h
    have h1 : 36028797018963968 * 2 ^ s ≤ 2 * (S * 2 ^ s) := by
      rw [← Nat.mul_assoc]
      exact Nat.mul_le_mul_right _ (by omega)
    have h2 : T * n < 4 * A * 2 ^ s := by
      have h3 : T * n < 36028797018963968 * 2 ^ s * n := Nat.mul_lt_mul_of_pos_right h hn
      have h4 : 36028797018963968 * 2 ^ s * n ≤ 4 * A * 2 ^ s := by
        rw [Nat.mul_assoc, Nat.mul_comm (2 ^ s), ← Nat.mul_assoc]
        exact Nat.mul_le_mul_right _ (by omega)
      omega
    exact ⟨fun _ => .inl h2, fun _ => .inl (by omega)⟩
  rcases mid_split N with ⟨h1, h2⟩ | ⟨e, k, h1, h2, h3⟩
  · refine far ?_
    rw [hT, h2]
    have : 36028797018963968 * 1 ≤ 36028797018963968 * 2 ^ s := Nat.mul_le_mul_left _ ps
    have hb : rB = 4503599627370496 := rfl
    omega
  · by_cases he : e < s + 2
    · refine far ?_
      rw [hT, h3]
      have h4 : (2 * k + 1) * 2 ^ e < 18014398509481984 * 2 ^ e := Nat.mul_lt_mul_of_pos_right (by
        have hb : rB = 4503599627370496 := rfl
        omega) (Nat.two_pow_pos e)
      have h5 : 2 ^ e ≤ 2 ^ (s + 1) := Nat.pow_le_pow_right (by decide) (by omega)
      rw [Nat.pow_succ] at h5
      omega
    · obtain ⟨j, rfl⟩ : ∃ j, e = j + (s + 2) := ⟨e - (s + 2), by omega⟩
      obtain ⟨h, hh⟩ : ∃ h, h = (2 * k + 1) * 2 ^ j := ⟨_, rfl⟩
      have hT2 : T = 4 * h * 2 ^ s := by
        rw [hT, h3, hh, Nat.pow_add, Nat.pow_add 2 s, show (2 : Nat) ^ 2 = 4 from rfl, Nat.mul_comm (2 ^ s), ← Nat.mul_assoc, ← Nat.mul_assoc, Nat.mul_comm _ 4]
      have a1 := @stick_le A n h hn
      have a2 := @le_stick A n h hn
      rw [← hS] at a1 a2
      have x1 : (4 * h * 2 ^ s < 2 * (S * 2 ^ s)) ↔ 2 * h < S := by
        rw [← Nat.mul_assoc, Nat.mul_lt_mul_right ps]
        omega
      have x2 : (4 * h * 2 ^ s = 2 * (S * 2 ^ s)) ↔ 2 * h = S := by
        rw [← Nat.mul_assoc, Nat.mul_right_cancel_iff ps]
        omega
      have y1 : (4 * h * 2 ^ s * n < 4 * A * 2 ^ s) ↔ h * n < A := by
        rw [Nat.mul_assoc, Nat.mul_comm (2 ^ s), ← Nat.mul_assoc, Nat.mul_lt_mul_right ps, Nat.mul_assoc]
        omega
      have y2 : (4 * h * 2 ^ s * n = 4 * A * 2 ^ s) ↔ h * n = A := by
        rw [Nat.mul_assoc, Nat.mul_comm (2 ^ s), ← Nat.mul_assoc, Nat.mul_right_cancel_iff ps, Nat.mul_assoc]
        omega
      rw [hT2, x1, x2, y1, y2]
      omega
end Go.Proofs.Ytillkgbnokkacaa

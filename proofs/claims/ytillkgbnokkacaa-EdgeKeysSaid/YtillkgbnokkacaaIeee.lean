/-
  Rounding to a double: rungs and what they stand for.
-/
import Derived.Test.YtillkgbnokkacaaRows
import Derived.Laws.FloatArith
namespace Go.Proofs.Ytillkgbnokkacaa

/-- Rungs to one binade. -/
def rB : Nat := 4503599627370496
/-- What a rung stands for, in units of 2^-1074. -/
def val (r : Nat) : Nat := if r < rB then r else (rB + r % rB) * 2 ^ (r / rB - 1)
/-- To the nearest whole number, between two the even one. -/
def rne (U e : Nat) : Nat := U / 2 ^ e + (if 2 ^ e < 2 * (U % 2 ^ e) ∨ (2 ^ e = 2 * (U % 2 ^ e) ∧ U / 2 ^ e % 2 = 1) then 1 else 0)
/-- The rung nearest to so many units. -/
def rnd (U : Nat) : Nat := (U.log2 - 52) * rB + rne U (U.log2 - 52)

theorem val_at (e k : Nat) (h1 : rB ≤ k) (h2 : k ≤ 2 * rB) : val (e * rB + k) = k * 2 ^ e := by
  have hB : 0 < rB := by decide
  unfold val
  rw [if_neg (by have := Nat.zero_le (e * rB); omega)]
  by_cases hk : k = 2 * rB
  · subst hk
    rw [show e * rB + 2 * rB = (e + 2) * rB by rw [Nat.add_mul], Nat.mul_mod_left, Nat.mul_div_cancel _ hB, Nat.add_zero, show e + 2 - 1 = e + 1 by omega, Nat.pow_succ]
    rw [Nat.mul_comm 2 rB, Nat.mul_assoc, Nat.mul_comm 2]
  · obtain ⟨f, rfl⟩ : ∃ f, k = rB + f := ⟨k - rB, by omega⟩
    have hf : f < rB := by omega
    rw [show e * rB + (rB + f) = f + (e + 1) * rB by rw [Nat.add_mul]; omega, Nat.add_mul_mod_self_right, Nat.mod_eq_of_lt hf, Nat.add_mul_div_right _ _ hB, Nat.div_eq_of_lt hf]
    rw [show 0 + (e + 1) - 1 = e by omega]
theorem val_low (r : Nat) (h : r ≤ 2 * rB) : val r = r := by
  by_cases h1 : r < rB
  · unfold val
    rw [if_pos h1]
  · have := val_at 0 r (by omega) h
    rw [Nat.zero_mul, Nat.zero_add, Nat.pow_zero, Nat.mul_one] at this
    exact this
/-- Each rung above the first binade, by its binade. -/
theorem rung_split (r : Nat) (h : rB ≤ r) : ∃ e k, r = e * rB + k ∧ rB ≤ k ∧ k < 2 * rB := by
  have hB : 0 < rB := by decide
  have h1 := Nat.div_add_mod r rB
  have h2 := Nat.mod_lt r hB
  have h3 : 1 ≤ r / rB := (Nat.le_div_iff_mul_le hB).2 (by omega)
  obtain ⟨e, he⟩ : ∃ e, r / rB = e + 1 := ⟨r / rB - 1, by omega⟩
  rw [he, Nat.mul_comm, Nat.add_mul] at h1
  exact ⟨e, rB + r % rB, by omega, by omega, by omega⟩
theorem val_succ_lt (r : Nat) : val r < val (r + 1) := by
  by_cases h : r < 2 * rB
  · rw [val_low r (by omega), val_low (r + 1) (by omega)]
    omega
  · obtain ⟨e, k, rfl, h1, h2⟩ := rung_split r (by have : 0 < rB := by decide
                                                   omega)
    rw [val_at e k h1 (by omega), Nat.add_assoc, val_at e (k + 1) (by omega) (by omega)]
    exact Nat.mul_lt_mul_of_pos_right (by omega) (Nat.two_pow_pos e)
theorem val_lt {r s : Nat} (h : r < s) : val r < val s := by
  induction s with
  | zero => omega
  | succ s ih =>
    rcases Nat.lt_or_ge r s with h1 | h1
    · exact Nat.lt_trans (ih h1) (val_succ_lt s)
    · rw [show r = s by omega]
      exact val_succ_lt s
theorem val_le {r s : Nat} (h : r ≤ s) : val r ≤ val s := by
  rcases Nat.lt_or_ge r s with h1 | h1
  · exact Nat.le_of_lt (val_lt h1)
  · rw [show r = s by omega]
    exact Nat.le_refl _
theorem val_lt_iff {r s : Nat} : val r < val s ↔ r < s :=
  ⟨fun h => by
    rcases Nat.lt_or_ge r s with h1 | h1
    · exact h1
    · exact absurd (val_le h1) (by omega), val_lt⟩
theorem val_inj {r s : Nat} (h : val r = val s) : r = s := by
  rcases Nat.lt_trichotomy r s with h1 | h1 | h1
  · exact absurd (val_lt h1) (by omega)
  · exact h1
  · exact absurd (val_lt h1) (by omega)

/-- U units lie above the middle of rung N and the next one, or on it, N being odd. -/
def Above (N U : Nat) : Prop := val N + val (N + 1) < 2 * U ∨ (val N + val (N + 1) = 2 * U ∧ N % 2 = 1)
theorem Above.lower {N M U : Nat} (h : Above N U) (hm : M < N) : Above M U := by
  have h1 := val_lt hm
  have h2 := val_lt (show M + 1 < N + 1 by omega)
  unfold Above at *
  omega

theorem log2_bounds {U : Nat} (h : 0 < U) : 2 ^ U.log2 ≤ U ∧ U < 2 ^ (U.log2 + 1) :=
  ⟨Nat.log2_self_le (by omega), Nat.lt_log2_self⟩

/-- Where the rung nearest to U lies. -/
theorem rnd_spec (U : Nat) : (rnd U = 0 ∨ Above (rnd U - 1) U) ∧ ¬ Above (rnd U) U := by
  have hB2 : rB % 2 = 0 := by decide
  have hBp : rB = 2 ^ 52 := by decide
  by_cases h0 : U.log2 - 52 = 0
  · have hU : U < 2 * rB := by
      rcases Nat.eq_zero_or_pos U with h | h
      · subst h; decide
      · have h1 := (log2_bounds h).2
        have h2 : 2 ^ (U.log2 + 1) ≤ 2 ^ 53 := Nat.pow_le_pow_right (by decide) (by omega)
        rw [hBp]
        omega
    have hr : rnd U = U := by
      unfold rnd rne
      rw [h0, Nat.zero_mul, Nat.zero_add, Nat.pow_zero, Nat.div_one, Nat.mod_one]
      simp
    rw [hr]
    have hv := val_low U (by omega)
    refine ⟨?_, ?_⟩
    · rcases Nat.eq_zero_or_pos U with h | h
      · exact .inl h
      · refine .inr (.inl ?_)
        have := val_succ_lt (U - 1)
        rw [show U - 1 + 1 = U by omega] at this ⊢
        omega
    · have := val_succ_lt U
      unfold Above
      omega
  · obtain ⟨e, he⟩ : ∃ e, e = U.log2 - 52 := ⟨_, rfl⟩
    have hp : 0 < U := by
      rcases Nat.eq_zero_or_pos U with h | h
      · subst h; exact absurd (by decide) h0
      · exact h
    obtain ⟨b1, b2⟩ := log2_bounds hp
    have hlog : U.log2 = 52 + e := by omega
    rw [hlog, Nat.pow_add, ← hBp] at b1
    rw [hlog, show 52 + e + 1 = 53 + e by omega, Nat.pow_add, show 2 ^ 53 = 2 * rB by decide] at b2
    have pe := Nat.two_pow_pos e
    obtain ⟨u, hu⟩ : ∃ u, u = U / 2 ^ e := ⟨_, rfl⟩
    obtain ⟨t, ht⟩ : ∃ t, t = U % 2 ^ e := ⟨_, rfl⟩
    have hut := Nat.div_add_mod U (2 ^ e)
    have htl := Nat.mod_lt U pe
    have hu1 : rB ≤ u := by rw [hu]; exact (Nat.le_div_iff_mul_le pe).2 b1
    have hu2 : u < 2 * rB := by rw [hu]; exact (Nat.div_lt_iff_lt_mul pe).2 b2
    rw [← hu, ← ht] at hut
    rw [← ht] at htl
    have hr : rnd U = e * rB + (u + if 2 ^ e < 2 * t ∨ (2 ^ e = 2 * t ∧ u % 2 = 1) then 1 else 0) := by
      unfold rnd rne
      rw [← he, ← hu, ← ht]
    have hve : e * rB % 2 = 0 := by rw [Nat.mul_mod, hB2, Nat.mul_zero]
    have v0 := val_at e u hu1 (by omega)
    have v1 := val_at e (u + 1) (by omega) (by omega)
    rw [Nat.add_mul, Nat.one_mul] at v1
    obtain ⟨p, hpe⟩ : ∃ p, p = 2 ^ e := ⟨_, rfl⟩
    obtain ⟨x, hx⟩ : ∃ x, x = u * 2 ^ e := ⟨_, rfl⟩
    rw [Nat.mul_comm, ← hx] at hut
    rw [← hx] at v0 v1
    rw [← hpe] at hr htl v1 pe
    have hpos : 1 ≤ e * rB + u := by omega
    by_cases hc : p < 2 * t ∨ (p = 2 * t ∧ u % 2 = 1)
    · rw [if_pos hc] at hr
      rw [hr]
      refine ⟨.inr ?_, ?_⟩
      · rw [show e * rB + (u + 1) - 1 = e * rB + u by omega]
        unfold Above
        rw [v0, Nat.add_assoc, v1]
        omega
      · have := val_succ_lt (e * rB + (u + 1))
        unfold Above
        rw [v1] at this ⊢
        omega
    · rw [if_neg hc, Nat.add_zero] at hr
      rw [hr]
      refine ⟨.inr (.inl ?_), ?_⟩
      · have := val_succ_lt (e * rB + u - 1)
        rw [show e * rB + u - 1 + 1 = e * rB + u by omega, v0] at this ⊢
        omega
      · unfold Above
        rw [v0, Nat.add_assoc, v1]
        omega
/-- The nearest rung lies above N just if U lies above N's middle. -/
theorem lt_rnd (N U : Nat) : N < rnd U ↔ Above N U := by
  obtain ⟨h1, h2⟩ := rnd_spec U
  constructor
  · intro h
    rcases h1 with h1 | h1
    · omega
    · rcases Nat.lt_or_ge N (rnd U - 1) with h3 | h3
      · exact h1.lower h3
      · rw [show N = rnd U - 1 by omega]
        exact h1
  · intro h
    rcases Nat.lt_or_ge N (rnd U) with h3 | h3
    · exact h3
    · rcases Nat.lt_or_ge (rnd U) N with h4 | h4
      · exact absurd (h.lower h4) h2
      · rw [show N = rnd U by omega] at h
        exact absurd h h2
theorem rnd_mono {U V : Nat} (h : U ≤ V) : rnd U ≤ rnd V := by
  rcases Nat.lt_or_ge (rnd V) (rnd U) with h1 | h1
  · have h2 := (lt_rnd _ _).1 h1
    have h3 : Above (rnd V) V := by
      unfold Above at *
      omega
    exact absurd ((lt_rnd _ _).2 h3) (Nat.lt_irrefl _)
  · exact h1
theorem rnd_val (r : Nat) : rnd (val r) = r := by
  have h1 : ¬ r < rnd (val r) := fun h => by
    have := (lt_rnd _ _).1 h
    have := val_succ_lt r
    unfold Above at *
    omega
  rcases Nat.eq_zero_or_pos r with h | h
  · omega
  · have h2 : r - 1 < rnd (val r) := (lt_rnd _ _).2 (.inl (by
      have := val_succ_lt (r - 1)
      rw [show r - 1 + 1 = r by omega] at this ⊢
      omega))
    omega

theorem double_least : Ieee.double.leastPlace = -1074 := by decide
theorem double_binade : Ieee.double.binade = rB := by decide
theorem double_inf : Ieee.double.infRung = 9218868437227405312 := by decide
theorem double_weight : Ieee.double.signWeight = 9223372036854775808 := by decide

theorem log2_mul_two_pow {m : Nat} (h : m ≠ 0) (k : Nat) : (m * 2 ^ k).log2 = m.log2 + k := by
  have h1 : m * 2 ^ k ≠ 0 := Nat.mul_ne_zero h (by have := Nat.two_pow_pos k; omega)
  refine (Nat.log2_eq_iff h1).2 ⟨?_, ?_⟩
  · rw [Nat.pow_add]
    exact Nat.mul_le_mul_right _ (Nat.log2_self_le h)
  · rw [show m.log2 + k + 1 = (m.log2 + 1) + k by omega, Nat.pow_add]
    exact Nat.mul_lt_mul_of_pos_right Nat.lt_log2_self (Nat.two_pow_pos k)

theorem rne_exact (m j e : Nat) : rne (m * 2 ^ (e + j)) e = m * 2 ^ j := by
  have pe := Nat.two_pow_pos e
  unfold rne
  rw [Nat.pow_add, Nat.mul_comm (2 ^ e), ← Nat.mul_assoc, Nat.mul_div_cancel _ pe, Nat.mul_mod_left]
  rw [if_neg (by omega)]
  rfl
theorem rne_scale (m d k : Nat) : rne (m * 2 ^ k) (d + k) = rne m d := by
  have pk := Nat.two_pow_pos k
  unfold rne
  rw [Nat.pow_add, Nat.mul_div_mul_right _ _ pk, Nat.mul_mod_mul_right]
  have e1 : (2 ^ d * 2 ^ k < 2 * (m % 2 ^ d * 2 ^ k)) = (2 ^ d < 2 * (m % 2 ^ d)) := by
    rw [← Nat.mul_assoc]
    exact propext (Nat.mul_lt_mul_right pk)
  have e2 : (2 ^ d * 2 ^ k = 2 * (m % 2 ^ d * 2 ^ k)) = (2 ^ d = 2 * (m % 2 ^ d)) := by
    rw [← Nat.mul_assoc]
    exact propext (Nat.mul_right_cancel_iff pk)
  simp only [e1, e2]
theorem cut_even (neg : Bool) (n d : Nat) (h : d ≤ n.log2 + 2) : Ieee.Toward.even.cut neg n d = rne n d := by
  unfold Ieee.Toward.cut rne
  rw [Nat.min_eq_left h]
  simp only [Nat.one_shiftLeft]
  congr 1
  by_cases h1 : 2 ^ d < 2 * (n % 2 ^ d) ∨ 2 ^ d = 2 * (n % 2 ^ d) ∧ n / 2 ^ d % 2 = 1
  · rw [if_pos h1]
    have : (decide (2 ^ d < 2 * (n % 2 ^ d)) || 2 ^ d == 2 * (n % 2 ^ d) && n / 2 ^ d % 2 == 1) = true := by
      simpa using h1
    rw [this]
    rfl
  · rw [if_neg h1]
    have : (decide (2 ^ d < 2 * (n % 2 ^ d)) || 2 ^ d == 2 * (n % 2 ^ d) && n / 2 ^ d % 2 == 1) = false := by
      rw [Bool.eq_false_iff]
      simpa using h1
    rw [this]
    rfl

/-- The word nearest to 'mag * 2 ^ (k - 1074)'. -/
theorem nearest_units (neg : Bool) (mag k : Nat) (place : Int) (hp : place = -1074 + (k : Int)) : Ieee.double.nearest neg mag place = Ieee.double.word neg (min (rnd (mag * 2 ^ k)) Ieee.double.infRung) := by
  subst hp
  unfold Ieee.Format.nearest
  by_cases hm : mag = 0
  · rw [if_pos hm, hm, Nat.zero_mul, show rnd 0 = 0 by decide, Nat.zero_min]
  · rw [if_neg hm, double_least, double_binade, show Ieee.double.fractionBits = 52 from rfl]
    have hl := log2_mul_two_pow hm k
    obtain ⟨e, he⟩ : ∃ e, e = mag.log2 + k - 52 := ⟨_, rfl⟩
    have hlast : max (-1074 + (k : Int) + (mag.log2 : Int) - ((52 : Nat) : Int)) (-1074) = -1074 + (e : Int) := by omega
    simp only [hlast]
    have e1 : (-1074 + (e : Int) - -1074).toNat = e := by omega
    have e2 : (-1074 + (k : Int) - (-1074 + (e : Int))).toNat = k - e := by omega
    have e3 : (-1074 + (e : Int) - (-1074 + (k : Int))).toNat = e - k := by omega
    rw [e1, e2, e3]
    have hr : rnd (mag * 2 ^ k) = e * rB + rne (mag * 2 ^ k) e := by
      unfold rnd
      rw [hl, ← he]
    rw [hr]
    have hc : Ieee.Toward.even.cut neg (mag <<< (k - e)) (e - k) = rne (mag * 2 ^ k) e := by
      rcases Nat.le_total e k with h | h
      · rw [show e - k = 0 by omega, cut_even _ _ _ (Nat.zero_le _), Nat.shiftLeft_eq]
        obtain ⟨j, rfl⟩ : ∃ j, k = e + j := ⟨k - e, by omega⟩
        rw [rne_exact, show e + j - e = j by omega]
        have := rne_exact mag j 0
        rw [Nat.zero_add] at this
        exact this
      · rw [show k - e = 0 by omega, Nat.shiftLeft_zero, cut_even _ _ _ (by omega)]
        obtain ⟨j, rfl⟩ : ∃ j, e = j + k := ⟨e - k, by omega⟩
        rw [rne_scale, show j + k - k = j by omega]
    rw [hc]
end Go.Proofs.Ytillkgbnokkacaa

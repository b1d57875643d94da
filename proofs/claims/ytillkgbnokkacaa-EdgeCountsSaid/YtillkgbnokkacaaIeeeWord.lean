/-
  Doubles as words: what they read as, their order, whole numbers made doubles, quotients.
-/
import Derived.Test.YtillkgbnokkacaaIeeeDiv
namespace Go.Proofs.Ytillkgbnokkacaa

def rInf : Nat := 9218868437227405312
def negw (w : Nat) : Bool := w / 9223372036854775808 % 2 == 1
def rung (w : Nat) : Nat := w % 9223372036854775808
/-- What a word stands for, in units of 2^-1074; an infinity as the next rung above all. -/
def sval (w : Nat) : Int := if negw w then -(val (rung w) : Int) else (val (rung w) : Int)

theorem read_eq (w : Nat) : Ieee.double.read w = if rung w < rB then .number (negw w) (rung w) (-1074) else if rung w < rInf then .number (negw w) (rB + rung w % rB) (-1074 + ((rung w / rB - 1 : Nat) : Int)) else if rung w = rInf then .infinity (negw w) else .nan (negw w) (rung w - rInf) := by
  unfold Ieee.Format.read
  rw [double_least, double_binade, double_inf, double_weight]
  rfl
theorem read_num {w : Nat} (h : rung w < rInf) : ∃ mag k : Nat, Ieee.double.read w = .number (negw w) mag (-1074 + (k : Int)) ∧ mag * 2 ^ k = val (rung w) ∧ (rB ≤ rung w → rB ≤ mag ∧ mag < 2 * rB ∧ k = rung w / rB - 1) := by
  have hB : 0 < rB := by decide
  rw [read_eq]
  by_cases h1 : rung w < rB
  · rw [if_pos h1]
    exact ⟨rung w, 0, by simp, by rw [val_low _ (by omega)]; simp, fun h => by omega⟩
  · rw [if_neg h1, if_pos h]
    refine ⟨rB + rung w % rB, rung w / rB - 1, rfl, ?_, fun _ => ⟨by omega, by have := Nat.mod_lt (rung w) hB; omega, rfl⟩⟩
    unfold val
    rw [if_neg h1]
theorem read_inf {w : Nat} (h : rung w = rInf) : Ieee.double.read w = .infinity (negw w) := by
  rw [read_eq, h]
  rfl
theorem read_nan {w : Nat} (h : rInf < rung w) : Ieee.double.read w = .nan (negw w) (rung w - rInf) := by
  have h1 : rB < rInf := by decide
  rw [read_eq, if_neg (by omega), if_neg (by omega), if_neg (by omega)]

theorem compare_scale (a b : Int) (k : Nat) : compare (a * (2 : Int) ^ k) (b * (2 : Int) ^ k) = compare a b := by
  have hp : (0 : Int) < 2 ^ k := Int.pow_pos (by decide)
  rcases Int.lt_trichotomy a b with h | h | h
  · rw [(Int.compare_eq_lt).2 h, (Int.compare_eq_lt).2 (Int.mul_lt_mul_of_pos_right h hp)]
  · subst h
    rw [(Int.compare_eq_eq).2 rfl, (Int.compare_eq_eq).2 rfl]
  · rw [(Int.compare_eq_gt).2 h, (Int.compare_eq_gt).2 (Int.mul_lt_mul_of_pos_right h hp)]

theorem signed_scale (neg : Bool) (m a b : Nat) : Ieee.signed neg m a * (2 : Int) ^ b = Ieee.signed neg (m * 2 ^ (a + b)) 0 := by
  have e : (m <<< a : Nat) * 2 ^ b = m * 2 ^ (a + b) := by rw [Nat.shiftLeft_eq, Nat.pow_add, Nat.mul_assoc]
  have e2 : ((m <<< a : Nat) : Int) * 2 ^ b = ((m * 2 ^ (a + b) : Nat) : Int) := by
    rw [← e, Int.natCast_mul, Int.natCast_pow]
    rfl
  unfold Ieee.signed
  rw [Nat.shiftLeft_zero]
  cases neg
  · simpa using e2
  · simp only [if_true]
    rw [Int.neg_mul, e2]
theorem sval_signed (w : Nat) : Ieee.signed (negw w) (val (rung w)) 0 = sval w := by
  unfold Ieee.signed sval
  rw [Nat.shiftLeft_zero]

theorem val_inf_lt {r : Nat} (h : r < rInf) : val r < val rInf := val_lt h
/-- The order of two words that are no NaN. -/
theorem order_words {x y : Nat} (hx : rung x ≤ rInf) (hy : rung y ≤ rInf) : Ieee.double.order x y = some (compare (sval x) (sval y)) := by
  unfold Ieee.Format.order
  have hpos : 0 < val rInf := by
    have := val_lt (show 0 < rInf by decide)
    omega
  by_cases h1 : rung x = rInf
  · rw [read_inf h1]
    by_cases h2 : rung y = rInf
    · rw [read_inf h2]
      unfold sval
      rw [h1, h2]
      cases negw x <;> cases negw y
      · show some (compare (0 : Nat) 0) = _
        rw [(Int.compare_eq_eq).2 (by simp)]
        rfl
      · show some (compare (1 : Nat) 0) = _
        rw [(Int.compare_eq_gt).2 (by simp; omega)]
        rfl
      · show some (compare (0 : Nat) 1) = _
        rw [(Int.compare_eq_lt).2 (by simp; omega)]
        rfl
      · show some (compare (1 : Nat) 1) = _
        rw [(Int.compare_eq_eq).2 (by simp)]
        rfl
    · obtain ⟨m, k, hr, hv, _⟩ := read_num (w := y) (by omega)
      rw [hr]
      have hlt := val_inf_lt (show rung y < rInf by omega)
      show some (if negw x = true then Ordering.lt else Ordering.gt) = _
      congr 1
      symm
      cases hx' : negw x
      · rw [if_neg (by simp)]
        refine (Int.compare_eq_gt).2 ?_
        unfold sval
        rw [hx', h1]
        cases negw y <;> simp <;> omega
      · rw [if_pos rfl]
        refine (Int.compare_eq_lt).2 ?_
        unfold sval
        rw [hx', h1]
        cases negw y <;> simp <;> omega
  · obtain ⟨m, k, hr, hv, _⟩ := read_num (w := x) (by omega)
    rw [hr]
    by_cases h2 : rung y = rInf
    · rw [read_inf h2]
      have hlt := val_inf_lt (show rung x < rInf by omega)
      show some (if negw y = true then Ordering.gt else Ordering.lt) = _
      congr 1
      symm
      cases hy' : negw y
      · rw [if_neg (by simp)]
        refine (Int.compare_eq_lt).2 ?_
        unfold sval
        rw [hy', h2]
        cases negw x <;> simp <;> omega
      · rw [if_pos rfl]
        refine (Int.compare_eq_gt).2 ?_
        unfold sval
        rw [hy', h2]
        cases negw x <;> simp <;> omega
    · obtain ⟨n, l, hs, hu, _⟩ := read_num (w := y) (by omega)
      rw [hs]
      show some (compare (Ieee.signed (negw x) m (-1074 + (k : Int) - min (-1074 + (k : Int)) (-1074 + (l : Int))).toNat) (Ieee.signed (negw y) n (-1074 + (l : Int) - min (-1074 + (k : Int)) (-1074 + (l : Int))).toNat)) = _
      obtain ⟨b, hb⟩ : ∃ b, b = min k l := ⟨_, rfl⟩
      rw [show (-1074 + (k : Int) - min (-1074 + (k : Int)) (-1074 + (l : Int))).toNat = k - b by omega, show (-1074 + (l : Int) - min (-1074 + (k : Int)) (-1074 + (l : Int))).toNat = l - b by omega]
      rw [← compare_scale _ _ b, signed_scale, signed_scale, show k - b + b = k by omega, show l - b + b = l by omega, hv, hu, sval_signed, sval_signed]
theorem order_nan {x y : Nat} (h : rInf < rung x ∨ rInf < rung y) : Ieee.double.order x y = none := by
  unfold Ieee.Format.order
  rcases h with h | h
  · rw [read_nan h]
    cases Ieee.double.read y <;> rfl
  · rw [read_nan h]
    cases Ieee.double.read x <;> rfl

/-- The place of 1 above the least one. -/
def eU : Nat := 1074
/-- A whole number as a double. -/
def flo (n : Nat) : Nat := rnd (n * 2 ^ eU)
theorem flo_mono {m n : Nat} (h : m ≤ n) : flo m ≤ flo n := rnd_mono (Nat.mul_le_mul_right _ h)
theorem flo_pow (e : Nat) : flo (2 ^ e) = (1022 + e) * rB + rB := by
  have hE : eU = 1074 := rfl
  have hBp : rB = 2 ^ 52 := by decide
  have hv := val_at (1022 + e) rB (Nat.le_refl _) (by omega)
  have he : rB * 2 ^ (1022 + e) = 2 ^ (e + eU) := by
    rw [hBp, ← Nat.pow_add, show 52 + (1022 + e) = e + eU by omega]
  rw [he] at hv
  unfold flo
  rw [← Nat.pow_add, ← hv, rnd_val]
theorem flo_le {n : Nat} (h : n ≤ 18446744073709551616) : flo n ≤ 1087 * rB := by
  have h1 := flo_mono (show n ≤ 2 ^ 64 from h)
  rw [flo_pow 64] at h1
  omega
theorem flo_ge {n : Nat} (h : 0 < n) : 1023 * rB ≤ flo n := by
  have h1 := flo_mono (show 2 ^ 0 ≤ n from h)
  rw [flo_pow 0] at h1
  omega
theorem flo_zero : flo 0 = 0 := by unfold flo; rw [Nat.zero_mul]; decide
theorem word_false (X : Nat) : Ieee.double.word false X = X := rfl
theorem floatOfInt_nat {n : Nat} (h : n ≤ 18446744073709551616) : floatOfInt .f64 (n : Int) = flo n := by
  show Ieee.double.nearest (decide ((n : Int) < 0)) (n : Int).natAbs 0 = _
  rw [nearest_units _ _ eU 0 (by rw [show eU = 1074 from rfl]; decide), Int.natAbs_natCast, show decide ((n : Int) < 0) = false from decide_eq_false (by omega), double_inf]
  have h1 := flo_le h
  have h2 : 1087 * rB ≤ 9218868437227405312 := by decide
  rw [word_false]
  exact Nat.min_eq_left (Nat.le_trans h1 h2)
end Go.Proofs.Ytillkgbnokkacaa

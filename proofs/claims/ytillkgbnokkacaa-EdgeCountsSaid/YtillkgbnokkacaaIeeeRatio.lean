/-
  The quotient of two whole numbers, each made a double first.
-/
import Derived.Test.YtillkgbnokkacaaIeeeWord
namespace Go.Proofs.Ytillkgbnokkacaa

theorem rung_small {w : Nat} (h : w < 9223372036854775808) : rung w = w ∧ negw w = false := by
  refine ⟨Nat.mod_eq_of_lt h, ?_⟩
  unfold negw
  rw [Nat.div_eq_of_lt h]
  rfl
theorem log2_norm {m : Nat} (h1 : rB ≤ m) (h2 : m < 2 * rB) : m.log2 = 52 := by
  have hb : rB = 4503599627370496 := rfl
  exact (Nat.log2_eq_iff (by omega)).2 ⟨by omega, by omega⟩

/-- The quotient of two doubles between 1 and 2^64. -/
theorem div_words {x y : Nat} (hx : 1023 * rB ≤ x) (hx2 : x ≤ 1087 * rB) (hy : 1023 * rB ≤ y) (hy2 : y ≤ 1087 * rB) :
    ∃ R, Ieee.double.div x y = some R ∧ R ≤ 1089 * rB ∧ ∀ N, N < R ↔ ((val N + val (N + 1)) * val y < 2 * val x * 2 ^ eU ∨ ((val N + val (N + 1)) * val y = 2 * val x * 2 ^ eU ∧ N % 2 = 1)) := by
  have hb : rB = 4503599627370496 := rfl
  have hBp : rB = 2 ^ 52 := by decide
  have hE : eU = 1074 := rfl
  have hB : 0 < rB := by omega
  have hi : rInf = 9218868437227405312 := rfl
  obtain ⟨rx, nx⟩ := rung_small (w := x) (by omega)
  obtain ⟨ry, ny⟩ := rung_small (w := y) (by omega)
  obtain ⟨mx, kx, hrx, hvx, hpx⟩ := read_num (w := x) (by omega)
  obtain ⟨my, ky, hry, hvy, hpy⟩ := read_num (w := y) (by omega)
  obtain ⟨mx1, mx2, hkx⟩ := hpx (by omega)
  obtain ⟨my1, my2, hky⟩ := hpy (by omega)
  rw [rx] at hvx hkx
  rw [ry] at hvy hky
  have lx := log2_norm mx1 mx2
  have ly := log2_norm my1 my2
  have kx1 : 1023 ≤ x / rB := (Nat.le_div_iff_mul_le hB).2 hx
  have kx2 : x / rB ≤ 1087 := (Nat.div_le_iff_le_mul_add_pred hB).2 (by rw [Nat.mul_comm]; omega)
  have ky1 : 1023 ≤ y / rB := (Nat.le_div_iff_mul_le hB).2 hy
  have ky2 : y / rB ≤ 1087 := (Nat.div_le_iff_le_mul_add_pred hB).2 (by rw [Nat.mul_comm]; omega)
  obtain ⟨s, hs⟩ : ∃ s, s + ky = 1019 + kx := ⟨1019 + kx - ky, by omega⟩
  have hmy : my ≠ 0 := by omega
  have hdiv : Ieee.double.div x y = some (min (rnd (stick (mx * 2 ^ 54) my * 2 ^ s)) rInf) := by
    have e1 : (Ieee.Datum.number false mx (-1074 + (kx : Int))).quotient (Ieee.double.fractionBits + 2) (.number false my (-1074 + (ky : Int))) = some (.number false (stick (mx * 2 ^ 54) my) (-1074 + (s : Int))) := by
      show (if my = 0 then _ else some (Ieee.Datum.number (false ^^ false) (2 * (mx <<< (52 + 2 + my.log2 - mx.log2) / my) + (mx <<< (52 + 2 + my.log2 - mx.log2) % my != 0).toNat) (-1074 + (kx : Int) - (-1074 + (ky : Int)) - ((52 + 2 + my.log2 - mx.log2 : Nat) : Int) - 1))) = _
      rw [if_neg hmy, lx, ly, Nat.shiftLeft_eq]
      have e2 : -1074 + (kx : Int) - (-1074 + (ky : Int)) - ((52 + 2 + 52 - 52 : Nat) : Int) - 1 = -1074 + (s : Int) := by omega
      rw [e2]
      rfl
    unfold Ieee.Format.div
    rw [hrx, hry, nx, ny, e1]
    show some (Ieee.double.nearest false (stick (mx * 2 ^ 54) my) (-1074 + (s : Int))) = _
    rw [nearest_units _ _ s _ rfl, double_inf, word_false]
    rfl
  have hst : stick (mx * 2 ^ 54) my ≤ 2 * 2 ^ 55 := by
    rw [stick_le (by omega)]
    have h1 : mx * 2 ^ 54 ≤ 2 * my * 2 ^ 54 := Nat.mul_le_mul_right _ (by omega)
    rw [show 2 ^ 55 * my = 2 * my * 2 ^ 54 by omega]
    exact h1
  have hR : rnd (stick (mx * 2 ^ 54) my * 2 ^ s) ≤ 1089 * rB := by
    obtain ⟨t, ht⟩ : ∃ t : Nat, t = 1083 := ⟨_, rfl⟩
    obtain ⟨g, hg⟩ : ∃ g : Nat, g = 1088 := ⟨_, rfl⟩
    have h1 : stick (mx * 2 ^ 54) my * 2 ^ s ≤ rB * 2 ^ g := by
      have h2 : stick (mx * 2 ^ 54) my * 2 ^ s ≤ 2 ^ 56 * 2 ^ t := Nat.mul_le_mul (by omega) (Nat.pow_le_pow_right (by decide) (by omega))
      rw [← Nat.pow_add] at h2
      rw [hBp, ← Nat.pow_add]
      exact Nat.le_trans h2 (Nat.pow_le_pow_right (by decide) (by omega))
    have h2 := rnd_mono h1
    rw [← val_at g rB (Nat.le_refl _) (by omega), rnd_val, hg] at h2
    omega
  refine ⟨_, hdiv, Nat.le_trans (Nat.min_le_left _ _) hR, fun N => ?_⟩
  rw [Nat.min_eq_left (by omega), lt_rnd_stick N _ my s (by omega) (by omega)]
  unfold AboveQ
  obtain ⟨T, hT⟩ : ∃ T, T = val N + val (N + 1) := ⟨_, rfl⟩
  rw [← hT]
  have pk := Nat.two_pow_pos ky
  have e1 : T * val y = T * my * 2 ^ ky := by rw [← hvy, Nat.mul_assoc]
  have e2 : 2 * val x * 2 ^ eU = 4 * (mx * 2 ^ 54) * 2 ^ s * 2 ^ ky := by
    rw [← hvx]
    have h1 : 2 * (mx * 2 ^ kx) * 2 ^ eU = mx * 2 ^ (1 + kx + eU) := by
      rw [Nat.pow_add, Nat.pow_add, Nat.pow_one, ← Nat.mul_assoc, ← Nat.mul_assoc, ← Nat.mul_assoc, Nat.mul_comm 2 mx]
    have h2 : 4 * (mx * 2 ^ 54) * 2 ^ s * 2 ^ ky = mx * 2 ^ (2 + 54 + s + ky) := by
      rw [Nat.pow_add, Nat.pow_add, Nat.pow_add, ← Nat.mul_assoc, ← Nat.mul_assoc, ← Nat.mul_assoc, ← Nat.mul_assoc, Nat.mul_comm 4 mx]
    rw [h1, h2, show 1 + kx + eU = 2 + 54 + s + ky by omega]
  rw [e1, e2, Nat.mul_lt_mul_right pk, Nat.mul_right_cancel_iff pk]

/-- The quotient's word. -/
theorem ratio_word {m n : Nat} (hm : 0 < m) (hm2 : m ≤ 18446744073709551616) (hn : 0 < n) (hn2 : n ≤ 18446744073709551616) :
    ∃ R, Ieee.double.div (flo m) (flo n) = some R ∧ R ≤ 1089 * rB ∧ ∀ N, N < R ↔ ((val N + val (N + 1)) * val (flo n) < 2 * val (flo m) * 2 ^ eU ∨ ((val N + val (N + 1)) * val (flo n) = 2 * val (flo m) * 2 ^ eU ∧ N % 2 = 1)) :=
  div_words (flo_ge hm) (flo_le hm2) (flo_ge hn) (flo_le hn2)
theorem ratio_mono {R S a b c : Nat} (h1 : ∀ N, N < R ↔ ((val N + val (N + 1)) * c < 2 * a * 2 ^ eU ∨ ((val N + val (N + 1)) * c = 2 * a * 2 ^ eU ∧ N % 2 = 1)))
    (h2 : ∀ N, N < S ↔ ((val N + val (N + 1)) * c < 2 * b * 2 ^ eU ∨ ((val N + val (N + 1)) * c = 2 * b * 2 ^ eU ∧ N % 2 = 1))) (h : a ≤ b) : R ≤ S := by
  rcases Nat.lt_or_ge S R with h3 | h3
  · have h4 := (h1 S).1 h3
    have h5 : 2 * a * 2 ^ eU ≤ 2 * b * 2 ^ eU := Nat.mul_le_mul_right _ (by omega)
    exact absurd ((h2 S).2 (by omega)) (Nat.lt_irrefl _)
  · exact h3
theorem ratio_one {R a c : Nat} (hc : 0 < c) (h1 : ∀ N, N < R ↔ ((val N + val (N + 1)) * c < 2 * a * 2 ^ eU ∨ ((val N + val (N + 1)) * c = 2 * a * 2 ^ eU ∧ N % 2 = 1))) (h : a ≤ c) : R ≤ 1023 * rB := by
  have hv : val (1023 * rB) = 2 ^ eU := by
    have hE : eU = 1074 := rfl
    have hBp : rB = 2 ^ 52 := by decide
    obtain ⟨e, he⟩ : ∃ e : Nat, e = 1022 := ⟨_, rfl⟩
    have h1 := val_at e rB (Nat.le_refl _) (by omega)
    rw [hBp, ← Nat.pow_add, ← hBp, show 52 + e = eU by omega] at h1
    rw [← h1, he]
    congr 1
  rcases Nat.lt_or_ge (1023 * rB) R with h3 | h3
  · have h4 := (h1 _).1 h3
    have h5 := val_succ_lt (1023 * rB)
    rw [hv] at h4 h5
    have h6 : 2 * a * 2 ^ eU ≤ 2 * c * 2 ^ eU := Nat.mul_le_mul_right _ (by omega)
    have h7 : 2 * 2 ^ eU * c < (2 ^ eU + val (1023 * rB + 1)) * c := Nat.mul_lt_mul_of_pos_right (by omega) hc
    rw [show 2 * 2 ^ eU * c = 2 * c * 2 ^ eU by rw [Nat.mul_assoc, Nat.mul_comm (2 ^ eU), ← Nat.mul_assoc]] at h7
    omega
  · exact h3
end Go.Proofs.Ytillkgbnokkacaa

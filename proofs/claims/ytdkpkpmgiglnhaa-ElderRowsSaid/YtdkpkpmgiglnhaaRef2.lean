/-
  Contract of the document's Get: the number with which any bytes begin, or what is wrong.
-/
import Derived.Test.YtdkpkpmgiglnhaaRef1
import Derived.Test.YtdkpkpmgiglnhaaVarGet
import Derived.Deep.Cut
namespace Go.Proofs.Ytdkpkpmgiglnhaa
open Go.RowKit

/-- What the document's Get leaves: the rest, how far, why it stops; the number. -/
def refOut (xs : List Int) (a : Int) (t : VR) : Value := .tuple #[rdr (xs.drop t.n) (a + t.n) t.e, .int .u64 (if t.e = 0 then t.x else 0)]

section
variable {xs : List Int} {a : Int} {B R : Nat} {w : World} {i X : Nat} {wr : World}

end

/-- The byte's group is added. -/
theorem acc_group (X P i : Nat) (b : Int) (b0 : 0 ≤ b) (b1 : b < 256) (hX : X < 2 ^ (7 * i)) (hP : P = 2 ^ (7 * i)) (hi : i ≤ 9) (h9 : i = 9 → b ≤ 1) :
    IntKind.u64.wrap ((X : Int) + IntKind.u64.wrap (b % 128 * (P : Int))) = ((X + 2 ^ (7 * i) * (b.toNat % 128) : Nat) : Int) := by
  rw [← hP] at hX ⊢
  have hm : (b % 128 * (P : Int)) = ((P * (b.toNat % 128) : Nat) : Int) := by
    push_cast
    rw [Int.mul_comm]
    congr 1
    omega
  have hp : P * (b.toNat % 128) ≤ 9223372036854775808 := by
    by_cases h : i = 9
    · subst h
      have := h9 rfl
      have h1 : b.toNat % 128 ≤ 1 := by omega
      have h2 : P * (b.toNat % 128) ≤ P * 1 := Nat.mul_le_mul_left _ h1
      rw [hP] at h2 ⊢
      exact Nat.le_trans h2 (by decide)
    · have h1 : P ≤ 2 ^ 56 := by rw [hP]; exact Nat.pow_le_pow_right (by omega) (by omega)
      have h2 : P * (b.toNat % 128) ≤ 2 ^ 56 * 127 := Nat.mul_le_mul h1 (by omega)
      exact Nat.le_trans h2 (by decide)
  have hq : P ≤ 9223372036854775808 := by
    have h1 : P ≤ 2 ^ 63 := by rw [hP]; exact Nat.pow_le_pow_right (by omega) (by omega)
    exact h1
  rw [hm, IntKind.wrap_u64, IntKind.wrap_u64]
  omega

theorem acc_last (X P i : Nat) (b : Int) (b0 : 0 ≤ b) (b1 : b < 128) (hX : X < 2 ^ (7 * i)) (hP : P = 2 ^ (7 * i)) (hi : i ≤ 9) (h9 : i = 9 → b ≤ 1) :
    IntKind.u64.wrap ((X : Int) + IntKind.u64.wrap (b % 128 * (P : Int))) = X + 2 ^ (7 * i) * b := by
  rw [acc_group X P i b b0 (by omega) hX hP hi h9]
  push_cast
  congr 2
  omega

theorem acc_pow (P i : Nat) (hP : P = 2 ^ (7 * i)) (hi : i ≤ 8) : IntKind.u64.wrap ((P : Int) * 128) = ((2 ^ (7 * (i + 1)) : Nat) : Int) := by
  have e : 2 ^ (7 * (i + 1)) = P * 128 := by rw [hP, show 7 * (i + 1) = 7 * i + 7 by omega, Nat.pow_add]
  have h1 : P ≤ 2 ^ 56 := by rw [hP]; exact Nat.pow_le_pow_right (by omega) (by omega)
  rw [e, IntKind.wrap_u64]
  omega

end Go.Proofs.Ytdkpkpmgiglnhaa

/-
  Contract of Get: the next number of a cursor's bytes, or where and why its reading stops.
-/
import Derived.Test.YtldogkmmnamjbaaVarNum
import Derived.Test.YtldogkmmnamjbaaCurC
namespace Go.Proofs.Ytldogkmmnamjbaa
open Go.RowKit

def VR.up (i X : Nat) (t : VR) : VR := ⟨t.e, t.n + i, X + 2 ^ (7 * i) * t.x⟩

section
variable {k : Nat} {p : Option Addr} {xs : List Int} {N c a : Nat} {w : World} {i X : Nat} {wr : World}

theorem drop_cons {xs : List Int} {n : Nat} (h : n < xs.length) : xs.drop n = xs.getD n 0 :: xs.drop (n + 1) := by
  rw [List.drop_eq_getElem_cons h]
  simp [h]

end

theorem ret_u64 {a b : Int} (h : a = b) : Ending.returned (.int .u64 a) = .returned (.int .u64 b) := by rw [h]

/-- The byte's group goes in. -/
theorem or_group (X i : Nat) (b : Int) (b0 : 0 ≤ b) (b1 : b < 256) (hX : X < 2 ^ (7 * i)) (hi : i ≤ 9) (h9 : i = 9 → b ≤ 1) :
    bits BinOp.or IntKind.u64 (X : Int) (IntKind.u64.wrap (IntKind.u64.wrap (bits BinOp.andNot IntKind.u8 b 128) * 2 ^ (7 * i))) = ((X + 2 ^ (7 * i) * (b.toNat % 128) : Nat) : Int) := by
  have e1 : IntKind.u64.wrap (bits BinOp.andNot IntKind.u8 b 128) = ((b.toNat % 128 : Nat) : Int) := by
    rw [low_seven b b0 b1, IntKind.wrap_u64]
    omega
  have hp : 2 ^ (7 * i) * (b.toNat % 128) < 18446744073709551616 := by
    by_cases h : i = 9
    · subst h
      have := h9 rfl
      have h1 : b.toNat % 128 ≤ 1 := by omega
      have h2 : 2 ^ (7 * 9) * (b.toNat % 128) ≤ 2 ^ (7 * 9) * 1 := Nat.mul_le_mul_left _ h1
      exact Nat.lt_of_le_of_lt h2 (by decide)
    · have h1 : 2 ^ (7 * i) ≤ 2 ^ 56 := Nat.pow_le_pow_right (by omega) (by omega)
      have h2 : 2 ^ (7 * i) * (b.toNat % 128) ≤ 2 ^ 56 * 127 := Nat.mul_le_mul h1 (by omega)
      exact Nat.lt_of_le_of_lt h2 (by decide)
  rw [e1, or_seven X _ i hX hp (by omega)]

/-- The last group. -/
theorem or_last (X i : Nat) (b : Int) (b0 : 0 ≤ b) (b1 : b < 128) (hX : X < 2 ^ (7 * i)) (hi : i ≤ 9) (h9 : i = 9 → b ≤ 1) :
    bits BinOp.or IntKind.u64 (X : Int) (IntKind.u64.wrap (IntKind.u64.wrap (bits BinOp.andNot IntKind.u8 b 128) * 2 ^ (7 * i))) = X + 2 ^ (7 * i) * b := by
  rw [or_group X i b b0 (by omega) hX hi h9]
  push_cast
  congr 2
  omega

end Go.Proofs.Ytldogkmmnamjbaa

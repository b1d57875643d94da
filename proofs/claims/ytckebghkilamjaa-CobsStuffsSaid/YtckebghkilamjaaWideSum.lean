/-
  Contracts of package wide: RotateLeft64, into, four, eight, mix.
-/
import Derived.Test.YtckebghkilamjaaWideRef
import Derived.Test.YtckebghkilamjaaThinSum
import Derived.BigQuiet
namespace Go.Proofs.Ytckebghkilamjaa
open Go.RowKit

theorem and63 (n : Nat) (hn : n < 64) : bits BinOp.and IntKind.u64 (n : Int) 63 = (n : Int) := by
  have e := u64_and_nat n 63 (by omega) (by decide)
  rw [show n &&& 63 = n % 2 ^ 6 from Nat.and_two_pow_sub_one_eq_mod n 6, Nat.mod_eq_of_lt (by omega)] at e
  exact e

theorem wdown64 {x : Int} (h : U64 x) : bits BinOp.xor IntKind.u64 x (x / 8589934592) = down 33 x ∧ bits BinOp.xor IntKind.u64 x (x / 536870912) = down 29 x ∧ bits BinOp.xor IntKind.u64 x (x / 4294967296) = down 32 x :=
  ⟨wdown_of 33 h, wdown_of 29 h, wdown_of 32 h⟩

/-- 'x | uint64(b) << (8*k)' where x has k bytes: as the walk says it. -/
theorem or_byte64 (X y : Int) (k : Nat) (hk : k < 4) (hX0 : 0 ≤ X) (hX : X < 2 ^ (8 * k)) (h0 : 0 ≤ y) (h1 : y < 256) :
    bits BinOp.or IntKind.u64 X (y * 2 ^ (8 * k)) = X + 2 ^ (8 * k) * y := by
  obtain ⟨x, rfl⟩ := Int.eq_ofNat_of_zero_le hX0
  obtain ⟨b, rfl⟩ := Int.eq_ofNat_of_zero_le h0
  have hp := pow_le_of (show k < 8 by omega)
  have hx : x < 2 ^ (8 * k) := by exact_mod_cast hX
  have hb : b < 256 := by omega
  have hbp : b * 2 ^ (8 * k) < 18446744073709551616 := by
    have : b * 2 ^ (8 * k) < 256 * 2 ^ (8 * k) := Nat.mul_lt_mul_of_pos_right hb (Nat.two_pow_pos _)
    rw [Nat.mul_comm 256] at this
    omega
  have e2 : (b : Int) * 2 ^ (8 * k) = ((b * 2 ^ (8 * k) : Nat) : Int) := by push_cast; rfl
  rw [e2, u64_or_nat _ _ (by omega) hbp, Nat.or_comm, Nat.mul_comm b, ← Nat.two_pow_add_eq_or_of_lt hx]
  push_cast
  omega

end Go.Proofs.Ytckebghkilamjaa

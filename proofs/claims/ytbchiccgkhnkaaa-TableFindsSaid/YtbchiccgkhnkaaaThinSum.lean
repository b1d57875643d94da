/-
  Contracts of package thin: RotateLeft32, four, mix, blocks, Sum, Check.
-/
import Derived.Test.YtbchiccgkhnkaaaThinRefSum
import Derived.BigQuiet
namespace Go.Proofs.Ytbchiccgkhnkaaa
open Go.RowKit

theorem and31 (n : Nat) (hn : n < 32) : bits BinOp.and IntKind.u64 (n : Int) 31 = (n : Int) := by
  have e := u64_and_nat n 31 (by omega) (by decide)
  rw [show n &&& 31 = n % 2 ^ 5 from Nat.and_two_pow_sub_one_eq_mod n 5, Nat.mod_eq_of_lt (by omega)] at e
  exact e

theorem down32 {x : Int} (h : U32 x) : bits BinOp.xor IntKind.u32 x (x / 32768) = down 15 x ∧ bits BinOp.xor IntKind.u32 x (x / 8192) = down 13 x ∧ bits BinOp.xor IntKind.u32 x (x / 65536) = down 16 x :=
  ⟨down_of32 15 h, down_of32 13 h, down_of32 16 h⟩

def lenOf : Value → Nat
  | .slice _ n _ => n
  | _ => 0

/-- 'x | uint32(low) << (8*k)' where x has k bytes. -/
theorem or_byte32 (X y : Int) (k : Nat) (hk : k < 4) (hX0 : 0 ≤ X) (hX : X < 2 ^ (8 * k)) (h0 : 0 ≤ y) (h1 : y < 256) :
    bits BinOp.or IntKind.u32 X (y * 2 ^ (8 * k)) = X + 2 ^ (8 * k) * y := by
  obtain ⟨x, rfl⟩ := Int.eq_ofNat_of_zero_le hX0
  obtain ⟨b, rfl⟩ := Int.eq_ofNat_of_zero_le h0
  have hp : (2 : Nat) ^ (8 * k) * 256 ≤ 4294967296 := by
    have e : (2 : Nat) ^ (8 * k) * 256 = 2 ^ (8 * k + 8) := by rw [Nat.pow_add]
    rw [e]
    exact Nat.pow_le_pow_right (by decide) (show 8 * k + 8 ≤ 32 by omega)
  have hx : x < 2 ^ (8 * k) := by exact_mod_cast hX
  have hb : b < 256 := by omega
  have hbp : b * 2 ^ (8 * k) < 4294967296 := by
    have : b * 2 ^ (8 * k) < 256 * 2 ^ (8 * k) := Nat.mul_lt_mul_of_pos_right hb (Nat.two_pow_pos _)
    rw [Nat.mul_comm 256] at this
    omega
  have e2 : (b : Int) * 2 ^ (8 * k) = ((b * 2 ^ (8 * k) : Nat) : Int) := by push_cast; rfl
  rw [e2, u32_or_nat _ _ (by omega) hbp, Nat.or_comm, Nat.mul_comm b, ← Nat.two_pow_add_eq_or_of_lt hx]
  push_cast
  omega

theorem Bytes8.at4 {w : World} {p : Option Addr} {xs : List Int} (h : Bytes8 w p xs) (h4 : 4 ≤ xs.length) : ∃ a, p = some a ∧ w.cell? a = some (.int .u8 (xs.getD 0 0)) ∧ w.cell? ⟨a.block, a.off + 1, none⟩ = some (.int .u8 (xs.getD 1 0)) ∧ w.cell? ⟨a.block, a.off + 2, none⟩ = some (.int .u8 (xs.getD 2 0)) ∧ w.cell? ⟨a.block, a.off + 3, none⟩ = some (.int .u8 (xs.getD 3 0)) := by
  obtain ⟨a, rfl, hc⟩ := h (by omega)
  exact ⟨a, rfl, hc 0 (by omega), hc 1 (by omega), hc 2 (by omega), hc 3 (by omega)⟩

theorem four_le {xs : List Int} (h4 : 4 ≤ xs.length) : four4 xs 0 = xs.getD 0 0 + 256 * (xs.getD 1 0) + 65536 * (xs.getD 2 0) + 16777216 * (xs.getD 3 0) := by
  match xs, h4 with
  | a :: b :: c :: d :: r, _ => simp [four4, le]; omega

end Go.Proofs.Ytbchiccgkhnkaaa

/-
  Plain numbers: bytes with the lowest one first, and what or and shift make of them.
-/
import Derived.Test.YtbchiccgkhnkaaaRows
import Derived.Laws.BitsAllLaws
import Derived.Laws.Bits64
namespace Go.Proofs.Ytbchiccgkhnkaaa

/-- The number of bytes, the lowest one first. -/
def le : List Int → Int
  | [] => 0
  | b :: r => b + 256 * le r

def Octets (xs : List Int) : Prop := ∀ b ∈ xs, 0 ≤ b ∧ b < 256

theorem Octets.take {xs : List Int} (h : Octets xs) (n : Nat) : Octets (xs.take n) := fun b hb => h b (List.mem_of_mem_take hb)
theorem Octets.drop {xs : List Int} (h : Octets xs) (n : Nat) : Octets (xs.drop n) := fun b hb => h b (List.mem_of_mem_drop hb)
theorem Octets.getD {xs : List Int} (h : Octets xs) (n : Nat) : 0 ≤ xs.getD n 0 ∧ xs.getD n 0 < 256 := by
  by_cases hn : n < xs.length
  · have e : xs.getD n 0 = xs[n] := by simp [hn]
    rw [e]; exact h _ (List.getElem_mem hn)
  · have e : xs.getD n 0 = 0 := by simp [List.getElem?_eq_none (show xs.length ≤ n by omega)]
    rw [e]; omega

theorem le_bound : ∀ (xs : List Int), Octets xs → 0 ≤ le xs ∧ le xs < 2 ^ (8 * xs.length)
  | [], _ => by simp [le]
  | b :: r, h => by
    have ⟨h1, h2⟩ := le_bound r (fun x hx => h x (List.mem_cons_of_mem _ hx))
    have hb := h b List.mem_cons_self
    have e : (2 : Int) ^ (8 * (b :: r).length) = 256 * 2 ^ (8 * r.length) := by
      rw [show 8 * (b :: r).length = 8 + 8 * r.length by simp; omega, Int.pow_add]; rfl
    rw [e]
    simp only [le]
    omega

theorem le_snoc : ∀ (xs : List Int) (y : Int), le (xs ++ [y]) = le xs + 2 ^ (8 * xs.length) * y
  | [], y => by simp [le]
  | b :: r, y => by
    have ih := le_snoc r y
    have e : (2 : Int) ^ (8 * (b :: r).length) = 256 * 2 ^ (8 * r.length) := by
      rw [show 8 * (b :: r).length = 8 + 8 * r.length by simp; omega, Int.pow_add]; rfl
    rw [e]
    simp only [List.cons_append, le, ih, Int.mul_assoc, Int.mul_add]
    omega

theorem take_succ_getD (xs : List Int) (k : Nat) (h : k < xs.length) : xs.take (k + 1) = xs.take k ++ [xs.getD k 0] := by
  rw [List.take_succ_eq_append_getElem h]
  simp [h]

theorem pow_le_of {k : Nat} (h : k < 8) : (2 : Nat) ^ (8 * k) * 256 ≤ 18446744073709551616 := by
  have e : (2 : Nat) ^ (8 * k) * 256 = 2 ^ (8 * k + 8) := by rw [Nat.pow_add]
  rw [e]
  exact Nat.pow_le_pow_right (by decide) (show 8 * k + 8 ≤ 64 by omega)

/-- 'x |= uint64(low) << (8*k)' where x has k bytes. -/
theorem or_byte (X y : Int) (k : Nat) (hk : k < 8) (hX0 : 0 ≤ X) (hX : X < 2 ^ (8 * k)) (h0 : 0 ≤ y) (h1 : y < 256) :
    bits BinOp.or IntKind.u64 X (IntKind.u64.wrap (IntKind.u64.wrap y * 2 ^ (8 * k))) = X + 2 ^ (8 * k) * y := by
  obtain ⟨x, rfl⟩ := Int.eq_ofNat_of_zero_le hX0
  obtain ⟨b, rfl⟩ := Int.eq_ofNat_of_zero_le h0
  have hp := pow_le_of hk
  have hx : x < 2 ^ (8 * k) := by exact_mod_cast hX
  have hb : b < 256 := by omega
  have hbp : b * 2 ^ (8 * k) < 18446744073709551616 := by
    have : b * 2 ^ (8 * k) < 256 * 2 ^ (8 * k) := Nat.mul_lt_mul_of_pos_right hb (Nat.two_pow_pos _)
    rw [Nat.mul_comm 256] at this
    omega
  have e1 : IntKind.u64.wrap (b : Int) = (b : Int) := by rw [IntKind.wrap_u64]; omega
  have e2 : IntKind.u64.wrap ((b : Int) * 2 ^ (8 * k)) = ((b * 2 ^ (8 * k) : Nat) : Int) := by
    rw [IntKind.wrap_u64]
    have : ((b : Int) * 2 ^ (8 * k)) = ((b * 2 ^ (8 * k) : Nat) : Int) := by push_cast; rfl
    rw [this]
    omega
  rw [e1, e2, u64_or_nat _ _ (by omega) hbp, Nat.or_comm, Nat.mul_comm b, ← Nat.two_pow_add_eq_or_of_lt hx]
  push_cast
  omega
end Go.Proofs.Ytbchiccgkhnkaaa

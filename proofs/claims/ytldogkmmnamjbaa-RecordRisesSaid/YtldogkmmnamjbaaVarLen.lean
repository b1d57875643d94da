/-
  Contracts of bits.Len64 and Size: how many bytes a number has.
-/
import Derived.Test.YtldogkmmnamjbaaVarNum
import Derived.Test.YtldogkmmnamjbaaMem
import Derived.Lib.BitFns
import Derived.Lib.Walk
import Derived.Lib.Strings
import Derived.Lib.Slices
import Derived.Lib.Small
namespace Go.Proofs.Ytldogkmmnamjbaa
open Go.RowKit

theorem bitLen_shifted {L x k : Nat} (h : BitLen L (x / 2 ^ k)) (h1 : 2 ^ k ≤ x) : BitLen (k + L) x := by
  have hp := Nat.two_pow_pos k
  obtain ⟨g1, g2⟩ := h
  refine ⟨?_, ?_⟩
  · rw [Nat.pow_add, Nat.mul_comm]
    exact (Nat.div_lt_iff_lt_mul hp).1 g1
  · right
    have hq : 1 ≤ x / 2 ^ k := (Nat.le_div_iff_mul_le hp).2 (by omega)
    rcases g2 with rfl | g2
    · simp at g1; omega
    · have hL : L ≠ 0 := by rintro rfl; simp at g1; omega
      rw [show k + L - 1 = (L - 1) + k by omega, Nat.pow_add]
      exact (Nat.le_div_iff_mul_le hp).1 g2

theorem bitLen_table : ∀ n : Fin 256, n.val < 2 ^ (Lib.bitLen n.val) ∧ (Lib.bitLen n.val = 0 ∨ 2 ^ (Lib.bitLen n.val - 1) ≤ n.val) ∧ Lib.bitLen n.val ≤ 8 := by decide +kernel

def LenOk (x : Int) (w : World) (e : Ending) (w' : World) : Prop := ∃ L : Nat, L ≤ 64 ∧ BitLen L x.toNat ∧ e = .returned (.int .i64 L) ∧ w = w'

theorem len8_in (i : Int) (h0 : 0 ≤ i) (h1 : i ≤ 255) : 0 ≤ Lib.len8 i ∧ Lib.len8 i ≤ 8 := by
  rw [Lib.len8_of i h0 h1]
  have := Lib.bitLen_le8' i h0 h1
  omega

theorem lenOk_of (x i v : Int) (k : Nat) (w : World) (hk : k ≤ 56) (hi : i.toNat = x.toNat / 2 ^ k) (h0 : 0 ≤ i) (h1 : i ≤ 255) (hx : k = 0 ∨ 2 ^ k ≤ x.toNat) (hv : v = k + Lib.len8 i) : LenOk x w (.returned (.int .i64 v)) w := by
  have ht := bitLen_table ⟨i.toNat, by omega⟩
  simp only at ht
  refine ⟨k + Lib.bitLen i.toNat, by omega, ?_, by rw [hv, Lib.len8_of i h0 h1]; simp, rfl⟩
  rcases hx with rfl | hx
  · have e : i.toNat = x.toNat := by simpa using hi
    rw [e] at ht ⊢
    rw [Nat.zero_add]
    exact ⟨ht.1, ht.2.1⟩
  · refine bitLen_shifted ?_ hx
    rw [← hi]
    exact ⟨ht.1, ht.2.1⟩

end Go.Proofs.Ytldogkmmnamjbaa

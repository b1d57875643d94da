/-
  Contracts of bits.Len64 and Size: how many bytes a number has.
-/
import Derived.Test.YtnfgmgonpecdmaaVarNum
import Derived.Test.YtnfgmgonpecdmaaMem
import Derived.Lib.BitFns
import Derived.Lib.Walk
import Derived.Lib.Strings
import Derived.Lib.Slices
import Derived.Lib.Small
namespace Go.Proofs.Ytnfgmgonpecdmaa
open Go.RowKit

theorem bitLen_shifted {L x k : Nat} (h : BitLen L (x / 2 ^ k)) (h1 : 2 ^ k ≤ x) : BitLen (k + L) x := by
  have hp := Nat.two_pow_pos k
  obtain ⟨g1, g2⟩ := h
  refine ⟨?_, ?_⟩
  · rw [Nat.pow_add, Nat.mul_comm]
    exact (Nat.div_lt_iff_lt_mul hp).1 g1
  · right
    have hq : 1 ≤ x / 2 ^ k := (Nat.le_div_iff_mul_le hp).2 (by omega)
    rcases g2 with rfl | g2
    · simp at g1; omega
    · have hL : L ≠ 0 := by rintro rfl; simp at g1; omega
      rw [show k + L - 1 = (L - 1) + k by omega, Nat.pow_add]
      exact (Nat.le_div_iff_mul_le hp).1 g2

theorem bitLen_table : ∀ n : Fin 256, n.val < 2 ^ (Lib.bitLen n.val) ∧ (Lib.bitLen n.val = 0 ∨ 2 ^ (Lib.bitLen n.val - 1) ≤ n.val) ∧ Lib.bitLen n.val ≤ 8 := by decide +kernel

def LenOk (x : Int) (w : World) (e : Ending) (w' : World) : Prop := ∃ L : Nat, L ≤ 64 ∧ BitLen L x.toNat ∧ e = .returned (.int .i64 L) ∧ w = w'

theorem len8_in (i : Int) (h0 : 0 ≤ i) (h1 : i ≤ 255) : 0 ≤ Lib.len8 i ∧ Lib.len8 i ≤ 8 := by
  rw [Lib.len8_of i h0 h1]
  have := Lib.bitLen_le8' i h0 h1
  omega

theorem lenOk_of (x i v : Int) (k : Nat) (w : World) (hk : k ≤ 56) (hi : i.toNat = x.toNat / 2 ^ k) (h0 : 0 ≤ i) (h1 : i ≤ 255) (hx : k = 0 ∨ 2 ^ k ≤ x.toNat) (hv : v = k + Lib.len8 i) : LenOk x w (.returned (.int .i64 v)) w := by
  have ht := bitLen_table ⟨i.toNat, by omega⟩
  simp only at ht
  refine ⟨k + Lib.bitLen i.toNat, by omega, ?_, by rw [hv, Lib.len8_of i h0 h1]; simp, rfl⟩
  rcases hx with rfl | hx
  · have e : i.toNat = x.toNat := by simpa using hi
    rw [e] at ht ⊢
    rw [Nat.zero_add]
    exact ⟨ht.1, ht.2.1⟩
  · refine bitLen_shifted ?_ hx
    rw [← hi]
    exact ⟨ht.1, ht.2.1⟩

set_option maxHeartbeats 1000000 in
set_option maxRecDepth 100000 in
theorem len64 (x : Int) (w : World) (h0 : 0 ≤ x) (h1 : x ≤ 18446744073709551615) :
    Calls Try.prog 35 #[.int .u64 x] w (LenOk x w) := by
  by_cases a1 : 4294967296 ≤ x
  · by_cases a2 : 65536 ≤ x / 4294967296
    · by_cases a3 : 256 ≤ x / 4294967296 / 65536
      · have b : 0 ≤ x / 4294967296 / 65536 / 256 ∧ x / 4294967296 / 65536 / 256 ≤ 255 := by omega
        obtain ⟨l0, l1⟩ := len8_in _ b.1 b.2
        obtain ⟨b0, b1⟩ := b
        go_enter Try.func35, Try.ntmps35
        go_wp2
        go_ret
        exact lenOk_of x _ _ 56 w (by omega) (by omega) b0 b1 (by omega) rfl
      · have b : 0 ≤ x / 4294967296 / 65536 ∧ x / 4294967296 / 65536 ≤ 255 := by omega
        obtain ⟨l0, l1⟩ := len8_in _ b.1 b.2
        obtain ⟨b0, b1⟩ := b
        go_enter Try.func35, Try.ntmps35
        go_wp2
        go_ret
        exact lenOk_of x _ _ 48 w (by omega) (by omega) b0 b1 (by omega) rfl
    · by_cases a3 : 256 ≤ x / 4294967296
      · have b : 0 ≤ x / 4294967296 / 256 ∧ x / 4294967296 / 256 ≤ 255 := by omega
        obtain ⟨l0, l1⟩ := len8_in _ b.1 b.2
        obtain ⟨b0, b1⟩ := b
        go_enter Try.func35, Try.ntmps35
        go_wp2
        go_ret
        exact lenOk_of x _ _ 40 w (by omega) (by omega) b0 b1 (by omega) rfl
      · have b : 0 ≤ x / 4294967296 ∧ x / 4294967296 ≤ 255 := by omega
        obtain ⟨l0, l1⟩ := len8_in _ b.1 b.2
        obtain ⟨b0, b1⟩ := b
        go_enter Try.func35, Try.ntmps35
        go_wp2
        go_ret
        exact lenOk_of x _ _ 32 w (by omega) (by omega) b0 b1 (by omega) rfl
  · by_cases a2 : 65536 ≤ x
    · by_cases a3 : 256 ≤ x / 65536
      · have b : 0 ≤ x / 65536 / 256 ∧ x / 65536 / 256 ≤ 255 := by omega
        obtain ⟨l0, l1⟩ := len8_in _ b.1 b.2
        obtain ⟨b0, b1⟩ := b
        go_enter Try.func35, Try.ntmps35
        go_wp2
        go_ret
        exact lenOk_of x _ _ 24 w (by omega) (by omega) b0 b1 (by omega) rfl
      · have b : 0 ≤ x / 65536 ∧ x / 65536 ≤ 255 := by omega
        obtain ⟨l0, l1⟩ := len8_in _ b.1 b.2
        obtain ⟨b0, b1⟩ := b
        go_enter Try.func35, Try.ntmps35
        go_wp2
        go_ret
        exact lenOk_of x _ _ 16 w (by omega) (by omega) b0 b1 (by omega) rfl
    · by_cases a3 : 256 ≤ x
      · have b : 0 ≤ x / 256 ∧ x / 256 ≤ 255 := by omega
        obtain ⟨l0, l1⟩ := len8_in _ b.1 b.2
        obtain ⟨b0, b1⟩ := b
        go_enter Try.func35, Try.ntmps35
        go_wp2
        go_ret
        exact lenOk_of x _ _ 8 w (by omega) (by omega) b0 b1 (by omega) rfl
      · have b : 0 ≤ x ∧ x ≤ 255 := by omega
        obtain ⟨l0, l1⟩ := len8_in _ b.1 b.2
        obtain ⟨b0, b1⟩ := b
        go_enter Try.func35, Try.ntmps35
        go_wp2
        go_ret
        exact lenOk_of x _ _ 0 w (by omega) (by simp) b0 b1 (by omega) (by simp)

/-- Size: how many bytes. -/
theorem size_any (x : Nat) (z : Int) (hz : z = x) (w : World) (h : x < 18446744073709551616) :
    Calls Try.prog 21 #[.int .u64 z] w fun e w' => e = .returned (.int .i64 (vnum x).length) ∧ w = w' := by
  subst hz
  have ho : bits BinOp.or IntKind.u64 (x : Int) 1 = ((x ||| 1 : Nat) : Int) := u64_or_nat x 1 h (by omega)
  have hb : (x ||| 1) < 18446744073709551616 := Nat.or_lt_two_pow (n := 64) h (by omega)
  have HO := Lib.hid ho
  obtain ⟨y, hy⟩ : ∃ y : Int, y = ((x ||| 1 : Nat) : Int) := ⟨_, rfl⟩
  rw [← hy] at ho
  have y0 : 0 ≤ y := by omega
  have y1 : y ≤ 18446744073709551615 := by omega
  have HY := Lib.hid hy
  clear hy hb
  go_enter Try.func21, Try.ntmps21
  go_wp2_with fail
  refine (len64 y _ y0 y1).mono ?_
  rintro e w1 ⟨L, hL, hbit, rfl, rfl⟩
  have hs : (vnum x).length = (L + 6) / 7 ∧ 1 ≤ (L + 6) / 7 := vnum_size (by rw [HY.out] at hbit; simpa using hbit)
  have HS := Lib.hid hs
  clear hs hbit ho
  go_wp2_with fail
  go_ret
  refine ⟨?_, rfl⟩
  rw [HS.out.1]
  exact congrArg (fun v => Ending.returned (Value.int IntKind.i64 v)) (show ((L : Int) + 7 - 1) / 7 = (((L + 6) / 7 : Nat) : Int) by omega)
end Go.Proofs.Ytnfgmgonpecdmaa

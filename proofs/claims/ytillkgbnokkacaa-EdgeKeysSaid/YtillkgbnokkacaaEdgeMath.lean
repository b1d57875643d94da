/-
  Go's package math at a double's edges: Float64bits, Float64frombits, IsNaN, Inf, NaN, IsInf, Signbit.
-/
import Derived.Test.YtillkgbnokkacaaIeeeRatio
import Derived.Test.YtillkgbnokkacaaMem
import Derived.Laws.Externs
import Derived.WalkLawsBesides
import Derived.Laws.BitsAllLaws
import Derived.Laws.Bits64
namespace Go.Proofs.Ytillkgbnokkacaa
open Go.RowKit

theorem run_tobits (b : Nat) (w : World) : (callFunc 38 #[.float .f64 b]).run Try.prog w = .ok (.value (.int .u64 (b : Int))) w := by
  rw [run_callFunc_extern (e := Extern.MathFloatBits.float64bits) Try.func38 (by kernel_rfl) (by kernel_rfl) (by kernel_rfl) (by kernel_rfl)]
  rfl
theorem run_frombits (z : Int) (w : World) : (callFunc 46 #[.int .u64 z]).run Try.prog w = .ok (.value (.float .f64 z.toNat)) w := by
  rw [run_callFunc_extern (e := Extern.MathFloatBits.float64frombits) Try.func46 (by kernel_rfl) (by kernel_rfl) (by kernel_rfl) (by kernel_rfl)]
  rfl

def Word64 (b : Nat) : Prop := b < 18446744073709551616
def nanW (b : Nat) : Bool := decide (rInf < rung b)

theorem order_self (b : Nat) : (Ieee.double.order b b != some .eq) = nanW b := by
  unfold nanW
  by_cases h : rInf < rung b
  · rw [order_nan (.inl h), decide_eq_true h]
    rfl
  · rw [order_words (by omega) (by omega), decide_eq_false h, (Int.compare_eq_eq).2 rfl]
    rfl

set_option maxHeartbeats 800000 in
set_option maxRecDepth 10000 in
theorem isnan_go (b : Nat) (w : World) : Calls Try.prog 16 #[.float .f64 b] w fun e w' => e = .returned (.bool (nanW b)) ∧ w = w' := by
  have HO := Lib.hid (order_self b)
  go_enter Try.func16, Try.ntmps16
  go_wp2_with fail
  go_ret
  exact ⟨by rw [← HO.out]; rfl, rfl⟩

set_option maxHeartbeats 800000 in
set_option maxRecDepth 10000 in
theorem signbit_go (b : Nat) (hb : Word64 b) (w : World) : Calls Try.prog 53 #[.float .f64 b] w fun e w' => e = .returned (.bool (negw b)) ∧ w = w' := by
  have hr := fun w => run_tobits b w
  have hs : decide (wrap64 (b : Int) < 0) = negw b := by
    unfold negw
    unfold Word64 at hb
    unfold wrap64
    by_cases h : b < 9223372036854775808
    · rw [decide_eq_false (by omega), Nat.div_eq_of_lt h]
      rfl
    · rw [decide_eq_true (by omega), show b / 9223372036854775808 = 1 by omega]
      rfl
  have HS := Lib.hid hs
  clear hs hb
  go_enter Try.func53, Try.ntmps53
  go_wp2_with fail
  go_ret
  exact ⟨by rw [← HS.out]; rfl, rfl⟩

/-- The other sign. -/
def flipW (b : Nat) : Nat := b ^^^ 2 ^ 63
theorem flip_eq {b : Nat} (hb : Word64 b) : flipW b = if b < 9223372036854775808 then b + 9223372036854775808 else b - 9223372036854775808 := by
  unfold flipW
  unfold Word64 at hb
  have hor : ∀ c, c < 2 ^ 63 → c ^^^ 2 ^ 63 = c + 2 ^ 63 := fun c hc => by
    have h1 : 2 ^ 63 * 1 + c = 2 ^ 63 * 1 ||| c := Nat.two_pow_add_eq_or_of_lt hc 1
    apply Nat.eq_of_testBit_eq
    intro i
    rw [Nat.add_comm, show 2 ^ 63 + c = 2 ^ 63 * 1 + c by omega, h1, Nat.mul_one, Nat.testBit_xor, Nat.testBit_or]
    by_cases hi : i = 63
    · subst hi
      rw [Nat.testBit_lt_two_pow hc]
      simp
    · rw [Nat.testBit_two_pow_of_ne (Ne.symm hi)]
      simp
  by_cases h : b < 9223372036854775808
  · rw [if_pos h]
    exact hor b h
  · rw [if_neg h]
    obtain ⟨c, rfl⟩ : ∃ c, b = c + 2 ^ 63 := ⟨b - 2 ^ 63, by omega⟩
    rw [← hor c (by omega), Nat.xor_assoc, Nat.xor_self, Nat.xor_zero]
    rw [hor c (by omega)]
    omega
theorem run_negfloat (b : Nat) (w : World) : (Op.unary UnOp.neg (.float .f64 b)).run Try.prog w = .ok (.float .f64 (flipW b)) w := rfl

theorem gt_max {c : Nat} (hc : Word64 c) : (Ieee.double.order c 9218868437227405311 == some .gt) = (c == 9218868437227405312) := by
  unfold Word64 at hc
  have hi : rInf = 9218868437227405312 := rfl
  obtain ⟨r1, n1⟩ := rung_small (w := 9218868437227405311) (by decide)
  have hs1 : sval 9218868437227405311 = (val 9218868437227405311 : Int) := by
    unfold sval
    rw [n1, r1]
    rfl
  by_cases h : rInf < rung c
  · rw [order_nan (.inl h)]
    symm
    have : ¬ c = 9218868437227405312 := fun e => by
      subst e
      have := (rung_small (w := 9218868437227405312) (by decide)).1
      omega
    exact beq_eq_false_iff_ne.2 this
  · rw [order_words (by omega) (by rw [r1]; decide), hs1]
    by_cases he : c = 9218868437227405312
    · subst he
      obtain ⟨r2, n2⟩ := rung_small (w := 9218868437227405312) (by decide)
      have hlt : val 9218868437227405311 < val 9218868437227405312 := val_lt (by decide)
      have : compare (sval 9218868437227405312) (val 9218868437227405311 : Int) = .gt := (Int.compare_eq_gt).2 (by
        unfold sval
        rw [n2, r2]
        simp
        exact hlt)
      rw [this]
      rfl
    · have hne : compare (sval c) (val 9218868437227405311 : Int) ≠ .gt := fun e => by
        have h1 := (Int.compare_eq_gt).1 e
        unfold sval at h1
        cases hn : negw c
        · rw [hn] at h1
          have h2 : val 9218868437227405311 < val (rung c) := by simpa using h1
          have h3 := val_lt_iff.1 h2
          have h4 : rung c = 9218868437227405312 := by omega
          unfold rung at h4
          unfold negw at hn
          have h5 : c / 9223372036854775808 % 2 ≠ 1 := by simpa using hn
          omega
        · rw [hn, if_pos rfl] at h1
          omega
      rw [beq_eq_false_iff_ne.2 he]
      cases hcp : compare (sval c) (val 9218868437227405311 : Int)
      · rfl
      · rfl
      · exact absurd hcp hne

set_option maxHeartbeats 800000 in
set_option maxRecDepth 10000 in
theorem isinf_neg (b : Nat) (hb : Word64 b) (w : World) : Calls Try.prog 35 #[.float .f64 b, .int .i64 (-1)] w fun e w' => e = .returned (.bool (b == 18442240474082181120)) ∧ w = w' := by
  have hn := fun w => run_negfloat b w
  have hfw : Word64 (flipW b) := by
    rw [flip_eq hb]
    unfold Word64 at *
    split <;> omega
  have he : (flipW b == 9218868437227405312) = (b == 18442240474082181120) := by
    rw [flip_eq hb]
    unfold Word64 at hb
    rw [Bool.eq_iff_iff, beq_iff_eq, beq_iff_eq]
    split <;> omega
  have HG := Lib.hid ((gt_max hfw).trans he)
  clear he hfw hb
  go_enter Try.func35, Try.ntmps35
  go_wp2_with fail
  go_ret
  exact ⟨by rw [← HG.out]; rfl, rfl⟩
set_option maxHeartbeats 800000 in
set_option maxRecDepth 10000 in
theorem isinf_pos (b : Nat) (hb : Word64 b) (w : World) : Calls Try.prog 35 #[.float .f64 b, .int .i64 1] w fun e w' => e = .returned (.bool (b == 9218868437227405312)) ∧ w = w' := by
  have HG := Lib.hid (gt_max hb)
  clear hb
  go_enter Try.func35, Try.ntmps35
  go_wp2_with fail
  go_ret
  exact ⟨by rw [← HG.out]; rfl, rfl⟩
end Go.Proofs.Ytillkgbnokkacaa

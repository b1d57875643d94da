/-
  Contract of the document's Get: the number with which any bytes begin, or what is wrong.
-/
import Derived.Test.YtbchiccgkhnkaaaRef1
import Derived.Test.YtbchiccgkhnkaaaVarGet
import Derived.Deep.Cut
namespace Go.Proofs.Ytbchiccgkhnkaaa
open Go.RowKit

/-- What the document's Get leaves: the rest, how far, why it stops; the number. -/
def refOut (xs : List Int) (a : Int) (t : VR) : Value := .tuple #[rdr (xs.drop t.n) (a + t.n) t.e, .int .u64 (if t.e = 0 then t.x else 0)]

/-- Ahead of byte i: the Reader's block, the number so far. -/
structure RState2 (xs : List Int) (a : Int) (B R : Nat) (w : World) (i X : Nat) (wr : World) : Prop where
  rd : Whole wr B 52 #[.string (strOfNums (xs.drop i)), .int .i64 (a + i), .int .i64 0]
  res : Whole wr R 52 #[.string { data := #[] }, .int .i64 0, .int .i64 0]
  keep : Keeps NoBlock w wr
  lt : X < 2 ^ (7 * i)
  vr : vget xs = (vread (9 - i + 1) (i == 0) (xs.drop i)).up i X
  i9 : i ≤ 9
  le : i ≤ xs.length

section
variable {xs : List Int} {a : Int} {B R : Nat} {w : World} {i X : Nat} {wr : World}

theorem RState2.short (h : RState2 xs a B R w i X wr) (hs : ¬ i < xs.length) : refOut xs a (vget xs) = .tuple #[rdr (xs.drop i) (a + i) 2, .int .u64 0] := by
  have hd : xs.drop i = [] := List.drop_eq_nil_of_le (by omega)
  rw [h.vr, hd, vread]
  simp [VR.up, refOut, hd]

theorem RState2.wrong (h : RState2 xs a B R w i X wr) (hs : i < xs.length) (y b : Int) (hb : b = xs.getD i 0) (hy : (y = 3 ∧ i = 9 ∧ 1 < b) ∨ (y = 4 ∧ ¬ (i = 9 ∧ 1 < b) ∧ 0 < i ∧ b = 0)) : refOut xs a (vget xs) = .tuple #[rdr (xs.drop (i + 1)) (a + i + 1) y, .int .u64 0] := by
  have hd := drop_cons (xs := xs) (n := i) hs
  rw [← hb] at hd
  have hi9 := h.i9
  have e2 : vget xs = ⟨y, i + 1, X + 2 ^ (7 * i) * 0⟩ := by
    rw [h.vr, hd, vread]
    rcases hy with ⟨rfl, rfl, h1⟩ | ⟨rfl, h0, h1, h2⟩
    · rw [if_pos ⟨by omega, h1⟩]
      simp [VR.up, Nat.add_comm]
    · rw [if_neg (by omega), if_pos ⟨beq_false_of_ne (by omega), h2⟩]
      simp [VR.up, Nat.add_comm]
  rw [e2]
  have hy0 : ¬ y = 0 := by rcases hy with ⟨rfl, _⟩ | ⟨rfl, _⟩ <;> simp
  simp only [refOut, if_neg hy0]
  rw [show a + ((i + 1 : Nat) : Int) = a + i + 1 by omega]

theorem RState2.last (h : RState2 xs a B R w i X wr) (hs : i < xs.length) (b : Int) (hb : b = xs.getD i 0) (h9 : ¬ (i = 9 ∧ 1 < b)) (h0 : ¬ (0 < i ∧ b = 0)) (h1 : b < 128) : refOut xs a (vget xs) = .tuple #[rdr (xs.drop (i + 1)) (a + i + 1) 0, .int .u64 (X + 2 ^ (7 * i) * b)] := by
  have hd := drop_cons (xs := xs) (n := i) hs
  rw [← hb] at hd
  have hi9 := h.i9
  have e2 : vget xs = ⟨0, i + 1, X + 2 ^ (7 * i) * b⟩ := by
    rw [h.vr, hd, vread, if_neg (by omega), if_neg (fun hh => h0 ⟨Nat.pos_of_ne_zero (by simpa using hh.1), hh.2⟩), if_pos h1]
    simp [VR.up, Nat.add_comm]
  rw [e2]
  simp only [refOut]
  rw [show a + ((i + 1 : Nat) : Int) = a + i + 1 by omega]
  rfl

/-- More follow. -/
theorem RState2.more (h : RState2 xs a B R w i X wr) (hs : i < xs.length) (b : Int) (hb : b = xs.getD i 0) (h9 : i ≤ 8) (h0 : 128 ≤ b) (h1 : b < 256) {w2 : World}
    (hrd : Whole w2 B 52 #[.string (strOfNums (xs.drop (i + 1))), .int .i64 (a + i + 1), .int .i64 0]) (hres : Whole w2 R 52 #[.string { data := #[] }, .int .i64 0, .int .i64 0]) (hk : Keeps NoBlock w w2) : RState2 xs a B R w (i + 1) (X + 2 ^ (7 * i) * (b.toNat % 128)) w2 := by
  have hd := drop_cons (xs := xs) (n := i) hs
  rw [← hb] at hd
  have hp : 2 ^ (7 * (i + 1)) = 128 * 2 ^ (7 * i) := by rw [show 7 * (i + 1) = 7 + 7 * i by omega, Nat.pow_add]
  refine ⟨by rw [show a + ((i + 1 : Nat) : Int) = a + i + 1 by omega]; exact hrd, hres, hk, ?_, ?_, by omega, by omega⟩
  · have := h.lt
    have h2 : 2 ^ (7 * i) * (b.toNat % 128) ≤ 2 ^ (7 * i) * 127 := Nat.mul_le_mul_left _ (by omega)
    omega
  · rw [h.vr, hd, vread, if_neg (by omega), if_neg (by omega), if_neg (by omega)]
    have e1 : 9 - i = 9 - (i + 1) + 1 := by omega
    rw [show ((i + 1 == 0) : Bool) = false from by simp, ← e1]
    simp only [VR.up, VR.mk.injEq, true_and]
    refine ⟨by omega, ?_⟩
    have e2 : ((2 : Int) ^ (7 * (i + 1))) = 128 * 2 ^ (7 * i) := by rw [show 7 * (i + 1) = 7 + 7 * i by omega, Int.pow_add]; rfl
    have e3 : ((X + 2 ^ (7 * i) * (b.toNat % 128) : Nat) : Int) = X + 2 ^ (7 * i) * (b - 128) := by
      push_cast
      congr 2
      omega
    rw [e2, e3, Int.mul_add, Int.mul_assoc, Int.add_assoc, Int.mul_left_comm]
end

/-- The byte's group is added. -/
theorem acc_group (X P i : Nat) (b : Int) (b0 : 0 ≤ b) (b1 : b < 256) (hX : X < 2 ^ (7 * i)) (hP : P = 2 ^ (7 * i)) (hi : i ≤ 9) (h9 : i = 9 → b ≤ 1) :
    IntKind.u64.wrap ((X : Int) + IntKind.u64.wrap (b % 128 * (P : Int))) = ((X + 2 ^ (7 * i) * (b.toNat % 128) : Nat) : Int) := by
  rw [← hP] at hX ⊢
  have hm : (b % 128 * (P : Int)) = ((P * (b.toNat % 128) : Nat) : Int) := by
    push_cast
    rw [Int.mul_comm]
    congr 1
    omega
  have hp : P * (b.toNat % 128) ≤ 9223372036854775808 := by
    by_cases h : i = 9
    · subst h
      have := h9 rfl
      have h1 : b.toNat % 128 ≤ 1 := by omega
      have h2 : P * (b.toNat % 128) ≤ P * 1 := Nat.mul_le_mul_left _ h1
      rw [hP] at h2 ⊢
      exact Nat.le_trans h2 (by decide)
    · have h1 : P ≤ 2 ^ 56 := by rw [hP]; exact Nat.pow_le_pow_right (by omega) (by omega)
      have h2 : P * (b.toNat % 128) ≤ 2 ^ 56 * 127 := Nat.mul_le_mul h1 (by omega)
      exact Nat.le_trans h2 (by decide)
  have hq : P ≤ 9223372036854775808 := by
    have h1 : P ≤ 2 ^ 63 := by rw [hP]; exact Nat.pow_le_pow_right (by omega) (by omega)
    exact h1
  rw [hm, IntKind.wrap_u64, IntKind.wrap_u64]
  omega

theorem acc_last (X P i : Nat) (b : Int) (b0 : 0 ≤ b) (b1 : b < 128) (hX : X < 2 ^ (7 * i)) (hP : P = 2 ^ (7 * i)) (hi : i ≤ 9) (h9 : i = 9 → b ≤ 1) :
    IntKind.u64.wrap ((X : Int) + IntKind.u64.wrap (b % 128 * (P : Int))) = X + 2 ^ (7 * i) * b := by
  rw [acc_group X P i b b0 (by omega) hX hP hi h9]
  push_cast
  congr 2
  omega

theorem acc_pow (P i : Nat) (hP : P = 2 ^ (7 * i)) (hi : i ≤ 8) : IntKind.u64.wrap ((P : Int) * 128) = ((2 ^ (7 * (i + 1)) : Nat) : Int) := by
  have e : 2 ^ (7 * (i + 1)) = P * 128 := by rw [hP, show 7 * (i + 1) = 7 * i + 7 by omega, Nat.pow_add]
  have h1 : P ≤ 2 ^ 56 := by rw [hP]; exact Nat.pow_le_pow_right (by omega) (by omega)
  rw [e, IntKind.wrap_u64]
  omega

end Go.Proofs.Ytbchiccgkhnkaaa

/-
  Contract of Get: the next number of a cursor's bytes, or where and why its reading stops.
-/
import Derived.Test.YtbchiccgkhnkaaaVarNum
import Derived.Test.YtbchiccgkhnkaaaCurC
namespace Go.Proofs.Ytbchiccgkhnkaaa
open Go.RowKit

theorem fail_at (k : Nat) (p : Option Addr) (N c a : Nat) (y : Int) (w : World) (h : CurB w k p N c a true 0) (hy : ¬ y = 0) :
    Calls Try.prog 43 #[.pointer (some ⟨k, 0, none⟩), .int .i64 y] w fun e w' => e = .panicked (given k) ∧ CurB w' k p N c a true y ∧ Keeps (Just k) w w' := by
  have h2 := Whole.cell h 2 rfl
  have H := Lib.hid h; clear h
  go_enter Try.func43, Try.ntmps43
  go_wp2_with fail
  refine (within_at _ true _ h2).mono ?_
  rintro e w' ⟨rfl, rfl⟩
  go_wp2_with fail
  refine (stop_first k p N c a y _ H.out).mono ?_
  rintro e w' ⟨rfl, hcur, hk⟩
  exact ⟨rfl, rfl, hcur, hk⟩

/-- How Get ends: with the number, or given up, for what is wrong. -/
def GetPost (k : Nat) (p : Option Addr) (N c a : Nat) (t : VR) (w : World) (e : Ending) (w' : World) : Prop :=
  Keeps (Just k) w w' ∧ ((t.e = 0 ∧ e = .returned (.int .u64 t.x) ∧ CurB w' k p N c (a + t.n) true 0) ∨ (t.e ≠ 0 ∧ e = .panicked (given k) ∧ CurB w' k p N c (a + t.n) true t.e))

def VR.up (i X : Nat) (t : VR) : VR := ⟨t.e, t.n + i, X + 2 ^ (7 * i) * t.x⟩

/-- Ahead of byte i. -/
structure GState (k : Nat) (p : Option Addr) (xs : List Int) (N c a : Nat) (w : World) (i X : Nat) (wr : World) : Prop where
  cur : CurB wr k p N c (a + i) true 0
  keep : Keeps (Just k) w wr
  lt : X < 2 ^ (7 * i)
  vr : vget (xs.drop a) = (vread (9 - i + 1) (i == 0) (xs.drop (a + i))).up i X
  le : a + i ≤ N
  i9 : i ≤ 9

section
variable {k : Nat} {p : Option Addr} {xs : List Int} {N c a : Nat} {w : World} {i X : Nat} {wr : World}

theorem drop_cons {xs : List Int} {n : Nat} (h : n < xs.length) : xs.drop n = xs.getD n 0 :: xs.drop (n + 1) := by
  rw [List.drop_eq_getElem_cons h]
  simp [h]

/-- No byte is left. -/
theorem GState.short (h : GState k p xs N c a w i X wr) (hx : N = xs.length) (hs : N < a + i + 1) {w2 : World} {e : Ending} (he : e = .panicked (given k)) (hc : CurB w2 k p N c (a + i) true 2) (hk : Keeps (Just k) wr w2) : GetPost k p N c a (vget (xs.drop a)) w e w2 := by
  have hd : xs.drop (a + i) = [] := List.drop_eq_nil_of_le (by omega)
  rw [h.vr, hd, vread]
  refine ⟨h.keep.trans hk, .inr ⟨by simp [VR.up], he, ?_⟩⟩
  simpa [VR.up] using hc

/-- The byte is wrong. -/
theorem GState.wrong (h : GState k p xs N c a w i X wr) (hx : N = xs.length) (hs : a + i < N) (y b : Int) (hb : b = xs.getD (a + i) 0) (hy : (y = 3 ∧ i = 9 ∧ 1 < b) ∨ (y = 4 ∧ ¬ (i = 9 ∧ 1 < b) ∧ 0 < i ∧ b = 0)) {w2 : World} {e : Ending} (he : e = .panicked (given k)) (hc : CurB w2 k p N c (a + i + 1) true y) (hk : Keeps (Just k) wr w2) : GetPost k p N c a (vget (xs.drop a)) w e w2 := by
  have hd := drop_cons (xs := xs) (n := a + i) (by omega)
  rw [← hb] at hd
  have hi9 := h.i9
  have e2 : vget (xs.drop a) = ⟨y, i + 1, X + 2 ^ (7 * i) * 0⟩ := by
    rw [h.vr, hd, vread]
    rcases hy with ⟨rfl, rfl, h1⟩ | ⟨rfl, h0, h1, h2⟩
    · rw [if_pos ⟨by omega, h1⟩]
      simp [VR.up, Nat.add_comm]
    · rw [if_neg (by omega), if_pos ⟨beq_false_of_ne (by omega), h2⟩]
      simp [VR.up, Nat.add_comm]
  rw [e2]
  refine ⟨h.keep.trans hk, .inr ⟨by rcases hy with ⟨rfl, _⟩ | ⟨rfl, _⟩ <;> simp, he, ?_⟩⟩
  exact hc

/-- The byte is the last one. -/
theorem GState.last (h : GState k p xs N c a w i X wr) (hx : N = xs.length) (hs : a + i < N) (b : Int) (hb : b = xs.getD (a + i) 0) (h9 : ¬ (i = 9 ∧ 1 < b)) (h0 : ¬ (0 < i ∧ b = 0)) (h1 : b < 128) {w2 : World} {e : Ending} (he : e = .returned (.int .u64 (X + 2 ^ (7 * i) * b))) (hc : CurB w2 k p N c (a + i + 1) true 0) (hk : Keeps (Just k) wr w2) : GetPost k p N c a (vget (xs.drop a)) w e w2 := by
  have hd := drop_cons (xs := xs) (n := a + i) (by omega)
  rw [← hb] at hd
  have hi9 := h.i9
  have e2 : vget (xs.drop a) = ⟨0, i + 1, X + 2 ^ (7 * i) * b⟩ := by
    rw [h.vr, hd, vread, if_neg (by omega), if_neg (fun hh => h0 ⟨Nat.pos_of_ne_zero (by simpa using hh.1), hh.2⟩), if_pos h1]
    simp [VR.up, Nat.add_comm]
  rw [e2]
  exact ⟨h.keep.trans hk, .inl ⟨rfl, he, hc⟩⟩

/-- More follow. -/
theorem GState.more (h : GState k p xs N c a w i X wr) (hx : N = xs.length) (hs : a + i < N) (b : Int) (hb : b = xs.getD (a + i) 0) (h9 : i ≤ 8) (h0 : 128 ≤ b) (h1 : b < 256) {w2 : World} (hc : CurB w2 k p N c (a + i + 1) true 0) (hk : Keeps (Just k) wr w2) : GState k p xs N c a w (i + 1) (X + 2 ^ (7 * i) * (b.toNat % 128)) w2 := by
  have hd := drop_cons (xs := xs) (n := a + i) (by omega)
  rw [← hb] at hd
  have hp : 2 ^ (7 * (i + 1)) = 128 * 2 ^ (7 * i) := by rw [show 7 * (i + 1) = 7 + 7 * i by omega, Nat.pow_add]
  refine ⟨hc, h.keep.trans hk, ?_, ?_, by omega, by omega⟩
  · have := h.lt
    have h2 : 2 ^ (7 * i) * (b.toNat % 128) ≤ 2 ^ (7 * i) * 127 := Nat.mul_le_mul_left _ (by omega)
    omega
  · rw [h.vr, hd, vread, if_neg (by omega), if_neg (by omega), if_neg (by omega)]
    have e1 : 9 - i = 9 - (i + 1) + 1 := by omega
    rw [show ((i + 1 == 0) : Bool) = false from by simp, Nat.add_assoc a i 1, ← e1]
    simp only [VR.up, VR.mk.injEq, true_and]
    refine ⟨by omega, ?_⟩
    have e2 : ((2 : Int) ^ (7 * (i + 1))) = 128 * 2 ^ (7 * i) := by rw [show 7 * (i + 1) = 7 + 7 * i by omega, Int.pow_add]; rfl
    have e3 : ((X + 2 ^ (7 * i) * (b.toNat % 128) : Nat) : Int) = X + 2 ^ (7 * i) * (b - 128) := by
      push_cast
      congr 2
      omega
    rw [e2, e3, Int.mul_add, Int.mul_assoc, Int.add_assoc, Int.mul_left_comm]
end

theorem ret_u64 {a b : Int} (h : a = b) : Ending.returned (.int .u64 a) = .returned (.int .u64 b) := by rw [h]

/-- The byte's group goes in. -/
theorem or_group (X i : Nat) (b : Int) (b0 : 0 ≤ b) (b1 : b < 256) (hX : X < 2 ^ (7 * i)) (hi : i ≤ 9) (h9 : i = 9 → b ≤ 1) :
    bits BinOp.or IntKind.u64 (X : Int) (IntKind.u64.wrap (IntKind.u64.wrap (bits BinOp.andNot IntKind.u8 b 128) * 2 ^ (7 * i))) = ((X + 2 ^ (7 * i) * (b.toNat % 128) : Nat) : Int) := by
  have e1 : IntKind.u64.wrap (bits BinOp.andNot IntKind.u8 b 128) = ((b.toNat % 128 : Nat) : Int) := by
    rw [low_seven b b0 b1, IntKind.wrap_u64]
    omega
  have hp : 2 ^ (7 * i) * (b.toNat % 128) < 18446744073709551616 := by
    by_cases h : i = 9
    · subst h
      have := h9 rfl
      have h1 : b.toNat % 128 ≤ 1 := by omega
      have h2 : 2 ^ (7 * 9) * (b.toNat % 128) ≤ 2 ^ (7 * 9) * 1 := Nat.mul_le_mul_left _ h1
      exact Nat.lt_of_le_of_lt h2 (by decide)
    · have h1 : 2 ^ (7 * i) ≤ 2 ^ 56 := Nat.pow_le_pow_right (by omega) (by omega)
      have h2 : 2 ^ (7 * i) * (b.toNat % 128) ≤ 2 ^ 56 * 127 := Nat.mul_le_mul h1 (by omega)
      exact Nat.lt_of_le_of_lt h2 (by decide)
  rw [e1, or_seven X _ i hX hp (by omega)]

/-- The last group. -/
theorem or_last (X i : Nat) (b : Int) (b0 : 0 ≤ b) (b1 : b < 128) (hX : X < 2 ^ (7 * i)) (hi : i ≤ 9) (h9 : i = 9 → b ≤ 1) :
    bits BinOp.or IntKind.u64 (X : Int) (IntKind.u64.wrap (IntKind.u64.wrap (bits BinOp.andNot IntKind.u8 b 128) * 2 ^ (7 * i))) = X + 2 ^ (7 * i) * b := by
  rw [or_group X i b b0 (by omega) hX hi h9]
  push_cast
  congr 2
  omega

end Go.Proofs.Ytbchiccgkhnkaaa

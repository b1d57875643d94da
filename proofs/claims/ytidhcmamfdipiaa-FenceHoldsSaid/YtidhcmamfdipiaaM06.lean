/-
  WideBegin; WideRefSum; TextEq; VarGet; Ref2; Set3.
-/
import Derived.StillTailTactics
import Derived.Deep.CutRange
import Derived.Deep.DeepCutAuto
import Derived.Deep.Cut
import Derived.Test.YtidhcmamfdipiaaM01
import Derived.Test.YtidhcmamfdipiaaM02
import Derived.Test.YtidhcmamfdipiaaM04
import Derived.Test.YtidhcmamfdipiaaM05
namespace Go.Proofs.Ytidhcmamfdipiaa
open Go.RowKit

theorem four8_drop (xs : List Int) (a k : Nat) : ((xs.drop a).drop (8 * k)).take 8 = (xs.drop (a + 8 * k)).take 8 := by rw [List.drop_drop]

end Go.Proofs.Ytidhcmamfdipiaa

namespace Go.Proofs.Ytidhcmamfdipiaa
open Go.RowKit

end Go.Proofs.Ytidhcmamfdipiaa

namespace Go.Proofs.Ytidhcmamfdipiaa
open Go.RowKit

theorem strOf_inj {xs ys : List Int} (hx : Octets xs) (hy : Octets ys) (h : strOfNums xs = strOfNums ys) : xs = ys := by
  have e : (strOfNums xs).data.toList = (strOfNums ys).data.toList := by rw [h]
  rw [strOfNums_data, strOfNums_data] at e
  have hm : ∀ {zs : List Int}, Octets zs → (zs.map fun n => UInt8.ofNat n.toNat).map (fun u => ((u.toNat : Nat) : Int)) = zs := fun {zs} hz => by
    rw [List.map_map]
    conv => rhs; rw [← List.map_id zs]
    exact List.map_congr_left fun z hzm => by
      have := hz z hzm
      simp [UInt8.toNat_ofNat']
      omega
  rw [← hm hx, ← hm hy, e]

theorem text_beq (a b : ByteArray) : (a.toList == b.toList) = decide (a = b) := by
  rw [Bool.eq_iff_iff, beq_iff_eq, decide_eq_true_iff, ByteArray.toList_eq, ByteArray.toList_eq]
  exact ⟨fun h => ByteArray.ext (Array.toList_inj.1 h), fun h => by rw [h]⟩
end Go.Proofs.Ytidhcmamfdipiaa

namespace Go.Proofs.Ytidhcmamfdipiaa
open Go.RowKit

theorem fail_at (k : Nat) (p : Option Addr) (N c a : Nat) (y : Int) (w : World) (h : CurB w k p N c a true 0) (hy : ¬ y = 0) :
    Calls Try.prog 43 #[.pointer (some ⟨k, 0, none⟩), .int .i64 y] w fun e w' => e = .panicked (given k) ∧ CurB w' k p N c a true y ∧ Keeps (Just k) w w' := by
  have h2 := Whole.cell h 2 rfl
  have H := Lib.hid h; clear h
  go_enter Try.func43, Try.ntmps43
  go_wp2_with fail
  refine (within_at _ true _ h2).mono ?_
  rintro e w' ⟨rfl, rfl⟩
  go_wp2_with fail
  refine (stop_first k p N c a y _ H.out).mono ?_
  rintro e w' ⟨rfl, hcur, hk⟩
  exact ⟨rfl, rfl, hcur, hk⟩

/-- How Get ends: with the number, or given up, for what is wrong. -/
def GetPost (k : Nat) (p : Option Addr) (N c a : Nat) (t : VR) (w : World) (e : Ending) (w' : World) : Prop :=
  Keeps (Just k) w w' ∧ ((t.e = 0 ∧ e = .returned (.int .u64 t.x) ∧ CurB w' k p N c (a + t.n) true 0) ∨ (t.e ≠ 0 ∧ e = .panicked (given k) ∧ CurB w' k p N c (a + t.n) true t.e))

def VR.up (i X : Nat) (t : VR) : VR := ⟨t.e, t.n + i, X + 2 ^ (7 * i) * t.x⟩

/-- Ahead of byte i. -/
structure GState (k : Nat) (p : Option Addr) (xs : List Int) (N c a : Nat) (w : World) (i X : Nat) (wr : World) : Prop where
  cur : CurB wr k p N c (a + i) true 0
  keep : Keeps (Just k) w wr
  lt : X < 2 ^ (7 * i)
  vr : vget (xs.drop a) = (vread (9 - i + 1) (i == 0) (xs.drop (a + i))).up i X
  le : a + i ≤ N
  i9 : i ≤ 9

section
variable {k : Nat} {p : Option Addr} {xs : List Int} {N c a : Nat} {w : World} {i X : Nat} {wr : World}

theorem drop_cons {xs : List Int} {n : Nat} (h : n < xs.length) : xs.drop n = xs.getD n 0 :: xs.drop (n + 1) := by
  rw [List.drop_eq_getElem_cons h]
  simp [h]

/-- No byte is left. -/
theorem GState.short (h : GState k p xs N c a w i X wr) (hx : N = xs.length) (hs : N < a + i + 1) {w2 : World} {e : Ending} (he : e = .panicked (given k)) (hc : CurB w2 k p N c (a + i) true 2) (hk : Keeps (Just k) wr w2) : GetPost k p N c a (vget (xs.drop a)) w e w2 := by
  have hd : xs.drop (a + i) = [] := List.drop_eq_nil_of_le (by omega)
  rw [h.vr, hd, vread]
  refine ⟨h.keep.trans hk, .inr ⟨by simp [VR.up], he, ?_⟩⟩
  simpa [VR.up] using hc

/-- The byte is wrong. -/
theorem GState.wrong (h : GState k p xs N c a w i X wr) (hx : N = xs.length) (hs : a + i < N) (y b : Int) (hb : b = xs.getD (a + i) 0) (hy : (y = 3 ∧ i = 9 ∧ 1 < b) ∨ (y = 4 ∧ ¬ (i = 9 ∧ 1 < b) ∧ 0 < i ∧ b = 0)) {w2 : World} {e : Ending} (he : e = .panicked (given k)) (hc : CurB w2 k p N c (a + i + 1) true y) (hk : Keeps (Just k) wr w2) : GetPost k p N c a (vget (xs.drop a)) w e w2 := by
  have hd := drop_cons (xs := xs) (n := a + i) (by omega)
  rw [← hb] at hd
  have hi9 := h.i9
  have e2 : vget (xs.drop a) = ⟨y, i + 1, X + 2 ^ (7 * i) * 0⟩ := by
    rw [h.vr, hd, vread]
    rcases hy with ⟨rfl, rfl, h1⟩ | ⟨rfl, h0, h1, h2⟩
    · rw [if_pos ⟨by omega, h1⟩]
      simp [VR.up, Nat.add_comm]
    · rw [if_neg (by omega), if_pos ⟨beq_false_of_ne (by omega), h2⟩]
      simp [VR.up, Nat.add_comm]
  rw [e2]
  refine ⟨h.keep.trans hk, .inr ⟨by rcases hy with ⟨rfl, _⟩ | ⟨rfl, _⟩ <;> simp, he, ?_⟩⟩
  exact hc

/-- The byte is the last one. -/
theorem GState.last (h : GState k p xs N c a w i X wr) (hx : N = xs.length) (hs : a + i < N) (b : Int) (hb : b = xs.getD (a + i) 0) (h9 : ¬ (i = 9 ∧ 1 < b)) (h0 : ¬ (0 < i ∧ b = 0)) (h1 : b < 128) {w2 : World} {e : Ending} (he : e = .returned (.int .u64 (X + 2 ^ (7 * i) * b))) (hc : CurB w2 k p N c (a + i + 1) true 0) (hk : Keeps (Just k) wr w2) : GetPost k p N c a (vget (xs.drop a)) w e w2 := by
  have hd := drop_cons (xs := xs) (n := a + i) (by omega)
  rw [← hb] at hd
  have hi9 := h.i9
  have e2 : vget (xs.drop a) = ⟨0, i + 1, X + 2 ^ (7 * i) * b⟩ := by
    rw [h.vr, hd, vread, if_neg (by omega), if_neg (fun hh => h0 ⟨Nat.pos_of_ne_zero (by simpa using hh.1), hh.2⟩), if_pos h1]
    simp [VR.up, Nat.add_comm]
  rw [e2]
  exact ⟨h.keep.trans hk, .inl ⟨rfl, he, hc⟩⟩

/-- More follow. -/
theorem GState.more (h : GState k p xs N c a w i X wr) (hx : N = xs.length) (hs : a + i < N) (b : Int) (hb : b = xs.getD (a + i) 0) (h9 : i ≤ 8) (h0 : 128 ≤ b) (h1 : b < 256) {w2 : World} (hc : CurB w2 k p N c (a + i + 1) true 0) (hk : Keeps (Just k) wr w2) : GState k p xs N c a w (i + 1) (X + 2 ^ (7 * i) * (b.toNat % 128)) w2 := by
  have hd := drop_cons (xs := xs) (n := a + i) (by omega)
  rw [← hb] at hd
  have hp : 2 ^ (7 * (i + 1)) = 128 * 2 ^ (7 * i) := by rw [show 7 * (i + 1) = 7 + 7 * i by omega, Nat.pow_add]
  refine ⟨hc, h.keep.trans hk, ?_, ?_, by omega, by omega⟩
  · have := h.lt
    have h2 : 2 ^ (7 * i) * (b.toNat % 128) ≤ 2 ^ (7 * i) * 127 := Nat.mul_le_mul_left _ (by omega)
    omega
  · rw [h.vr, hd, vread, if_neg (by omega), if_neg (by omega), if_neg (by omega)]
    have e1 : 9 - i = 9 - (i + 1) + 1 := by omega
    rw [show ((i + 1 == 0) : Bool) = false from by simp, Nat.add_assoc a i 1, ← e1]
    simp only [VR.up, VR.mk.injEq, true_and]
    refine ⟨by omega, ?_⟩
    have e2 : ((2 : Int) ^ (7 * (i + 1))) = 128 * 2 ^ (7 * i) := by rw [show 7 * (i + 1) = 7 + 7 * i by omega, Int.pow_add]; rfl
    have e3 : ((X + 2 ^ (7 * i) * (b.toNat % 128) : Nat) : Int) = X + 2 ^ (7 * i) * (b - 128) := by
      push_cast
      congr 2
      omega
    rw [e2, e3, Int.mul_add, Int.mul_assoc, Int.add_assoc, Int.mul_left_comm]
end

theorem ret_u64 {a b : Int} (h : a = b) : Ending.returned (.int .u64 a) = .returned (.int .u64 b) := by rw [h]

/-- The byte's group goes in. -/
theorem or_group (X i : Nat) (b : Int) (b0 : 0 ≤ b) (b1 : b < 256) (hX : X < 2 ^ (7 * i)) (hi : i ≤ 9) (h9 : i = 9 → b ≤ 1) :
    bits BinOp.or IntKind.u64 (X : Int) (IntKind.u64.wrap (IntKind.u64.wrap (bits BinOp.andNot IntKind.u8 b 128) * 2 ^ (7 * i))) = ((X + 2 ^ (7 * i) * (b.toNat % 128) : Nat) : Int) := by
  have e1 : IntKind.u64.wrap (bits BinOp.andNot IntKind.u8 b 128) = ((b.toNat % 128 : Nat) : Int) := by
    rw [low_seven b b0 b1, IntKind.wrap_u64]
    omega
  have hp : 2 ^ (7 * i) * (b.toNat % 128) < 18446744073709551616 := by
    by_cases h : i = 9
    · subst h
      have := h9 rfl
      have h1 : b.toNat % 128 ≤ 1 := by omega
      have h2 : 2 ^ (7 * 9) * (b.toNat % 128) ≤ 2 ^ (7 * 9) * 1 := Nat.mul_le_mul_left _ h1
      exact Nat.lt_of_le_of_lt h2 (by decide)
    · have h1 : 2 ^ (7 * i) ≤ 2 ^ 56 := Nat.pow_le_pow_right (by omega) (by omega)
      have h2 : 2 ^ (7 * i) * (b.toNat % 128) ≤ 2 ^ 56 * 127 := Nat.mul_le_mul h1 (by omega)
      exact Nat.lt_of_le_of_lt h2 (by decide)
  rw [e1, or_seven X _ i hX hp (by omega)]

/-- The last group. -/
theorem or_last (X i : Nat) (b : Int) (b0 : 0 ≤ b) (b1 : b < 128) (hX : X < 2 ^ (7 * i)) (hi : i ≤ 9) (h9 : i = 9 → b ≤ 1) :
    bits BinOp.or IntKind.u64 (X : Int) (IntKind.u64.wrap (IntKind.u64.wrap (bits BinOp.andNot IntKind.u8 b 128) * 2 ^ (7 * i))) = X + 2 ^ (7 * i) * b := by
  rw [or_group X i b b0 (by omega) hX hi h9]
  push_cast
  congr 2
  omega

end Go.Proofs.Ytidhcmamfdipiaa

namespace Go.Proofs.Ytidhcmamfdipiaa
open Go.RowKit

/-- What the document's Get leaves: the rest, how far, why it stops; the number. -/
def refOut (xs : List Int) (a : Int) (t : VR) : Value := .tuple #[rdr (xs.drop t.n) (a + t.n) t.e, .int .u64 (if t.e = 0 then t.x else 0)]

/-- Ahead of byte i: the Reader's block, the number so far. -/
structure RState2 (xs : List Int) (a : Int) (B R : Nat) (w : World) (i X : Nat) (wr : World) : Prop where
  rd : Whole wr B 54 #[.string (strOfNums (xs.drop i)), .int .i64 (a + i), .int .i64 0]
  res : Whole wr R 54 #[.string { data := #[] }, .int .i64 0, .int .i64 0]
  keep : Keeps NoBlock w wr
  lt : X < 2 ^ (7 * i)
  vr : vget xs = (vread (9 - i + 1) (i == 0) (xs.drop i)).up i X
  i9 : i ≤ 9
  le : i ≤ xs.length

section
variable {xs : List Int} {a : Int} {B R : Nat} {w : World} {i X : Nat} {wr : World}

theorem RState2.short (h : RState2 xs a B R w i X wr) (hs : ¬ i < xs.length) : refOut xs a (vget xs) = .tuple #[rdr (xs.drop i) (a + i) 2, .int .u64 0] := by
  have hd : xs.drop i = [] := List.drop_eq_nil_of_le (by omega)
  rw [h.vr, hd, vread]
  simp [VR.up, refOut, hd]

theorem RState2.wrong (h : RState2 xs a B R w i X wr) (hs : i < xs.length) (y b : Int) (hb : b = xs.getD i 0) (hy : (y = 3 ∧ i = 9 ∧ 1 < b) ∨ (y = 4 ∧ ¬ (i = 9 ∧ 1 < b) ∧ 0 < i ∧ b = 0)) : refOut xs a (vget xs) = .tuple #[rdr (xs.drop (i + 1)) (a + i + 1) y, .int .u64 0] := by
  have hd := drop_cons (xs := xs) (n := i) hs
  rw [← hb] at hd
  have hi9 := h.i9
  have e2 : vget xs = ⟨y, i + 1, X + 2 ^ (7 * i) * 0⟩ := by
    rw [h.vr, hd, vread]
    rcases hy with ⟨rfl, rfl, h1⟩ | ⟨rfl, h0, h1, h2⟩
    · rw [if_pos ⟨by omega, h1⟩]
      simp [VR.up, Nat.add_comm]
    · rw [if_neg (by omega), if_pos ⟨beq_false_of_ne (by omega), h2⟩]
      simp [VR.up, Nat.add_comm]
  rw [e2]
  have hy0 : ¬ y = 0 := by rcases hy with ⟨rfl, _⟩ | ⟨rfl, _⟩ <;> simp
  simp only [refOut, if_neg hy0]
  rw [show a + ((i + 1 : Nat) : Int) = a + i + 1 by omega]

theorem RState2.last (h : RState2 xs a B R w i X wr) (hs : i < xs.length) (b : Int) (hb : b = xs.getD i 0) (h9 : ¬ (i = 9 ∧ 1 < b)) (h0 : ¬ (0 < i ∧ b = 0)) (h1 : b < 128) : refOut xs a (vget xs) = .tuple #[rdr (xs.drop (i + 1)) (a + i + 1) 0, .int .u64 (X + 2 ^ (7 * i) * b)] := by
  have hd := drop_cons (xs := xs) (n := i) hs
  rw [← hb] at hd
  have hi9 := h.i9
  have e2 : vget xs = ⟨0, i + 1, X + 2 ^ (7 * i) * b⟩ := by
    rw [h.vr, hd, vread, if_neg (by omega), if_neg (fun hh => h0 ⟨Nat.pos_of_ne_zero (by simpa using hh.1), hh.2⟩), if_pos h1]
    simp [VR.up, Nat.add_comm]
  rw [e2]
  simp only [refOut]
  rw [show a + ((i + 1 : Nat) : Int) = a + i + 1 by omega]
  rfl

/-- More follow. -/
theorem RState2.more (h : RState2 xs a B R w i X wr) (hs : i < xs.length) (b : Int) (hb : b = xs.getD i 0) (h9 : i ≤ 8) (h0 : 128 ≤ b) (h1 : b < 256) {w2 : World}
    (hrd : Whole w2 B 54 #[.string (strOfNums (xs.drop (i + 1))), .int .i64 (a + i + 1), .int .i64 0]) (hres : Whole w2 R 54 #[.string { data := #[] }, .int .i64 0, .int .i64 0]) (hk : Keeps NoBlock w w2) : RState2 xs a B R w (i + 1) (X + 2 ^ (7 * i) * (b.toNat % 128)) w2 := by
  have hd := drop_cons (xs := xs) (n := i) hs
  rw [← hb] at hd
  have hp : 2 ^ (7 * (i + 1)) = 128 * 2 ^ (7 * i) := by rw [show 7 * (i + 1) = 7 + 7 * i by omega, Nat.pow_add]
  refine ⟨by rw [show a + ((i + 1 : Nat) : Int) = a + i + 1 by omega]; exact hrd, hres, hk, ?_, ?_, by omega, by omega⟩
  · have := h.lt
    have h2 : 2 ^ (7 * i) * (b.toNat % 128) ≤ 2 ^ (7 * i) * 127 := Nat.mul_le_mul_left _ (by omega)
    omega
  · rw [h.vr, hd, vread, if_neg (by omega), if_neg (by omega), if_neg (by omega)]
    have e1 : 9 - i = 9 - (i + 1) + 1 := by omega
    rw [show ((i + 1 == 0) : Bool) = false from by simp, ← e1]
    simp only [VR.up, VR.mk.injEq, true_and]
    refine ⟨by omega, ?_⟩
    have e2 : ((2 : Int) ^ (7 * (i + 1))) = 128 * 2 ^ (7 * i) := by rw [show 7 * (i + 1) = 7 + 7 * i by omega, Int.pow_add]; rfl
    have e3 : ((X + 2 ^ (7 * i) * (b.toNat % 128) : Nat) : Int) = X + 2 ^ (7 * i) * (b - 128) := by
      push_cast
      congr 2
      omega
    rw [e2, e3, Int.mul_add, Int.mul_assoc, Int.add_assoc, Int.mul_left_comm]
end

/-- The byte's group is added. -/
theorem acc_group (X P i : Nat) (b : Int) (b0 : 0 ≤ b) (b1 : b < 256) (hX : X < 2 ^ (7 * i)) (hP : P = 2 ^ (7 * i)) (hi : i ≤ 9) (h9 : i = 9 → b ≤ 1) :
    IntKind.u64.wrap ((X : Int) + IntKind.u64.wrap (b % 128 * (P : Int))) = ((X + 2 ^ (7 * i) * (b.toNat % 128) : Nat) : Int) := by
  rw [← hP] at hX ⊢
  have hm : (b % 128 * (P : Int)) = ((P * (b.toNat % 128) : Nat) : Int) := by
    push_cast
    rw [Int.mul_comm]
    congr 1
    omega
  have hp : P * (b.toNat % 128) ≤ 9223372036854775808 := by
    by_cases h : i = 9
    · subst h
      have := h9 rfl
      have h1 : b.toNat % 128 ≤ 1 := by omega
      have h2 : P * (b.toNat % 128) ≤ P * 1 := Nat.mul_le_mul_left _ h1
      rw [hP] at h2 ⊢
      exact Nat.le_trans h2 (by decide)
    · have h1 : P ≤ 2 ^ 56 := by rw [hP]; exact Nat.pow_le_pow_right (by omega) (by omega)
      have h2 : P * (b.toNat % 128) ≤ 2 ^ 56 * 127 := Nat.mul_le_mul h1 (by omega)
      exact Nat.le_trans h2 (by decide)
  have hq : P ≤ 9223372036854775808 := by
    have h1 : P ≤ 2 ^ 63 := by rw [hP]; exact Nat.pow_le_pow_right (by omega) (by omega)
    exact h1
  rw [hm, IntKind.wrap_u64, IntKind.wrap_u64]
  omega

theorem acc_last (X P i : Nat) (b : Int) (b0 : 0 ≤ b) (b1 : b < 128) (hX : X < 2 ^ (7 * i)) (hP : P = 2 ^ (7 * i)) (hi : i ≤ 9) (h9 : i = 9 → b ≤ 1) :
    IntKind.u64.wrap ((X : Int) + IntKind.u64.wrap (b % 128 * (P : Int))) = X + 2 ^ (7 * i) * b := by
  rw [acc_group X P i b b0 (by omega) hX hP hi h9]
  push_cast
  congr 2
  omega

theorem acc_pow (P i : Nat) (hP : P = 2 ^ (7 * i)) (hi : i ≤ 8) : IntKind.u64.wrap ((P : Int) * 128) = ((2 ^ (7 * (i + 1)) : Nat) : Int) := by
  have e : 2 ^ (7 * (i + 1)) = P * 128 := by rw [hP, show 7 * (i + 1) = 7 * i + 7 by omega, Nat.pow_add]
  have h1 : P ≤ 2 ^ 56 := by rw [hP]; exact Nat.pow_le_pow_right (by omega) (by omega)
  rw [e, IntKind.wrap_u64]
  omega

end Go.Proofs.Ytidhcmamfdipiaa

namespace Go.Proofs.Ytidhcmamfdipiaa
open Go.RowKit

theorem Keeps.set3 {S : Nat → Prop} {a b : World} (h : Keeps S a b) {g : Nat} (hg : a.heap.size ≤ g) (x y z : Value) : Keeps S a (((b.setCell ⟨g, 0, none⟩ x).setCell ⟨g, 1, none⟩ y).setCell ⟨g, 2, none⟩ z) :=
  ((h.setNew hg 0 x).setNew hg 1 y).setNew hg 2 z
theorem Whole.other3 {w : World} {g h : Nat} {t : TypeId} {cs : Array Value} (hw : Whole w g t cs) (hn : g ≠ h) (x y z : Value) : Whole (((w.setCell ⟨h, 0, none⟩ x).setCell ⟨h, 1, none⟩ y).setCell ⟨h, 2, none⟩ z) g t cs :=
  ((hw.setOther (p := ⟨h, 0, none⟩) hn x).setOther (p := ⟨h, 1, none⟩) hn y).setOther (p := ⟨h, 2, none⟩) hn z
theorem Whole.set3 {w : World} {g : Nat} {t : TypeId} {a b c : Value} (hw : Whole w g t #[a, b, c]) (x y z : Value) : Whole (((w.setCell ⟨g, 0, none⟩ x).setCell ⟨g, 1, none⟩ y).setCell ⟨g, 2, none⟩ z) g t #[x, y, z] := by
  have := ((hw.set 0 x).set 1 y).set 2 z
  simpa using this
end Go.Proofs.Ytidhcmamfdipiaa

/-
  VarGet; CurF; TabByIn; ThinRef; WideRef; ThinRefSum.
-/
import Derived.Deep.RegionHeld3
import Derived.Deep.CutRange
import Derived.Deep.DeepCutAuto
import Derived.StillTailTactics
import Derived.Test.YtmifbohdepejaaaM01
import Derived.Test.YtmifbohdepejaaaM02
import Derived.Test.YtmifbohdepejaaaM03
import Derived.Test.YtmifbohdepejaaaM04
import Derived.Test.YtmifbohdepejaaaM05
namespace Go.Proofs.Ytmifbohdepejaaa
open Go.RowKit

theorem fail_at (k : Nat) (p : Option Addr) (N c a : Nat) (y : Int) (w : World) (h : CurB w k p N c a true 0) (hy : ¬ y = 0) :
    Calls Try.prog 69 #[.pointer (some ⟨k, 0, none⟩), .int .i64 y] w fun e w' => e = .panicked (given k) ∧ CurB w' k p N c a true y ∧ Keeps (Just k) w w' := by
  have h2 := Whole.cell h 2 rfl
  have H := Lib.hid h; clear h
  go_enter Try.func69, Try.ntmps69
  go_wp2_with fail
  refine (within_at _ true _ h2).mono ?_
  rintro e w' ⟨rfl, rfl⟩
  go_wp2_with fail
  refine (stop_first k p N c a y _ H.out).mono ?_
  rintro e w' ⟨rfl, hcur, hk⟩
  exact ⟨rfl, rfl, hcur, hk⟩

/-- How Get ends: with the number, or given up, for what is wrong. -/
def GetPost (k : Nat) (p : Option Addr) (N c a : Nat) (t : VR) (w : World) (e : Ending) (w' : World) : Prop :=
  Keeps (Just k) w w' ∧ ((t.e = 0 ∧ e = .returned (.int .u64 t.x) ∧ CurB w' k p N c (a + t.n) true 0) ∨ (t.e ≠ 0 ∧ e = .panicked (given k) ∧ CurB w' k p N c (a + t.n) true t.e))

def VR.up (i X : Nat) (t : VR) : VR := ⟨t.e, t.n + i, X + 2 ^ (7 * i) * t.x⟩

/-- Ahead of byte i. -/
structure GState (k : Nat) (p : Option Addr) (xs : List Int) (N c a : Nat) (w : World) (i X : Nat) (wr : World) : Prop where
  cur : CurB wr k p N c (a + i) true 0
  keep : Keeps (Just k) w wr
  lt : X < 2 ^ (7 * i)
  vr : vget (xs.drop a) = (vread (9 - i + 1) (i == 0) (xs.drop (a + i))).up i X
  le : a + i ≤ N
  i9 : i ≤ 9

section
variable {k : Nat} {p : Option Addr} {xs : List Int} {N c a : Nat} {w : World} {i X : Nat} {wr : World}

theorem drop_cons {xs : List Int} {n : Nat} (h : n < xs.length) : xs.drop n = xs.getD n 0 :: xs.drop (n + 1) := by
  rw [List.drop_eq_getElem_cons h]
  simp [h]

/-- No byte is left. -/
theorem GState.short (h : GState k p xs N c a w i X wr) (hx : N = xs.length) (hs : N < a + i + 1) {w2 : World} {e : Ending} (he : e = .panicked (given k)) (hc : CurB w2 k p N c (a + i) true 2) (hk : Keeps (Just k) wr w2) : GetPost k p N c a (vget (xs.drop a)) w e w2 := by
  have hd : xs.drop (a + i) = [] := List.drop_eq_nil_of_le (by omega)
  rw [h.vr, hd, vread]
  refine ⟨h.keep.trans hk, .inr ⟨by simp [VR.up], he, ?_⟩⟩
  simpa [VR.up] using hc

/-- The byte is wrong. -/
theorem GState.wrong (h : GState k p xs N c a w i X wr) (hx : N = xs.length) (hs : a + i < N) (y b : Int) (hb : b = xs.getD (a + i) 0) (hy : (y = 3 ∧ i = 9 ∧ 1 < b) ∨ (y = 4 ∧ ¬ (i = 9 ∧ 1 < b) ∧ 0 < i ∧ b = 0)) {w2 : World} {e : Ending} (he : e = .panicked (given k)) (hc : CurB w2 k p N c (a + i + 1) true y) (hk : Keeps (Just k) wr w2) : GetPost k p N c a (vget (xs.drop a)) w e w2 := by
  have hd := drop_cons (xs := xs) (n := a + i) (by omega)
  rw [← hb] at hd
  have hi9 := h.i9
  have e2 : vget (xs.drop a) = ⟨y, i + 1, X + 2 ^ (7 * i) * 0⟩ := by
    rw [h.vr, hd, vread]
    rcases hy with ⟨rfl, rfl, h1⟩ | ⟨rfl, h0, h1, h2⟩
    · rw [if_pos ⟨by omega, h1⟩]
      simp [VR.up, Nat.add_comm]
    · rw [if_neg (by omega), if_pos ⟨beq_false_of_ne (by omega), h2⟩]
      simp [VR.up, Nat.add_comm]
  rw [e2]
  refine ⟨h.keep.trans hk, .inr ⟨by rcases hy with ⟨rfl, _⟩ | ⟨rfl, _⟩ <;> simp, he, ?_⟩⟩
  exact hc

/-- The byte is the last one. -/
theorem GState.last (h : GState k p xs N c a w i X wr) (hx : N = xs.length) (hs : a + i < N) (b : Int) (hb : b = xs.getD (a + i) 0) (h9 : ¬ (i = 9 ∧ 1 < b)) (h0 : ¬ (0 < i ∧ b = 0)) (h1 : b < 128) {w2 : World} {e : Ending} (he : e = .returned (.int .u64 (X + 2 ^ (7 * i) * b))) (hc : CurB w2 k p N c (a + i + 1) true 0) (hk : Keeps (Just k) wr w2) : GetPost k p N c a (vget (xs.drop a)) w e w2 := by
  have hd := drop_cons (xs := xs) (n := a + i) (by omega)
  rw [← hb] at hd
  have hi9 := h.i9
  have e2 : vget (xs.drop a) = ⟨0, i + 1, X + 2 ^ (7 * i) * b⟩ := by
    rw [h.vr, hd, vread, if_neg (by omega), if_neg (fun hh => h0 ⟨Nat.pos_of_ne_zero (by simpa using hh.1), hh.2⟩), if_pos h1]
    simp [VR.up, Nat.add_comm]
  rw [e2]
  exact ⟨h.keep.trans hk, .inl ⟨rfl, he, hc⟩⟩

/-- More follow. -/
theorem GState.more (h : GState k p xs N c a w i X wr) (hx : N = xs.length) (hs : a + i < N) (b : Int) (hb : b = xs.getD (a + i) 0) (h9 : i ≤ 8) (h0 : 128 ≤ b) (h1 : b < 256) {w2 : World} (hc : CurB w2 k p N c (a + i + 1) true 0) (hk : Keeps (Just k) wr w2) : GState k p xs N c a w (i + 1) (X + 2 ^ (7 * i) * (b.toNat % 128)) w2 := by
  have hd := drop_cons (xs := xs) (n := a + i) (by omega)
  rw [← hb] at hd
  have hp : 2 ^ (7 * (i + 1)) = 128 * 2 ^ (7 * i) := by rw [show 7 * (i + 1) = 7 + 7 * i by omega, Nat.pow_add]
  refine ⟨hc, h.keep.trans hk, ?_, ?_, by omega, by omega⟩
  · have := h.lt
    have h2 : 2 ^ (7 * i) * (b.toNat % 128) ≤ 2 ^ (7 * i) * 127 := Nat.mul_le_mul_left _ (by omega)
    omega
  · rw [h.vr, hd, vread, if_neg (by omega), if_neg (by omega), if_neg (by omega)]
    have e1 : 9 - i = 9 - (i + 1) + 1 := by omega
    rw [show ((i + 1 == 0) : Bool) = false from by simp, Nat.add_assoc a i 1, ← e1]
    simp only [VR.up, VR.mk.injEq, true_and]
    refine ⟨by omega, ?_⟩
    have e2 : ((2 : Int) ^ (7 * (i + 1))) = 128 * 2 ^ (7 * i) := by rw [show 7 * (i + 1) = 7 + 7 * i by omega, Int.pow_add]; rfl
    have e3 : ((X + 2 ^ (7 * i) * (b.toNat % 128) : Nat) : Int) = X + 2 ^ (7 * i) * (b - 128) := by
      push_cast
      congr 2
      omega
    rw [e2, e3, Int.mul_add, Int.mul_assoc, Int.add_assoc, Int.mul_left_comm]
end

theorem ret_u64 {a b : Int} (h : a = b) : Ending.returned (.int .u64 a) = .returned (.int .u64 b) := by rw [h]

/-- The byte's group goes in. -/
theorem or_group (X i : Nat) (b : Int) (b0 : 0 ≤ b) (b1 : b < 256) (hX : X < 2 ^ (7 * i)) (hi : i ≤ 9) (h9 : i = 9 → b ≤ 1) :
    bits BinOp.or IntKind.u64 (X : Int) (IntKind.u64.wrap (IntKind.u64.wrap (bits BinOp.andNot IntKind.u8 b 128) * 2 ^ (7 * i))) = ((X + 2 ^ (7 * i) * (b.toNat % 128) : Nat) : Int) := by
  have e1 : IntKind.u64.wrap (bits BinOp.andNot IntKind.u8 b 128) = ((b.toNat % 128 : Nat) : Int) := by
    rw [low_seven b b0 b1, IntKind.wrap_u64]
    omega
  have hp : 2 ^ (7 * i) * (b.toNat % 128) < 18446744073709551616 := by
    by_cases h : i = 9
    · subst h
      have := h9 rfl
      have h1 : b.toNat % 128 ≤ 1 := by omega
      have h2 : 2 ^ (7 * 9) * (b.toNat % 128) ≤ 2 ^ (7 * 9) * 1 := Nat.mul_le_mul_left _ h1
      exact Nat.lt_of_le_of_lt h2 (by decide)
    · have h1 : 2 ^ (7 * i) ≤ 2 ^ 56 := Nat.pow_le_pow_right (by omega) (by omega)
      have h2 : 2 ^ (7 * i) * (b.toNat % 128) ≤ 2 ^ 56 * 127 := Nat.mul_le_mul h1 (by omega)
      exact Nat.lt_of_le_of_lt h2 (by decide)
  rw [e1, or_seven X _ i hX hp (by omega)]

/-- The last group. -/
theorem or_last (X i : Nat) (b : Int) (b0 : 0 ≤ b) (b1 : b < 128) (hX : X < 2 ^ (7 * i)) (hi : i ≤ 9) (h9 : i = 9 → b ≤ 1) :
    bits BinOp.or IntKind.u64 (X : Int) (IntKind.u64.wrap (IntKind.u64.wrap (bits BinOp.andNot IntKind.u8 b 128) * 2 ^ (7 * i))) = X + 2 ^ (7 * i) * b := by
  rw [or_group X i b b0 (by omega) hX hi h9]
  push_cast
  congr 2
  omega

end Go.Proofs.Ytmifbohdepejaaa

namespace Go.Proofs.Ytmifbohdepejaaa
open Go.RowKit

theorem end_whole (k : Nat) (p : Option Addr) (N c : Nat) (y : Int) (w : World) (h : CurB w k p N c N true y) (hc : (N : Int) ≤ 9223372036854775807) :
    Calls Try.prog 73 #[.pointer (some ⟨k, 0, none⟩)] w fun e w' => e = .returned (.tuple #[]) ∧ CurB w' k p N c N true y ∧ Keeps NoBlock w w' := by
  have H := Lib.hid h; clear h
  go_enter Try.func73, Try.ntmps73
  go_wp2_with fail
  refine (left_at k p N c N y _ H.out (Nat.le_refl _) hc).mono ?_
  rintro e w' ⟨rfl, m, rfl⟩
  go_wp2_with fail
  go_returns
  exact ⟨rfl, Whole.drewN H.out m, (Keeps.refl _ _).drewN m⟩

theorem end_more (k : Nat) (p : Option Addr) (N c a : Nat) (w : World) (h : CurB w k p N c a true 0) (ha : a < N) (hc : (N : Int) ≤ 9223372036854775807) :
    Calls Try.prog 73 #[.pointer (some ⟨k, 0, none⟩)] w fun e w' => e = .panicked (given k) ∧ CurB w' k p N c a true 3 ∧ Keeps (Just k) w w' := by
  have H := Lib.hid h; clear h
  have hlt : (0 : Int) < (N : Int) - (a : Int) := by omega
  go_enter Try.func73, Try.ntmps73
  go_wp2_with fail
  refine (left_at k p N c a 0 _ H.out (by omega) hc).mono ?_
  rintro e w' ⟨rfl, m, rfl⟩
  go_wp2_with fail
  refine (fail_at k p N c a 3 _ (Whole.drewN H.out m) (by decide)).mono ?_
  rintro e w2 ⟨rfl, hcur, hk⟩
  exact ⟨rfl, rfl, hcur, ((Keeps.refl (Just k) w).drewN m).trans hk⟩
end Go.Proofs.Ytmifbohdepejaaa

namespace Go.Proofs.Ytmifbohdepejaaa
open Go.RowKit

/-- The entries that were put are got, if they rise. -/
theorem takeE_text : ∀ {l : List En}, (∀ e ∈ l, e.Fine) → ∀ xs, takeE l.length (textE l ++ xs) = l
  | [], _, xs => rfl
  | e :: l, hf, xs => by
    have he := hf e List.mem_cons_self
    have h8 : (digits (e.hash : Int) 8).length = 8 := digits_length _ 8
    have h4 : (digits (e.at_ : Int) 4).length = 4 := digits_length _ 4
    have e1 : (textE (e :: l) ++ xs).take 8 = digits (e.hash : Int) 8 := by
      rw [textE, List.append_assoc, List.append_assoc]
      exact List.take_left' h8
    have e2 : ((textE (e :: l) ++ xs).drop 8).take 4 = digits (e.at_ : Int) 4 := by
      rw [textE, List.append_assoc, List.append_assoc, List.drop_left' h8, List.take_left' h4]
    have e3 : (textE (e :: l) ++ xs).drop 12 = textE l ++ xs := by
      rw [textE, List.append_assoc]
      exact List.drop_left' (by rw [List.length_append, h8, h4])
    rw [List.length_cons, takeE, e1, e2, e3, takeE_text (fun x hx => hf x (List.mem_cons_of_mem _ hx)) xs, le_digits9, le_digits9]
    have a1 := he.hash
    have a2 := he.at_
    have b1 : (((e.hash % 2 ^ (8 * 8) : Nat) : Int)).toNat = e.hash := by rw [Int.toNat_natCast]; omega
    have b2 : (((e.at_ % 2 ^ (8 * 4) : Nat) : Int)).toNat = e.at_ := by rw [Int.toNat_natCast]; omega
    rw [b1, b2]
theorem getE_text {l : List En} (hf : ∀ e ∈ l, e.Fine) : getE (l.length : Int) (textE l) = if risesE l = true then ⟨12 * l.length, 0, l⟩ else ⟨12 * l.length, 8, []⟩ := by
  have ht := takeE_text hf []
  rw [List.append_nil] at ht
  unfold getE
  by_cases h0 : (l.length : Int) ≤ 0
  · obtain rfl : l = [] := List.length_eq_zero_iff.1 (by omega)
    rfl
  · rw [if_neg h0, Int.toNat_natCast, if_neg (by rw [textE_length]; omega), ht]

/-- What a reading of entries leaves in block D. -/
def LeftE (w0 : World) (D : Nat) (t : GE) (w2 : World) : Prop :=
  Keeps (Just D) w0 w2 ∧ (t.y = 0 → ∃ (q : Option Addr) (m d : Nat), Whole w2 D 23 #[.slice q m d] ∧ m = t.l.length ∧ m ≤ d ∧ d ≤ 9223372036854775807 ∧ (q = none → m = 0 ∧ d = 0) ∧ EnsAt w2 q t.l ∧ (0 < m → ∀ a, q = some a → w0.heap.size + 1 + 1 + 1 + 1 ≤ a.block))

theorem Begun.storeAt {w0 : World} {p : Option Addr} {N c a : Nat} {y : Int} {W : World} (h : Begun w0 p N c a y W) {D : Nat} (hD : D < w0.heap.size) (v : Value) : Begun w0 p N c a y (W.setCell ⟨D, 0, none⟩ v) :=
  ⟨h.at_.setOther (by simp; omega) v, h.why.setOther (by simp; omega) v, Whole.setOther h.cur (by simp; omega) v, h.var.setOther (by simp; omega) v⟩
end Go.Proofs.Ytmifbohdepejaaa

namespace Go.Proofs.Ytmifbohdepejaaa
open Go.RowKit

theorem half_half (x : Int) (k : Nat) : x / 2 ^ k / 2 = x / 2 ^ (k + 1) := by
  have hp : (0 : Int) < 2 ^ k := Int.pow_pos (by decide)
  rw [Int.pow_succ, Int.ediv_ediv, if_neg (fun h => absurd h.1 (by omega)), Int.sub_zero]

/-- Four numbers in a row, as cells. -/
def row4 (kd : IntKind) (v : Nat → Int) : Array Value := #[.int kd (v 0), .int kd (v 1), .int kd (v 2), .int kd (v 3)]
theorem row4_get {kd : IntKind} {v : Nat → Int} {k : Nat} (hk : k < 4) : (row4 kd v)[k]? = some (.int kd (v k)) := by
  have : k = 0 ∨ k = 1 ∨ k = 2 ∨ k = 3 := by omega
  rcases this with rfl | rfl | rfl | rfl <;> rfl
theorem row4_set {kd : IntKind} {v : Nat → Int} {k : Nat} (hk : k < 4) (x : Int) : (row4 kd v).setIfInBounds k (.int kd x) = row4 kd (upd v k x) := by
  have : k = 0 ∨ k = 1 ∨ k = 2 ∨ k = 3 := by omega
  rcases this with rfl | rfl | rfl | rfl <;> rfl
end Go.Proofs.Ytmifbohdepejaaa

namespace Go.Proofs.Ytmifbohdepejaaa
open Go.RowKit

set_option maxHeartbeats 800000 in
set_option maxRecDepth 10000 in
theorem wturn_ref (x y : Int) (n : Nat) (hn : n < 64) (hy : y = n) (h : U64 x) (w : World) :
    Calls Try.prog 111 #[.int .u64 x, .int .i64 y] w fun e w' => e = .returned (.int .u64 (wrot n x)) ∧ w = w' := by
  have HH := Lib.hid h
  have hx0 := h.1
  have hx1 := h.2
  have HZ := Lib.hid (wrot_zero h)
  clear h
  subst hy
  go_enter Try.func111, Try.ntmps111
  go_wp2
  go_loop [0, 7] (fun r i => ∃ k : Nat, k ≤ n ∧ i = .int .i64 (k : Int) ∧ r = .int .u64 (wrot k x)) (fun _ i => ((n : Int) - intOf i).toNat)
  case atStart => exact ⟨0, Nat.zero_le _, rfl, by rw [HZ.out]⟩
  case round =>
    obtain ⟨k, hk, rfl, rfl⟩ := hrel
    by_cases hlt : k < n
    · have hb := wrot_bound (n := k) (by omega) HH.out
      have hb0 := hb.1
      have hb1 := hb.2
      have hs := wrot_step (n := k) (by omega) HH.out
      have hsb := wrot_bound (n := k + 1) (by omega) HH.out
      rw [← hs] at hsb
      have hmod := Int.emod_eq_of_lt hsb.1 hsb.2
      have HS := Lib.hid hs
      have HM := Lib.hid hmod
      clear hb hs hsb hmod
      obtain ⟨r, hr⟩ : ∃ r, r = wrot k x := ⟨_, rfl⟩
      rw [← hr] at hb0 hb1 HS HM ⊢
      clear hr
      go_wp2
      go_round
      case rel =>
        refine ⟨k + 1, by omega, rfl, congrArg (Value.int IntKind.u64) ?_⟩
        rw [IntKind.wrap_u64, IntKind.wrap_u64, HM.out, HS.out]
      case measure => simp [intOf]; omega
    · obtain rfl : k = n := by omega
      go_wp2
      go_ret
      exact ⟨rfl, rfl⟩

set_option maxHeartbeats 800000 in
set_option maxRecDepth 10000 in
theorem wmix_ref (x y : Int) (n : Nat) (hn : n < 64) (hy : y = n) (h : U64 x) (w : World) :
    Calls Try.prog 112 #[.int .u64 x, .int .i64 y] w fun e w' => e = .returned (.int .u64 (down n x)) ∧ w = w' := by
  have HH := Lib.hid h
  have hx0 := h.1
  have hx1 := h.2
  clear h
  subst hy
  go_enter Try.func112, Try.ntmps112
  go_wp2
  go_loop [5, 8] (fun r i => ∃ k : Nat, k ≤ n ∧ i = .int .i64 (k : Int) ∧ r = .int .u64 (x / 2 ^ k)) (fun _ i => ((n : Int) - intOf i).toNat)
  case atStart => exact ⟨0, Nat.zero_le _, rfl, by simp⟩
  case round =>
    obtain ⟨k, hk, rfl, rfl⟩ := hrel
    have HD := Lib.hid (wdown_of n HH.out)
    have HS := Lib.hid (half_half x k)
    have hb0 : 0 ≤ x / 2 ^ k := Int.ediv_nonneg hx0 (Int.le_of_lt (Int.pow_pos (by decide)))
    have hb1 : x / 2 ^ k < 18446744073709551616 := Int.lt_of_le_of_lt (Int.ediv_le_self _ hx0) hx1
    obtain ⟨r, hr⟩ : ∃ r, r = x / 2 ^ k := ⟨_, rfl⟩
    rw [← hr] at hb0 hb1 HS ⊢
    by_cases hlt : k < n
    · clear hr
      go_wp2
      go_round
      case rel =>
        refine ⟨k + 1, by omega, rfl, congrArg (Value.int IntKind.u64) ?_⟩
        rw [← HS.out]
      case measure => simp [intOf]; omega
    · obtain rfl : k = n := by omega
      rw [← hr] at HD
      clear hr
      go_wp2
      go_ret
      rw [HD.out]
      exact ⟨rfl, rfl⟩

set_option maxHeartbeats 800000 in
set_option maxRecDepth 10000 in
theorem winto_ref (x y : Int) (h : U64 x) (hy : U64 y) (w : World) :
    Calls Try.prog 110 #[.int .u64 x, .int .u64 y] w fun e w' => e = .returned (.int .u64 (win x y)) ∧ w = w' := by
  have hm := wmod_bound (x + IntKind.u64.wrap (y * 14029467366897019727))
  have hr := wrot_bound (n := 31) (by decide) hm
  have HT := Lib.hid (wturn_ref _ 31 31 (by decide) rfl hm)
  have h0 := h.1; have h1 := h.2; have h2 := hy.1; have h3 := hy.2; have h4 := hr.1; have h5 := hr.2
  have he : win x y = IntKind.u64.wrap (wrot 31 (IntKind.u64.wrap (x + IntKind.u64.wrap (y * 14029467366897019727))) * 11400714785074694791) := rfl
  have HE := Lib.hid he
  clear h hy hm hr he
  rw [HE.out]
  obtain ⟨z, hz⟩ : ∃ z, z = wrot 31 (IntKind.u64.wrap (x + IntKind.u64.wrap (y * 14029467366897019727))) := ⟨_, rfl⟩
  rw [← hz] at h4 h5 HT ⊢
  clear hz HE
  go_enter Try.func110, Try.ntmps110
  go_wp2_with fail
  refine (HT.out _).mono ?_
  rintro e w' ⟨rfl, rfl⟩
  go_wp2_with fail
  go_ret
  exact ⟨rfl, rfl⟩

/-- What Value reads of eight, of four. -/
theorem four8_value (ys : List Int) (k : Nat) : le ((ys.drop (8 * k)).take 8) = four8 ys k := rfl
theorem four4_value (ys : List Int) (k : Nat) : le ((ys.drop (4 * k)).take 4) = four4 ys k := rfl
theorem wtaken_drop (v : Nat → Int) (xs : List Int) (k : Nat) : wtaken (wnums v xs k) (xs.drop (32 * k)) 4 = wnums v xs (k + 1) := rfl
end Go.Proofs.Ytmifbohdepejaaa

namespace Go.Proofs.Ytmifbohdepejaaa
open Go.RowKit

theorem join_sum {a b c d : Int} (_ha : U32 a) (_hb : U32 b) (_hc : U32 c) (_hd : U32 d) :
    (IntKind.u64.wrap (IntKind.u64.wrap (IntKind.u64.wrap (a + b) + c) + d)).tmod 4294967296 = (a + b + c + d) % 4294967296 := by
  unfold U32 at *
  rw [IntKind.wrap_u64, IntKind.wrap_u64, IntKind.wrap_u64, Int.tmod_eq_emod_of_nonneg (by omega)]
  omega

end Go.Proofs.Ytmifbohdepejaaa

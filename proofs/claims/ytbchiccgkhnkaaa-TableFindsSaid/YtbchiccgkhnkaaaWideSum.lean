/-
  Contracts of package wide: RotateLeft64, into, four, eight, mix.
-/
import Derived.Test.YtbchiccgkhnkaaaWideRef
import Derived.Test.YtbchiccgkhnkaaaThinSum
import Derived.BigQuiet
namespace Go.Proofs.Ytbchiccgkhnkaaa
open Go.RowKit

theorem and63 (n : Nat) (hn : n < 64) : bits BinOp.and IntKind.u64 (n : Int) 63 = (n : Int) := by
  have e := u64_and_nat n 63 (by omega) (by decide)
  rw [show n &&& 63 = n % 2 ^ 6 from Nat.and_two_pow_sub_one_eq_mod n 6, Nat.mod_eq_of_lt (by omega)] at e
  exact e

set_option maxHeartbeats 800000 in
set_option maxRecDepth 10000 in
theorem wrotl (x y : Int) (n : Nat) (hn : n < 64) (h0 : 0 < n) (hy : y = n) (h : U64 x) (w : World) :
    Calls Try.prog 86 #[.int .u64 x, .int .i64 y] w fun e w' => e = .returned (.int .u64 (wrot n x)) ∧ w = w' := by
  subst hy
  have ha := and63 n hn
  have HR := Lib.hid (wrot_of hn h)
  have hx0 := h.1
  have hx1 := h.2
  clear h
  go_enter Try.func86, Try.ntmps86
  go_wp2
  go_ret
  exact ⟨by rw [← HR.out, ← IntKind.wrap_u64]; rfl, rfl⟩

set_option maxHeartbeats 800000 in
set_option maxRecDepth 10000 in
theorem winto_wide (x y : Int) (h : U64 x) (hy : U64 y) (w : World) :
    Calls Try.prog 87 #[.int .u64 x, .int .u64 y] w fun e w' => e = .returned (.int .u64 (win x y)) ∧ w = w' := by
  have hm := wmod_bound (x + IntKind.u64.wrap (y * 14029467366897019727))
  have hr := wrot_bound (n := 31) (by decide) hm
  have HT := Lib.hid (wrotl _ 31 31 (by decide) (by decide) rfl hm)
  have h0 := h.1; have h1 := h.2; have h2 := hy.1; have h3 := hy.2; have h4 := hr.1; have h5 := hr.2
  have he : win x y = IntKind.u64.wrap (wrot 31 (IntKind.u64.wrap (x + IntKind.u64.wrap (y * 14029467366897019727))) * 11400714785074694791) := rfl
  have HE := Lib.hid he
  clear h hy hm hr he
  rw [HE.out]
  obtain ⟨z, hz⟩ : ∃ z, z = wrot 31 (IntKind.u64.wrap (x + IntKind.u64.wrap (y * 14029467366897019727))) := ⟨_, rfl⟩
  rw [← hz] at h4 h5 HT ⊢
  clear hz HE
  go_enter Try.func87, Try.ntmps87
  go_wp2_with fail
  refine (HT.out _).mono ?_
  rintro e w' ⟨rfl, rfl⟩
  go_wp2_with fail
  go_ret
  exact ⟨rfl, rfl⟩

theorem wdown64 {x : Int} (h : U64 x) : bits BinOp.xor IntKind.u64 x (x / 8589934592) = down 33 x ∧ bits BinOp.xor IntKind.u64 x (x / 536870912) = down 29 x ∧ bits BinOp.xor IntKind.u64 x (x / 4294967296) = down 32 x :=
  ⟨wdown_of 33 h, wdown_of 29 h, wdown_of 32 h⟩

set_option maxHeartbeats 800000 in
set_option maxRecDepth 10000 in
theorem wmix_wide (x : Int) (h : U64 x) (w : World) :
    Calls Try.prog 90 #[.int .u64 x] w fun e w' => e = .returned (.int .u64 (wend x)) ∧ w = w' := by
  have hx0 := h.1
  have hx1 := h.2
  have e1 := (wdown64 h).1
  have hd1 := wdown_bound 33 h
  have hend : wend x = down 32 (IntKind.u64.wrap (down 29 (IntKind.u64.wrap (down 33 x * 14029467366897019727)) * 1609587929392839161)) := rfl
  obtain ⟨d1, q1⟩ : ∃ d, d = down 33 x := ⟨_, rfl⟩
  rw [← q1] at e1 hd1 hend
  obtain ⟨m1, t1⟩ : ∃ d, d = IntKind.u64.wrap (d1 * 14029467366897019727) := ⟨_, rfl⟩
  have hm1 := wmod_bound (d1 * 14029467366897019727)
  rw [← t1] at hm1 hend
  have e2 := (wdown64 hm1).2.1
  have hd2 := wdown_bound 29 hm1
  obtain ⟨d2, q2⟩ : ∃ d, d = down 29 m1 := ⟨_, rfl⟩
  rw [← q2] at e2 hd2 hend
  obtain ⟨m2, t2⟩ : ∃ d, d = IntKind.u64.wrap (d2 * 1609587929392839161) := ⟨_, rfl⟩
  have hm2 := wmod_bound (d2 * 1609587929392839161)
  rw [← t2] at hm2 hend
  have e3 := (wdown64 hm2).2.2
  have p0 := hd1.1
  have p1 := hd1.2
  have p2 := hd2.1
  have p3 := hd2.2
  have r0 := hm1.1
  have r1 := hm1.2
  have r2 := hm2.1
  have r3 := hm2.2
  have HE := Lib.hid (hend.trans e3.symm)
  have t1' := t1.symm
  have t2' := t2.symm
  clear q1 q2 hd1 hd2 hend h e3 hm1 hm2 t1 t2
  go_enter Try.func90, Try.ntmps90
  go_wp2
  go_ret
  exact ⟨by rw [HE.out]; rfl, rfl⟩

/-- 'x | uint64(b) << (8*k)' where x has k bytes: as the walk says it. -/
theorem or_byte64 (X y : Int) (k : Nat) (hk : k < 4) (hX0 : 0 ≤ X) (hX : X < 2 ^ (8 * k)) (h0 : 0 ≤ y) (h1 : y < 256) :
    bits BinOp.or IntKind.u64 X (y * 2 ^ (8 * k)) = X + 2 ^ (8 * k) * y := by
  obtain ⟨x, rfl⟩ := Int.eq_ofNat_of_zero_le hX0
  obtain ⟨b, rfl⟩ := Int.eq_ofNat_of_zero_le h0
  have hp := pow_le_of (show k < 8 by omega)
  have hx : x < 2 ^ (8 * k) := by exact_mod_cast hX
  have hb : b < 256 := by omega
  have hbp : b * 2 ^ (8 * k) < 18446744073709551616 := by
    have : b * 2 ^ (8 * k) < 256 * 2 ^ (8 * k) := Nat.mul_lt_mul_of_pos_right hb (Nat.two_pow_pos _)
    rw [Nat.mul_comm 256] at this
    omega
  have e2 : (b : Int) * 2 ^ (8 * k) = ((b * 2 ^ (8 * k) : Nat) : Int) := by push_cast; rfl
  rw [e2, u64_or_nat _ _ (by omega) hbp, Nat.or_comm, Nat.mul_comm b, ← Nat.two_pow_add_eq_or_of_lt hx]
  push_cast
  omega

set_option maxHeartbeats 2000000 in
set_option maxRecDepth 10000 in
theorem four_wide (p : Option Addr) (N c : Nat) (xs : List Int) (hx : N = xs.length) (h4 : 4 ≤ N) (ho : Octets xs) (w : World) (hb : Bytes8 w p xs) :
    Calls Try.prog 89 #[.slice p N c] w fun e w' => e = .returned (.int .u64 (four4 xs 0)) ∧ ∃ n, w' = w.drewN n := by
  obtain ⟨a, rfl, c0, c1, c2, c3⟩ := hb.at4 (by omega)
  have HF := Lib.hid (four_le (xs := xs) (by omega))
  have g0 := ho.getD 0
  have g1 := ho.getD 1
  have g2 := ho.getD 2
  have g3 := ho.getD 3
  clear hb ho hx
  obtain ⟨b0, e0⟩ : ∃ b, b = xs.getD 0 0 := ⟨_, rfl⟩
  obtain ⟨b1, e1⟩ : ∃ b, b = xs.getD 1 0 := ⟨_, rfl⟩
  obtain ⟨b2, e2⟩ : ∃ b, b = xs.getD 2 0 := ⟨_, rfl⟩
  obtain ⟨b3, e3⟩ : ∃ b, b = xs.getD 3 0 := ⟨_, rfl⟩
  rw [← e0] at c0 HF g0
  rw [← e1] at c1 HF g1
  rw [← e2] at c2 HF g2
  rw [← e3] at c3 HF g3
  clear e0 e1 e2 e3
  obtain ⟨g00, g01⟩ := g0
  obtain ⟨g10, g11⟩ := g1
  obtain ⟨g20, g21⟩ := g2
  obtain ⟨g30, g31⟩ := g3
  go_enter Try.func89, Try.ntmps89
  have n0 : 0 < N := by omega
  have o1 := or_byte64 b0 b1 1 (by decide) g00 g01 g10 g11
  have o2 := or_byte64 (b0 + 256 * b1) b2 2 (by decide) (by omega) (by omega) g20 g21
  have o3 := or_byte64 (b0 + 256 * b1 + 65536 * b2) b3 3 (by decide) (by omega) (by omega) g30 g31
  have hor : bits BinOp.or IntKind.u64 (bits BinOp.or IntKind.u64 (bits BinOp.or IntKind.u64 b0 (b1 * 256)) (b2 * 65536)) (b3 * 16777216) = b0 + 256 * b1 + 65536 * b2 + 16777216 * b3 := by
    rw [show bits BinOp.or IntKind.u64 b0 (b1 * 256) = b0 + 256 * b1 from o1, show bits BinOp.or IntKind.u64 (b0 + 256 * b1) (b2 * 65536) = b0 + 256 * b1 + 65536 * b2 from o2]
    exact o3
  have HO := Lib.hid hor
  clear o1 o2 o3 hor
  have n1 : (1 : Int) < (N : Int) := by omega
  have n2 : (2 : Int) < (N : Int) := by omega
  have n3 : (3 : Int) < (N : Int) := by omega
  go_wp2
  go_quiet (fail)
  go_wp2
  go_ret
  refine ⟨?_, nq, rfl⟩
  rw [HF.out, ← HO.out]
  rfl
end Go.Proofs.Ytbchiccgkhnkaaa

/-
  Package edge's own text, number, Key, Of, Compare, Same, Ratio, Clamp.
-/
import Derived.Test.YtillkgbnokkacaaEdgeLaws
namespace Go.Proofs.Ytillkgbnokkacaa
open Go.RowKit

theorem bits_low (k : Nat) (hk : Word64 k) : bits BinOp.andNot IntKind.u64 (k : Int) 9223372036854775808 = ((rung k : Nat) : Int) := by
  unfold Word64 at hk
  have h := u64_andNot_nat k 9223372036854775808 hk (by decide)
  rw [show (18446744073709551615 : Nat) - 9223372036854775808 = 2 ^ 63 - 1 by decide, Nat.and_two_pow_sub_one_eq_mod] at h
  exact h
theorem bits_high (k : Nat) (hk : k < 9223372036854775808) : bits BinOp.or IntKind.u64 (k : Int) 9223372036854775808 = ((k + 9223372036854775808 : Nat) : Int) := by
  have h := u64_or_nat k 9223372036854775808 (by omega) (by decide)
  have h1 : 2 ^ 63 * 1 + k = 2 ^ 63 * 1 ||| k := Nat.two_pow_add_eq_or_of_lt (by omega) 1
  rw [show k ||| 9223372036854775808 = k + 9223372036854775808 by
    rw [Nat.or_comm, show (9223372036854775808 : Nat) = 2 ^ 63 * 1 by decide, ← h1, Nat.add_comm]] at h
  exact h

theorem xor_all (t : Nat) (ht : t < 18446744073709551616) : 18446744073709551615 ^^^ t = 18446744073709551615 - t := by
  have e1 : (18446744073709551615 : Nat) = 2 ^ 64 - 1 := by decide
  have e2 : 18446744073709551615 - t = 2 ^ 64 - (t + 1) := by
    rw [show (2 : Nat) ^ 64 = 18446744073709551616 by decide]
    omega
  have hlt : t < 2 ^ 64 := by rw [show (2 : Nat) ^ 64 = 18446744073709551616 by decide]; exact ht
  rw [e2, e1]
  apply Nat.eq_of_testBit_eq
  intro i
  rw [Nat.testBit_xor, Nat.testBit_two_pow_sub_one, Nat.testBit_two_pow_sub_succ hlt]
  by_cases hi : i < 64
  · simp [hi]
  · have : t.testBit i = false := Nat.testBit_lt_two_pow (Nat.lt_of_lt_of_le hlt (Nat.pow_le_pow_right (by decide) (by omega)))
    simp [hi, this]
theorem run_not (t : Nat) (ht : t < 18446744073709551616) : Op.unary UnOp.xor (.int .u64 (t : Int)) = pure (.int .u64 ((18446744073709551615 - t : Nat) : Int)) := by
  have h := u64_xor_nat 18446744073709551615 t (by decide) ht
  rw [xor_all t ht] at h
  rw [unary_xor, intBits_xor, ← h]
  rfl

set_option maxHeartbeats 800000 in
set_option maxRecDepth 10000 in
theorem etext_go (k : Nat) (hk : Word64 k) (w : World) : Calls Try.prog 37 #[.int .u64 (k : Int)] w fun e w' => e = .returned (.int .u64 ((textW k : Nat) : Int)) ∧ w = w' := by
  have hb := bits_low k hk
  have hi : rInf = 9218868437227405312 := rfl
  obtain ⟨r, hr⟩ : ∃ r, r = rung k := ⟨_, rfl⟩
  rw [← hr] at hb
  clear hk
  by_cases h : 9218868437227405312 < r
  · have HT := Lib.hid (show textW k = 9221120237041090560 by unfold textW nanW; rw [← hr, hi, if_pos (decide_eq_true h)])
    have hd : decide ((9218868437227405312 : Int) < (r : Int)) = true := decide_eq_true (by omega)
    clear hr h hi
    go_enter Try.func37, Try.ntmps37
    go_wp2_with fail
    go_ret
    exact ⟨by rw [HT.out]; rfl, rfl⟩
  · have HT := Lib.hid (show textW k = k by unfold textW nanW; rw [← hr, hi, if_neg (by simpa using h)])
    have hd : decide ((9218868437227405312 : Int) < (r : Int)) = false := decide_eq_false (by omega)
    clear hr h hi
    go_enter Try.func37, Try.ntmps37
    go_wp2_with fail
    go_ret
    exact ⟨by rw [HT.out]; rfl, rfl⟩

set_option maxHeartbeats 800000 in
set_option maxRecDepth 10000 in
theorem enumber_go (k : Nat) (hk : Word64 k) (w : World) : Calls Try.prog 40 #[.int .u64 (k : Int)] w fun e w' => e = .returned (.float .f64 (textW k)) ∧ w = w' := by
  have HT := Lib.hid (fun w => etext_go k hk w)
  have hf := fun w => run_frombits ((textW k : Nat) : Int) w
  rw [show (((textW k : Nat) : Int)).toNat = textW k from rfl] at hf
  clear hk
  go_enter Try.func40, Try.ntmps40
  go_wp2_with fail
  refine (HT.out _).mono ?_
  rintro e w1 ⟨rfl, rfl⟩
  go_wp2_with fail
  go_ret
  exact ⟨rfl, rfl⟩

set_option maxHeartbeats 800000 in
set_option maxRecDepth 10000 in
theorem ekey_go (b : Nat) (hb : Word64 b) (w : World) : Calls Try.prog 10 #[.float .f64 b] w fun e w' => e = .returned (.int .u64 ((keyW b : Nat) : Int)) ∧ w = w' := by
  have HT := Lib.hid (fun w => etext_go b hb w)
  have hr := fun w => run_tobits b w
  have ht := text_word hb
  have hk : keyW b = if 9223372036854775808 ≤ textW b then 18446744073709551615 - textW b else textW b + 9223372036854775808 := rfl
  obtain ⟨t, htd⟩ : ∃ t, t = textW b := ⟨_, rfl⟩
  rw [← htd] at HT ht hk
  unfold Word64 at ht
  clear htd hb
  by_cases h : 9223372036854775808 ≤ t
  · rw [if_pos h] at hk
    have HK := Lib.hid hk
    have hd : decide ((t : Int) < (9223372036854775808 : Int)) = false := decide_eq_false (by omega)
    have hx := run_not t ht
    obtain ⟨u, hu⟩ : ∃ u, u = 18446744073709551615 - t := ⟨_, rfl⟩
    rw [← hu] at hx hk
    have HK := Lib.hid hk
    clear hk hu
    go_enter Try.func10, Try.ntmps10
    go_wp2_with fail
    refine (HT.out _).mono ?_
    rintro e w1 ⟨rfl, rfl⟩
    go_wp2_with fail
    go_ret
    exact ⟨by rw [HK.out]; rfl, rfl⟩
  · rw [if_neg h] at hk
    have HK := Lib.hid hk
    have hd : decide ((t : Int) < (9223372036854775808 : Int)) = true := decide_eq_true (by omega)
    have hw := bits_high t (by omega)
    clear hk
    go_enter Try.func10, Try.ntmps10
    go_wp2_with fail
    refine (HT.out _).mono ?_
    rintro e w1 ⟨rfl, rfl⟩
    go_wp2_with fail
    go_ret
    refine ⟨?_, rfl⟩
    rw [HK.out]
    first | rfl | simp

/-- The bits of which a key tells. -/
def unkeyW (k : Nat) : Nat := if k < 9223372036854775808 then 18446744073709551615 - k else k - 9223372036854775808
theorem unkey_of (k : Nat) (hk : Word64 k) : OfKey k (textW (unkeyW k)) := by
  have hu : Word64 (unkeyW k) := by unfold Word64 at *; unfold unkeyW; split <;> omega
  refine ⟨text_word hu, ?_⟩
  by_cases hn : nanW (unkeyW k) = true
  · right
    have ht : textW (unkeyW k) = 9221120237041090560 := by unfold textW; rw [if_pos hn]
    rw [ht]
    refine ⟨by decide, fun b hb hbn hkb => ?_⟩
    have htb : textW b = b := by unfold textW; rw [if_neg (by rw [hbn]; simp)]
    have : unkeyW k = b := by
      rw [← hkb]
      unfold Word64 at hb
      unfold keyW unkeyW
      rw [htb]
      split <;> split <;> omega
    rw [this, hbn] at hn
    exact absurd hn (by simp)
  · left
    have hn' : nanW (unkeyW k) = false := by simpa using hn
    have ht : textW (unkeyW k) = unkeyW k := by unfold textW; rw [if_neg hn]
    rw [ht]
    refine ⟨hn', ?_⟩
    unfold keyW
    rw [ht]
    unfold Word64 at hk
    unfold unkeyW
    split <;> split <;> omega

set_option maxHeartbeats 800000 in
set_option maxRecDepth 10000 in
theorem eof_go (k : Nat) (hk : Word64 k) (w : World) : Calls Try.prog 15 #[.int .u64 (k : Int)] w fun e w' => e = .returned (.float .f64 (textW (unkeyW k))) ∧ w = w' := by
  have hk' : k < 18446744073709551616 := hk
  have hu : Word64 (unkeyW k) := by unfold Word64 at *; unfold unkeyW; split <;> omega
  have HN := Lib.hid (fun w => enumber_go (unkeyW k) hu w)
  by_cases h : k < 9223372036854775808
  · have hd : decide ((k : Int) < (9223372036854775808 : Int)) = true := decide_eq_true (by omega)
    have hx := run_not k hk'
    rw [show 18446744073709551615 - k = unkeyW k by unfold unkeyW; rw [if_pos h]] at hx
    clear hu hk
    go_enter Try.func15, Try.ntmps15
    go_wp2_with fail
    refine (HN.out _).mono ?_
    rintro e w1 ⟨rfl, rfl⟩
    go_wp2_with fail
    go_ret
    exact ⟨rfl, rfl⟩
  · have hd : decide ((k : Int) < (9223372036854775808 : Int)) = false := decide_eq_false (by omega)
    have hb := bits_low k hk
    rw [rung_eq hk, if_pos (by omega)] at hb
    have HU := Lib.hid (show unkeyW k = k - 9223372036854775808 by unfold unkeyW; rw [if_neg h])
    rw [← HU.out] at hb
    clear hu hk
    go_enter Try.func15, Try.ntmps15
    go_wp2_with fail
    refine (HN.out _).mono ?_
    rintro e w1 ⟨rfl, rfl⟩
    go_wp2_with fail
    go_ret
    exact ⟨rfl, rfl⟩

def cmpN (a b : Nat) : Int := if a < b then -1 else if b < a then 1 else 0
set_option maxHeartbeats 800000 in
theorem isnan64_go (k : Int) (w : World) : Calls Try.prog 54 #[.int .u64 k] w fun e w' => e = .returned (.bool false) ∧ w = w' := by
  go_enter Try.func54, Try.ntmps54
  go_wp2_with fail
  go_ret
  exact ⟨rfl, rfl⟩
set_option maxHeartbeats 800000 in
theorem cmp64_go (a b : Nat) (w : World) : Calls Try.prog 39 #[.int .u64 (a : Int), .int .u64 (b : Int)] w fun e w' => e = .returned (.int .i64 (cmpN a b)) ∧ w = w' := by
  have HA := Lib.hid (fun w => isnan64_go (a : Int) w)
  have HB := Lib.hid (fun w => isnan64_go (b : Int) w)
  by_cases h : a < b
  · have hd : decide (a < b) = true := decide_eq_true h
    have hd2 : decide ((a : Int) < (b : Int)) = true := decide_eq_true (by omega)
    have HC := Lib.hid (show cmpN a b = -1 by unfold cmpN; rw [if_pos h])
    go_enter Try.func39, Try.ntmps39
    go_wp2_with fail
    refine (HA.out _).mono ?_
    rintro e w1 ⟨rfl, rfl⟩
    go_wp2_with fail
    refine (HB.out _).mono ?_
    rintro e w1 ⟨rfl, rfl⟩
    go_wp2_with fail
    go_ret
    exact ⟨by rw [HC.out]; rfl, rfl⟩
  · have hd : decide (a < b) = false := decide_eq_false h
    have hd2 : decide ((a : Int) < (b : Int)) = false := decide_eq_false (by omega)
    by_cases h2 : b < a
    · have hd3 : decide (b < a) = true := decide_eq_true h2
      have hd4 : decide ((b : Int) < (a : Int)) = true := decide_eq_true (by omega)
      have HC := Lib.hid (show cmpN a b = 1 by unfold cmpN; rw [if_neg h, if_pos h2])
      go_enter Try.func39, Try.ntmps39
      go_wp2_with fail
      refine (HA.out _).mono ?_
      rintro e w1 ⟨rfl, rfl⟩
      go_wp2_with fail
      refine (HB.out _).mono ?_
      rintro e w1 ⟨rfl, rfl⟩
      go_wp2_with fail
      go_ret
      exact ⟨by rw [HC.out]; rfl, rfl⟩
    · have hd3 : decide (b < a) = false := decide_eq_false h2
      have hd4 : decide ((b : Int) < (a : Int)) = false := decide_eq_false (by omega)
      have HC := Lib.hid (show cmpN a b = 0 by unfold cmpN; rw [if_neg h, if_neg h2])
      go_enter Try.func39, Try.ntmps39
      go_wp2_with fail
      refine (HA.out _).mono ?_
      rintro e w1 ⟨rfl, rfl⟩
      go_wp2_with fail
      refine (HB.out _).mono ?_
      rintro e w1 ⟨rfl, rfl⟩
      go_wp2_with fail
      go_ret
      exact ⟨by rw [HC.out]; rfl, rfl⟩

set_option maxHeartbeats 800000 in
set_option maxRecDepth 10000 in
theorem ecompare_go (a b : Nat) (ha : Word64 a) (hb : Word64 b) (w : World) : Calls Try.prog 11 #[.float .f64 a, .float .f64 b] w fun e w' => e = .returned (.int .i64 (cmpW a b)) ∧ w = w' := by
  have HA := Lib.hid (fun w => ekey_go a ha w)
  have HB := Lib.hid (fun w => ekey_go b hb w)
  have HC := Lib.hid (fun w => cmp64_go (keyW a) (keyW b) w)
  have HE := Lib.hid (show cmpW a b = cmpN (keyW a) (keyW b) from rfl)
  clear ha hb
  go_enter Try.func11, Try.ntmps11
  go_wp2_with fail
  refine (HA.out _).mono ?_
  rintro e w1 ⟨rfl, rfl⟩
  go_wp2_with fail
  refine (HB.out _).mono ?_
  rintro e w1 ⟨rfl, rfl⟩
  go_wp2_with fail
  refine (HC.out _).mono ?_
  rintro e w1 ⟨rfl, rfl⟩
  go_wp2_with fail
  go_ret
  exact ⟨by rw [HE.out]; rfl, rfl⟩

set_option maxHeartbeats 800000 in
set_option maxRecDepth 10000 in
theorem esame_go (a b : Nat) (ha : Word64 a) (hb : Word64 b) (w : World) : Calls Try.prog 12 #[.float .f64 a, .float .f64 b] w fun e w' => e = .returned (.bool (keyW a == keyW b)) ∧ w = w' := by
  have HA := Lib.hid (fun w => ekey_go a ha w)
  have HB := Lib.hid (fun w => ekey_go b hb w)
  have he : (((keyW a : Nat) : Int) == ((keyW b : Nat) : Int)) = (keyW a == keyW b) := by
    rw [Bool.eq_iff_iff, beq_iff_eq, beq_iff_eq]
    omega
  have HE := Lib.hid he
  clear ha hb he
  go_enter Try.func12, Try.ntmps12
  go_wp2_with fail
  refine (HA.out _).mono ?_
  rintro e w1 ⟨rfl, rfl⟩
  go_wp2_with fail
  refine (HB.out _).mono ?_
  rintro e w1 ⟨rfl, rfl⟩
  go_wp2_with fail
  go_ret
  exact ⟨by rw [← HE.out]; rfl, rfl⟩

set_option maxHeartbeats 800000 in
set_option maxRecDepth 10000 in
theorem eratio_go (m n : Nat) (hm : Word64 m) (hn : Word64 n) (w : World) : Calls Try.prog 27 #[.int .u64 (m : Int), .int .u64 (n : Int)] w fun e w' => e = .returned (.float .f64 (ratioW m n)) ∧ w = w' := by
  have HI := Lib.hid (fun w => enumber_go 9218868437227405312 (by show _ < _; decide) w)
  rw [show textW 9218868437227405312 = 9218868437227405312 by decide] at HI
  unfold Word64 at hm hn
  by_cases h0 : n = 0
  · subst h0
    by_cases h1 : m = 0
    · subst h1
      go_enter Try.func27, Try.ntmps27
      go_wp2_with fail
      go_ret
      exact ⟨rfl, rfl⟩
    · have hd : decide ((0 : Int) < (m : Int)) = true := decide_eq_true (by omega)
      have hd2 : decide (0 < m) = true := decide_eq_true (by omega)
      have HR := Lib.hid (show ratioW m 0 = 9218868437227405312 by unfold ratioW; rw [if_pos rfl, if_neg h1])
      go_enter Try.func27, Try.ntmps27
      go_wp2_with fail
      refine (HI.out _).mono ?_
      rintro e w1 ⟨rfl, rfl⟩
      go_wp2_with fail
      go_ret
      exact ⟨by rw [HR.out]; rfl, rfl⟩
  · have hd : decide ((0 : Int) < (n : Int)) = true := decide_eq_true (by omega)
    have hd2 : decide (0 < n) = true := decide_eq_true (by omega)
    have hf1 : floatOfInt .f64 (m : Int) = flo m := floatOfInt_nat (by omega)
    have hf2 : floatOfInt .f64 (n : Int) = flo n := floatOfInt_nat (by omega)
    have hq := fun (w : World) => run_float_arith (P := Try.prog) w .quo 22 .f64 (flo m) (flo n) (ratioW m n) (ratio_div (by omega) (by omega) (by omega))
    go_enter Try.func27, Try.ntmps27
    go_wp2_with fail
    go_ret
    exact ⟨rfl, rfl⟩

set_option maxHeartbeats 1600000 in
set_option maxRecDepth 10000 in
theorem eclamp_go (x l h : Nat) (hx : Word64 x) (hl : Word64 l) (hh : Word64 h) (w : World) : Calls Try.prog 29 #[.float .f64 x, .float .f64 l, .float .f64 h] w fun e w' => e = .returned (.float .f64 (clampW x l h)) ∧ w = w' := by
  have H1 := Lib.hid (fun w => ecompare_go h l hh hl w)
  have H2 := Lib.hid (fun w => ecompare_go x l hx hl w)
  have H3 := Lib.hid (fun w => ecompare_go x h hx hh w)
  have hc : clampW x l h = if cmpW h l < 0 ∨ cmpW x l < 0 then l else if 0 < cmpW x h then h else x := rfl
  have HC1 := Lib.hid (cmpW_cases h l)
  have HC2 := Lib.hid (cmpW_cases x l)
  have HC3 := Lib.hid (cmpW_cases x h)
  obtain ⟨c1, e1⟩ : ∃ c, c = cmpW h l := ⟨_, rfl⟩
  obtain ⟨c2, e2⟩ : ∃ c, c = cmpW x l := ⟨_, rfl⟩
  obtain ⟨c3, e3⟩ : ∃ c, c = cmpW x h := ⟨_, rfl⟩
  rw [← e1] at H1 hc HC1
  rw [← e2] at H2 hc HC2
  rw [← e3] at H3 hc HC3
  clear e1 e2 e3 hx hl hh
  by_cases h1 : c1 < 0
  · have hd : decide (c1 < 0) = true := decide_eq_true h1
    have HC := Lib.hid (hc.trans (if_pos (.inl h1)))
    clear hc h1
    go_enter Try.func29, Try.ntmps29
    go_wp2_with fail
    refine (H1.out _).mono ?_
    rintro e w1 ⟨rfl, rfl⟩
    go_wp2_with fail
    go_ret
    exact ⟨by rw [HC.out]; rfl, rfl⟩
  · have hd : decide (c1 < 0) = false := decide_eq_false h1
    by_cases h2 : c2 < 0
    · have hd2 : decide (c2 < 0) = true := decide_eq_true h2
      have HC := Lib.hid (hc.trans (if_pos (.inr h2)))
      clear hc h1 h2
      go_enter Try.func29, Try.ntmps29
      go_wp2_with fail
      refine (H1.out _).mono ?_
      rintro e w1 ⟨rfl, rfl⟩
      go_wp2_with fail
      refine (H2.out _).mono ?_
      rintro e w1 ⟨rfl, rfl⟩
      go_wp2_with fail
      go_ret
      exact ⟨by rw [HC.out]; rfl, rfl⟩
    · have hd2 : decide (c2 < 0) = false := decide_eq_false h2
      have hc2 := hc.trans (if_neg (fun h => h.elim h1 h2))
      by_cases h3 : 0 < c3
      · have hd3 : decide (0 < c3) = true := decide_eq_true h3
        have HC := Lib.hid (hc2.trans (if_pos h3))
        clear hc hc2 h1 h2 h3
        go_enter Try.func29, Try.ntmps29
        go_wp2_with fail
        refine (H1.out _).mono ?_
        rintro e w1 ⟨rfl, rfl⟩
        go_wp2_with fail
        refine (H2.out _).mono ?_
        rintro e w1 ⟨rfl, rfl⟩
        go_wp2_with fail
        refine (H3.out _).mono ?_
        rintro e w1 ⟨rfl, rfl⟩
        go_wp2_with fail
        go_ret
        exact ⟨by rw [HC.out]; rfl, rfl⟩
      · have hd3 : decide (0 < c3) = false := decide_eq_false h3
        have HC := Lib.hid (hc2.trans (if_neg h3))
        clear hc hc2 h1 h2 h3
        go_enter Try.func29, Try.ntmps29
        go_wp2_with fail
        refine (H1.out _).mono ?_
        rintro e w1 ⟨rfl, rfl⟩
        go_wp2_with fail
        refine (H2.out _).mono ?_
        rintro e w1 ⟨rfl, rfl⟩
        go_wp2_with fail
        refine (H3.out _).mono ?_
        rintro e w1 ⟨rfl, rfl⟩
        go_wp2_with fail
        go_ret
        exact ⟨by rw [HC.out]; rfl, rfl⟩
end Go.Proofs.Ytillkgbnokkacaa

/-
  The document's Bits, Key, Ratio, Clamp of doubles.
-/
import Derived.Test.YtillkgbnokkacaaEdgeRef
namespace Go.Proofs.Ytillkgbnokkacaa
open Go.RowKit

theorem text_word {b : Nat} (h : Word64 b) : Word64 (textW b) := by
  unfold textW
  split
  · show 9221120237041090560 < 18446744073709551616
    decide
  · exact h

set_option maxHeartbeats 800000 in
set_option maxRecDepth 10000 in
theorem bits_ref (b : Nat) (w : World) : Calls Try.prog 19 #[.float .f64 b] w fun e w' => e = .returned (.int .u64 ((textW b : Nat) : Int)) ∧ w = w' := by
  have HN := Lib.hid (fun w => isnan_go b w)
  have hr := fun w => run_tobits b w
  go_enter Try.func19, Try.ntmps19
  go_wp2_with fail
  refine (HN.out _).mono ?_
  rintro e w1 ⟨rfl, rfl⟩
  by_cases hn : nanW b = true
  · have HK := Lib.hid (show textW b = 9221120237041090560 by unfold textW; rw [if_pos hn])
    go_wp2_with fail
    go_ret
    exact ⟨by rw [HK.out]; rfl, rfl⟩
  · have hn' : nanW b = false := by simpa using hn
    have HK := Lib.hid (show textW b = b by unfold textW; rw [if_neg hn])
    clear hn
    go_wp2_with fail
    go_ret
    exact ⟨by rw [HK.out]; rfl, rfl⟩

set_option maxHeartbeats 800000 in
set_option maxRecDepth 10000 in
theorem key_ref (b : Nat) (hb : Word64 b) (w : World) : Calls Try.prog 13 #[.float .f64 b] w fun e w' => e = .returned (.int .u64 ((keyW b : Nat) : Int)) ∧ w = w' := by
  have HB := Lib.hid (fun w => bits_ref b w)
  have ht := text_word hb
  unfold Word64 at ht
  have hk : keyW b = if 9223372036854775808 ≤ textW b then 18446744073709551615 - textW b else textW b + 9223372036854775808 := rfl
  obtain ⟨t, htd⟩ : ∃ t, t = textW b := ⟨_, rfl⟩
  rw [← htd] at HB ht hk
  clear htd hb
  by_cases h : 9223372036854775808 ≤ t
  · rw [if_pos h] at hk
    have HK := Lib.hid hk
    have hd : decide ((9223372036854775808 : Int) ≤ (t : Int)) = true := decide_eq_true (by omega)
    have HW := Lib.hid (show 18446744073709551615 - (t : Int) = ((18446744073709551615 - t : Nat) : Int) by omega)
    clear hk
    go_enter Try.func13, Try.ntmps13
    go_wp2_with fail
    refine (HB.out _).mono ?_
    rintro e w1 ⟨rfl, rfl⟩
    go_wp2_with fail
    go_ret
    refine ⟨?_, rfl⟩
    show Ending.returned (Value.int .u64 (18446744073709551615 - (t : Int))) = _
    rw [HK.out, ← HW.out]
  · rw [if_neg h] at hk
    have HK := Lib.hid hk
    have hd : decide ((9223372036854775808 : Int) ≤ (t : Int)) = false := decide_eq_false (by omega)
    have HW := Lib.hid (show (t : Int) + 9223372036854775808 = ((t + 9223372036854775808 : Nat) : Int) by omega)
    clear hk
    go_enter Try.func13, Try.ntmps13
    go_wp2_with fail
    refine (HB.out _).mono ?_
    rintro e w1 ⟨rfl, rfl⟩
    go_wp2_with fail
    go_ret
    refine ⟨?_, rfl⟩
    show Ending.returned (Value.int .u64 ((t : Int) + 9223372036854775808)) = _
    rw [HK.out, ← HW.out]

def clampW (x low high : Nat) : Nat := if cmpW high low < 0 ∨ cmpW x low < 0 then low else if 0 < cmpW x high then high else x
theorem cmpW_cases (a b : Nat) : cmpW a b = -1 ∨ cmpW a b = 0 ∨ cmpW a b = 1 := by
  unfold cmpW
  split
  · exact .inl rfl
  · split
    · exact .inr (.inr rfl)
    · exact .inr (.inl rfl)

set_option maxHeartbeats 800000 in
set_option maxRecDepth 10000 in
theorem clamp_ref (x l h : Nat) (hx : Word64 x) (hl : Word64 l) (hh : Word64 h) (w : World) : Calls Try.prog 30 #[.float .f64 x, .float .f64 l, .float .f64 h] w fun e w' => e = .returned (.float .f64 (clampW x l h)) ∧ w = w' := by
  have H1 := Lib.hid (fun w => compare_ref h l hh hl w)
  have H2 := Lib.hid (fun w => compare_ref x l hx hl w)
  have H3 := Lib.hid (fun w => compare_ref x h hx hh w)
  have hc : clampW x l h = if cmpW h l < 0 ∨ cmpW x l < 0 then l else if 0 < cmpW x h then h else x := rfl
  have HC1 := Lib.hid (cmpW_cases h l)
  have HC2 := Lib.hid (cmpW_cases x l)
  have HC3 := Lib.hid (cmpW_cases x h)
  obtain ⟨c1, e1⟩ : ∃ c, c = cmpW h l := ⟨_, rfl⟩
  obtain ⟨c2, e2⟩ : ∃ c, c = cmpW x l := ⟨_, rfl⟩
  obtain ⟨c3, e3⟩ : ∃ c, c = cmpW x h := ⟨_, rfl⟩
  rw [← e1] at H1 hc HC1
  rw [← e2] at H2 hc HC2
  rw [← e3] at H3 hc HC3
  clear e1 e2 e3 hx hl hh
  by_cases h1 : c1 < 0
  · have hd : decide (c1 < 0) = true := decide_eq_true h1
    have HC := Lib.hid (hc.trans (if_pos (.inl h1)))
    clear hc h1
    go_enter Try.func30, Try.ntmps30
    go_wp2_with fail
    refine (H1.out _).mono ?_
    rintro e w1 ⟨rfl, rfl⟩
    go_wp2_with fail
    go_ret
    exact ⟨by rw [HC.out]; rfl, rfl⟩
  · have hd : decide (c1 < 0) = false := decide_eq_false h1
    by_cases h2 : c2 < 0
    · have hd2 : decide (c2 < 0) = true := decide_eq_true h2
      have HC := Lib.hid (hc.trans (if_pos (.inr h2)))
      clear hc h1 h2
      go_enter Try.func30, Try.ntmps30
      go_wp2_with fail
      refine (H1.out _).mono ?_
      rintro e w1 ⟨rfl, rfl⟩
      go_wp2_with fail
      refine (H2.out _).mono ?_
      rintro e w1 ⟨rfl, rfl⟩
      go_wp2_with fail
      go_ret
      exact ⟨by rw [HC.out]; rfl, rfl⟩
    · have hd2 : decide (c2 < 0) = false := decide_eq_false h2
      have hc2 := hc.trans (if_neg (fun h => h.elim h1 h2))
      by_cases h3 : 0 < c3
      · have hd3 : decide (0 < c3) = true := decide_eq_true h3
        have HC := Lib.hid (hc2.trans (if_pos h3))
        clear hc hc2 h1 h2 h3
        go_enter Try.func30, Try.ntmps30
        go_wp2_with fail
        refine (H1.out _).mono ?_
        rintro e w1 ⟨rfl, rfl⟩
        go_wp2_with fail
        refine (H2.out _).mono ?_
        rintro e w1 ⟨rfl, rfl⟩
        go_wp2_with fail
        refine (H3.out _).mono ?_
        rintro e w1 ⟨rfl, rfl⟩
        go_wp2_with fail
        go_ret
        exact ⟨by rw [HC.out]; rfl, rfl⟩
      · have hd3 : decide (0 < c3) = false := decide_eq_false h3
        have HC := Lib.hid (hc2.trans (if_neg h3))
        clear hc hc2 h1 h2 h3
        go_enter Try.func30, Try.ntmps30
        go_wp2_with fail
        refine (H1.out _).mono ?_
        rintro e w1 ⟨rfl, rfl⟩
        go_wp2_with fail
        refine (H2.out _).mono ?_
        rintro e w1 ⟨rfl, rfl⟩
        go_wp2_with fail
        refine (H3.out _).mono ?_
        rintro e w1 ⟨rfl, rfl⟩
        go_wp2_with fail
        go_ret
        exact ⟨by rw [HC.out]; rfl, rfl⟩

/-- The ratio's word. -/
def ratioW (m n : Nat) : Nat := if n = 0 then (if m = 0 then 0 else 9218868437227405312) else (Ieee.double.div (flo m) (flo n)).getD 0
theorem div_nought {y : Nat} (hy : 1023 * rB ≤ y) (hy2 : y ≤ 1087 * rB) : Ieee.double.div 0 y = some 0 := by
  have hb : rB = 4503599627370496 := rfl
  have hi : rInf = 9218868437227405312 := rfl
  obtain ⟨ry, ny⟩ := rung_small (w := y) (by omega)
  obtain ⟨my, ky, hry, hvy, hpy⟩ := read_num (w := y) (by omega)
  obtain ⟨my1, my2, hky⟩ := hpy (by omega)
  have ly := log2_norm my1 my2
  have hmy : my ≠ 0 := by omega
  have h0 : Ieee.double.read 0 = .number false 0 (-1074) := by decide
  unfold Ieee.Format.div
  rw [h0, hry, ny]
  have e1 : (Ieee.Datum.number false 0 (-1074)).quotient (Ieee.double.fractionBits + 2) (.number false my (-1074 + (ky : Int))) = some (.number false 0 (-1074 - (-1074 + (ky : Int)) - ((52 + 2 + my.log2 - (0 : Nat).log2 : Nat) : Int) - 1)) := by
    show (if my = 0 then _ else some (Ieee.Datum.number (false ^^ false) (2 * (0 <<< (52 + 2 + my.log2 - (0 : Nat).log2) / my) + (0 <<< (52 + 2 + my.log2 - (0 : Nat).log2) % my != 0).toNat) (-1074 - (-1074 + (ky : Int)) - ((52 + 2 + my.log2 - (0 : Nat).log2 : Nat) : Int) - 1))) = _
    rw [if_neg hmy, Nat.zero_shiftLeft, Nat.zero_div, Nat.zero_mod]
    rfl
  rw [e1]
  rfl
theorem ratio_div {m n : Nat} (hm : m ≤ 18446744073709551616) (hn0 : 0 < n) (hn : n ≤ 18446744073709551616) : Ieee.double.div (flo m) (flo n) = some (ratioW m n) := by
  unfold ratioW
  rw [if_neg (by omega)]
  rcases Nat.eq_zero_or_pos m with h | h
  · subst h
    rw [flo_zero, div_nought (flo_ge hn0) (flo_le hn)]
    rfl
  · obtain ⟨R, hR, _⟩ := ratio_word h hm hn0 hn
    rw [hR]
    rfl

set_option maxHeartbeats 800000 in
set_option maxRecDepth 10000 in
theorem inf_go (w : World) : Calls Try.prog 50 #[.int .i64 1] w fun e w' => e = .returned (.float .f64 9218868437227405312) ∧ w = w' := by
  have hf := fun w => run_frombits 9218868437227405312 w
  rw [show (9218868437227405312 : Int).toNat = 9218868437227405312 from rfl] at hf
  go_enter Try.func50, Try.ntmps50
  go_wp2_with fail
  go_ret
  exact ⟨rfl, rfl⟩

set_option maxHeartbeats 800000 in
set_option maxRecDepth 10000 in
theorem ratio_ref (m n : Nat) (hm : Word64 m) (hn : Word64 n) (w : World) : Calls Try.prog 28 #[.int .u64 (m : Int), .int .u64 (n : Int)] w fun e w' => e = .returned (.float .f64 (ratioW m n)) ∧ w = w' := by
  have HI := Lib.hid (fun w => inf_go w)
  unfold Word64 at hm hn
  by_cases h0 : n = 0
  · subst h0
    by_cases h1 : m = 0
    · subst h1
      go_enter Try.func28, Try.ntmps28
      go_wp2_with fail
      go_ret
      exact ⟨rfl, rfl⟩
    · have hd : ((m : Int) == 0) = false := beq_eq_false_iff_ne.2 (by omega)
      have HR := Lib.hid (show ratioW m 0 = 9218868437227405312 by unfold ratioW; rw [if_pos rfl, if_neg h1])
      go_enter Try.func28, Try.ntmps28
      go_wp2_with fail
      refine (HI.out _).mono ?_
      rintro e w1 ⟨rfl, rfl⟩
      go_wp2_with fail
      go_ret
      exact ⟨by rw [HR.out]; rfl, rfl⟩
  · have hd : ((n : Int) == 0) = false := beq_eq_false_iff_ne.2 (by omega)
    have hf1 : floatOfInt .f64 (m : Int) = flo m := floatOfInt_nat (by omega)
    have hf2 : floatOfInt .f64 (n : Int) = flo n := floatOfInt_nat (by omega)
    have hq := fun (w : World) => run_float_arith (P := Try.prog) w .quo 22 .f64 (flo m) (flo n) (ratioW m n) (ratio_div (by omega) (by omega) (by omega))
    go_enter Try.func28, Try.ntmps28
    go_wp2_with fail
    go_ret
    exact ⟨rfl, rfl⟩
end Go.Proofs.Ytillkgbnokkacaa

/-
  Package edge's own Whole.
-/
import Derived.Test.YtillkgbnokkacaaEdgeOwn
import Derived.Test.YtillkgbnokkacaaIeeeInt
namespace Go.Proofs.Ytillkgbnokkacaa
open Go.RowKit

theorem nan_key {x : Nat} (hx : Word64 x) : (keyW x == keyW 9221120237041090560) = nanW x := by
  have hr := key_range hx
  have hk : keyW 9221120237041090560 = 18444492273895866368 := by decide
  rw [hk]
  by_cases hn : nanW x = true
  · have ht : textW x = 9221120237041090560 := by unfold textW; rw [if_pos hn]
    have : keyW x = 18444492273895866368 := by unfold keyW; rw [ht]; decide
    rw [this, hn]
    rfl
  · have hn' : nanW x = false := by simpa using hn
    have hi : rInf = 9218868437227405312 := rfl
    rw [hn', beq_eq_false_iff_ne]
    intro he
    have h6 : kindW x ≠ 6 := by
      unfold kindW
      rw [if_neg hn]
      repeat' split
      all_goals decide
    omega
/-- The place of a number that isn't below 1 (of a number that is no NaN): by what it stands for. -/
theorem below_one {x : Nat} (hx : Word64 x) (hn : nanW x = false) : (cmpW x 4607182418800017408 < 0) ↔ sval x < ((2 ^ eU : Nat) : Int) := by
  have hle : rung x ≤ rInf := by
    rcases Nat.lt_or_ge 9218868437227405312 (rung x) with h1 | h1
    · exact absurd (nan_iff.2 h1) (by rw [hn]; simp)
    · exact h1
  have ht : textW x = x := by unfold textW; rw [if_neg (by rw [hn]; simp)]
  have hk1 : keyW 4607182418800017408 = 13830554455654793216 := by decide
  have h1 : (4607182418800017408 : Nat) = flo (2 ^ 0) := by rw [flo_pow]; decide
  have hv : val 4607182418800017408 = 2 ^ eU := by rw [h1, val_flo_pow, Nat.pow_zero, Nat.one_mul]
  have hc : (cmpW x 4607182418800017408 < 0) ↔ keyW x < 13830554455654793216 := by
    unfold cmpW
    rw [hk1]
    split
    · constructor <;> intro _
      · assumption
      · decide
    · split
      · constructor
        · intro h; exact absurd h (by decide)
        · intro h; omega
      · constructor
        · intro h; exact absurd h (by decide)
        · intro h; omega
  rw [hc, ← hv]
  have hx' : x < 18446744073709551616 := hx
  have hre := rung_eq hx
  obtain ⟨g1, g2⟩ := neg_iff hx
  unfold sval
  cases hg : negw x
  · have hb := g2.1 hg
    rw [if_neg (by simp), hre, if_neg (by omega)]
    unfold keyW
    rw [ht, if_neg (by omega)]
    have := val_lt_iff (r := x) (s := 4607182418800017408)
    omega
  · have hb := g1.1 hg
    rw [if_pos rfl]
    unfold keyW
    rw [ht, if_pos hb]
    have p1 : val 0 < val 4607182418800017408 := val_lt (by decide)
    constructor
    · intro _; omega
    · intro _; omega

theorem great_64 {x : Nat} (hx : Word64 x) (hn : nanW x = false) (h0 : ¬ sval x < ((2 ^ eU : Nat) : Int)) :
    negw x = false ∧ rung x = x ∧ ((0 ≤ cmpW x 4895412794951729152) ↔ 18446744073709551616 * 2 ^ eU ≤ val x) ∧ (cmpW x 4895412794951729152 < 0 → rung x < rInf) := by
  have hp := Nat.two_pow_pos eU
  have ht : textW x = x := by unfold textW; rw [if_neg (by rw [hn]; simp)]
  have hg : negw x = false := by
    cases hg : negw x
    · rfl
    · unfold sval at h0
      rw [hg, if_pos rfl] at h0
      omega
  have hb := (neg_iff hx).2.1 hg
  have hre := rung_eq hx
  rw [if_neg (by omega)] at hre
  have h64 : (4895412794951729152 : Nat) = flo (2 ^ 64) := by rw [flo_pow]; decide
  have hv64 : val 4895412794951729152 = 18446744073709551616 * 2 ^ eU := by rw [h64, val_flo_pow]
  have hk1 : keyW 4895412794951729152 = 14118784831806504960 := by decide
  have hkx : keyW x = x + 9223372036854775808 := by unfold keyW; rw [ht, if_neg (by omega)]
  have hc : (0 ≤ cmpW x 4895412794951729152) ↔ 4895412794951729152 ≤ x := by
    unfold cmpW
    rw [hk1, hkx]
    split
    · constructor
      · intro h; exact absurd h (by decide)
      · intro h; omega
    · split
      · constructor
        · intro h; omega
        · intro h; decide
      · constructor
        · intro h; omega
        · intro h; decide
  refine ⟨hg, hre, ?_, fun h => ?_⟩
  · rw [hc, ← hv64]
    constructor
    · exact val_le
    · intro h
      rcases Nat.lt_or_ge x 4895412794951729152 with h4 | h4
      · exact absurd (val_lt h4) (by omega)
      · exact h4
  · rw [hre]
    have hi : rInf = 9218868437227405312 := rfl
    have h3 : ¬ 4895412794951729152 ≤ x := fun h4 => by
      have := hc.2 h4
      omega
    omega

set_option maxHeartbeats 1600000 in
set_option maxRecDepth 10000 in
theorem ewhole_go (x m : Nat) (hx : Word64 x) (w : World) : Calls Try.prog 31 #[.float .f64 x, .int .u64 (m : Int)] w fun e w' => e = .returned (.int .u64 ((wholeW x m : Nat) : Int)) ∧ w = w' := by
  have hdef : wholeW x m = if nanW x = true ∨ sval x < ((2 ^ eU : Nat) : Int) then 0 else if 18446744073709551616 * 2 ^ eU ≤ val x then m else min (val x / 2 ^ eU) m := rfl
  have H1 := Lib.hid (fun w => ecompare_go x 4607182418800017408 hx (by show _ < _; decide) w)
  have H2 := Lib.hid (fun w => ecompare_go x 4895412794951729152 hx (by show _ < _; decide) w)
  have HN := Lib.hid (fun w => enumber_go 9221120237041090560 (by show _ < _; decide) w)
  have HS := Lib.hid (fun w => esame_go x 9221120237041090560 hx (by show _ < _; decide) w)
  rw [show textW 9221120237041090560 = 9221120237041090560 by decide] at HN
  rw [nan_key hx] at HS
  obtain ⟨c1, e1⟩ : ∃ c, c = cmpW x 4607182418800017408 := ⟨_, rfl⟩
  obtain ⟨c2, e2⟩ : ∃ c, c = cmpW x 4895412794951729152 := ⟨_, rfl⟩
  rw [← e1] at H1
  rw [← e2] at H2
  by_cases hn : nanW x = true
  · rw [if_pos (.inl hn)] at hdef
    have HD := Lib.hid hdef
    rw [hn] at HS
    have hge : ¬ c1 < 0 := by
      rw [e1]
      intro h
      have h1 : cmpW x 4607182418800017408 < 0 := h
      have ht : textW x = 9221120237041090560 := by unfold textW; rw [if_pos hn]
      have hk : keyW x = 18444492273895866368 := by unfold keyW; rw [ht]; decide
      unfold cmpW at h1
      rw [hk, show keyW 4607182418800017408 = 13830554455654793216 by decide] at h1
      exact absurd h1 (by decide)
    have hd : decide (c1 < 0) = false := decide_eq_false hge
    clear hdef hn hx e1 e2 hge
    go_enter Try.func31, Try.ntmps31
    go_wp2_with fail
    refine (H1.out _).mono ?_
    rintro e w1 ⟨rfl, rfl⟩
    go_wp2_with fail
    refine (HN.out _).mono ?_
    rintro e w1 ⟨rfl, rfl⟩
    go_wp2_with fail
    refine (HS.out _).mono ?_
    rintro e w1 ⟨rfl, rfl⟩
    go_wp2_with fail
    go_ret
    exact ⟨by rw [HD.out]; rfl, rfl⟩
  · have hn' : nanW x = false := by simpa using hn
    rw [hn'] at HS
    have hb1 := below_one hx hn'
    rw [← e1] at hb1
    by_cases h1 : sval x < ((2 ^ eU : Nat) : Int)
    · rw [if_pos (.inr h1)] at hdef
      have HD := Lib.hid hdef
      have hd : decide (c1 < 0) = true := decide_eq_true (hb1.2 h1)
      clear hdef hn hn' hx e1 e2 hb1 h1
      go_enter Try.func31, Try.ntmps31
      go_wp2_with fail
      refine (H1.out _).mono ?_
      rintro e w1 ⟨rfl, rfl⟩
      go_wp2_with fail
      go_ret
      exact ⟨by rw [HD.out]; rfl, rfl⟩
    · rw [if_neg (fun h => h.elim hn h1)] at hdef
      obtain ⟨g0, g1, g2, g3⟩ := great_64 hx hn' h1
      rw [← e2] at g2 g3
      have hd : decide (c1 < 0) = false := decide_eq_false (fun h => h1 (hb1.1 h))
      by_cases h2 : 0 ≤ c2
      · rw [if_pos (g2.1 h2)] at hdef
        have HD := Lib.hid hdef
        have hd2 : decide (0 ≤ c2) = true := decide_eq_true h2
        clear hdef hn hn' hx e1 e2 hb1 h1 g0 g1 g2 g3 h2
        go_enter Try.func31, Try.ntmps31
        go_wp2_with fail
        refine (H1.out _).mono ?_
        rintro e w1 ⟨rfl, rfl⟩
        go_wp2_with fail
        refine (HN.out _).mono ?_
        rintro e w1 ⟨rfl, rfl⟩
        go_wp2_with fail
        refine (HS.out _).mono ?_
        rintro e w1 ⟨rfl, rfl⟩
        go_wp2_with fail
        refine (H2.out _).mono ?_
        rintro e w1 ⟨rfl, rfl⟩
        go_wp2_with fail
        go_ret
        exact ⟨by rw [HD.out]; rfl, rfl⟩
      · have h3 : ¬ 18446744073709551616 * 2 ^ eU ≤ val x := fun h => h2 (g2.2 h)
        rw [if_neg h3] at hdef
        have hd2 : decide (0 ≤ c2) = false := decide_eq_false h2
        have hp := Nat.two_pow_pos eU
        have hlt : val (rung x) / 2 ^ eU < 18446744073709551616 := by
          rw [g1]
          exact (Nat.div_lt_iff_lt_mul hp).2 (by omega)
        have hv := to_u64 (g3 (by omega)) g0 hlt
        rw [g1] at hv hlt
        obtain ⟨q, hq⟩ : ∃ q, q = val x / 2 ^ eU := ⟨_, rfl⟩
        rw [← hq] at hdef hv hlt
        have hcv := fun (w : World) => run_convert_float_int (P := Try.prog) w 22 25 .f64 .u64 x (q : Int) (by kernel_rfl) (by kernel_rfl) hv
        have HD := Lib.hid hdef
        clear hdef hn hn' hx e1 e2 hb1 h1 g0 g1 g2 g3 h2 h3 hp hv hq
    
        by_cases hqm : q ≤ m
        · have HR := Lib.hid (HD.out.trans (Nat.min_eq_left hqm))
          go_enter Try.func31, Try.ntmps31
          go_wp2_with fail
          refine (H1.out _).mono ?_
          rintro e w1 ⟨rfl, rfl⟩
          go_wp2_with fail
          refine (HN.out _).mono ?_
          rintro e w1 ⟨rfl, rfl⟩
          go_wp2_with fail
          refine (HS.out _).mono ?_
          rintro e w1 ⟨rfl, rfl⟩
          go_wp2_with fail
          refine (H2.out _).mono ?_
          rintro e w1 ⟨rfl, rfl⟩
          go_wp2_with fail
          go_ret
          exact ⟨by rw [HR.out]; rfl, rfl⟩
        · have HR := Lib.hid (HD.out.trans (Nat.min_eq_right (by omega)))
          have hmq : m ≤ q := by omega
          go_enter Try.func31, Try.ntmps31
          go_wp2_with fail
          refine (H1.out _).mono ?_
          rintro e w1 ⟨rfl, rfl⟩
          go_wp2_with fail
          refine (HN.out _).mono ?_
          rintro e w1 ⟨rfl, rfl⟩
          go_wp2_with fail
          refine (HS.out _).mono ?_
          rintro e w1 ⟨rfl, rfl⟩
          go_wp2_with fail
          refine (H2.out _).mono ?_
          rintro e w1 ⟨rfl, rfl⟩
          go_wp2_with fail
          go_ret
          exact ⟨by rw [HR.out]; rfl, rfl⟩
end Go.Proofs.Ytillkgbnokkacaa

/-
  The document's Whole of doubles.
-/
import Derived.Test.YtillkgbnokkacaaEdgeRef2
namespace Go.Proofs.Ytillkgbnokkacaa
open Go.RowKit

/-- Each number of at most 53 bits, moved up, stands on a rung. -/
theorem val_has : ∀ (e k : Nat), k ≤ 2 * rB → ∃ r, val r = k * 2 ^ e
  | e, k, hk => by
    by_cases h : rB ≤ k
    · exact ⟨_, val_at e k h hk⟩
    · match e with
      | 0 => exact ⟨k, by rw [val_low k (by omega)]; simp⟩
      | e + 1 =>
        obtain ⟨r, hr⟩ := val_has e (2 * k) (by omega)
        exact ⟨r, by rw [hr, Nat.pow_succ, Nat.mul_comm 2 k, Nat.mul_assoc, Nat.mul_comm 2]⟩

/-- The difference of two numbers not below 0 that a rung has. -/
theorem sub_words {x y r : Nat} (hx : x < rInf) (hy : y < rInf) (hr : r < rInf) (h : val r + val y = val x) : Ieee.double.sub x y = some r := by
  have hi : rInf = 9218868437227405312 := rfl
  obtain ⟨rx, nx⟩ := rung_small (w := x) (by omega)
  obtain ⟨ry, ny⟩ := rung_small (w := y) (by omega)
  obtain ⟨m, k, hm, hv, _⟩ := read_num (w := x) (by omega)
  obtain ⟨n, l, hn, hu, _⟩ := read_num (w := y) (by omega)
  rw [rx] at hv
  rw [ry] at hu
  unfold Ieee.Format.sub
  rw [hm, hn, nx, ny]
  obtain ⟨b, hb⟩ : ∃ b, b = min k l := ⟨_, rfl⟩
  have pb := Nat.two_pow_pos b
  obtain ⟨j, hj⟩ : ∃ j, k = j + b := ⟨k - b, by omega⟩
  obtain ⟨i, hii⟩ : ∃ i, l = i + b := ⟨l - b, by omega⟩
  have e1 : m * 2 ^ j * 2 ^ b = val x := by rw [Nat.mul_assoc, ← Nat.pow_add, ← hj]; exact hv
  have e2 : n * 2 ^ i * 2 ^ b = val y := by rw [Nat.mul_assoc, ← Nat.pow_add, ← hii]; exact hu
  have hle : n * 2 ^ i ≤ m * 2 ^ j := by
    have : n * 2 ^ i * 2 ^ b ≤ m * 2 ^ j * 2 ^ b := by omega
    exact Nat.le_of_mul_le_mul_right this pb
  have hd : (m * 2 ^ j - n * 2 ^ i) * 2 ^ b = val r := by rw [Nat.sub_mul]; omega
  have hs : (Ieee.Datum.number false m (-1074 + (k : Int))).sum (Ieee.Datum.number false n (-1074 + (l : Int))).opposite = some (.number false (m * 2 ^ j - n * 2 ^ i) (-1074 + (b : Int))) := by
    show some (Ieee.Datum.number _ _ _) = _
    have q1 : min (-1074 + (k : Int)) (-1074 + (l : Int)) = -1074 + (b : Int) := by omega
    have q2 : (-1074 + (k : Int) - (-1074 + (b : Int))).toNat = j := by omega
    have q3 : (-1074 + (l : Int) - (-1074 + (b : Int))).toNat = i := by omega
    rw [q1, q2, q3]
    have t : Ieee.signed false m j + Ieee.signed (!false) n i = ((m * 2 ^ j - n * 2 ^ i : Nat) : Int) := by
      unfold Ieee.signed
      rw [Nat.shiftLeft_eq, Nat.shiftLeft_eq]
      simp only [Bool.not_false, if_true, Bool.false_eq_true, if_false]
      omega
    rw [t, Int.natAbs_natCast]
    congr 2
    split
    · rfl
    · exact decide_eq_false (by omega)
  rw [hs]
  show some (Ieee.double.nearest false (m * 2 ^ j - n * 2 ^ i) (-1074 + (b : Int))) = _
  rw [nearest_units _ _ b _ rfl, double_inf, word_false, hd, rnd_val, Nat.min_eq_left (by omega)]

theorem order_pos {r s : Nat} (hr : r ≤ rInf) (hs : s ≤ rInf) : (Ieee.double.order r s == some .lt) = decide (r < s) ∧ (Ieee.double.order r s == some .gt) = decide (s < r) ∧ (Ieee.double.order r s == some .eq) = decide (r = s) := by
  have hi : rInf = 9218868437227405312 := rfl
  obtain ⟨rr, nr⟩ := rung_small (w := r) (by omega)
  obtain ⟨rs, ns⟩ := rung_small (w := s) (by omega)
  rw [order_words (by omega) (by omega)]
  unfold sval
  rw [nr, ns, rr, rs, if_neg (by simp), if_neg (by simp)]
  rcases Nat.lt_trichotomy r s with h | h | h
  · rw [(Int.compare_eq_lt).2 (by have := val_lt h; omega), decide_eq_true h, decide_eq_false (by omega), decide_eq_false (by omega)]
    exact ⟨rfl, rfl, rfl⟩
  · rw [(Int.compare_eq_eq).2 (by rw [h]), decide_eq_false (by omega), decide_eq_false (by omega), decide_eq_true h]
    exact ⟨rfl, rfl, rfl⟩
  · rw [(Int.compare_eq_gt).2 (by have := val_lt h; omega), decide_eq_false (by omega), decide_eq_true h, decide_eq_false (by omega)]
    exact ⟨rfl, rfl, rfl⟩

theorem val_flo_pow (j : Nat) : val (flo (2 ^ j)) = 2 ^ j * 2 ^ eU := by
  have hE : eU = 1074 := rfl
  have hBp : rB = 2 ^ 52 := by decide
  rw [flo_pow, val_at (1022 + j) rB (Nat.le_refl _) (by omega), hBp, ← Nat.pow_add, ← Nat.pow_add, show 52 + (1022 + j) = j + eU by omega]

/-- A power of two taken off a number that has it as its first digit. -/
theorem take_pow {r j : Nat} (h1 : 2 ^ j * 2 ^ eU ≤ val r) (h2 : val r < 2 * (2 ^ j * 2 ^ eU)) : ∃ s, val s + 2 ^ j * 2 ^ eU = val r := by
  have hE : eU = 1074 := rfl
  have hBp : rB = 2 ^ 52 := by decide
  have hB : 0 < rB := by decide
  obtain ⟨e, he⟩ : ∃ e, e = 1022 + j := ⟨_, rfl⟩
  have hp : 2 ^ j * 2 ^ eU = rB * 2 ^ e := by rw [hBp, ← Nat.pow_add, ← Nat.pow_add, show j + eU = 52 + e by omega]
  rw [hp] at h1 h2 ⊢
  have v1 := val_at e rB (Nat.le_refl _) (by omega)
  have v2 := val_at e (2 * rB) (by omega) (Nat.le_refl _)
  rw [← v1] at h1
  have h3 : val r < val (e * rB + 2 * rB) := by rw [v2, Nat.mul_assoc]; exact h2
  have r1 : e * rB + rB ≤ r := by
    rcases Nat.lt_or_ge r (e * rB + rB) with h | h
    · exact absurd (val_lt h) (by omega)
    · exact h
  have r2 := val_lt_iff.1 h3
  obtain ⟨k, hk⟩ : ∃ k, r = e * rB + k := ⟨r - e * rB, by omega⟩
  obtain ⟨s, hs⟩ := val_has e (k - rB) (by omega)
  refine ⟨s, ?_⟩
  rw [hs, hk, val_at e k (by omega) (by omega), ← Nat.add_mul, show k - rB + rB = k by omega]

/-- The whole number, by the document. -/
def wholeW (x most : Nat) : Nat :=
  if nanW x = true ∨ sval x < ((2 ^ eU : Nat) : Int) then 0
  else if 18446744073709551616 * 2 ^ eU ≤ val x then most
  else min (val x / 2 ^ eU) most

/-- The power that comes up in round i. -/
def pw (i : Nat) : Nat := 2 ^ 64 / 2 ^ (i + 1)
theorem pw_of {i : Nat} (h : i < 64) : pw i = 2 ^ (63 - i) := by
  unfold pw
  rw [show (2 : Nat) ^ 64 = 2 ^ (63 - i) * 2 ^ (i + 1) by rw [← Nat.pow_add]; congr 1; omega]
  exact Nat.mul_div_cancel _ (Nat.two_pow_pos _)
theorem pw_next (i : Nat) : pw (i + 1) = pw i / 2 := by
  unfold pw
  rw [Nat.div_div_eq_div_mul, ← Nat.pow_succ]

theorem order_one {x : Nat} (h : rung x ≤ rInf) : (Ieee.double.order x 4607182418800017408 == some .lt) = decide (sval x < ((2 ^ eU : Nat) : Int)) := by
  have h1 : (4607182418800017408 : Nat) = flo (2 ^ 0) := by rw [flo_pow]; decide
  have hv : val 4607182418800017408 = 2 ^ eU := by rw [h1, val_flo_pow, Nat.pow_zero, Nat.one_mul]
  obtain ⟨r1, n1⟩ := rung_small (w := 4607182418800017408) (by decide)
  have hs : sval 4607182418800017408 = ((2 ^ eU : Nat) : Int) := by
    unfold sval
    rw [n1, r1, if_neg (by simp), hv]
  rw [order_words h (by rw [r1]; decide), hs]
  rcases Int.lt_trichotomy (sval x) ((2 ^ eU : Nat) : Int) with h2 | h2 | h2
  · rw [(Int.compare_eq_lt).2 h2, decide_eq_true h2]
    rfl
  · rw [(Int.compare_eq_eq).2 h2, decide_eq_false (by rw [h2]; exact Int.lt_irrefl _)]
    rfl
  · rw [(Int.compare_eq_gt).2 h2, decide_eq_false (fun h => Int.lt_irrefl _ (Int.lt_trans h h2))]
    rfl

set_option maxHeartbeats 1600000 in
set_option maxRecDepth 10000 in
theorem whole_ref (x m : Nat) (hx : Word64 x) (w : World) : Calls Try.prog 32 #[.float .f64 x, .int .u64 (m : Int)] w fun e w' => e = .returned (.int .u64 ((wholeW x m : Nat) : Int)) ∧ w = w' := by
  have HN := Lib.hid (fun w => isnan_go x w)
  have hdef : wholeW x m = if nanW x = true ∨ sval x < ((2 ^ eU : Nat) : Int) then 0 else if 18446744073709551616 * 2 ^ eU ≤ val x then m else min (val x / 2 ^ eU) m := rfl
  have hi : rInf = 9218868437227405312 := rfl
  by_cases hn : nanW x = true
  · rw [if_pos (.inl hn)] at hdef
    have HD := Lib.hid hdef
    rw [hn] at HN
    clear hdef hn hx
    go_enter Try.func32, Try.ntmps32
    go_wp2_with fail
    refine (HN.out _).mono ?_
    rintro e w1 ⟨rfl, rfl⟩
    go_wp2_with fail
    go_ret
    exact ⟨by rw [HD.out]; rfl, rfl⟩
  · have hn' : nanW x = false := by simpa using hn
    have hle : rung x ≤ rInf := by
      rcases Nat.lt_or_ge 9218868437227405312 (rung x) with h1 | h1
      · exact absurd (nan_iff.2 h1) hn
      · exact h1
    have ho1 := order_one hle
    rw [hn'] at HN
    by_cases h1 : sval x < ((2 ^ eU : Nat) : Int)
    · rw [if_pos (.inr h1)] at hdef
      rw [decide_eq_true h1] at ho1
      have l1 : (FloatKind.f64.format.order x 4607182418800017408 == some Ordering.lt) = true := ho1
      have HD := Lib.hid hdef
      clear hdef hn hx ho1 h1 hle hn'
      go_enter Try.func32, Try.ntmps32
      go_wp2_with fail
      refine (HN.out _).mono ?_
      rintro e w1 ⟨rfl, rfl⟩
      go_wp2_with fail
      go_ret
      exact ⟨by rw [HD.out]; rfl, rfl⟩
    · rw [if_neg (fun h => h.elim hn h1)] at hdef
      rw [decide_eq_false h1] at ho1
      have l1 : (FloatKind.f64.format.order x 4607182418800017408 == some Ordering.lt) = false := ho1
      have hng : negw x = false := by
        cases hg : negw x
        · rfl
        · exfalso
          apply h1
          unfold sval
          rw [hg, if_pos rfl]
          have := Nat.two_pow_pos eU
          omega
      have hxl := (neg_iff hx).2.1 hng
      have hrx := (rung_small hxl).1
      rw [hrx] at hle
      have ho2 := order_pos hle (show 4895412794951729152 ≤ rInf by decide)
      have hv64 : val 4895412794951729152 = 18446744073709551616 * 2 ^ eU := by
        have h2 : (4895412794951729152 : Nat) = flo (2 ^ 64) := by rw [flo_pow]; decide
        rw [h2, val_flo_pow]
      by_cases h64 : 4895412794951729152 ≤ x
      · rw [if_pos (by rw [← hv64]; exact val_le h64)] at hdef
        have HD := Lib.hid hdef
        have l2 : (FloatKind.f64.format.order x 4895412794951729152 == some Ordering.gt || FloatKind.f64.format.order x 4895412794951729152 == some Ordering.eq) = true := by
          show (Ieee.double.order x 4895412794951729152 == some Ordering.gt || Ieee.double.order x 4895412794951729152 == some Ordering.eq) = true
          rw [ho2.2.1, ho2.2.2]
          by_cases h3 : x = 4895412794951729152
          · simp [h3]
          · simp; omega
        clear hdef hn hx ho1 ho2 h1 hle hn' h64 hv64
        go_enter Try.func32, Try.ntmps32
        go_wp2_with fail
        refine (HN.out _).mono ?_
        rintro e w1 ⟨rfl, rfl⟩
        go_wp2_with fail
        go_ret
        exact ⟨by rw [HD.out]; rfl, rfl⟩
      · have hlt64 : val x < 18446744073709551616 * 2 ^ eU := by rw [← hv64]; exact val_lt (by omega)
        rw [if_neg (by omega)] at hdef
        have HD := Lib.hid hdef
        have HL64 := Lib.hid hlt64
        have l2 : (FloatKind.f64.format.order x 4895412794951729152 == some Ordering.gt || FloatKind.f64.format.order x 4895412794951729152 == some Ordering.eq) = false := by
          show (Ieee.double.order x 4895412794951729152 == some Ordering.gt || Ieee.double.order x 4895412794951729152 == some Ordering.eq) = false
          rw [ho2.2.1, ho2.2.2]
          simp
          omega
        have hx64 : x < 4895412794951729152 := by omega
        have HX64 := Lib.hid hx64
        clear hdef hn hx ho1 ho2 h1 hle hn' h64 hv64 hlt64 hx64
        go_enter Try.func32, Try.ntmps32
        go_wp2_with fail
        refine (HN.out _).mono ?_
        rintro e w1 ⟨rfl, rfl⟩
        go_wp2_with fail
        clear l1 l2
        go_loop [0, 5, 6] (fun s0 s5 s6 => ∃ i r N : Nat, i ≤ 64 ∧ s0 = .float .f64 r ∧ s5 = .int .u64 (N : Int) ∧ s6 = .int .u64 ((pw i : Nat) : Int) ∧ Hid (r < 4895412794951729152 ∧ val r + N * 2 ^ eU = val x ∧ val r < 2 ^ (64 - i) * 2 ^ eU)) (fun _ _ s6 => (intOf s6).toNat)
        case atStart => exact ⟨0, x, 0, by omega, rfl, rfl, by rw [pw_of (by decide)]; rfl, Lib.hid ⟨HX64.out, by rw [Nat.zero_mul, Nat.add_zero], by rw [show (2 : Nat) ^ (64 - 0) = 18446744073709551616 by decide]; exact HL64.out⟩⟩
        case round =>
          obtain ⟨i, r, N, hi64, rfl, rfl, rfl, hinv⟩ := hrel
          by_cases hlt : i < 64
          · obtain ⟨h1, h2, h3⟩ := hinv.out
            have hp := pw_of hlt
            obtain ⟨j, hj⟩ : ∃ j, j = 63 - i := ⟨_, rfl⟩
            have hj64 : 64 - i = j + 1 := by omega
            rw [hj64, Nat.pow_succ, Nat.mul_comm (2 ^ j) 2, Nat.mul_assoc] at h3
            rw [← hj] at hp
            have hnx := pw_next i
            have hj63 : j ≤ 63 := by omega
            have hpb : 2 ^ j ≤ 2 ^ 63 := Nat.pow_le_pow_right (by decide) hj63
            have hpp := Nat.two_pow_pos j
            have pe := Nat.two_pow_pos eU
            have hf : floatOfInt .f64 ((pw i : Nat) : Int) = flo (pw i) := floatOfInt_nat (by rw [hp]; omega)
            have hfl : flo (pw i) = (1022 + j) * rB + rB := by rw [hp, flo_pow]
            have hb : rB = 4503599627370496 := rfl
            have hfi : flo (pw i) < rInf := by rw [hfl, hb]; omega
            have ho := order_pos (show r ≤ rInf by omega) (Nat.le_of_lt hfi)
            have hvf : val (flo (pw i)) = 2 ^ j * 2 ^ eU := by rw [hp]; exact val_flo_pow j
            have hge : (2 ^ j * 2 ^ eU ≤ val r) ↔ flo (pw i) ≤ r := by
              rw [← hvf]
              constructor
              · intro h
                rcases Nat.lt_or_ge r (flo (pw i)) with h4 | h4
                · exact absurd (val_lt h4) (by omega)
                · exact h4
              · exact val_le
            obtain ⟨p, hpd⟩ : ∃ p, p = pw i := ⟨_, rfl⟩
            rw [← hpd] at hp hf hfl hfi ho hvf hge hnx ⊢
            have hp0 : decide ((0 : Int) < (p : Int)) = true := decide_eq_true (by omega)
            have hp63 : p ≤ 9223372036854775808 := by omega
            have hp00 : 0 < p := by omega
            have HNX := Lib.hid (show ((p / 2 : Nat) : Int) = ((pw (i + 1) : Nat) : Int) by rw [hnx])
            by_cases hc : flo p ≤ r
            · obtain ⟨s, hs⟩ := take_pow (hge.2 hc) (by omega)
              have hsr : s ≤ r := by
                rcases Nat.lt_or_ge r s with h4 | h4
                · exact absurd (val_lt h4) (by omega)
                · exact h4
              have hsub := sub_words (x := r) (y := flo p) (r := s) (by omega) hfi (by omega) (by rw [hvf]; exact hs)
              have hq := fun (w : World) => run_float_arith (P := Try.prog) w .sub 22 .f64 r (flo p) s hsub
              have l3 : (FloatKind.f64.format.order r (flo p) == some Ordering.gt || FloatKind.f64.format.order r (flo p) == some Ordering.eq) = true := by
                show (Ieee.double.order r (flo p) == some Ordering.gt || Ieee.double.order r (flo p) == some Ordering.eq) = true
                rw [ho.2.1, ho.2.2]
                by_cases h3 : r = flo p
                · simp [h3]
                · simp; omega
              have hNp : N + p < 18446744073709551616 := by
                have h5 : (N + p) * 2 ^ eU ≤ val x := by rw [Nat.add_mul, hp]; omega
                have h6 := Nat.lt_of_le_of_lt h5 HL64.out
                exact Nat.lt_of_mul_lt_mul_right h6
              have HI : Hid (s < 4895412794951729152 ∧ val s + (N + p) * 2 ^ eU = val x ∧ val s < 2 ^ (64 - (i + 1)) * 2 ^ eU) := Lib.hid ⟨by omega, by rw [Nat.add_mul, hp]; omega, by rw [show 64 - (i + 1) = j by omega]; omega⟩
              clear hge hs hsr hsub ho hvf hfl hfi h1 h2 h3 hpd hp hnx hc hpb hpp pe hb
              go_wp2_with fail
              refine ⟨⟨i + 1, s, N + p, by omega, rfl, by rw [Int.natCast_add], by rw [← HNX.out]; rfl, HI⟩, ?_⟩
              simp [intOf]
              omega
            · have l3 : (FloatKind.f64.format.order r (flo p) == some Ordering.gt || FloatKind.f64.format.order r (flo p) == some Ordering.eq) = false := by
                show (Ieee.double.order r (flo p) == some Ordering.gt || Ieee.double.order r (flo p) == some Ordering.eq) = false
                rw [ho.2.1, ho.2.2]
                simp
                omega
              have hlt2 : val r < 2 ^ j * 2 ^ eU := by
                rcases Nat.lt_or_ge (val r) (2 ^ j * 2 ^ eU) with h4 | h4
                · exact h4
                · exact absurd (hge.1 h4) hc
              have HI : Hid (r < 4895412794951729152 ∧ val r + N * 2 ^ eU = val x ∧ val r < 2 ^ (64 - (i + 1)) * 2 ^ eU) := Lib.hid ⟨h1, h2, by rw [show 64 - (i + 1) = j by omega]; exact hlt2⟩
              clear hge ho hvf hfl hfi h1 h2 h3 hpd hp hnx hc hpb hpp pe hb hlt2
              go_wp2_with fail
              refine ⟨⟨i + 1, r, N, by omega, rfl, rfl, by rw [← HNX.out]; rfl, HI⟩, ?_⟩
              simp [intOf]
              omega
          · obtain rfl : i = 64 := by omega
            have h64 : pw 64 = 0 := by decide
            obtain ⟨h1, h2, h3⟩ := hinv.out
            rw [Nat.sub_self, Nat.pow_zero, Nat.one_mul] at h3
            have hN : val x / 2 ^ eU = N := by
              rw [← h2, Nat.add_mul_div_right _ _ (Nat.two_pow_pos eU), Nat.div_eq_of_lt h3, Nat.zero_add]
            rw [hN] at HD
            rw [h64]
            clear h1 h2 h3 hN h64 hinv
            by_cases hNm : N ≤ m
            · have HR := Lib.hid (HD.out.trans (Nat.min_eq_left hNm))
              go_wp2_with fail
              all_goals
                go_ret
                exact ⟨by rw [HR.out]; first | rfl | (exfalso; omega), rfl⟩
            · have HR := Lib.hid (HD.out.trans (Nat.min_eq_right (by omega)))
              go_wp2_with fail
              all_goals
                go_ret
                exact ⟨by rw [HR.out]; first | rfl | (exfalso; omega), rfl⟩
end Go.Proofs.Ytillkgbnokkacaa

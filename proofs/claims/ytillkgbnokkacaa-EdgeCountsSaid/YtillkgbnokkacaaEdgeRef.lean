/-
  The document's kind, Compare, Bits, Key of doubles.
-/
import Derived.Test.YtillkgbnokkacaaEdgeMath
namespace Go.Proofs.Ytillkgbnokkacaa
open Go.RowKit

/-- The bits of a number's text. -/
def textW (b : Nat) : Nat := if nanW b then 9221120237041090560 else b
def keyW (b : Nat) : Nat := if 9223372036854775808 ≤ textW b then 18446744073709551615 - textW b else textW b + 9223372036854775808
def kindW (b : Nat) : Nat :=
  if nanW b then 6 else if b = 18442240474082181120 then 0 else if b = 9218868437227405312 then 5
  else if negw b ∧ rung b ≠ 0 then 1 else if ¬ negw b ∧ rung b ≠ 0 then 4 else if negw b then 2 else 3
def cmpW (a b : Nat) : Int := if keyW a < keyW b then -1 else if keyW b < keyW a then 1 else 0

theorem neg_iff {b : Nat} (h : Word64 b) : (negw b = true ↔ 9223372036854775808 ≤ b) ∧ (negw b = false ↔ b < 9223372036854775808) := by
  unfold negw
  unfold Word64 at h
  by_cases h1 : b < 9223372036854775808
  · rw [Nat.div_eq_of_lt h1]
    simp
    omega
  · rw [show b / 9223372036854775808 = 1 by omega]
    simp
    omega
theorem rung_eq {b : Nat} (h : Word64 b) : rung b = if 9223372036854775808 ≤ b then b - 9223372036854775808 else b := by
  unfold rung
  unfold Word64 at h
  split <;> omega
theorem nan_iff {b : Nat} : nanW b = true ↔ 9218868437227405312 < rung b := by
  unfold nanW
  rw [decide_eq_true_iff]
  rfl

/-- Where a key stands, by the number's kind. -/
theorem key_range {b : Nat} (h : Word64 b) :
    (kindW b = 0 ∧ keyW b = 4503599627370495) ∨ (kindW b = 1 ∧ 4503599627370495 < keyW b ∧ keyW b < 9223372036854775807 ∧ keyW b + rung b = 9223372036854775807 ∧ negw b = true ∧ rung b ≤ rInf) ∨ (kindW b = 2 ∧ keyW b = 9223372036854775807) ∨ (kindW b = 3 ∧ keyW b = 9223372036854775808)
    ∨ (kindW b = 4 ∧ 9223372036854775808 < keyW b ∧ keyW b < 18442240474082181120 ∧ keyW b = rung b + 9223372036854775808 ∧ negw b = false ∧ rung b ≤ rInf) ∨ (kindW b = 5 ∧ keyW b = 18442240474082181120) ∨ (kindW b = 6 ∧ keyW b = 18444492273895866368) := by
  have hr := rung_eq h
  obtain ⟨n1, n2⟩ := neg_iff h
  have hi : rInf = 9218868437227405312 := rfl
  unfold Word64 at h
  unfold kindW keyW textW
  by_cases hn : nanW b = true
  · right; right; right; right; right; right
    simp only [hn, if_true]
    exact ⟨trivial, by decide⟩
  · have hn' : nanW b = false := by simpa using hn
    have hle : rung b ≤ 9218868437227405312 := by
      rcases Nat.lt_or_ge 9218868437227405312 (rung b) with h1 | h1
      · exact absurd (nan_iff.2 h1) hn
      · exact h1
    simp only [hn']
    by_cases h0 : b = 18442240474082181120
    · left
      subst h0
      simp
    · by_cases h5 : b = 9218868437227405312
      · right; right; right; right; right; left
        subst h5
        simp
      · cases hg : negw b
        · have hb := n2.1 hg
          have hb' : ¬ 9223372036854775808 ≤ b := by omega
          rw [if_neg hb'] at hr
          by_cases hz : rung b = 0
          · right; right; right; left
            simp [h0, h5, hz, hb']
            omega
          · right; right; right; right; left
            simp [h0, h5, hz, hb']
            omega
        · have hb := n1.1 hg
          rw [if_pos hb] at hr
          by_cases hz : rung b = 0
          · right; right; left
            simp [h0, h5, hz, hb]
            omega
          · right; left
            simp [h0, h5, hz, hb]
            omega
theorem kind_le (b : Nat) : kindW b ≤ 6 := by
  unfold kindW
  repeat' split
  all_goals decide

theorem order_zero {b : Nat} (h : rung b ≤ rInf) : (Ieee.double.order b 0 == some .lt) = (negw b && rung b != 0) ∧ (Ieee.double.order b 0 == some .gt) = (!negw b && rung b != 0) := by
  have h0 : sval 0 = 0 := by decide
  have hr0 : rung 0 ≤ rInf := by decide
  rw [order_words h hr0, h0]
  unfold sval
  by_cases hz : rung b = 0
  · rw [hz, show val 0 = 0 by decide]
    cases negw b <;> decide
  · have hp : 0 < val (rung b) := by
      have := val_lt (show 0 < rung b by omega)
      omega
    have hz' : (rung b != 0) = true := by rw [bne_iff_ne]; exact hz
    rw [hz']
    cases negw b
    · rw [if_neg (by simp), (Int.compare_eq_gt).2 (by omega)]
      decide
    · rw [if_pos rfl, (Int.compare_eq_lt).2 (by omega)]
      decide

set_option maxHeartbeats 1600000 in
set_option maxRecDepth 10000 in
theorem kind_ref (b : Nat) (hb : Word64 b) (w : World) : Calls Try.prog 36 #[.float .f64 b] w fun e w' => e = .returned (.int .i64 ((kindW b : Nat) : Int)) ∧ w = w' := by
  have HN := Lib.hid (fun w => isnan_go b w)
  have HI0 := Lib.hid (fun w => isinf_neg b hb w)
  have HI1 := Lib.hid (fun w => isinf_pos b hb w)
  have HSg := Lib.hid (fun w => signbit_go b hb w)
  go_enter Try.func36, Try.ntmps36
  go_wp2_with fail
  refine (HN.out _).mono ?_
  rintro e w1 ⟨rfl, rfl⟩
  by_cases hn : nanW b = true
  · have hk : kindW b = 6 := by unfold kindW; rw [if_pos hn]
    go_wp2_with fail
    go_ret
    exact ⟨by rw [hk]; rfl, rfl⟩
  · have hn' : nanW b = false := by simpa using hn
    have hle : rung b ≤ rInf := by
      rcases Nat.lt_or_ge 9218868437227405312 (rung b) with h1 | h1
      · exact absurd (nan_iff.2 h1) hn
      · exact h1
    obtain ⟨o1, o2⟩ := order_zero hle
    have HO1 := Lib.hid o1
    have HO2 := Lib.hid o2
    clear hn o1 o2 hle
    by_cases h0 : b = 18442240474082181120
    · have hk : kindW b = 0 := by unfold kindW; rw [if_neg (by rw [hn']; simp), if_pos h0]
      have hb0 : (b == 18442240474082181120) = true := beq_iff_eq.2 h0
      have HK := Lib.hid hk
      clear h0 hk
      go_wp2_with fail
      refine (HI0.out _).mono ?_
      rintro e w1 ⟨rfl, rfl⟩
      go_wp2_with fail
      go_ret
      exact ⟨by rw [HK.out]; rfl, rfl⟩
    · have hb0 : (b == 18442240474082181120) = false := beq_eq_false_iff_ne.2 h0
      by_cases h5 : b = 9218868437227405312
      · have hk : kindW b = 5 := by unfold kindW; rw [if_neg (by rw [hn']; simp), if_neg h0, if_pos h5]
        have hb5 : (b == 9218868437227405312) = true := beq_iff_eq.2 h5
        have HK := Lib.hid hk
        clear h0 h5 hk
        go_wp2_with fail
        refine (HI0.out _).mono ?_
        rintro e w1 ⟨rfl, rfl⟩
        go_wp2_with fail
        refine (HI1.out _).mono ?_
        rintro e w1 ⟨rfl, rfl⟩
        go_wp2_with fail
        go_ret
        exact ⟨by rw [HK.out]; rfl, rfl⟩
      · have hb5 : (b == 9218868437227405312) = false := beq_eq_false_iff_ne.2 h5
        have hk : kindW b = if negw b ∧ rung b ≠ 0 then 1 else if ¬ negw b ∧ rung b ≠ 0 then 4 else if negw b then 2 else 3 := by
          unfold kindW
          rw [if_neg (by rw [hn']; simp), if_neg h0, if_neg h5]
        obtain ⟨z, hz⟩ : ∃ z, z = (rung b != 0) := ⟨_, rfl⟩
        obtain ⟨g, hg⟩ : ∃ g, g = negw b := ⟨_, rfl⟩
        have HK : Hid (kindW b = if g && z then 1 else if !g && z then 4 else if g then 2 else 3) := Lib.hid (by
          rw [hk, hg, hz]
          cases negw b <;> by_cases h : rung b = 0 <;> simp [h])
        rw [← hg, ← hz] at HO1 HO2
        rw [← hg] at HSg
        have l1 : (FloatKind.f64.format.order b 0 == some Ordering.lt) = (g && z) := HO1.out
        have l2 : (FloatKind.f64.format.order b 0 == some Ordering.gt) = (!g && z) := HO2.out
        clear h0 h5 hk hz hg
        go_wp2_with fail
        refine (HI0.out _).mono ?_
        rintro e w1 ⟨rfl, rfl⟩
        go_wp2_with fail
        refine (HI1.out _).mono ?_
        rintro e w1 ⟨rfl, rfl⟩
        cases g <;> cases z
        all_goals
          simp only [Bool.and_true, Bool.and_false, Bool.not_true, Bool.not_false] at l1 l2
          go_wp2_with fail
          try
            refine (HSg.out _).mono ?_
            rintro e w1 ⟨rfl, rfl⟩
            go_wp2_with fail
          go_ret
          exact ⟨by rw [HK.out]; rfl, rfl⟩

theorem key_kind_lt {a b : Nat} (ha : Word64 a) (hb : Word64 b) (h : kindW a < kindW b) : keyW a < keyW b := by
  rcases key_range ha with h1 | h1 | h1 | h1 | h1 | h1 | h1 <;> rcases key_range hb with h2 | h2 | h2 | h2 | h2 | h2 | h2 <;> omega
theorem key_kind_eq {a b : Nat} (ha : Word64 a) (hb : Word64 b) (h : kindW a = kindW b) (h1 : kindW a ≠ 1) (h4 : kindW a ≠ 4) : keyW a = keyW b := by
  rcases key_range ha with h1 | h1 | h1 | h1 | h1 | h1 | h1 <;> rcases key_range hb with h2 | h2 | h2 | h2 | h2 | h2 | h2 <;> omega
theorem key_order {a b : Nat} (ha : Word64 a) (hb : Word64 b) (h : kindW a = kindW b) (h1 : kindW a = 1 ∨ kindW a = 4) :
    (Ieee.double.order a b == some .lt) = decide (keyW a < keyW b) ∧ (Ieee.double.order a b == some .gt) = decide (keyW b < keyW a) := by
  have hcase : (keyW a + rung a = 9223372036854775807 ∧ negw a = true ∧ keyW b + rung b = 9223372036854775807 ∧ negw b = true ∧ rung a ≤ rInf ∧ rung b ≤ rInf) ∨ (keyW a = rung a + 9223372036854775808 ∧ negw a = false ∧ keyW b = rung b + 9223372036854775808 ∧ negw b = false ∧ rung a ≤ rInf ∧ rung b ≤ rInf) := by
    rcases key_range ha with k1 | k1 | k1 | k1 | k1 | k1 | k1 <;> rcases key_range hb with k2 | k2 | k2 | k2 | k2 | k2 | k2 <;> first | omega | exact .inl ⟨k1.2.2.2.1, k1.2.2.2.2.1, k2.2.2.2.1, k2.2.2.2.2.1, k1.2.2.2.2.2, k2.2.2.2.2.2⟩ | exact .inr ⟨k1.2.2.2.1, k1.2.2.2.2.1, k2.2.2.2.1, k2.2.2.2.2.1, k1.2.2.2.2.2, k2.2.2.2.2.2⟩
  have vl := @val_lt_iff (rung a) (rung b)
  have vg := @val_lt_iff (rung b) (rung a)
  have ve : rung a = rung b → val (rung a) = val (rung b) := fun h => by rw [h]
  rcases hcase with ⟨e1, n1, e2, n2, r1, r2⟩ | ⟨e1, n1, e2, n2, r1, r2⟩
  · rw [order_words r1 r2]
    unfold sval
    rw [n1, n2]
    simp only [if_true]
    rcases Nat.lt_trichotomy (rung a) (rung b) with h3 | h3 | h3
    · rw [(Int.compare_eq_gt).2 (by have := vl.2 h3; omega), decide_eq_false (by omega), decide_eq_true (by omega)]
      exact ⟨rfl, rfl⟩
    · rw [(Int.compare_eq_eq).2 (by have := ve h3; omega), decide_eq_false (by omega), decide_eq_false (by omega)]
      exact ⟨rfl, rfl⟩
    · rw [(Int.compare_eq_lt).2 (by have := vg.2 h3; omega), decide_eq_true (by omega), decide_eq_false (by omega)]
      exact ⟨rfl, rfl⟩
  · rw [order_words r1 r2]
    unfold sval
    rw [n1, n2]
    rw [if_neg (by simp), if_neg (by simp)]
    rcases Nat.lt_trichotomy (rung a) (rung b) with h3 | h3 | h3
    · rw [(Int.compare_eq_lt).2 (by have := vl.2 h3; omega), decide_eq_true (by omega), decide_eq_false (by omega)]
      exact ⟨rfl, rfl⟩
    · rw [(Int.compare_eq_eq).2 (by have := ve h3; omega), decide_eq_false (by omega), decide_eq_false (by omega)]
      exact ⟨rfl, rfl⟩
    · rw [(Int.compare_eq_gt).2 (by have := vg.2 h3; omega), decide_eq_false (by omega), decide_eq_true (by omega)]
      exact ⟨rfl, rfl⟩

set_option maxHeartbeats 1600000 in
set_option maxRecDepth 10000 in
theorem compare_ref (a b : Nat) (ha : Word64 a) (hb : Word64 b) (w : World) : Calls Try.prog 9 #[.float .f64 a, .float .f64 b] w fun e w' => e = .returned (.int .i64 (cmpW a b)) ∧ w = w' := by
  have HA := Lib.hid (fun w => kind_ref a ha w)
  have HB := Lib.hid (fun w => kind_ref b hb w)
  have hlt : kindW a < kindW b → cmpW a b = -1 := fun h => by
    unfold cmpW
    rw [if_pos (key_kind_lt ha hb h)]
  have hgt : kindW b < kindW a → cmpW a b = 1 := fun h => by
    have := key_kind_lt hb ha h
    unfold cmpW
    rw [if_neg (by omega), if_pos this]
  have heq : kindW a = kindW b → kindW a ≠ 1 → kindW a ≠ 4 → cmpW a b = 0 := fun h h1 h4 => by
    have := key_kind_eq ha hb h h1 h4
    unfold cmpW
    rw [if_neg (by omega), if_neg (by omega)]
  have HO := Lib.hid (fun h h1 => key_order ha hb h h1)
  obtain ⟨j, hj⟩ : ∃ j, j = kindW a := ⟨_, rfl⟩
  obtain ⟨k, hk⟩ : ∃ k, k = kindW b := ⟨_, rfl⟩
  rw [← hj] at hlt hgt heq HA HO
  rw [← hk] at hlt hgt heq HB HO
  have HL := Lib.hid hlt
  have HG := Lib.hid hgt
  have HE := Lib.hid heq
  clear hlt hgt heq hj hk ha hb
  by_cases hne : j = k
  · subst hne
    by_cases h14 : j = 1 ∨ j = 4
    · obtain ⟨o1, o2⟩ := HO.out rfl h14
      have HC : Hid (cmpW a b = if keyW a < keyW b then -1 else if keyW b < keyW a then 1 else 0) := Lib.hid rfl
      by_cases hl : keyW a < keyW b
      · rw [decide_eq_true hl] at o1
        have l1 : (FloatKind.f64.format.order a b == some Ordering.lt) = true := o1
        have HR := Lib.hid (HC.out.trans (if_pos hl))
        clear o1 o2 hl HC
        rcases h14 with rfl | rfl
        · go_enter Try.func9, Try.ntmps9
          go_wp2_with fail
          refine (HA.out _).mono ?_
          rintro e w1 ⟨rfl, rfl⟩
          go_wp2_with fail
          refine (HB.out _).mono ?_
          rintro e w1 ⟨rfl, rfl⟩
          go_wp2_with fail
          refine (HA.out _).mono ?_
          rintro e w1 ⟨rfl, rfl⟩
          go_wp2_with fail
          go_ret
          exact ⟨by rw [HR.out]; rfl, rfl⟩
        · go_enter Try.func9, Try.ntmps9
          go_wp2_with fail
          refine (HA.out _).mono ?_
          rintro e w1 ⟨rfl, rfl⟩
          go_wp2_with fail
          refine (HB.out _).mono ?_
          rintro e w1 ⟨rfl, rfl⟩
          go_wp2_with fail
          refine (HA.out _).mono ?_
          rintro e w1 ⟨rfl, rfl⟩
          go_wp2_with fail
          refine (HA.out _).mono ?_
          rintro e w1 ⟨rfl, rfl⟩
          go_wp2_with fail
          go_ret
          exact ⟨by rw [HR.out]; rfl, rfl⟩
      · rw [decide_eq_false hl] at o1
        have l1 : (FloatKind.f64.format.order a b == some Ordering.lt) = false := o1
        by_cases hg : keyW b < keyW a
        · rw [decide_eq_true hg] at o2
          have l2 : (FloatKind.f64.format.order a b == some Ordering.gt) = true := o2
          have HR := Lib.hid (HC.out.trans ((if_neg hl).trans (if_pos hg)))
          clear o1 o2 hl hg HC
          rcases h14 with rfl | rfl
          · go_enter Try.func9, Try.ntmps9
            go_wp2_with fail
            refine (HA.out _).mono ?_
            rintro e w1 ⟨rfl, rfl⟩
            go_wp2_with fail
            refine (HB.out _).mono ?_
            rintro e w1 ⟨rfl, rfl⟩
            go_wp2_with fail
            refine (HA.out _).mono ?_
            rintro e w1 ⟨rfl, rfl⟩
            go_wp2_with fail
            go_ret
            exact ⟨by rw [HR.out]; rfl, rfl⟩
          · go_enter Try.func9, Try.ntmps9
            go_wp2_with fail
            refine (HA.out _).mono ?_
            rintro e w1 ⟨rfl, rfl⟩
            go_wp2_with fail
            refine (HB.out _).mono ?_
            rintro e w1 ⟨rfl, rfl⟩
            go_wp2_with fail
            refine (HA.out _).mono ?_
            rintro e w1 ⟨rfl, rfl⟩
            go_wp2_with fail
            refine (HA.out _).mono ?_
            rintro e w1 ⟨rfl, rfl⟩
            go_wp2_with fail
            go_ret
            exact ⟨by rw [HR.out]; rfl, rfl⟩
        · rw [decide_eq_false hg] at o2
          have l2 : (FloatKind.f64.format.order a b == some Ordering.gt) = false := o2
          have HR := Lib.hid (HC.out.trans ((if_neg hl).trans (if_neg hg)))
          clear o1 o2 hl hg HC
          rcases h14 with rfl | rfl
          · go_enter Try.func9, Try.ntmps9
            go_wp2_with fail
            refine (HA.out _).mono ?_
            rintro e w1 ⟨rfl, rfl⟩
            go_wp2_with fail
            refine (HB.out _).mono ?_
            rintro e w1 ⟨rfl, rfl⟩
            go_wp2_with fail
            refine (HA.out _).mono ?_
            rintro e w1 ⟨rfl, rfl⟩
            go_wp2_with fail
            go_ret
            exact ⟨by rw [HR.out]; rfl, rfl⟩
          · go_enter Try.func9, Try.ntmps9
            go_wp2_with fail
            refine (HA.out _).mono ?_
            rintro e w1 ⟨rfl, rfl⟩
            go_wp2_with fail
            refine (HB.out _).mono ?_
            rintro e w1 ⟨rfl, rfl⟩
            go_wp2_with fail
            refine (HA.out _).mono ?_
            rintro e w1 ⟨rfl, rfl⟩
            go_wp2_with fail
            refine (HA.out _).mono ?_
            rintro e w1 ⟨rfl, rfl⟩
            go_wp2_with fail
            go_ret
            exact ⟨by rw [HR.out]; rfl, rfl⟩
    · have HR := Lib.hid (HE.out rfl (fun h => h14 (.inl h)) (fun h => h14 (.inr h)))
      have h1 : ((j : Int) == 1) = false := beq_eq_false_iff_ne.2 (fun h => h14 (.inl (by omega)))
      have h4 : ((j : Int) == 4) = false := beq_eq_false_iff_ne.2 (fun h => h14 (.inr (by omega)))
      clear h14
      go_enter Try.func9, Try.ntmps9
      go_wp2_with fail
      refine (HA.out _).mono ?_
      rintro e w1 ⟨rfl, rfl⟩
      go_wp2_with fail
      refine (HB.out _).mono ?_
      rintro e w1 ⟨rfl, rfl⟩
      go_wp2_with fail
      refine (HA.out _).mono ?_
      rintro e w1 ⟨rfl, rfl⟩
      go_wp2_with fail
      refine (HA.out _).mono ?_
      rintro e w1 ⟨rfl, rfl⟩
      go_wp2_with fail
      go_ret
      exact ⟨by rw [HR.out]; rfl, rfl⟩
  · have hn : ((j : Int) != (k : Int)) = true := bne_iff_ne.2 (by omega)
    by_cases hl : j < k
    · have HR := Lib.hid (HL.out hl)
      have hd : decide ((j : Int) < (k : Int)) = true := decide_eq_true (by omega)
      go_enter Try.func9, Try.ntmps9
      go_wp2_with fail
      refine (HA.out _).mono ?_
      rintro e w1 ⟨rfl, rfl⟩
      go_wp2_with fail
      refine (HB.out _).mono ?_
      rintro e w1 ⟨rfl, rfl⟩
      go_wp2_with fail
      refine (HA.out _).mono ?_
      rintro e w1 ⟨rfl, rfl⟩
      go_wp2_with fail
      refine (HB.out _).mono ?_
      rintro e w1 ⟨rfl, rfl⟩
      go_wp2_with fail
      go_ret
      exact ⟨by rw [HR.out]; rfl, rfl⟩
    · have HR := Lib.hid (HG.out (by omega))
      have hd : decide ((j : Int) < (k : Int)) = false := decide_eq_false (by omega)
      go_enter Try.func9, Try.ntmps9
      go_wp2_with fail
      refine (HA.out _).mono ?_
      rintro e w1 ⟨rfl, rfl⟩
      go_wp2_with fail
      refine (HB.out _).mono ?_
      rintro e w1 ⟨rfl, rfl⟩
      go_wp2_with fail
      refine (HA.out _).mono ?_
      rintro e w1 ⟨rfl, rfl⟩
      go_wp2_with fail
      refine (HB.out _).mono ?_
      rintro e w1 ⟨rfl, rfl⟩
      go_wp2_with fail
      go_ret
      exact ⟨by rw [HR.out]; rfl, rfl⟩
end Go.Proofs.Ytillkgbnokkacaa

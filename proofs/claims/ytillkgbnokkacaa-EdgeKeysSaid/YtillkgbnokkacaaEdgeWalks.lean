/-
  The laws EdgeRatios, EdgeOrders, EdgeKeys: their walks.
-/
import Derived.Test.YtillkgbnokkacaaEdgeLaws
namespace Go.Proofs.Ytillkgbnokkacaa
open Go.RowKit

theorem leq_pos {r s : Nat} (hr : r ≤ rInf) (hs : s ≤ rInf) (h : r ≤ s) : (FloatKind.f64.format.order r s == some Ordering.lt || FloatKind.f64.format.order r s == some Ordering.eq) = true := by
  show (Ieee.double.order r s == some Ordering.lt || Ieee.double.order r s == some Ordering.eq) = true
  obtain ⟨h1, _, h3⟩ := order_pos hr hs
  rw [h1, h3]
  by_cases h4 : r = s
  · simp [h4]
  · simp
    omega
theorem geq_zero {r : Nat} (hr : r ≤ rInf) : (FloatKind.f64.format.order r 0 == some Ordering.gt || FloatKind.f64.format.order r 0 == some Ordering.eq) = true := by
  show (Ieee.double.order r 0 == some Ordering.gt || Ieee.double.order r 0 == some Ordering.eq) = true
  obtain ⟨_, h2, h3⟩ := order_pos hr (show 0 ≤ rInf by decide)
  rw [h2, h3]
  by_cases h4 : r = 0
  · simp [h4]
  · simp
    omega

set_option maxHeartbeats 1600000 in
set_option maxRecDepth 10000 in
theorem ratios_walk (H : EdgeOk) (m k n : Nat) (hm : Word64 m) (hk : Word64 k) (hn : Word64 n) (w : World) :
    Calls Try.prog 7 #[.int .u64 (m : Int), .int .u64 (k : Int), .int .u64 (n : Int)] w fun e w' => e = .returned (.bool true) ∧ Keeps NoBlock w w' := by
  have HLv := Lib.hid (fun w => lives6_true H w)
  have HX := Lib.hid (fun w => H.ratio m n w hm hn)
  have HY := Lib.hid (fun w => H.ratio k n w hk hn)
  have hx := ratio_le hm hn
  have hy := ratio_le hk hn
  have h1 := geq_zero hx
  have h2 := fun h => leq_pos hx (show 4607182418800017408 ≤ rInf by decide) (ratio_unit (m := m) hn h)
  have h3 := fun h => leq_pos hx hy (ratio_up (m := m) hk hn h)
  obtain ⟨x, hxd⟩ : ∃ x, x = ratioW m n := ⟨_, rfl⟩
  obtain ⟨y, hyd⟩ : ∃ y, y = ratioW k n := ⟨_, rfl⟩
  rw [← hxd] at HX h1 h2 h3
  rw [← hyd] at HY h3
  have H2 := Lib.hid h2
  have H3 := Lib.hid h3
  clear H hxd hyd hx hy hm hk hn h2 h3
  by_cases c1 : n < m
  · have d1 : decide ((n : Int) < (m : Int)) = true := decide_eq_true (by omega)
    by_cases c2 : k < m
    · have d2 : decide ((k : Int) < (m : Int)) = true := decide_eq_true (by omega)
      go_enter Try.func7, Try.ntmps7
      go_wp2_with fail
      refine (HLv.out _).mono ?_
      rintro e w1 ⟨rfl, hk⟩
      have HK1 := Lib.hid hk
      clear hk
      go_wp2_with fail
      refine (HX.out _).mono ?_
      rintro e w2 ⟨rfl, hk⟩
      have HK2 := Lib.hid (HK1.out.trans hk)
      clear hk
      go_wp2_with fail
      refine (HY.out _).mono ?_
      rintro e w3 ⟨rfl, hk⟩
      have HK3 := Lib.hid (HK2.out.trans hk)
      clear hk
      go_wp2_with fail
      go_ret
      exact ⟨rfl, HK3.out⟩
    · have d2 : decide ((k : Int) < (m : Int)) = false := decide_eq_false (by omega)
      have d3 := H3.out (by omega)
      go_enter Try.func7, Try.ntmps7
      go_wp2_with fail
      refine (HLv.out _).mono ?_
      rintro e w1 ⟨rfl, hk⟩
      have HK1 := Lib.hid hk
      clear hk
      go_wp2_with fail
      refine (HX.out _).mono ?_
      rintro e w2 ⟨rfl, hk⟩
      have HK2 := Lib.hid (HK1.out.trans hk)
      clear hk
      go_wp2_with fail
      refine (HY.out _).mono ?_
      rintro e w3 ⟨rfl, hk⟩
      have HK3 := Lib.hid (HK2.out.trans hk)
      clear hk
      go_wp2_with fail
      go_ret
      exact ⟨rfl, HK3.out⟩
  · have d1 : decide ((n : Int) < (m : Int)) = false := decide_eq_false (by omega)
    have d4 := H2.out (by omega)
    by_cases c2 : k < m
    · have d2 : decide ((k : Int) < (m : Int)) = true := decide_eq_true (by omega)
      go_enter Try.func7, Try.ntmps7
      go_wp2_with fail
      refine (HLv.out _).mono ?_
      rintro e w1 ⟨rfl, hk⟩
      have HK1 := Lib.hid hk
      clear hk
      go_wp2_with fail
      refine (HX.out _).mono ?_
      rintro e w2 ⟨rfl, hk⟩
      have HK2 := Lib.hid (HK1.out.trans hk)
      clear hk
      go_wp2_with fail
      refine (HY.out _).mono ?_
      rintro e w3 ⟨rfl, hk⟩
      have HK3 := Lib.hid (HK2.out.trans hk)
      clear hk
      go_wp2_with fail
      go_ret
      exact ⟨rfl, HK3.out⟩
    · have d2 : decide ((k : Int) < (m : Int)) = false := decide_eq_false (by omega)
      have d3 := H3.out (by omega)
      go_enter Try.func7, Try.ntmps7
      go_wp2_with fail
      refine (HLv.out _).mono ?_
      rintro e w1 ⟨rfl, hk⟩
      have HK1 := Lib.hid hk
      clear hk
      go_wp2_with fail
      refine (HX.out _).mono ?_
      rintro e w2 ⟨rfl, hk⟩
      have HK2 := Lib.hid (HK1.out.trans hk)
      clear hk
      go_wp2_with fail
      refine (HY.out _).mono ?_
      rintro e w3 ⟨rfl, hk⟩
      have HK3 := Lib.hid (HK2.out.trans hk)
      clear hk
      go_wp2_with fail
      go_ret
      exact ⟨rfl, HK3.out⟩

theorem text_key {a b : Nat} (ha : Word64 a) (hb : Word64 b) : keyW a = keyW b ↔ textW a = textW b := by
  have h1 := text_word ha
  have h2 := text_word hb
  unfold Word64 at h1 h2
  unfold keyW
  constructor
  · intro h
    split at h <;> split at h <;> omega
  · intro h
    rw [h]

set_option maxHeartbeats 800000 in
set_option maxRecDepth 10000 in
theorem same_law (a b : Nat) (w : World) : Calls Try.prog 14 #[.float .f64 a, .float .f64 b] w fun e w' => e = .returned (.bool (textW a == textW b)) ∧ w = w' := by
  have H1 := Lib.hid (fun w => bits_ref a w)
  have H2 := Lib.hid (fun w => bits_ref b w)
  have he : (((textW a : Nat) : Int) == ((textW b : Nat) : Int)) = (textW a == textW b) := by
    rw [Bool.eq_iff_iff, beq_iff_eq, beq_iff_eq]
    omega
  obtain ⟨s, hs⟩ : ∃ s, s = textW a := ⟨_, rfl⟩
  obtain ⟨t, ht⟩ : ∃ t, t = textW b := ⟨_, rfl⟩
  rw [← hs] at H1 he ⊢
  rw [← ht] at H2 he ⊢
  have HE := Lib.hid he
  clear he hs ht
  go_enter Try.func14, Try.ntmps14
  go_wp2_with fail
  refine (H1.out _).mono ?_
  rintro e w1 ⟨rfl, rfl⟩
  go_wp2_with fail
  refine (H2.out _).mono ?_
  rintro e w1 ⟨rfl, rfl⟩
  go_wp2_with fail
  go_ret
  first
    | exact ⟨rfl, rfl⟩
    | exact ⟨by rw [← HE.out]; rfl, rfl⟩

theorem cmp_lt {a b : Nat} (h : keyW a < keyW b) : cmpW a b = -1 ∧ cmpW b a = 1 := by
  unfold cmpW
  rw [if_pos h, if_neg (by omega), if_pos h]
  exact ⟨rfl, rfl⟩
theorem cmp_eq {a b : Nat} (h : keyW a = keyW b) : cmpW a b = 0 := by
  unfold cmpW
  rw [if_neg (by omega), if_neg (by omega)]
theorem cmp_pos {a b : Nat} : 0 < cmpW a b ↔ keyW b < keyW a := by
  unfold cmpW
  split
  · constructor <;> intro h <;> omega
  · split
    · constructor <;> intro h <;> omega
    · constructor <;> intro h <;> omega
theorem key_word {b : Nat} (h : Word64 b) : Word64 (keyW b) := by
  have h1 := text_word h
  unfold Word64 at *
  unfold keyW
  split <;> omega

set_option maxHeartbeats 3200000 in
set_option maxRecDepth 10000 in
theorem orders_walk (H : EdgeOk) (a b c : Nat) (ha : Word64 a) (hb : Word64 b) (hc : Word64 c) (w : World) :
    Calls Try.prog 3 #[.float .f64 a, .float .f64 b, .float .f64 c] w fun e w' => e = .returned (.bool true) ∧ Keeps NoBlock w w' := by
  have HLv := Lib.hid (fun w => lives6_true H w)
  have HRf := Lib.hid (fun w => compare_ref a b ha hb w)
  have HRk := Lib.hid (fun w => key_ref a ha w)
  have HKa := Lib.hid (fun w => H.key a w ha)
  have HKb := Lib.hid (fun w => H.key b w hb)
  have HCab := Lib.hid (fun w => H.compare a b w ha hb)
  have HCba := Lib.hid (fun w => H.compare b a w hb ha)
  have HCbc := Lib.hid (fun w => H.compare b c w hb hc)
  have HCac := Lib.hid (fun w => H.compare a c w ha hc)
  have HSa := Lib.hid (fun w => H.same a b w ha hb)
  have pbc := @cmp_pos b c
  have pac := @cmp_pos a c
  have clt := @cmp_lt a b
  have cgt := @cmp_lt b a
  have ceq := @cmp_eq a b
  have ceq2 := @cmp_eq b a
  have kwa := key_word ha
  have kwb := key_word hb
  unfold Word64 at kwa kwb
  obtain ⟨u, hu⟩ : ∃ u, u = keyW a := ⟨_, rfl⟩
  obtain ⟨v, hv⟩ : ∃ v, v = keyW b := ⟨_, rfl⟩
  obtain ⟨t, ht⟩ : ∃ t, t = keyW c := ⟨_, rfl⟩
  obtain ⟨cbc, hbc⟩ : ∃ x, x = cmpW b c := ⟨_, rfl⟩
  obtain ⟨cac, hac⟩ : ∃ x, x = cmpW a c := ⟨_, rfl⟩
  rw [← hu] at HRk HKa HSa pac clt cgt ceq ceq2 kwa
  rw [← hv] at HKb HSa pbc clt cgt ceq ceq2 kwb
  rw [← ht] at pbc pac
  rw [← hbc] at HCbc pbc
  rw [← hac] at HCac pac
  clear H ha hb hc hu hv ht hbc hac
  rcases Nat.lt_trichotomy u v with h | h | h
  · obtain ⟨e1, e2⟩ := clt h
    rw [e1] at HRf HCab
    rw [e2] at HCba
    have b1 : (u == v) = false := beq_eq_false_iff_ne.2 (by omega)
    have b2 : ((u : Int) == (v : Int)) = false := beq_eq_false_iff_ne.2 (by omega)
    have b3 : decide ((u : Int) < (v : Int)) = true := decide_eq_true (by omega)
    have h' : u < v := h
    clear clt cgt ceq ceq2 e1 e2
    by_cases hp : 0 < cbc
    · have d1 : decide (0 < cbc) = true := decide_eq_true hp
      clear pbc pac
      go_enter Try.func3, Try.ntmps3
      go_wp2_with fail
      refine (HLv.out _).mono ?_
      rintro e w1 ⟨rfl, hk⟩
      have HK1 := Lib.hid hk
      clear hk
      go_wp2_with fail
      refine (HRf.out _).mono ?_
      rintro e w0 ⟨rfl, rfl⟩
      go_wp2_with fail
      refine (HKa.out _).mono ?_
      rintro e w2 ⟨rfl, hk⟩
      have HK2 := Lib.hid (HK1.out.trans hk)
      clear hk
      go_wp2_with fail
      refine (HKb.out _).mono ?_
      rintro e w3 ⟨rfl, hk⟩
      have HK3 := Lib.hid (HK2.out.trans hk)
      clear hk
      go_wp2_with fail
      refine (HCab.out _).mono ?_
      rintro e w4 ⟨rfl, hk⟩
      have HK4 := Lib.hid (HK3.out.trans hk)
      clear hk
      go_wp2_with fail
      refine (HCba.out _).mono ?_
      rintro e w5 ⟨rfl, hk⟩
      have HK5 := Lib.hid (HK4.out.trans hk)
      clear hk
      go_wp2_with fail
      refine (HSa.out _).mono ?_
      rintro e w6 ⟨rfl, hk⟩
      have HK6 := Lib.hid (HK5.out.trans hk)
      clear hk
      go_wp2_with fail
      refine (HRk.out _).mono ?_
      rintro e w0 ⟨rfl, rfl⟩
      go_wp2_with fail
      refine (HCab.out _).mono ?_
      rintro e w7 ⟨rfl, hk⟩
      have HK7 := Lib.hid (HK6.out.trans hk)
      clear hk
      go_wp2_with fail
      refine (HCbc.out _).mono ?_
      rintro e w8 ⟨rfl, hk⟩
      have HK8 := Lib.hid (HK7.out.trans hk)
      clear hk
      go_wp2_with fail
      go_ret
      exact ⟨rfl, HK8.out⟩
    · have d1 : decide (0 < cbc) = false := decide_eq_false hp
      have d2 : decide (cac ≤ 0) = true := decide_eq_true (by omega)
      clear pbc pac
      go_enter Try.func3, Try.ntmps3
      go_wp2_with fail
      refine (HLv.out _).mono ?_
      rintro e w1 ⟨rfl, hk⟩
      have HK1 := Lib.hid hk
      clear hk
      go_wp2_with fail
      refine (HRf.out _).mono ?_
      rintro e w0 ⟨rfl, rfl⟩
      go_wp2_with fail
      refine (HKa.out _).mono ?_
      rintro e w2 ⟨rfl, hk⟩
      have HK2 := Lib.hid (HK1.out.trans hk)
      clear hk
      go_wp2_with fail
      refine (HKb.out _).mono ?_
      rintro e w3 ⟨rfl, hk⟩
      have HK3 := Lib.hid (HK2.out.trans hk)
      clear hk
      go_wp2_with fail
      refine (HCab.out _).mono ?_
      rintro e w4 ⟨rfl, hk⟩
      have HK4 := Lib.hid (HK3.out.trans hk)
      clear hk
      go_wp2_with fail
      refine (HCba.out _).mono ?_
      rintro e w5 ⟨rfl, hk⟩
      have HK5 := Lib.hid (HK4.out.trans hk)
      clear hk
      go_wp2_with fail
      refine (HSa.out _).mono ?_
      rintro e w6 ⟨rfl, hk⟩
      have HK6 := Lib.hid (HK5.out.trans hk)
      clear hk
      go_wp2_with fail
      refine (HRk.out _).mono ?_
      rintro e w0 ⟨rfl, rfl⟩
      go_wp2_with fail
      refine (HCab.out _).mono ?_
      rintro e w7 ⟨rfl, hk⟩
      have HK7 := Lib.hid (HK6.out.trans hk)
      clear hk
      go_wp2_with fail
      refine (HCbc.out _).mono ?_
      rintro e w8 ⟨rfl, hk⟩
      have HK8 := Lib.hid (HK7.out.trans hk)
      clear hk
      go_wp2_with fail
      refine (HCac.out _).mono ?_
      rintro e w9 ⟨rfl, hk⟩
      have HK9 := Lib.hid (HK8.out.trans hk)
      clear hk
      go_wp2_with fail
      go_ret
      exact ⟨rfl, HK9.out⟩
  · have e1 := ceq h
    have e2 := ceq2 h.symm
    rw [e1] at HRf HCab
    rw [e2] at HCba
    subst h
    clear clt cgt ceq ceq2 e1 e2
    by_cases hp : 0 < cbc
    · have d1 : decide (0 < cbc) = true := decide_eq_true hp
      clear pbc pac
      go_enter Try.func3, Try.ntmps3
      go_wp2_with fail
      refine (HLv.out _).mono ?_
      rintro e w1 ⟨rfl, hk⟩
      have HK1 := Lib.hid hk
      clear hk
      go_wp2_with fail
      refine (HRf.out _).mono ?_
      rintro e w0 ⟨rfl, rfl⟩
      go_wp2_with fail
      refine (HKa.out _).mono ?_
      rintro e w2 ⟨rfl, hk⟩
      have HK2 := Lib.hid (HK1.out.trans hk)
      clear hk
      go_wp2_with fail
      refine (HKb.out _).mono ?_
      rintro e w3 ⟨rfl, hk⟩
      have HK3 := Lib.hid (HK2.out.trans hk)
      clear hk
      go_wp2_with fail
      refine (HCab.out _).mono ?_
      rintro e w4 ⟨rfl, hk⟩
      have HK4 := Lib.hid (HK3.out.trans hk)
      clear hk
      go_wp2_with fail
      refine (HCba.out _).mono ?_
      rintro e w5 ⟨rfl, hk⟩
      have HK5 := Lib.hid (HK4.out.trans hk)
      clear hk
      go_wp2_with fail
      refine (HSa.out _).mono ?_
      rintro e w6 ⟨rfl, hk⟩
      have HK6 := Lib.hid (HK5.out.trans hk)
      clear hk
      go_wp2_with fail
      refine (HRk.out _).mono ?_
      rintro e w0 ⟨rfl, rfl⟩
      go_wp2_with fail
      refine (HCab.out _).mono ?_
      rintro e w7 ⟨rfl, hk⟩
      have HK7 := Lib.hid (HK6.out.trans hk)
      clear hk
      go_wp2_with fail
      refine (HCbc.out _).mono ?_
      rintro e w8 ⟨rfl, hk⟩
      have HK8 := Lib.hid (HK7.out.trans hk)
      clear hk
      go_wp2_with fail
      go_ret
      exact ⟨rfl, HK8.out⟩
    · have d1 : decide (0 < cbc) = false := decide_eq_false hp
      have d2 : decide (cac ≤ 0) = true := decide_eq_true (by omega)
      clear pbc pac
      go_enter Try.func3, Try.ntmps3
      go_wp2_with fail
      refine (HLv.out _).mono ?_
      rintro e w1 ⟨rfl, hk⟩
      have HK1 := Lib.hid hk
      clear hk
      go_wp2_with fail
      refine (HRf.out _).mono ?_
      rintro e w0 ⟨rfl, rfl⟩
      go_wp2_with fail
      refine (HKa.out _).mono ?_
      rintro e w2 ⟨rfl, hk⟩
      have HK2 := Lib.hid (HK1.out.trans hk)
      clear hk
      go_wp2_with fail
      refine (HKb.out _).mono ?_
      rintro e w3 ⟨rfl, hk⟩
      have HK3 := Lib.hid (HK2.out.trans hk)
      clear hk
      go_wp2_with fail
      refine (HCab.out _).mono ?_
      rintro e w4 ⟨rfl, hk⟩
      have HK4 := Lib.hid (HK3.out.trans hk)
      clear hk
      go_wp2_with fail
      refine (HCba.out _).mono ?_
      rintro e w5 ⟨rfl, hk⟩
      have HK5 := Lib.hid (HK4.out.trans hk)
      clear hk
      go_wp2_with fail
      refine (HSa.out _).mono ?_
      rintro e w6 ⟨rfl, hk⟩
      have HK6 := Lib.hid (HK5.out.trans hk)
      clear hk
      go_wp2_with fail
      refine (HRk.out _).mono ?_
      rintro e w0 ⟨rfl, rfl⟩
      go_wp2_with fail
      refine (HCab.out _).mono ?_
      rintro e w7 ⟨rfl, hk⟩
      have HK7 := Lib.hid (HK6.out.trans hk)
      clear hk
      go_wp2_with fail
      refine (HCbc.out _).mono ?_
      rintro e w8 ⟨rfl, hk⟩
      have HK8 := Lib.hid (HK7.out.trans hk)
      clear hk
      go_wp2_with fail
      refine (HCac.out _).mono ?_
      rintro e w9 ⟨rfl, hk⟩
      have HK9 := Lib.hid (HK8.out.trans hk)
      clear hk
      go_wp2_with fail
      go_ret
      exact ⟨rfl, HK9.out⟩
  · obtain ⟨e2, e1⟩ := cgt h
    rw [e1] at HRf HCab
    rw [e2] at HCba
    have b1 : (u == v) = false := beq_eq_false_iff_ne.2 (by omega)
    have b2 : ((u : Int) == (v : Int)) = false := beq_eq_false_iff_ne.2 (by omega)
    have b3 : decide ((u : Int) < (v : Int)) = false := decide_eq_false (by omega)
    clear clt cgt ceq ceq2 e1 e2 pbc pac
    go_enter Try.func3, Try.ntmps3
    go_wp2_with fail
    refine (HLv.out _).mono ?_
    rintro e w1 ⟨rfl, hk⟩
    have HK1 := Lib.hid hk
    clear hk
    go_wp2_with fail
    refine (HRf.out _).mono ?_
    rintro e w0 ⟨rfl, rfl⟩
    go_wp2_with fail
    refine (HKa.out _).mono ?_
    rintro e w2 ⟨rfl, hk⟩
    have HK2 := Lib.hid (HK1.out.trans hk)
    clear hk
    go_wp2_with fail
    refine (HKb.out _).mono ?_
    rintro e w3 ⟨rfl, hk⟩
    have HK3 := Lib.hid (HK2.out.trans hk)
    clear hk
    go_wp2_with fail
    refine (HCab.out _).mono ?_
    rintro e w4 ⟨rfl, hk⟩
    have HK4 := Lib.hid (HK3.out.trans hk)
    clear hk
    go_wp2_with fail
    refine (HCba.out _).mono ?_
    rintro e w5 ⟨rfl, hk⟩
    have HK5 := Lib.hid (HK4.out.trans hk)
    clear hk
    go_wp2_with fail
    refine (HSa.out _).mono ?_
    rintro e w6 ⟨rfl, hk⟩
    have HK6 := Lib.hid (HK5.out.trans hk)
    clear hk
    go_wp2_with fail
    refine (HRk.out _).mono ?_
    rintro e w0 ⟨rfl, rfl⟩
    go_wp2_with fail
    refine (HCab.out _).mono ?_
    rintro e w7 ⟨rfl, hk⟩
    have HK7 := Lib.hid (HK6.out.trans hk)
    clear hk
    go_wp2_with fail
    go_ret
    exact ⟨rfl, HK7.out⟩

theorem nan_text {b : Nat} (h : nanW b = true) : textW b = 9221120237041090560 := by unfold textW; rw [if_pos h]
theorem ofkey_same {x c : Nat} (hx : Word64 x) (h : OfKey (keyW x) c) : (textW c == textW x) = true := by
  rw [beq_iff_eq]
  obtain ⟨hc, ⟨_, h2⟩ | ⟨h1, h2⟩⟩ := h
  · exact (text_key hc hx).1 h2
  · by_cases hn : nanW x = true
    · rw [nan_text h1, nan_text hn]
    · exact absurd rfl (h2 x hx (by simpa using hn))

set_option maxHeartbeats 1600000 in
set_option maxRecDepth 10000 in
theorem keys_walk (H : EdgeOk) (x k : Nat) (hx : Word64 x) (hk : Word64 k) (w : World) :
    Calls Try.prog 4 #[.float .f64 x, .int .u64 (k : Int)] w fun e w' => e = .returned (.bool true) ∧ Keeps NoBlock w w' := by
  have HLv := Lib.hid (fun w => lives6_true H w)
  have HKx := Lib.hid (fun w => H.key x w hx)
  have HOx := Lib.hid (fun w => H.of (keyW x) w (key_word hx))
  have HOk := Lib.hid (fun w => H.of k w hk)
  have HKe := Lib.hid H.key
  have HSm := Lib.hid (fun c h => ofkey_same (c := c) hx h)
  clear H hx hk
  go_enter Try.func4, Try.ntmps4
  go_wp2_with fail
  refine (HLv.out _).mono ?_
  rintro e w1 ⟨rfl, hk⟩
  have HK1 := Lib.hid hk
  clear hk
  go_wp2_with fail
  refine (HKx.out _).mono ?_
  rintro e w2 ⟨rfl, hk⟩
  have HK2 := Lib.hid (HK1.out.trans hk)
  clear hk
  go_wp2_with fail
  refine (HOx.out _).mono ?_
  rintro e w3 ⟨c, rfl, hof, hk⟩
  have HK3 := Lib.hid (HK2.out.trans hk)
  have HSa := Lib.hid (fun w => same_law c x w)
  rw [HSm.out c hof] at HSa
  clear hk hof
  go_wp2_with fail
  refine (HSa.out _).mono ?_
  rintro e w4 ⟨rfl, rfl⟩
  go_wp2_with fail
  refine (HOk.out _).mono ?_
  rintro e w5 ⟨c2, rfl, hof, hk⟩
  have HK5 := Lib.hid (HK3.out.trans hk)
  have HKc := Lib.hid (fun w => HKe.out c2 w hof.1)
  have HN := Lib.hid (fun w => isnan_go c2 w)
  have hcase : nanW c2 = true ∨ keyW c2 = k := by
    obtain ⟨_, ⟨_, h2⟩ | ⟨h1, _⟩⟩ := hof
    · exact .inr h2
    · exact .inl h1
  have HCs := Lib.hid hcase
  clear hk hof hcase
  go_wp2_with fail
  refine (HKc.out _).mono ?_
  rintro e w6 ⟨rfl, hk⟩
  have HK6 := Lib.hid (HK5.out.trans hk)
  clear hk HKc
  obtain ⟨j, hj⟩ : ∃ j, j = keyW c2 := ⟨_, rfl⟩
  rw [← hj] at HCs ⊢
  clear hj
  by_cases he : j = k
  · have hb : ((j : Int) == (k : Int)) = true := beq_iff_eq.2 (by omega)
    clear he
    go_wp2_with fail
    go_ret
    exact ⟨rfl, HK6.out⟩
  · have hb : ((j : Int) == (k : Int)) = false := beq_eq_false_iff_ne.2 (by omega)
    have hn := HCs.out.resolve_right he
    rw [hn] at HN
    clear he hn
    go_wp2_with fail
    refine (HN.out _).mono ?_
    rintro e w7 ⟨rfl, rfl⟩
    go_wp2_with fail
    go_ret
    exact ⟨rfl, HK6.out⟩
end Go.Proofs.Ytillkgbnokkacaa

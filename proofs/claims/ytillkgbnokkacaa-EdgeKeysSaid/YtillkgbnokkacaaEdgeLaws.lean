/-
  What the laws of package edge ask of its functions; their example; EdgeRatios, EdgeOrders, EdgeKeys.
-/
import Derived.Test.YtillkgbnokkacaaEdgeWhole
import Derived.Test.YtillkgbnokkacaaCurE
import Derived.Test.YtillkgbnokkacaaBufB
namespace Go.Proofs.Ytillkgbnokkacaa
open Go.RowKit

/-- Of: the number of a key, or any NaN. -/
def OfKey (k c : Nat) : Prop := Word64 c ∧ ((nanW c = false ∧ keyW c = k) ∨ (nanW c = true ∧ ∀ b, Word64 b → nanW b = false → keyW b ≠ k))
/-- The one furthest behind. -/
def MostOf (l : List Nat) (c : Nat) : Prop := Word64 c ∧ ((l = [] ∧ nanW c = true) ∨ ((∃ b ∈ l, textW b = textW c) ∧ ∀ b ∈ l, cmpW b c ≤ 0))

/-- What a reading of a number comes to: why it stops, how many bytes were read, the number. -/
structure ER where
  e : Int
  n : Nat
  x : Nat
/-- The number with which bytes begin. -/
def eget (xs : List Int) : ER :=
  if xs.length < 8 then ⟨2, 0, 0⟩
  else if textW (le (xs.take 8)).toNat = (le (xs.take 8)).toNat then ⟨0, 8, (le (xs.take 8)).toNat⟩ else ⟨4, 8, 0⟩
def EGetPost (k : Nat) (p : Option Addr) (N c a : Nat) (t : ER) (w : World) (e : Ending) (w' : World) : Prop :=
  Keeps (Just k) w w' ∧ ((t.e = 0 ∧ e = .returned (.float .f64 t.x) ∧ CurB w' k p N c (a + t.n) true 0) ∨ (t.e ≠ 0 ∧ e = .panicked (given k) ∧ CurB w' k p N c (a + t.n) true t.e))
def EPutOk (base g : Nat) (xs : List Int) (w : World) (e : Ending) (w' : World) : Prop :=
  e = .returned (.tuple #[]) ∧ BufAt w' base g xs ∧ Keeps (OnBuf base g) w w'

/-- A row of doubles that can be read. -/
def RowF (w : World) (p : Option Addr) (l : List Nat) : Prop := ∀ i, i < l.length → ∃ a, p = some a ∧ w.cell? (a.add i) = some (.float .f64 (l.getD i 0))
theorem RowF.keep {w w' : World} {p : Option Addr} {l : List Nat} (h : RowF w p l) {S : Nat → Prop} (hk : Keeps S w w') (hs : ∀ k, k < w.heap.size → ¬ S k) : RowF w' p l := fun i hi => by
  obtain ⟨a, rfl, hc⟩ := h i hi
  exact ⟨a, rfl, hk.cell hc (hs _ (ltOfCell hc))⟩

/-- The contracts of Key, Of, Compare, Same, Ratio, Clamp, Whole, Most, Put, Get. -/
structure EdgeOk : Prop where
  key : ∀ (b : Nat) (w : World), Word64 b → Calls Try.prog 10 #[.float .f64 b] w fun e w' => e = .returned (.int .u64 ((keyW b : Nat) : Int)) ∧ Keeps NoBlock w w'
  of : ∀ (k : Nat) (w : World), Word64 k → Calls Try.prog 15 #[.int .u64 (k : Int)] w fun e w' => ∃ c, e = .returned (.float .f64 c) ∧ OfKey k c ∧ Keeps NoBlock w w'
  compare : ∀ (a b : Nat) (w : World), Word64 a → Word64 b → Calls Try.prog 11 #[.float .f64 a, .float .f64 b] w fun e w' => e = .returned (.int .i64 (cmpW a b)) ∧ Keeps NoBlock w w'
  same : ∀ (a b : Nat) (w : World), Word64 a → Word64 b → Calls Try.prog 12 #[.float .f64 a, .float .f64 b] w fun e w' => e = .returned (.bool (keyW a == keyW b)) ∧ Keeps NoBlock w w'
  ratio : ∀ (m n : Nat) (w : World), Word64 m → Word64 n → Calls Try.prog 27 #[.int .u64 (m : Int), .int .u64 (n : Int)] w fun e w' => e = .returned (.float .f64 (ratioW m n)) ∧ Keeps NoBlock w w'
  clamp : ∀ (x l h : Nat) (w : World), Word64 x → Word64 l → Word64 h → Calls Try.prog 29 #[.float .f64 x, .float .f64 l, .float .f64 h] w fun e w' => ∃ c, e = .returned (.float .f64 c) ∧ Word64 c ∧ textW c = textW (clampW x l h) ∧ Keeps NoBlock w w'
  whole : ∀ (x m : Nat) (w : World), Word64 x → Word64 m → Calls Try.prog 31 #[.float .f64 x, .int .u64 (m : Int)] w fun e w' => e = .returned (.int .u64 ((wholeW x m : Nat) : Int)) ∧ Keeps NoBlock w w'
  most : ∀ (p : Option Addr) (n c : Nat) (l : List Nat) (w : World), n = l.length → n ≤ c → c ≤ 9223372036854775807 → RowF w p l → (∀ b ∈ l, Word64 b) → Calls Try.prog 33 #[.slice p n c] w fun e w' => ∃ b, e = .returned (.float .f64 b) ∧ MostOf l b ∧ Keeps NoBlock w w'
  put : ∀ (base g : Nat) (xs : List Int) (b : Nat) (w : World), BufAt w base g xs → base ≤ w.heap.size → xs.length + 8 ≤ 140737488355328 → Word64 b → Calls Try.prog 17 #[.pointer (some ⟨g, 0, none⟩), .float .f64 b] w (EPutOk base g (xs ++ digits (textW b : Int) 8) w)
  get : ∀ (k : Nat) (p : Option Addr) (xs : List Int) (N c a : Nat) (w : World), N = xs.length → CurB w k p N c a true 0 → Bytes8 w p xs → Octets xs → (0 < xs.length → ∀ q, p = some q → q.block ≠ k) → a ≤ N → N ≤ c → c ≤ 9223372036854775807 →
    Calls Try.prog 23 #[.pointer (some ⟨k, 0, none⟩)] w (EGetPost k p N c a (eget (xs.drop a)) w)

set_option maxHeartbeats 800000 in
set_option maxRecDepth 10000 in
theorem copysign_go (w : World) : Calls Try.prog 34 #[.float .f64 0, .float .f64 13830554455654793216] w fun e w' => e = .returned (.float .f64 9223372036854775808) ∧ w = w' := by
  have h0 := fun w => run_tobits 0 w
  have h1 := fun w => run_tobits 13830554455654793216 w
  have h2 := fun w => run_frombits 9223372036854775808 w
  rw [show (9223372036854775808 : Int).toNat = 9223372036854775808 from rfl] at h2
  have b1 : bits BinOp.andNot IntKind.u64 0 9223372036854775808 = 0 := by decide +kernel
  have b2 : bits BinOp.and IntKind.u64 13830554455654793216 9223372036854775808 = 9223372036854775808 := by decide +kernel
  have b3 : bits BinOp.or IntKind.u64 0 9223372036854775808 = 9223372036854775808 := by decide +kernel
  go_enter Try.func34, Try.ntmps34
  go_wp2_with fail
  go_ret
  exact ⟨rfl, rfl⟩

theorem cmp_zeros : cmpW 9223372036854775808 0 = -1 := by decide
theorem ratio_1_0 : ratioW 1 0 = 9218868437227405312 := by decide
theorem whole_29 : wholeW 4613712638259704627 10 = 2 := by
  have hb : rB = 4503599627370496 := rfl
  have hE : eU = 1074 := rfl
  obtain ⟨r1, n1⟩ := rung_small (w := 4613712638259704627) (by decide)
  obtain ⟨t, ht⟩ : ∃ t : Nat, t = 1023 := ⟨_, rfl⟩
  have hv : val 4613712638259704627 = 6530219459687219 * 2 ^ t := by
    have h1 := val_at t 6530219459687219 (by rw [hb]; decide) (by rw [hb]; decide)
    rw [show t * rB + 6530219459687219 = 4613712638259704627 by rw [ht, hb]] at h1
    exact h1
  have he : 2 ^ eU = 2 ^ 51 * 2 ^ t := by rw [← Nat.pow_add, show eU = 51 + t by omega]
  have pt := Nat.two_pow_pos t
  have hs : sval 4613712638259704627 = ((6530219459687219 * 2 ^ t : Nat) : Int) := by
    unfold sval
    rw [n1, r1, if_neg (by simp), hv]
  have hn : nanW 4613712638259704627 = false := by decide
  unfold wholeW
  rw [hs, hv, he]
  rw [if_neg (by
    rw [hn]
    intro h
    rcases h with h | h
    · exact absurd h (by simp)
    · have h2 : 6530219459687219 * 2 ^ t < 2 ^ 51 * 2 ^ t := by omega
      have := Nat.lt_of_mul_lt_mul_right h2
      exact absurd this (by decide)), if_neg (by
    intro h
    rw [← Nat.mul_assoc] at h
    have := Nat.le_of_mul_le_mul_right h pt
    exact absurd this (by decide)), Nat.mul_div_mul_right _ _ pt]
  decide

set_option maxHeartbeats 800000 in
set_option maxRecDepth 10000 in
theorem lives6_true (H : EdgeOk) (w : World) : Calls Try.prog 8 #[] w fun e w' => e = .returned (.bool true) ∧ Keeps NoBlock w w' := by
  have HC := Lib.hid (fun w => H.compare 9223372036854775808 0 w (by show _ < _; decide) (by show _ < _; decide))
  have HR := Lib.hid (fun w => H.ratio 1 0 w (by show _ < _; decide) (by show _ < _; decide))
  have HW := Lib.hid (fun w => H.whole 4613712638259704627 10 w (by show _ < _; decide) (by show _ < _; decide))
  have HS := Lib.hid copysign_go
  have HI := Lib.hid (fun w => isinf_pos 9218868437227405312 (by show _ < _; decide) w)
  rw [cmp_zeros] at HC
  rw [ratio_1_0] at HR
  rw [whole_29] at HW
  clear H
  go_enter Try.func8, Try.ntmps8
  go_wp2_with fail
  refine (HS.out _).mono ?_
  rintro e w1 ⟨rfl, rfl⟩
  go_wp2_with fail
  refine (HC.out _).mono ?_
  rintro e w2 ⟨rfl, hk⟩
  have HK2 := Lib.hid hk
  clear hk
  go_wp2_with fail
  refine (HR.out _).mono ?_
  rintro e w3 ⟨rfl, hk⟩
  have HK3 := Lib.hid (HK2.out.trans hk)
  clear hk
  go_wp2_with fail
  refine (HI.out _).mono ?_
  rintro e w4 ⟨rfl, rfl⟩
  go_wp2_with fail
  refine (HW.out _).mono ?_
  rintro e w5 ⟨rfl, hk⟩
  have HK5 := Lib.hid (HK3.out.trans hk)
  clear hk
  go_wp2_with fail
  go_ret
  exact ⟨rfl, HK5.out⟩

theorem ratio_le {m n : Nat} (hm : Word64 m) (hn : Word64 n) : ratioW m n ≤ rInf := by
  have hb : rB = 4503599627370496 := rfl
  have hi : rInf = 9218868437227405312 := rfl
  unfold Word64 at hm hn
  by_cases h0 : n = 0
  · unfold ratioW
    rw [if_pos h0]
    split <;> omega
  · rcases Nat.eq_zero_or_pos m with h | h
    · have := ratio_div (m := m) (n := n) (by omega) (by omega) (by omega)
      rw [h, flo_zero, div_nought (flo_ge (by omega)) (flo_le (by omega))] at this
      have := Option.some.inj this
      rw [h]
      omega
    · obtain ⟨R, hR, hR2, _⟩ := ratio_word h (by omega) (show 0 < n by omega) (by omega)
      have := ratio_div (m := m) (n := n) (by omega) (by omega) (by omega)
      rw [hR] at this
      have := Option.some.inj this
      omega
theorem ratio_zero {n : Nat} (hn : Word64 n) : ratioW 0 n = 0 := by
  unfold Word64 at hn
  by_cases h0 : n = 0
  · unfold ratioW
    rw [if_pos h0]
    rfl
  · have := ratio_div (m := 0) (n := n) (by omega) (by omega) (by omega)
    rw [flo_zero, div_nought (flo_ge (by omega)) (flo_le (by omega))] at this
    exact (Option.some.inj this).symm
theorem val_flo_mono {m n : Nat} (h : m ≤ n) : val (flo m) ≤ val (flo n) := val_le (flo_mono h)
theorem ratio_up {m k n : Nat} (hk : Word64 k) (hn : Word64 n) (h : m ≤ k) : ratioW m n ≤ ratioW k n := by
  have hi : rInf = 9218868437227405312 := rfl
  unfold Word64 at hk hn
  by_cases h0 : n = 0
  · unfold ratioW
    rw [if_pos h0, if_pos h0]
    split <;> split <;> omega
  · rcases Nat.eq_zero_or_pos m with h1 | h1
    · rw [h1, ratio_zero hn]
      exact Nat.zero_le _
    · obtain ⟨R, hR, _, hR3⟩ := ratio_word h1 (by omega) (show 0 < n by omega) (by omega)
      obtain ⟨S, hS, _, hS3⟩ := ratio_word (show 0 < k by omega) (by omega) (show 0 < n by omega) (by omega)
      have e1 := ratio_div (m := m) (n := n) (by omega) (by omega) (by omega)
      have e2 := ratio_div (m := k) (n := n) (by omega) (by omega) (by omega)
      rw [hR] at e1
      rw [hS] at e2
      rw [← Option.some.inj e1, ← Option.some.inj e2]
      exact ratio_mono hR3 hS3 (val_flo_mono h)
theorem ratio_unit {m n : Nat} (hn : Word64 n) (h : m ≤ n) : ratioW m n ≤ 4607182418800017408 := by
  have hb : 1023 * rB = 4607182418800017408 := by decide
  have hi : rInf = 9218868437227405312 := rfl
  have hn2 : n < 18446744073709551616 := hn
  rcases Nat.eq_zero_or_pos m with h1 | h1
  · rw [h1, ratio_zero hn]
    exact Nat.zero_le _
  · obtain ⟨R, hR, _, hR3⟩ := ratio_word h1 (by omega) (show 0 < n by omega) (by omega)
    have e1 := ratio_div (m := m) (n := n) (by omega) (by omega) (by omega)
    rw [hR] at e1
    rw [← Option.some.inj e1, ← hb]
    have hpos : 0 < val (flo n) := by
      have h2 := flo_ge (show 0 < n by omega)
      have := val_lt (show 0 < flo n by have : 0 < rB := by decide
                                        omega)
      omega
    exact ratio_one hpos hR3 (val_flo_mono h)
end Go.Proofs.Ytillkgbnokkacaa

/-
  The law EdgeCounts: its walk.
-/
import Derived.Test.YtillkgbnokkacaaEdgeWalks
namespace Go.Proofs.Ytillkgbnokkacaa
open Go.RowKit

/-- Is one of the first k the same? -/
def foundW (l : List Nat) (b : Nat) (k : Nat) : Bool := (l.take k).any fun y => textW y == textW b
theorem foundW_succ {l : List Nat} {b k : Nat} (hk : k < l.length) : foundW l b (k + 1) = (foundW l b k || textW (l.getD k 0) == textW b) := by
  unfold foundW
  rw [List.take_succ_eq_append_getElem hk, List.any_append]
  simp [hk]
theorem foundW_all {l : List Nat} {b : Nat} (h : ∃ y ∈ l, textW y = textW b) : foundW l b l.length = true := by
  unfold foundW
  rw [List.take_length, List.any_eq_true]
  obtain ⟨y, hy, e⟩ := h
  exact ⟨y, hy, beq_iff_eq.2 e⟩

set_option maxHeartbeats 4000000 in
set_option maxRecDepth 10000 in
theorem counts_small (H : EdgeOk) (m n k x lo hi : Nat) (hm : Word64 m) (hn : Word64 n) (hk : Word64 k) (hx : Word64 x) (hlo : Word64 lo) (hhi : Word64 hi) (p : Option Addr) (N c : Nat) (l : List Nat) (hN : N = l.length) (hc : N ≤ c) (hc' : c ≤ 9223372036854775807) (w : World) (hl : RowF w p l) (hw : ∀ b ∈ l, Word64 b) (hg : N ≤ 30) :
    Calls Try.prog 6 #[.int .u64 (m : Int), .int .u64 (n : Int), .int .u64 (k : Int), .float .f64 x, .float .f64 lo, .float .f64 hi, .slice p N c] w fun e w' => e = .returned (.bool true) ∧ Keeps NoBlock w w' := by
  have HLv := Lib.hid (fun w => lives6_true H w)
  have HR := Lib.hid (fun w => H.ratio m n w hm hn)
  have HR2 := Lib.hid (fun w => ratio_ref m n hm hn w)
  have HCl := Lib.hid (fun w => H.clamp x lo hi w hx hlo hhi)
  have HCl2 := Lib.hid (fun w => clamp_ref x lo hi hx hlo hhi w)
  have HW := Lib.hid (fun w => H.whole x k w hx hk)
  have HW2 := Lib.hid (fun w => whole_ref x k hx w)
  have HM := Lib.hid (fun w hl => H.most p N c l w hN hc hc' hl hw)
  have HS := Lib.hid (fun a b w => same_law a b w)
  have HS1 := Lib.hid (fun w => same_law (ratioW m n) (ratioW m n) w)
  rw [beq_self_eq_true] at HS1
  obtain ⟨r, hr⟩ : ∃ r, r = ratioW m n := ⟨_, rfl⟩
  obtain ⟨cl, hcl⟩ : ∃ cl, cl = clampW x lo hi := ⟨_, rfl⟩
  obtain ⟨u, hu⟩ : ∃ u, u = wholeW x k := ⟨_, rfl⟩
  rw [← hr] at HR HR2 HS1
  rw [← hcl] at HCl HCl2
  rw [← hu] at HW HW2
  have HL := Lib.hid hl
  have HNL := Lib.hid hN
  have HWD := Lib.hid hw
  have hdg : decide ((30 : Int) < (N : Int)) = false := decide_eq_false (by omega)
  clear H hr hcl hu hm hn hk hx hlo hhi hl hw hN
  go_enter Try.func6, Try.ntmps6
  go_wp2_with fail
  refine (HLv.out _).mono ?_
  rintro e w1 ⟨rfl, hk⟩
  have HK1 := Lib.hid hk
  clear hk
  go_wp2_with fail
  refine (HR.out _).mono ?_
  rintro e w2 ⟨rfl, hk⟩
  have HK2 := Lib.hid (HK1.out.trans hk)
  clear hk
  go_wp2_with fail
  refine (HR2.out _).mono ?_
  rintro e w0 ⟨rfl, rfl⟩
  go_wp2_with fail
  refine (HS1.out _).mono ?_
  rintro e w0 ⟨rfl, rfl⟩
  go_wp2_with fail
  refine (HCl.out _).mono ?_
  rintro e w3 ⟨c3, rfl, _, ht, hk⟩
  have HK3 := Lib.hid (HK2.out.trans hk)
  have HS3 := Lib.hid (fun w => same_law c3 cl w)
  rw [show (textW c3 == textW cl) = true from beq_iff_eq.2 ht] at HS3
  clear hk ht
  go_wp2_with fail
  refine (HCl2.out _).mono ?_
  rintro e w0 ⟨rfl, rfl⟩
  go_wp2_with fail
  refine (HS3.out _).mono ?_
  rintro e w0 ⟨rfl, rfl⟩
  go_wp2_with fail
  refine (HW.out _).mono ?_
  rintro e w4 ⟨rfl, hk⟩
  have HK4 := Lib.hid (HK3.out.trans hk)
  clear hk
  go_wp2_with fail
  refine (HW2.out _).mono ?_
  rintro e w0 ⟨rfl, rfl⟩
  go_wp2_with fail
  refine (HM.out _ (HL.out.keep HK4.out (fun _ _ h => h))).mono ?_
  rintro e w5 ⟨b, rfl, hmo, hk⟩
  have HK5 := Lib.hid (HK4.out.trans hk)
  have HMO := Lib.hid hmo
  clear hk hmo
  by_cases h0 : N = 0
  · have hnan : nanW b = true := by
      have hl0 : l = [] := List.length_eq_zero_iff.1 (by rw [← HNL.out]; exact h0)
      obtain ⟨_, ⟨_, h⟩ | ⟨⟨y, hy, _⟩, _⟩⟩ := HMO.out
      · exact h
      · rw [hl0] at hy; simp at hy
    have HN := Lib.hid (fun w => isnan_go b w)
    rw [hnan] at HN
    subst h0
    clear hnan
    go_wp2_with fail
    refine (HN.out _).mono ?_
    rintro e w0 ⟨rfl, rfl⟩
    go_wp2_with fail
    go_loopw [16, 67] (fun s i wr => s = .bool true ∧ i = .int .i64 0 ∧ Keeps NoBlock w wr) (fun _ _ _ => 0)
    case atStart => exact ⟨rfl, rfl, HK5.out⟩
    case round =>
      obtain ⟨rfl, rfl, hkk⟩ := hrel
      have HKK := Lib.hid hkk
      clear hkk
      go_wp2_with fail
      go_ret
      exact ⟨rfl, HKK.out⟩
  · have hdn : decide ((N : Int) = 0) = false := decide_eq_false (by omega)
    have hwb : Word64 b := HMO.out.1
    have hall : ∀ y ∈ l, cmpW y b ≤ 0 := by
      obtain ⟨_, ⟨h, _⟩ | ⟨_, h⟩⟩ := HMO.out
      · rw [h] at HNL; exact absurd HNL.out h0
      · exact h
    have hsome : ∃ y ∈ l, textW y = textW b := by
      obtain ⟨_, ⟨h, _⟩ | ⟨h, _⟩⟩ := HMO.out
      · rw [h] at HNL; exact absurd HNL.out h0
      · exact h
    have HA := Lib.hid hall
    have HSM := Lib.hid (foundW_all hsome)
    have HCP := Lib.hid (fun (y : Nat) (hy : y ∈ l) w => compare_ref y b (HWD.out y hy) hwb w)
    clear hall hsome
    go_wp2_with fail
    go_loopw [16, 67] (fun s i wr => ∃ j : Nat, j ≤ N ∧ i = .int .i64 (j : Int) ∧ Hid (s = .bool (foundW l b j)) ∧ Keeps NoBlock w wr) (fun _ i _ => N - (intOf i).toNat)
    case atStart => exact ⟨0, Nat.zero_le _, rfl, Lib.hid rfl, HK5.out⟩
    case round =>
      obtain ⟨j, hj, rfl, hs, hkk⟩ := hrel
      have hs := hs.out
      subst hs
      have HKK := Lib.hid hkk
      clear hkk
      by_cases hlt : j < N
      · have hdj : decide ((j : Int) < (N : Int)) = true := decide_eq_true (by omega)
        have hjl : j < l.length := by rw [← HNL.out]; exact hlt
        obtain ⟨a, rfl, hcell⟩ := (HL.out.keep HKK.out (fun _ _ h => h)) j hjl
        have hmem : l.getD j 0 ∈ l := by simp [hjl]
        have HC := Lib.hid (HCP.out _ hmem)
        have hle := HA.out _ hmem
        have HSU := Lib.hid (foundW_succ (b := b) hjl)
        obtain ⟨y, hy⟩ : ∃ y, y = l.getD j 0 := ⟨_, rfl⟩
        rw [← hy] at hcell HC hle HSU
        obtain ⟨z, hz⟩ : ∃ z, z = cmpW y b := ⟨_, rfl⟩
        rw [← hz] at HC hle
        have hdz : decide (0 < z) = false := decide_eq_false (by omega)
        clear hy hz hmem hjl
        have HSa := Lib.hid (fun w => HS.out y b w)
        obtain ⟨f, hf⟩ : ∃ f, f = foundW l b j := ⟨_, rfl⟩
        rw [← hf] at HSU ⊢
        obtain ⟨g, hg2⟩ : ∃ g, g = (textW y == textW b) := ⟨_, rfl⟩
        rw [← hg2] at HSU HSa
        clear hf hg2
        go_wp2_with fail
        refine (HC.out _).mono ?_
        rintro e w0 ⟨rfl, rfl⟩
        cases f with
        | true =>
          go_wp2_with fail
          go_roundw
          case rel => exact ⟨j + 1, by omega, by go_num, Lib.hid (by rw [HSU.out]; rfl), HKK.out⟩
          case measure => simp [intOf]; omega
        | false =>
          go_wp2_with fail
          refine (HSa.out _).mono ?_
          rintro e w0 ⟨rfl, rfl⟩
          go_wp2_with fail
          go_roundw
          case rel => exact ⟨j + 1, by omega, by go_num, Lib.hid (by rw [HSU.out]; rfl), HKK.out⟩
          case measure => simp [intOf]; omega
      · have hdj : decide ((j : Int) < (N : Int)) = false := decide_eq_false (by omega)
        have hjN : j = l.length := by rw [← HNL.out]; omega
        have e := HSM.out
        rw [← hjN] at e
        rw [e]
        clear e hjN
        go_wp2_with fail
        go_ret
        exact ⟨rfl, HKK.out⟩

set_option maxRecDepth 10000 in
theorem counts_walk (H : EdgeOk) (m n k x lo hi : Nat) (hm : Word64 m) (hn : Word64 n) (hk : Word64 k) (hx : Word64 x) (hlo : Word64 lo) (hhi : Word64 hi) (p : Option Addr) (N c : Nat) (l : List Nat) (hN : N = l.length) (hc : N ≤ c) (hc' : c ≤ 9223372036854775807) (w : World) (hl : RowF w p l) (hw : ∀ b ∈ l, Word64 b) :
    Calls Try.prog 6 #[.int .u64 (m : Int), .int .u64 (n : Int), .int .u64 (k : Int), .float .f64 x, .float .f64 lo, .float .f64 hi, .slice p N c] w fun e w' => e = .returned (.bool true) ∧ Keeps NoBlock w w' := by
  by_cases hg : N ≤ 30
  · exact counts_small H m n k x lo hi hm hn hk hx hlo hhi p N c l hN hc hc' w hl hw hg
  · have hdn : decide ((30 : Int) < (N : Int)) = true := decide_eq_true (by omega)
    have HLv := Lib.hid (fun w => lives6_true H w)
    clear H hm hn hk hx hlo hhi hl hw hN
    go_enter Try.func6, Try.ntmps6
    go_wp2_with fail
    refine (HLv.out _).mono ?_
    rintro e w1 ⟨rfl, hk⟩
    have HK := Lib.hid hk
    clear hk
    go_wp2_with fail
    refine (HLv.out _).mono ?_
    rintro e w2 ⟨rfl, hk2⟩
    have HK2 := Lib.hid (HK.out.trans hk2)
    clear hk2
    go_wp2_with fail
    go_ret
    exact ⟨rfl, HK2.out⟩
end Go.Proofs.Ytillkgbnokkacaa

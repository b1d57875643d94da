/-
  Contracts of the document's turn, mix, into, of 64 bits.
-/
import Derived.Test.YtbchiccgkhnkaaaRef1
import Derived.Test.YtbchiccgkhnkaaaThinRef
import Derived.Test.YtbchiccgkhnkaaaWideNum
import Derived.Deep.RegionHeld3
namespace Go.Proofs.Ytbchiccgkhnkaaa
open Go.RowKit

set_option maxHeartbeats 800000 in
set_option maxRecDepth 10000 in
theorem wturn_ref (x y : Int) (n : Nat) (hn : n < 64) (hy : y = n) (h : U64 x) (w : World) :
    Calls Try.prog 58 #[.int .u64 x, .int .i64 y] w fun e w' => e = .returned (.int .u64 (wrot n x)) ∧ w = w' := by
  have HH := Lib.hid h
  have hx0 := h.1
  have hx1 := h.2
  have HZ := Lib.hid (wrot_zero h)
  clear h
  subst hy
  go_enter Try.func58, Try.ntmps58
  go_wp2
  go_loop [0, 7] (fun r i => ∃ k : Nat, k ≤ n ∧ i = .int .i64 (k : Int) ∧ r = .int .u64 (wrot k x)) (fun _ i => ((n : Int) - intOf i).toNat)
  case atStart => exact ⟨0, Nat.zero_le _, rfl, by rw [HZ.out]⟩
  case round =>
    obtain ⟨k, hk, rfl, rfl⟩ := hrel
    by_cases hlt : k < n
    · have hb := wrot_bound (n := k) (by omega) HH.out
      have hb0 := hb.1
      have hb1 := hb.2
      have hs := wrot_step (n := k) (by omega) HH.out
      have hsb := wrot_bound (n := k + 1) (by omega) HH.out
      rw [← hs] at hsb
      have hmod := Int.emod_eq_of_lt hsb.1 hsb.2
      have HS := Lib.hid hs
      have HM := Lib.hid hmod
      clear hb hs hsb hmod
      obtain ⟨r, hr⟩ : ∃ r, r = wrot k x := ⟨_, rfl⟩
      rw [← hr] at hb0 hb1 HS HM ⊢
      clear hr
      go_wp2
      go_round
      case rel =>
        refine ⟨k + 1, by omega, rfl, congrArg (Value.int IntKind.u64) ?_⟩
        rw [IntKind.wrap_u64, IntKind.wrap_u64, HM.out, HS.out]
      case measure => simp [intOf]; omega
    · obtain rfl : k = n := by omega
      go_wp2
      go_ret
      exact ⟨rfl, rfl⟩

set_option maxHeartbeats 800000 in
set_option maxRecDepth 10000 in
theorem wmix_ref (x y : Int) (n : Nat) (hn : n < 64) (hy : y = n) (h : U64 x) (w : World) :
    Calls Try.prog 59 #[.int .u64 x, .int .i64 y] w fun e w' => e = .returned (.int .u64 (down n x)) ∧ w = w' := by
  have HH := Lib.hid h
  have hx0 := h.1
  have hx1 := h.2
  clear h
  subst hy
  go_enter Try.func59, Try.ntmps59
  go_wp2
  go_loop [5, 8] (fun r i => ∃ k : Nat, k ≤ n ∧ i = .int .i64 (k : Int) ∧ r = .int .u64 (x / 2 ^ k)) (fun _ i => ((n : Int) - intOf i).toNat)
  case atStart => exact ⟨0, Nat.zero_le _, rfl, by simp⟩
  case round =>
    obtain ⟨k, hk, rfl, rfl⟩ := hrel
    have HD := Lib.hid (wdown_of n HH.out)
    have HS := Lib.hid (half_half x k)
    have hb0 : 0 ≤ x / 2 ^ k := Int.ediv_nonneg hx0 (Int.le_of_lt (Int.pow_pos (by decide)))
    have hb1 : x / 2 ^ k < 18446744073709551616 := Int.lt_of_le_of_lt (Int.ediv_le_self _ hx0) hx1
    obtain ⟨r, hr⟩ : ∃ r, r = x / 2 ^ k := ⟨_, rfl⟩
    rw [← hr] at hb0 hb1 HS ⊢
    by_cases hlt : k < n
    · clear hr
      go_wp2
      go_round
      case rel =>
        refine ⟨k + 1, by omega, rfl, congrArg (Value.int IntKind.u64) ?_⟩
        rw [← HS.out]
      case measure => simp [intOf]; omega
    · obtain rfl : k = n := by omega
      rw [← hr] at HD
      clear hr
      go_wp2
      go_ret
      rw [HD.out]
      exact ⟨rfl, rfl⟩

set_option maxHeartbeats 800000 in
set_option maxRecDepth 10000 in
theorem winto_ref (x y : Int) (h : U64 x) (hy : U64 y) (w : World) :
    Calls Try.prog 56 #[.int .u64 x, .int .u64 y] w fun e w' => e = .returned (.int .u64 (win x y)) ∧ w = w' := by
  have hm := wmod_bound (x + IntKind.u64.wrap (y * 14029467366897019727))
  have hr := wrot_bound (n := 31) (by decide) hm
  have HT := Lib.hid (wturn_ref _ 31 31 (by decide) rfl hm)
  have h0 := h.1; have h1 := h.2; have h2 := hy.1; have h3 := hy.2; have h4 := hr.1; have h5 := hr.2
  have he : win x y = IntKind.u64.wrap (wrot 31 (IntKind.u64.wrap (x + IntKind.u64.wrap (y * 14029467366897019727))) * 11400714785074694791) := rfl
  have HE := Lib.hid he
  clear h hy hm hr he
  rw [HE.out]
  obtain ⟨z, hz⟩ : ∃ z, z = wrot 31 (IntKind.u64.wrap (x + IntKind.u64.wrap (y * 14029467366897019727))) := ⟨_, rfl⟩
  rw [← hz] at h4 h5 HT ⊢
  clear hz HE
  go_enter Try.func56, Try.ntmps56
  go_wp2_with fail
  refine (HT.out _).mono ?_
  rintro e w' ⟨rfl, rfl⟩
  go_wp2_with fail
  go_ret
  exact ⟨rfl, rfl⟩

/-- What Value reads of eight, of four. -/
theorem four8_value (ys : List Int) (k : Nat) : le ((ys.drop (8 * k)).take 8) = four8 ys k := rfl
theorem four4_value (ys : List Int) (k : Nat) : le ((ys.drop (4 * k)).take 4) = four4 ys k := rfl
theorem wtaken_drop (v : Nat → Int) (xs : List Int) (k : Nat) : wtaken (wnums v xs k) (xs.drop (32 * k)) 4 = wnums v xs (k + 1) := rfl
end Go.Proofs.Ytbchiccgkhnkaaa

/-
  Contracts of the document's turn, mix, into.
-/
import Derived.Test.YtdkpkpmgiglnhaaRef1
import Derived.Test.YtdkpkpmgiglnhaaThinNum
import Derived.Deep.RegionHeld3
namespace Go.Proofs.Ytdkpkpmgiglnhaa
open Go.RowKit

set_option maxHeartbeats 800000 in
set_option maxRecDepth 10000 in
theorem turn_ref (x y : Int) (n : Nat) (hn : n < 32) (hy : y = n) (h : U32 x) (w : World) :
    Calls Try.prog 44 #[.int .u64 x, .int .i64 y] w fun e w' => e = .returned (.int .u64 (rot n x)) ∧ w = w' := by
  have HH := Lib.hid h
  have hx0 := h.1
  have hx1 := h.2
  have HZ := Lib.hid (rot_zero h)
  clear h
  subst hy
  go_enter Try.func44, Try.ntmps44
  go_wp2
  go_loop [0, 6] (fun r i => ∃ k : Nat, k ≤ n ∧ i = .int .i64 (k : Int) ∧ r = .int .u64 (rot k x)) (fun _ i => ((n : Int) - intOf i).toNat)
  case atStart => exact ⟨0, Nat.zero_le _, rfl, by rw [HZ.out]⟩
  case round =>
    obtain ⟨k, hk, rfl, rfl⟩ := hrel
    by_cases hlt : k < n
    · have hb := rot_bound (n := k) (by omega) HH.out
      have hb0 := hb.1
      have hb1 := hb.2
      have HS := Lib.hid (rot_step (n := k) (by omega) HH.out)
      clear hb
      obtain ⟨r, hr⟩ : ∃ r, r = rot k x := ⟨_, rfl⟩
      rw [← hr] at hb0 hb1 HS ⊢
      clear hr
      go_wp2
      go_round
      case rel =>
        refine ⟨k + 1, by omega, rfl, congrArg (Value.int IntKind.u64) ?_⟩
        rw [← HS.out]
      case measure => simp [intOf]; omega
    · obtain rfl : k = n := by omega
      go_wp2
      go_ret
      exact ⟨rfl, rfl⟩

theorem half_half (x : Int) (k : Nat) : x / 2 ^ k / 2 = x / 2 ^ (k + 1) := by
  have hp : (0 : Int) < 2 ^ k := Int.pow_pos (by decide)
  rw [Int.pow_succ, Int.ediv_ediv, if_neg (fun h => absurd h.1 (by omega)), Int.sub_zero]

set_option maxHeartbeats 800000 in
set_option maxRecDepth 10000 in
theorem mix_ref (x y : Int) (n : Nat) (hn : n < 32) (hy : y = n) (h : U32 x) (w : World) :
    Calls Try.prog 45 #[.int .u64 x, .int .i64 y] w fun e w' => e = .returned (.int .u64 (down n x)) ∧ w = w' := by
  have HH := Lib.hid h
  have hx0 := h.1
  have hx1 := h.2
  clear h
  subst hy
  go_enter Try.func45, Try.ntmps45
  go_wp2
  go_loop [5, 8] (fun r i => ∃ k : Nat, k ≤ n ∧ i = .int .i64 (k : Int) ∧ r = .int .u64 (x / 2 ^ k)) (fun _ i => ((n : Int) - intOf i).toNat)
  case atStart => exact ⟨0, Nat.zero_le _, rfl, by simp⟩
  case round =>
    obtain ⟨k, hk, rfl, rfl⟩ := hrel
    have HD := Lib.hid (down_of64 n HH.out)
    have HS := Lib.hid (half_half x k)
    have hb0 : 0 ≤ x / 2 ^ k := Int.ediv_nonneg hx0 (Int.le_of_lt (Int.pow_pos (by decide)))
    have hb1 : x / 2 ^ k < 4294967296 := Int.lt_of_le_of_lt (Int.ediv_le_self _ hx0) hx1
    obtain ⟨r, hr⟩ : ∃ r, r = x / 2 ^ k := ⟨_, rfl⟩
    rw [← hr] at hb0 hb1 HS ⊢
    by_cases hlt : k < n
    · clear hr
      go_wp2
      go_round
      case rel =>
        refine ⟨k + 1, by omega, rfl, congrArg (Value.int IntKind.u64) ?_⟩
        rw [← HS.out]
      case measure => simp [intOf]; omega
    · obtain rfl : k = n := by omega
      rw [← hr] at HD
      clear hr
      go_wp2
      go_ret
      rw [HD.out]
      exact ⟨rfl, rfl⟩

set_option maxHeartbeats 800000 in
set_option maxRecDepth 10000 in
theorem into_ref (x y : Int) (h : U32 x) (hy : U32 y) (w : World) :
    Calls Try.prog 43 #[.int .u64 x, .int .u64 y] w fun e w' => e = .returned (.int .u64 (tin x y)) ∧ w = w' := by
  have hm := mod_bound (x + y * 2246822519)
  have hr := rot_bound (n := 13) (by decide) hm
  have HT := Lib.hid (turn_ref _ 13 13 (by decide) rfl hm)
  have h0 := h.1; have h1 := h.2; have h2 := hy.1; have h3 := hy.2; have h4 := hr.1; have h5 := hr.2
  have he : tin x y = rot 13 ((x + y * 2246822519) % 4294967296) * 2654435761 % 4294967296 := rfl
  have HE := Lib.hid he
  clear h hy hm hr he
  rw [HE.out]
  obtain ⟨z, hz⟩ : ∃ z, z = rot 13 ((x + y * 2246822519) % 4294967296) := ⟨_, rfl⟩
  rw [← hz] at h4 h5 HT ⊢
  clear hz
  go_enter Try.func43, Try.ntmps43
  go_wp2_with (first | (refine (HT.out _).mono ?_; rintro e w' ⟨rfl, rfl⟩) | fail)
  go_ret
  exact ⟨rfl, rfl⟩

/-- Four numbers in a row, as cells. -/
def row4 (kd : IntKind) (v : Nat → Int) : Array Value := #[.int kd (v 0), .int kd (v 1), .int kd (v 2), .int kd (v 3)]
theorem row4_get {kd : IntKind} {v : Nat → Int} {k : Nat} (hk : k < 4) : (row4 kd v)[k]? = some (.int kd (v k)) := by
  have : k = 0 ∨ k = 1 ∨ k = 2 ∨ k = 3 := by omega
  rcases this with rfl | rfl | rfl | rfl <;> rfl
theorem row4_set {kd : IntKind} {v : Nat → Int} {k : Nat} (hk : k < 4) (x : Int) : (row4 kd v).setIfInBounds k (.int kd x) = row4 kd (upd v k x) := by
  have : k = 0 ∨ k = 1 ∨ k = 2 ∨ k = 3 := by omega
  rcases this with rfl | rfl | rfl | rfl <;> rfl
end Go.Proofs.Ytdkpkpmgiglnhaa

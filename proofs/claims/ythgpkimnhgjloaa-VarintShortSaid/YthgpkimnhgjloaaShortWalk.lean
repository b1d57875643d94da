/-
  The law VarintShort: its walk.
-/
import Derived.Test.YthgpkimnhgjloaaLives2
import Derived.Test.YthgpkimnhgjloaaVarLen
namespace Go.Proofs.Ythgpkimnhgjloaa
open Go.RowKit

theorem ret_true {b : Bool} (h : b = true) : Ending.returned (.bool b) = .returned (.bool true) := by rw [h]

set_option maxHeartbeats 2000000 in
set_option maxRecDepth 10000 in
theorem short_walk (x y : Nat) (w : World) (hx : x < 18446744073709551616) (hy : y < 18446744073709551616) :
    Calls Try.prog 6 #[.int .u64 (x : Int), .int .u64 (y : Int)] w fun e w' => e = .returned (.bool true) ∧ Keeps NoBlock w w' := by
  have hten := vnum_ten hx
  have hpos := vnum_pos x
  have hlt := vnum_len_lt x
  have hge := vnum_len_ge x
  have hmono := @vnum_mono x y
  have HSx := Lib.hid (fun w => size_any x (x : Int) rfl w hx)
  have HSy := Lib.hid (fun w => size_any y (y : Int) rfl w hy)
  obtain ⟨n, hn⟩ : ∃ n, n = (vnum x).length := ⟨_, rfl⟩
  obtain ⟨m, hm⟩ : ∃ m, m = (vnum y).length := ⟨_, rfl⟩
  rw [← hn] at hten hpos hlt hge hmono HSx
  rw [← hm] at hmono HSy
  clear hn hm hx hy
  have f1 : (x : Int) / 2 ^ (7 * n) = 0 := Int.ediv_eq_zero_of_lt (by omega) (by exact_mod_cast hlt)
  have f2 : 1 < n → ¬ (x : Int) / 2 ^ (7 * (n - 1)) = 0 := fun h1 h2 => by
    have h3 : x / 2 ^ (7 * (n - 1)) = 0 := by exact_mod_cast h2
    have h4 := (Nat.le_div_iff_mul_le (Nat.two_pow_pos (7 * (n - 1)))).2 (by rw [Nat.one_mul]; exact hge h1)
    omega
  have HMono := Lib.hid hmono
  clear hlt hge hmono
  by_cases h1 : 1 < n
  all_goals
    by_cases hxy : x ≤ y
    all_goals
      first | (have f3 := f2 h1; have f4 : ((x : Int) / 2 ^ (7 * (n - 1)) == 0) = false := by simpa using f3) | skip
      clear f2
      go_enter Try.func6, Try.ntmps6
      go_wp2_with fail
      refine (lives2_true _).mono ?_
      rintro e w1 ⟨rfl, hk⟩
      have HK := Lib.hid hk
      clear hk
      go_wp2_with fail
      refine (HSx.out _).mono ?_
      rintro e w2 ⟨rfl, rfl⟩
      clear HSx
      go_wp2_with (go_at_call 11; refine (HSy.out _).mono ?_; rintro e w3 ⟨rfl, rfl⟩)
      all_goals
        go_ret
        refine ⟨ret_true ?_, HK.out⟩
        first | rfl | exact decide_eq_true (HMono.out hxy)
end Go.Proofs.Ythgpkimnhgjloaa

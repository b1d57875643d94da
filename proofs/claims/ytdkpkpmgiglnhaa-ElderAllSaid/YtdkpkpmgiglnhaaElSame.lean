/-
  Two rows of the same pairs are told to be the same.
-/
import Derived.Test.YtdkpkpmgiglnhaaElPuWalk
import Derived.Deep.QuietTactic
namespace Go.Proofs.Ytdkpkpmgiglnhaa
open Go.RowKit

theorem prNe (p : Pr) (w : World) : (binOp .neq 36 (.agg #[.string (strOfNums p.key), .string (strOfNums p.val)]) (.agg #[.string (strOfNums p.key), .string (strOfNums p.val)])).run Try.prog w = .ok (.bool false) w := by
  simp [go_sem]

set_option maxHeartbeats 4000000 in
set_option maxRecDepth 10000 in
theorem same10_go (p q : Option Addr) (n c d : Nat) (l : List Pr) (w : World) (hn : n = l.length) (hn9 : n ≤ 9223372036854775807) (hp : PrsAt w p l) (hq : PrsAt w q l) :
    Calls Try.prog 19 #[.slice p n c, .slice q n d] w fun e w' => e = .returned (.bool true) ∧ Keeps NoBlock w w' := by
  have HP := Lib.hid hp
  have HQ := Lib.hid hq
  have HN := Lib.hid hn
  have hnn : ((n : Int) != (n : Int)) = false := by simp
  clear hp hq hn
  go_enter Try.func19, Try.ntmps19
  go_wp2_with fail
  go_loopw [13] (fun i wr => ∃ j : Nat, j ≤ n ∧ i = .int .i64 (j : Int) ∧ Hid (Keeps NoBlock w wr)) (fun i _ => n - (intOf i).toNat)
  case atStart => exact ⟨0, Nat.zero_le _, rfl, Lib.hid (Keeps.refl _ _)⟩
  case round =>
    obtain ⟨j, hj, rfl, HK⟩ := hrel
    by_cases hlt : j < n
    · have hdj : decide (j < n) = true := decide_eq_true hlt
      have hjl : j < l.length := by rw [← HN.out]; exact hlt
      obtain ⟨a, rfl, a0, a1⟩ := (HP.out.keep HK.out (fun _ _ h => h)) j hjl
      obtain ⟨b, rfl, b0, b1⟩ := (HQ.out.keep HK.out (fun _ _ h => h)) j hjl
      obtain ⟨r, hr⟩ : ∃ r, r = l.getD j Pr.none := ⟨_, rfl⟩
      rw [← hr] at a0 a1 b0 b1
      have hne := prNe r
      clear hr hjl
      go_wp2_with fail
      go_quiet (fail)
      go_wp2_with fail
      go_roundw
      case rel => exact ⟨j + 1, by omega, by go_num, Lib.hid (by first | exact HK.out.drewN _ | exact HK.out)⟩
      case measure => simp [intOf]; omega
    · have hdj : decide (j < n) = false := decide_eq_false hlt
      go_wp2_with fail
      go_ret
      exact ⟨rfl, HK.out⟩
end Go.Proofs.Ytdkpkpmgiglnhaa

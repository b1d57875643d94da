/-
  FenByIn; BufK; FenOwn.
-/
import Derived.Test.YtlejobomjgccnaaGreatM02
import Derived.Test.YtlejobomjgccnaaGreatM03
import Derived.Test.YtlejobomjgccnaaGreatM05
import Derived.Test.YtlejobomjgccnaaGreatM06
import Derived.Test.YtlejobomjgccnaaGreatM09
import Derived.Test.YtlejobomjgccnaaGreatM10
import Derived.Test.YtlejobomjgccnaaGreatM16
namespace Go.Proofs.YtlejobomjgccnaaGreat
open Go.RowKit

end Go.Proofs.YtlejobomjgccnaaGreat

namespace Go.Proofs.YtlejobomjgccnaaGreat
open Go.RowKit

def InLoopK (base g : Nat) (xs : List Int) (x : Int) (w : World) (k : Nat) (wr : World) : Prop := BufAt wr base g (xs ++ digits x k) ∧ Keeps (OnBuf base g) w wr

set_option maxHeartbeats 800000 in
theorem bufNumberK (base g : Nat) (xs : List Int) (x : Int) (n : Nat) (z : Int) (hz : z = n) (w : World) (h : BufAt w base g xs) (hs : base ≤ w.heap.size) (hx : xs.length + n ≤ 140737488355328) (hn : n ≤ 8) (_x0 : 0 ≤ x) (x1 : x < 18446744073709551616) :
    Calls Tryz.prog 109 #[.pointer (some ⟨g, 0, none⟩), .int .u64 x, .int .i64 z] w (BufOkK base g (xs ++ digits x n) w) := by
  subst hz
  have H := Lib.hid h; have HX := Lib.hid hx; have HX1 := Lib.hid x1
  clear h hx x1
  go_enter Tryz.func109, Tryz.ntmps109
  go_wp2_with fail
  go_loopw [9] (fun i wr => ∃ k : Nat, k ≤ n ∧ i = .int .i64 k ∧ InLoopK base g xs x w k wr) (fun i _ => n - (intOf i).toNat)
  case atStart => exact ⟨0, Nat.zero_le _, rfl, by simpa [digits] using H.out, Keeps.refl _ _⟩
  case round =>
    obtain ⟨k, hk, rfl, hin⟩ := hrel
    have HI := Lib.hid hin
    clear hin
    by_cases hlt : k < n
    · go_wp2_with fail
      refine (bufByteK base g (xs ++ digits x k) _ _ HI.out.1 (by have := HI.out.2.size; omega) (by have := HX.out; simp [digits_length]; omega)).mono ?_
      rintro e w2 ⟨rfl, hbuf, hbel⟩
      have HB := Lib.hid hbuf; have HL := Lib.hid (HI.out.2.trans hbel)
      clear hbuf hbel
      go_wp2_with fail
      go_roundw
      case rel =>
        refine ⟨k + 1, by omega, by go_num, ?_, HL.out⟩
        have := HB.out
        rw [List.append_assoc] at this
        exact this
      case measure => simp [intOf]; omega
    · go_wp2_with fail
      go_ret
      obtain rfl : k = n := by omega
      exact ⟨rfl, HI.out.1, HI.out.2⟩

theorem bufFourK (base g : Nat) (xs : List Int) (x : Int) (w : World) (h : BufAt w base g xs) (hs : base ≤ w.heap.size) (hx : xs.length + 4 ≤ 140737488355328) (x0 : 0 ≤ x) (x1 : x < 4294967296) :
    Calls Tryz.prog 91 #[.pointer (some ⟨g, 0, none⟩), .int .u32 x] w (BufOkK base g (xs ++ digits x 4) w) := by
  have H := Lib.hid h
  clear h
  go_enter Tryz.func91, Tryz.ntmps91
  go_wp2_with fail
  refine (bufNumberK base g xs _ 4 _ (by rfl) _ H.out hs hx (by omega) (by omega) (by omega)).mono ?_
  rintro e w2 ⟨rfl, hbuf, hbel⟩
  have HB := Lib.hid hbuf; have HL := Lib.hid hbel
  clear hbuf hbel
  go_wp2_with fail
  go_ret
  exact ⟨rfl, HB.out, HL.out⟩

end Go.Proofs.YtlejobomjgccnaaGreat

namespace Go.Proofs.YtlejobomjgccnaaGreat
open Go.RowKit

set_option maxHeartbeats 1000000 in
theorem fcount_own (n : Int) (w : World) (h0 : -1000000000 ≤ n) (h1 : n ≤ 1000000000) :
    Calls Tryz.prog 118 #[.int .i64 n] w fun e w' => e = .returned (.int .i64 (countF n : Int)) ∧ Keeps NoBlock w w' := by
  by_cases hz : n ≤ 0
  · have hd : decide (n ≤ 0) = true := decide_eq_true hz
    have e : countF n = 0 := by unfold countF; omega
    rw [e]
    clear e
    go_enter Tryz.func118, Tryz.ntmps118
    go_wp2_with fail
    go_ret
    exact ⟨rfl, Keeps.refl _ _⟩
  · obtain ⟨m, rfl⟩ : ∃ m : Nat, n = (m : Int) + 1 := ⟨n.toNat - 1, by omega⟩
    have hd : decide ((m : Int) + 1 ≤ 0) = false := decide_eq_false hz
    have e : countF ((m : Int) + 1) = m / 16 + 1 := by unfold countF; omega
    have hq : ((m : Int)).tdiv 16 = ((m / 16 : Nat) : Int) := by rw [Int.tdiv_eq_ediv_of_nonneg (by omega)]; omega
    have hq2 : (m : Int) / 16 = ((m / 16 : Nat) : Int) := by omega
    obtain ⟨k, hk⟩ : ∃ k, k = m / 16 := ⟨_, rfl⟩
    rw [← hk] at hq hq2 e
    have hk9 : k ≤ 1000000000 := by omega
    rw [e]
    have hs : (m : Int) + 1 - 1 = (m : Int) := by omega
    clear hk e
    go_enter Tryz.func118, Tryz.ntmps118
    go_wp2_with fail
    go_ret
    exact ⟨by go_num, Keeps.refl _ _⟩

theorem textF_takeO {l : List Nat} {j : Nat} (hj : j < l.length) : textF (l.take (j + 1)) = textF (l.take j) ++ digits ((l.getD j 0 : Nat) : Int) 8 := by
  have e : l.take (j + 1) = l.take j ++ [l.getD j 0] := by rw [List.take_succ_eq_append_getElem hj]; simp [hj]
  rw [e, textF_snoc]

end Go.Proofs.YtlejobomjgccnaaGreat

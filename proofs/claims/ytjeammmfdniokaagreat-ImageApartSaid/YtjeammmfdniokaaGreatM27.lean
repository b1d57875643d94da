/-
  FrGetH; FrLaws; FrOpen; RecRead; FrRead; FrGetOwn.
-/
import Derived.Test.YtjeammmfdniokaaGreatM05
import Derived.Test.YtjeammmfdniokaaGreatM06
import Derived.Test.YtjeammmfdniokaaGreatM11
import Derived.Test.YtjeammmfdniokaaGreatM14
import Derived.Test.YtjeammmfdniokaaGreatM22
import Derived.Test.YtjeammmfdniokaaGreatM25
import Derived.Test.YtjeammmfdniokaaGreatM26
namespace Go.Proofs.YtjeammmfdniokaaGreat
open Go.RowKit

end Go.Proofs.YtjeammmfdniokaaGreat

namespace Go.Proofs.YtjeammmfdniokaaGreat
open Go.RowKit

/-- A record of no more bytes than frames are made of here. -/
structure Rec.Little (r : Rec) : Prop where
  fine : r.Fine
  key : r.key.length ≤ 100000
  val : r.val.length ≤ 100000
end Go.Proofs.YtjeammmfdniokaaGreat

namespace Go.Proofs.YtjeammmfdniokaaGreat
open Go.RowKit

end Go.Proofs.YtjeammmfdniokaaGreat

namespace Go.Proofs.YtjeammmfdniokaaGreat
open Go.RowKit

end Go.Proofs.YtjeammmfdniokaaGreat

namespace Go.Proofs.YtjeammmfdniokaaGreat
open Go.RowKit

/-- What a reading of a head comes to: why it stops, where, and what it has read. -/
structure HR where
  y : Int
  a : Nat
  e : Int
  s : Int
  n : Int
section
variable {w0 : World} {A B C : Nat} {p : Option Addr} {xs : List Int} {N c a : Nat} {y x s n : Int} {W : World}
end

end Go.Proofs.YtjeammmfdniokaaGreat

namespace Go.Proofs.YtjeammmfdniokaaGreat
open Go.RowKit

/-- The numbers that a head's reading leaves are bytes and words. -/
structure HR.Fine (t : HR) : Prop where
  e : 0 ≤ t.e ∧ t.e < 256
  s : 0 ≤ t.s ∧ t.s < 18446744073709551616
  n : 0 ≤ t.n ∧ t.n < 18446744073709551616
set_option maxHeartbeats 1000000 in
set_option maxRecDepth 10000 in
theorem hcheck_own (e s n : Nat) (w : World) : Calls Tryz.prog 71 #[confV e s, .int .u32 (n : Int)] w fun r w' => r = .returned (.int .i64 (if mayHead e s n = true then 0 else 1)) ∧ Keeps NoBlock w w' := by
  have HR := Lib.hid (Whole.new w 27 (confCells e s))
  have HK := Lib.hid ((Keeps.refl NoBlock w).alloc (.cells (confCells e s) 27))
  have H1 := Lib.hid (fun w => check_conf e s w)
  have hdef : mayHead e s n = (mayC e s && decide (n < s)) := rfl
  rw [hdef]
  cases hm : mayC e s
  · rw [checkC_not hm] at H1
    rw [Bool.false_and, if_neg (by decide)]
    clear hdef hm
    unfold confV at H1 ⊢
    go_enter Tryz.func71, Tryz.ntmps71
    go_wp2_with fail
    refine (H1.out _).mono ?_
    rintro r w1 ⟨rfl, hk⟩
    have HK := Lib.hid (HK.out.trans hk)
    clear hk
    go_wp2_with fail
    go_ret
    exact ⟨rfl, HK.out⟩
  · rw [checkC_may hm] at H1
    rw [Bool.true_and]
    clear hdef hm
    unfold confV at H1 ⊢
    by_cases hns : n < s
    · have d1 : decide ((s : Int) ≤ (n : Int)) = false := decide_eq_false (by omega)
      have d2 : decide (s ≤ n) = false := decide_eq_false (by omega)
      rw [if_pos (decide_eq_true hns)]
      have HN := Lib.hid hns
      clear hns
      go_enter Tryz.func71, Tryz.ntmps71
      go_wp2_with fail
      refine (H1.out _).mono ?_
      rintro r w1 ⟨rfl, hk⟩
      have c1 := (HR.out.keep hk (fun h => h)).cell 1 rfl
      simp only [confCells, List.getElem_toArray, List.getElem_cons_zero, List.getElem_cons_succ] at c1
      have HK := Lib.hid (HK.out.trans hk)
      clear hk
      have hns : ¬ (s : Int) ≤ (n : Int) := by have := HN.out; omega
      go_wp2_with fail
      go_ret
      exact ⟨rfl, HK.out⟩
    · have d1 : decide ((s : Int) ≤ (n : Int)) = true := decide_eq_true (by omega)
      have d2 : decide (s ≤ n) = true := decide_eq_true (by omega)
      rw [if_neg (by simpa using hns)]
      have HN := Lib.hid hns
      clear hns
      go_enter Tryz.func71, Tryz.ntmps71
      go_wp2_with fail
      refine (H1.out _).mono ?_
      rintro r w1 ⟨rfl, hk⟩
      have c1 := (HR.out.keep hk (fun h => h)).cell 1 rfl
      simp only [confCells, List.getElem_toArray, List.getElem_cons_zero, List.getElem_cons_succ] at c1
      have HK := Lib.hid (HK.out.trans hk)
      clear hk
      have hns : (s : Int) ≤ (n : Int) := by have := HN.out; omega
      go_wp2_with fail
      go_ret
      exact ⟨rfl, HK.out⟩
end Go.Proofs.YtjeammmfdniokaaGreat

/-
  The law ThinChecks: its walk.
-/
import Derived.Test.YtldphcjogfgflaaThinLives
namespace Go.Proofs.Ytldphcjogfgflaa
open Go.RowKit

theorem xxh_bound (s : Int) (xs : List Int) : U32 (xxh s xs) := tend_bound _

set_option maxHeartbeats 2000000 in
set_option maxRecDepth 10000 in
theorem checks_walk (s o : Int) (hs : U32 s) (ho : U32 o) (p : Option Addr) (N c : Nat) (xs : List Int) (w : World) (hx : N = xs.length) (hb : Bytes8 w p xs) (hoc : Octets xs) (hc : N ≤ c) (hc' : c ≤ 9223372036854775807) :
    Calls Try.prog 4 #[.int .u32 s, .slice p N c, .int .u32 o] w fun e w' => e = .returned (.bool true) ∧ Keeps NoBlock w w' := by
  by_cases hg : N ≤ 300
  · have HS := Lib.hid (fun w hb => sum_thin s hs p N c xs hx hc hc' hoc w hb)
    have HC := Lib.hid (fun z w hb => check_thin s hs p N c xs z hx hc hc' hoc w hb)
    have hz := xxh_bound s xs
    obtain ⟨z, hzd⟩ : ∃ z, z = xxh s xs := ⟨_, rfl⟩
    rw [← hzd] at HS HC hz
    have HB := Lib.hid hb
    have z0 := hz.1
    have z1 := hz.2
    have o0 := ho.1
    have o1 := ho.2
    have e1 : (z == z) = true := by simp
    have e2 : (z == (z + 1) % 4294967296) = false := by
      rw [beq_eq_false_iff_ne]
      omega
    clear hzd hz hb hx hoc hs ho
    by_cases hoz : z = o
    · subst hoz
      go_enter Try.func4, Try.ntmps4
      go_wp2_with fail
      refine (lives3_true _).mono ?_
      rintro e w1 ⟨rfl, hk⟩
      have HK1 := Lib.hid hk
      clear hk
      go_wp2_with fail
      refine (HS.out _ (HB.out.keep HK1.out (fun _ _ h => h))).mono ?_
      rintro e w2 ⟨rfl, hk⟩
      have HK2 := Lib.hid (HK1.out.trans hk)
      clear hk
      go_wp2_with fail
      refine (HC.out z _ (HB.out.keep HK2.out (fun _ _ h => h))).mono ?_
      rintro e w3 ⟨rfl, hk⟩
      have HK3 := Lib.hid (HK2.out.trans hk)
      clear hk
      rw [e1]
      go_wp2_with fail
      refine (HC.out z _ (HB.out.keep HK3.out (fun _ _ h => h))).mono ?_
      rintro e w4 ⟨rfl, hk⟩
      have HK4 := Lib.hid (HK3.out.trans hk)
      clear hk
      rw [e1]
      go_wp2_with fail
      refine (HC.out _ _ (HB.out.keep HK4.out (fun _ _ h => h))).mono ?_
      rintro e w5 ⟨rfl, hk⟩
      have HK5 := Lib.hid (HK4.out.trans hk)
      clear hk
      rw [e2]
      go_wp2_with fail
      go_ret
      exact ⟨rfl, HK5.out⟩
    · have e3 : (z == o) = false := by rw [beq_eq_false_iff_ne]; exact hoz
      have e4 : (o == z) = false := by rw [beq_eq_false_iff_ne]; exact fun h => hoz h.symm
      have hoz' : ¬ o = z := fun h => hoz h.symm
      go_enter Try.func4, Try.ntmps4
      go_wp2_with fail
      refine (lives3_true _).mono ?_
      rintro e w1 ⟨rfl, hk⟩
      have HK1 := Lib.hid hk
      clear hk
      go_wp2_with fail
      refine (HS.out _ (HB.out.keep HK1.out (fun _ _ h => h))).mono ?_
      rintro e w2 ⟨rfl, hk⟩
      have HK2 := Lib.hid (HK1.out.trans hk)
      clear hk
      go_wp2_with fail
      refine (HC.out z _ (HB.out.keep HK2.out (fun _ _ h => h))).mono ?_
      rintro e w3 ⟨rfl, hk⟩
      have HK3 := Lib.hid (HK2.out.trans hk)
      clear hk
      rw [e1]
      go_wp2_with fail
      refine (HC.out o _ (HB.out.keep HK3.out (fun _ _ h => h))).mono ?_
      rintro e w4 ⟨rfl, hk⟩
      have HK4 := Lib.hid (HK3.out.trans hk)
      clear hk
      rw [e3]
      go_wp2_with fail
      refine (HC.out _ _ (HB.out.keep HK4.out (fun _ _ h => h))).mono ?_
      rintro e w5 ⟨rfl, hk⟩
      have HK5 := Lib.hid (HK4.out.trans hk)
      clear hk
      rw [e2]
      go_wp2_with fail
      go_ret
      exact ⟨rfl, HK5.out⟩
  · clear hx hb hoc
    go_enter Try.func4, Try.ntmps4
    go_wp2_with fail
    refine (lives3_true _).mono ?_
    rintro e w1 ⟨rfl, hk⟩
    have HK := Lib.hid hk
    clear hk
    go_wp2_with fail
    refine (lives3_true _).mono ?_
    rintro e w2 ⟨rfl, hk2⟩
    have HK2 := Lib.hid (HK.out.trans hk2)
    clear hk2
    go_wp2_with fail
    go_ret
    exact ⟨rfl, HK2.out⟩
end Go.Proofs.Ytldphcjogfgflaa

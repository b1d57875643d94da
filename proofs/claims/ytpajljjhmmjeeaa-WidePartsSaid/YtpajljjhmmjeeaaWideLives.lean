/-
  The example of the laws of package wide, 'lives': it is true.
-/
import Derived.Test.YtpajljjhmmjeeaaWideAll
import Derived.Test.YtpajljjhmmjeeaaThinLives
import Derived.Lib.SlBytesConst
import Derived.LaidEqlPtr
namespace Go.Proofs.Ytpajljjhmmjeeaa
open Go.RowKit

theorem wxxh_nil : wxxh 0 [] = 17241709254077376921 := by
  unfold wxxh
  rw [weights_end (by decide), wfours_end (by decide)]
  decide +kernel
theorem wxxh_abc : wxxh 0 [97, 98, 99] = 4952883123889572249 := by
  unfold wxxh
  rw [weights_end (by decide), wfours_end (by decide)]
  decide +kernel
theorem abc_octets : Octets [97, 98, 99] := fun b hb => by simp at hb; omega
theorem abc_new (w : World) (t : TypeId) (f : Nat × Nat) : Bytes8 (w.alloc (.cells #[.int .u8 97, .int .u8 98, .int .u8 99] t f)) (some ⟨w.heap.size, 0, none⟩) [97, 98, 99] := fun _ => by
  refine ⟨_, rfl, fun i hi => ?_⟩
  have : i = 0 ∨ i = 1 ∨ i = 2 := by simp at hi; omega
  rcases this with rfl | rfl | rfl <;> (rw [addZero]; exact cell_new _ _ _ _ _ rfl)

theorem infoState : ∃ j, Try.prog.info? 43 = some j := by
  have h : (Try.prog.info? 43).isSome = true := by kernel_rfl
  exact Option.isSome_iff_exists.1 h

set_option maxHeartbeats 2000000 in
set_option maxRecDepth 10000 in
theorem lives4_true (w : World) : Calls Try.prog 6 #[] w fun e w' => e = .returned (.bool true) ∧ Keeps NoBlock w w' := by
  have h00 : U64 0 := ⟨by decide, by decide⟩
  have HN := Lib.hid (new_wide 0 h00 w)
  have H0 := Lib.hid (fun w => sum_wide 0 h00 none 0 0 [] rfl (Nat.le_refl _) (by decide) (fun _ => ⟨rfl, rfl⟩) (fun b hb => by simp at hb) (by decide) w (Bytes8.nil _ _))
  have H1 := Lib.hid (fun w (p : Option Addr) (hp : p = none → 3 = 0 ∧ 3 = 0) (hb : Bytes8 w p [97, 98, 99]) => sum_wide 0 h00 p 3 3 [97, 98, 99] rfl (Nat.le_refl _) (by decide) hp abc_octets (by decide) w hb)
  have HWr := Lib.hid (fun w1 (p : Option Addr) (hp : p = none → 3 = 0 ∧ 3 = 0) (hh : Holds w1 w.heap.size 0 []) (hb : Bytes8 w1 p [97, 98, 99]) (hne : ∀ a, p = some a → a.block ≠ w.heap.size) => write_wide w.heap.size 0 [] p 3 3 [97, 98, 99] w1 hh h00 (fun b hb => by simp at hb) rfl (Nat.le_refl _) (by decide) hp abc_octets hb (fun _ => hne) (by decide))
  have HSu := Lib.hid (fun w1 (hh : Holds w1 w.heap.size 0 [97, 98, 99]) => ssum_wide w.heap.size 0 [97, 98, 99] w1 hh h00 abc_octets (by decide))
  rw [wxxh_nil] at H0
  rw [wxxh_abc] at H1 HSu
  have kc := fun (w : World) (C : Array Value) (n c : Nat) => Lib.run_convert_bytes_const (P := Try.prog) w 23 5 C n c Try.underlying23 Try.underlying5
  clear h00
  go_enter Try.func6, Try.ntmps6
  go_wp2_with fail
  refine HN.out.mono ?_
  rintro e w1 ⟨rfl, hh1, hk1⟩
  have HK1 := Lib.hid hk1
  have HH1 := Lib.hid hh1
  clear hk1 hh1
  go_wp2_with fail
  refine (H0.out _).mono ?_
  rintro e w2 ⟨rfl, hk2⟩
  have hlt1 : w.heap.size < w1.heap.size := by
    obtain ⟨_, h, _⟩ := HH1.out
    exact h.2.2.lt
  have HL1 := Lib.hid hlt1
  have HK2 := Lib.hid (HK1.out.trans hk2)
  have HH2 := Lib.hid (HH1.out.keep hk2 (fun h => h))
  have HL2 := Lib.hid (Nat.lt_of_lt_of_le hlt1 hk2.size)
  clear hk2 hlt1
  go_wp2_with fail
  refine (H1.out _ _ (fun h => by simp at h) (abc_new _ _ _)).mono ?_
  rintro e w3 ⟨rfl, hk3⟩
  have HK3 := Lib.hid ((HK2.out.alloc _).trans hk3)
  have HH3 := Lib.hid (HH2.out.keep (((Keeps.refl NoBlock w2).alloc _).trans hk3) (fun h => h))
  have HL3 := Lib.hid (Nat.lt_of_lt_of_le HL2.out (((Keeps.refl NoBlock w2).alloc _).trans hk3).size)
  clear hk3
  go_wp2_with fail
  refine (HWr.out _ _ (fun h => by simp at h) (HH3.out.keep ((Keeps.refl NoBlock w3).alloc _) (fun h => h)) (abc_new _ _ _) (fun a ha h => ?_)).mono ?_
  · obtain rfl := Option.some.inj ha
    have : w3.heap.size = w.heap.size := h
    have := HL3.out
    omega
  rintro e w4 ⟨rfl, hh4, hk4⟩
  have HH4 : Hid (Holds w4 w.heap.size 0 [97, 98, 99]) := Lib.hid hh4
  have HK4 := Lib.hid ((HK3.out.alloc _).then hk4 (fun i hi h => by unfold Just at h; omega))
  clear hh4 hk4
  have heq : (binOp .eql 29 (.pointer (some ⟨w.heap.size, 0, none⟩)) (.pointer (some ⟨w.heap.size, 0, none⟩))).run Try.prog w4 = .ok (.bool true) w4 := run_eql_ptr_same w4 ⟨w.heap.size, 0, none⟩ Try.underlying29 infoState.choose_spec
  go_wp2_with fail
  refine (HSu.out _ HH4.out).mono ?_
  rintro e w5 ⟨rfl, hk5⟩
  have HK5 := Lib.hid (HK4.out.trans hk5)
  clear hk5
  go_wp2_with fail
  go_ret
  exact ⟨rfl, HK5.out⟩
end Go.Proofs.Ytpajljjhmmjeeaa

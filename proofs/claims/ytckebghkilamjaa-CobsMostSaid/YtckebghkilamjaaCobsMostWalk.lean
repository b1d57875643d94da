/-
  The law CobsMost: its walk.
-/
import Derived.Test.YtckebghkilamjaaCobsLaws
namespace Go.Proofs.Ytckebghkilamjaa
open Go.RowKit

set_option maxHeartbeats 4000000 in
set_option maxRecDepth 10000 in
theorem most_walk (H : CobsOk) (z y : Int) (w : World) (hz : 0 ≤ z ∧ z < 65536) (hy : 0 ≤ y ∧ y < 65536) :
    Calls Try.prog 5 #[.int .u16 z, .int .u16 y] w fun e w' => e = .returned (.bool true) ∧ Keeps NoBlock w w' := by
  obtain ⟨hz0, hz1⟩ := hz
  obtain ⟨hy0, hy1⟩ := hy
  obtain ⟨L, hL⟩ : ∃ L : Nat, z % 1100 = (L : Int) := ⟨(z % 1100).toNat, by omega⟩
  have HLv := Lib.hid (fun w => lives5_true H w)
  have HM0 := Lib.hid (fun w => H.most 0 w (by decide) (by decide))
  have HM1 := Lib.hid (fun w => H.most (-5) w (by decide) (by decide))
  have HM2 := Lib.hid (fun w => H.most 254 w (by decide) (by decide))
  have HM3 := Lib.hid (fun w => H.most 255 w (by decide) (by decide))
  rw [show ((mostOf (0 : Int).toNat : Nat) : Int) = 1 by decide] at HM0
  rw [show ((mostOf (-5 : Int).toNat : Nat) : Int) = 1 by decide] at HM1
  rw [show ((mostOf (254 : Int).toNat : Nat) : Int) = 255 by decide] at HM2
  rw [show ((mostOf (255 : Int).toNat : Nat) : Int) = 257 by decide] at HM3
  have HLo := Lib.hid (fun w => long_any none 0 0 [] z L w rfl (Bytes8.nil _ _) (Nat.le_refl _) (by decide) (fun _ => ⟨rfl, rfl⟩) (by decide) hz0 hL)
  have hL1 : L < 1100 := by omega
  have hX : (0 + L) = ([] ++ solidN L).length := by simp [solidN_length]
  have HX := Lib.hid hX
  have HSt := Lib.hid (fun (q : Option Addr) (d : Nat) w (hd : L ≤ d) (hd' : d ≤ 9223372036854775807) (hq : q = none → L = 0 ∧ d = 0) hb => H.stuff q L d (solidN L) w (solidN_length L).symm hd hd' hq (solidN_solid L).octets (by omega) hb)
  have HMo := Lib.hid (fun w => H.most (L : Int) w (by omega) (by omega))
  rw [Int.toNat_natCast] at HMo
  have HEq := Lib.hid (stuff_most_solid (solidN_solid L))
  rw [solidN_length] at HEq
  obtain ⟨k, hk⟩ : ∃ k : Nat, 0 < L → y % (L : Int) = (k : Int) ∧ k < L := by
    by_cases h : 0 < L
    · have h1 := Int.emod_nonneg y (show (L : Int) ≠ 0 by omega)
      have h2 := Int.emod_lt_of_pos y (show (0 : Int) < (L : Int) by omega)
      exact ⟨(y % (L : Int)).toNat, fun _ => by omega⟩
    · exact ⟨0, fun h' => absurd h' h⟩
  have HK := Lib.hid hk
  have hso : Octets ((solidN L).set k 0) := fun b hb => by
    rcases List.mem_or_eq_of_mem_set hb with h | h
    · exact (solidN_solid L).octets b h
    · omega
  have hsl : ((solidN L).set k 0).length = L := by rw [List.length_set, solidN_length]
  have hle := stuff_most ((solidN L).set k 0)
  rw [hsl] at hle
  have HLe := Lib.hid hle
  have HS2 := Lib.hid (fun (q : Option Addr) (d : Nat) w (hd : L ≤ d) (hd' : d ≤ 9223372036854775807) (hq : q = none → L = 0 ∧ d = 0) hb => H.stuff q L d ((solidN L).set k 0) w hsl.symm hd hd' hq hso (by omega) hb)
  have HSl := Lib.hid hsl
  clear H hk hso hsl hle hX
  go_enter Try.func5, Try.ntmps5
  go_wp2_with fail
  refine (HLv.out _).mono ?_
  rintro e w1 ⟨rfl, hk⟩
  have HK1 := Lib.hid hk
  clear hk
  go_wp2_with fail
  refine (HM0.out _).mono ?_
  rintro e w2 ⟨rfl, hk⟩
  have HK2 := Lib.hid (HK1.out.trans hk)
  clear hk
  go_wp2_with fail
  refine (HM1.out _).mono ?_
  rintro e w3 ⟨rfl, hk⟩
  have HK3 := Lib.hid (HK2.out.trans hk)
  clear hk
  go_wp2_with fail
  refine (HM2.out _).mono ?_
  rintro e w4 ⟨rfl, hk⟩
  have HK4 := Lib.hid (HK3.out.trans hk)
  clear hk
  go_wp2_with fail
  refine (HM3.out _).mono ?_
  rintro e w5 ⟨rfl, hk⟩
  have HK5 := Lib.hid (HK4.out.trans hk)
  clear hk
  go_wp2_with fail
  refine (HLo.out _).mono ?_
  rintro e w6 ⟨v, rfl, hcop⟩
  obtain ⟨q, d, rfl, hd, hd', hb, hq0⟩ := hcop.read2 HX.out
  rw [Nat.zero_add] at hd hq0 ⊢
  have hk6 := Keeps.ofBelow (S := NoBlock) hcop.2
  have HK6 := Lib.hid (HK5.out.trans hk6)
  have HCop := Lib.hid hcop
  clear hcop hk6
  have HB6 := Lib.hid hb
  rw [List.nil_append] at HB6
  clear hb
  go_wp2_with fail
  refine (HSt.out _ _ _ hd hd' hq0 HB6.out).mono ?_
  rintro e w7 ⟨v, rfl, q7, m7, d7, rfl, hm7, _, _, _, _, hk⟩
  have HK7 := Lib.hid (HK6.out.trans hk)
  have HK67 := Lib.hid hk
  rw [HEq.out] at hm7
  subst hm7
  clear hk
  go_wp2_with fail
  refine (HMo.out _).mono ?_
  rintro e w8 ⟨rfl, hk⟩
  have HK8 := Lib.hid (HK7.out.trans hk)
  have HK68 := Lib.hid (HK67.out.trans hk)
  clear hk
  by_cases h0 : L = 0
  · have hL0 : ((L : Int) == 0) = true := by rw [beq_iff_eq]; omega
    go_wp2_with fail
    go_ret
    exact ⟨rfl, HK8.out⟩
  · have hL0 : ((L : Int) == 0) = false := by rw [beq_eq_false_iff_ne]; omega
    obtain ⟨g, d', cur, he, _, _, hg, hwh, hcur⟩ := HCop.out.whole HX.out (by omega)
    simp only [Value.slice.injEq] at he
    obtain ⟨rfl, _, rfl⟩ := he
    obtain ⟨hy2, hkL⟩ := HK.out (by omega)
    have hwh8 := hwh.keep HK68.out (fun h => h)
    have hcl := hcur k (by omega)
    have c0 := hwh8.cell k hcl
    have f0 := hwh8.free k
    have hyt : y.tmod (L : Int) = (k : Int) := by rw [Int.tmod_eq_emod_of_nonneg hy0]; exact hy2
    have HW := Lib.hid hwh8
    have HCur := Lib.hid hcur
    have HG := Lib.hid hg
    clear hwh hwh8 hcur hcl hg HCop
    go_wp2_with fail
    have hkk : Keeps NoBlock w (w8.setCell ⟨g, k, none⟩ (.int .u8 0)) := HK8.out.setNew (Nat.le_trans HK5.out.size HG.out) _ _
    have hbb : Bytes8 (w8.setCell ⟨g, k, none⟩ (.int .u8 0)) (some ⟨g, 0, none⟩) ((solidN L).set k 0) := (HW.out.set k (.int .u8 0)).bytes _ (fun i hi => by
      rw [HSl.out] at hi
      have hci := HCur.out i (by omega)
      rw [List.nil_append] at hci
      rw [Array.getElem?_setIfInBounds]
      by_cases h : k = i
      · have hsz : i < cur.size := (Array.getElem?_eq_some_iff.1 hci).1
        subst h
        rw [if_pos rfl, if_pos hsz]
        simp [List.getD, solidN_length, hkL]
      · rw [if_neg h, hci]
        simp [List.getD, h])
    obtain ⟨W9, hW9⟩ : ∃ W9, W9 = w8.setCell ⟨g, k, none⟩ (.int .u8 0) := ⟨_, rfl⟩
    rw [← hW9] at hkk hbb ⊢
    have HK9 := Lib.hid hkk
    have HB9 := Lib.hid hbb
    clear hkk hbb hW9 c0 f0
    refine (HS2.out _ _ _ hd hd' hq0 HB9.out).mono ?_
    rintro e w10 ⟨v, rfl, q10, m10, d10, rfl, hm10, _, _, _, _, hk⟩
    have HK10 := Lib.hid (HK9.out.trans hk)
    have hle : m10 ≤ mostOf L := by rw [hm10]; exact HLe.out
    have hdl : decide ((m10 : Int) ≤ ((mostOf L : Nat) : Int)) = true := decide_eq_true (by omega)
    clear hk hm10
    go_wp2_with fail
    refine (HMo.out _).mono ?_
    rintro e w11 ⟨rfl, hk⟩
    have HK11 := Lib.hid (HK10.out.trans hk)
    clear hk
    go_wp2_with fail
    go_ret
    exact ⟨by first | rfl | (rw [← hdl]; rfl), HK11.out⟩
end Go.Proofs.Ytckebghkilamjaa

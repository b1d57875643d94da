/-
  The law CobsStuffs: its walk.
-/
import Derived.Test.YtckebghkilamjaaCobsApWalk
namespace Go.Proofs.Ytckebghkilamjaa
open Go.RowKit

set_option maxHeartbeats 4000000 in
set_option maxRecDepth 10000 in
theorem stuffs5_small (H : CobsOk) (p : Option Addr) (N c : Nat) (xs : List Int) (z : Int) (p2 : Option Addr) (N2 c2 : Nat) (ys : List Int) (w : World) (hx : N = xs.length) (hb : Bytes8 w p xs) (hoc : Octets xs) (hc : N ≤ c) (hc' : c ≤ 9223372036854775807) (hn0 : p = none → N = 0 ∧ c = 0) (hg : N ≤ 400) (hz : 0 ≤ z ∧ z < 65536)
    (hy : N2 = ys.length) (hb2 : Bytes8 w p2 ys) (hoy : Octets ys) (hd : N2 ≤ c2) (hd' : c2 ≤ 9223372036854775807) (hm0 : p2 = none → N2 = 0 ∧ c2 = 0) (hg2 : N2 ≤ 400) :
    Calls Try.prog 3 #[.slice p N c, .int .u16 z, .slice p2 N2 c2] w fun e w' => e = .returned (.bool true) ∧ Keeps NoBlock w w' := by
  obtain ⟨i0, hi, hz0, hz1, hz2⟩ := info_parts infoByte
  obtain ⟨L, hL⟩ : ∃ L : Nat, z % 1100 = (L : Int) := ⟨(z % 1100).toNat, by omega⟩
  have hL1 : L < 1100 := by omega
  have HLv := Lib.hid (fun w => lives5_true H w)
  have HB := Lib.hid hb
  have HB2 := Lib.hid hb2
  have HY := Lib.hid hy
  have HLo := Lib.hid (fun w hb => long_any p N c xs z L w hx hb hc hc' hn0 (by omega) hz.1 hL)
  obtain ⟨us, hus⟩ : ∃ us, us = xs ++ solidN L := ⟨_, rfl⟩
  have hul : N + L = us.length := by rw [hus, List.length_append, solidN_length, hx]
  have huo : Octets us := by rw [hus]; exact fun b hb => (List.mem_append.1 hb).elim (hoc b) ((solidN_solid L).octets b)
  rw [← hus] at HLo
  obtain ⟨M1, hM1⟩ : ∃ M1, M1 = N + L := ⟨_, rfl⟩
  rw [← hM1] at HLo hul
  have HU := Lib.hid hul
  obtain ⟨zs, hzs⟩ : ∃ zs, zs = us ++ ys := ⟨_, rfl⟩
  have hzl : M1 + N2 = zs.length := by rw [hzs, List.length_append, hul, hy]
  have hzo : Octets zs := by rw [hzs]; exact fun b hb => (List.mem_append.1 hb).elim (huo b) (hoy b)
  have HZS := Lib.hid hzs
  have hM1b : M1 ≤ 1500 := by omega
  obtain ⟨M, hM⟩ : ∃ M, M = M1 + N2 := ⟨_, rfl⟩
  have HMM := Lib.hid hM
  rw [← hM] at hzl
  have hMb : M ≤ 1900 := by omega
  have HZ := Lib.hid hzl
  have HZO := Lib.hid hzo
  have HSt := Lib.hid (fun (q : Option Addr) (d : Nat) w (hd : M ≤ d) (hd' : d ≤ 9223372036854775807) (hq : q = none → M = 0 ∧ d = 0) hb => H.stuff q M d zs w hzl hd hd' hq hzo (by omega) hb)
  have HSi := Lib.hid (fun (q : Option Addr) (d : Nat) w (hd : M ≤ d) (hd' : d ≤ 9223372036854775807) (hq : q = none → M = 0 ∧ d = 0) hb => H.size q M d zs w hzl hd hd' hq hzo (by omega) hb)
  have HMo := Lib.hid (fun w => H.most (M : Int) w (by omega) (by omega))
  rw [Int.toNat_natCast] at HMo
  have HRf := Lib.hid (fun w => stuff_ref zs hzo (by omega) w)
  have HUS := Lib.hid (unst_stuff hzo)
  have HSo := Lib.hid (stuff_solid hzo)
  have hle := stuff_most zs
  rw [← hzl] at hle
  have hmle := mostOf_le M
  obtain ⟨S, hS⟩ : ∃ S, S = stuff zs := ⟨_, rfl⟩
  rw [← hS] at HSt HSi HRf HUS HSo hle
  have HUn := Lib.hid H.unstuff
  obtain ⟨F, hF⟩ : ∃ F, F = S.length := ⟨_, rfl⟩
  have HFF := Lib.hid hF
  rw [← hF] at HSi hle
  have hFb : F ≤ 4000 := by omega
  have hFle : decide (F ≤ mostOf M) = true := decide_eq_true hle
  have hgN : decide ((400 : Int) < (N : Int)) = false := decide_eq_false (by omega)
  have hgN2 : decide ((400 : Int) < (N2 : Int)) = false := decide_eq_false (by omega)
  clear H hb hb2 hx hy hoc hoy hn0 hus hul huo hzs hzl hzo hM hM1 hS hF hz
  go_enter Try.func3, Try.ntmps3
  go_wp2_with fail
  refine (HLv.out _).mono ?_
  rintro e w1 ⟨rfl, hk⟩
  have HK1 := Lib.hid hk
  clear hk
  go_upto_region 3 with (fail)
  go_cut [7] (fun s7 wx => Copied w1 M zs s7 wx)
  case first =>
    go_wp2_with fail
    refine (HLo.out _ (HB.out.keep HK1.out (fun _ _ h => h))).mono ?_
    rintro e w2 ⟨v, rfl, hcop⟩
    have HC := Lib.hid hcop
    have hbk2 : Bytes8 w2 p2 ys := HB2.out.keep (HK1.out.trans (Keeps.ofBelow (S := NoBlock) hcop.2)) (fun _ _ h => h)
    have HBk := Lib.hid hbk2
    clear hcop hbk2
    cases p2 with
    | none =>
      obtain ⟨rfl, rfl⟩ := hm0 rfl
      go_wp2_with (at_builtin; refine wpList_append_own_none rfl _ _ 22 rfl w1.heap.size 5 i0 1 Try.underlying22 hi _ _ _ rfl HC.out.1 rfl ?_)
      go_meet
      case rel =>
        have hys : ys = [] := List.length_eq_zero_iff.1 HY.out.symm
        have hz : zs = us := by rw [HZS.out, hys, List.append_nil]
        rw [hz, HMM.out]
        exact HC.out
    | some a2 =>
      go_wp2_with (at_builtin; refine wpList_append_own _ rfl _ _ 22 rfl w1.heap.size 5 i0 (.int .u8 0) 1 1 Try.underlying22 hi hz0 hz1 hz2 rfl (by decide) _ _ _ rfl HC.out.1 a2 N2 c2 (ys.map (Value.int .u8)) rfl ?qc1 ?qc2 ?qc3 ?qc4 ?qc5 ?qc6 ?_)
      case qc1 => have := HY.out; simp; omega
      case qc2 =>
        intro j u hj
        have hjn : j < ys.length := by
          have := (List.getElem?_eq_some_iff.1 hj).1
          simpa using this
        obtain ⟨a', ha', hcell⟩ := HBk.out (by omega)
        obtain rfl := Option.some.inj ha'
        rw [hcell j hjn]
        have e : (ys.map (Value.int .u8))[j]? = some (Value.int .u8 (ys.getD j 0)) := by simp [List.getElem?_eq_getElem hjn]
        rw [e] at hj
        exact hj
      case qc3 => intro u hu; obtain ⟨x, _, rfl⟩ := List.mem_map.1 hu; rfl
      case qc4 => unfold maxLen; omega
      case qc5 => omega
      case qc6 => exact HC.out.2.size
      intro v3 wg3 hown hgrow hnil
      have hbel : Below w1.heap.size w1 wg3 := HC.out.2.grown hgrow HC.out.2.size (by intro k hk; exact own_base HC.out.1 hk)
      have HC3 := Lib.hid (show Copied w1 M zs v3 wg3 from ⟨by rw [HZS.out, HMM.out, List.map_append]; simpa using hown, hbel⟩)
      clear hown hgrow hnil hbel
      go_wp2_with fail
      go_meet
      case rel => exact HC3.out
  case rest =>
    obtain ⟨q, d, rfl, hdx, hdx', hbx, hqx⟩ := hcut.read2 HZ.out
    have HK2 := Lib.hid (HK1.out.trans (Keeps.ofBelow (S := NoBlock) hcut.2))
    have HBx := Lib.hid hbx
    clear hcut hbx HB HB2
    obtain ⟨W2, rfl⟩ : ∃ W2, W2 = wc := ⟨_, rfl⟩
    go_upto_region 4 with (fail)
    go_cut [8] (fun s8 wx => Copied W2 M zs s8 wx)
    case first =>
      cases q with
      | none =>
        obtain ⟨rfl, rfl⟩ := hqx rfl
        go_wp2_with (at_builtin; refine wpList_append_own_none rfl _ _ 22 rfl W2.heap.size 5 i0 1 Try.underlying22 hi _ _ _ rfl (World.ownsRow_made W2 #[] 0 (Nat.le_refl _) (Nat.zero_le _) rfl) rfl ?_)
        go_meet
        case rel =>
          have hzs : zs = [] := List.length_eq_zero_iff.1 HZ.out.symm
          rw [hzs]
          exact ⟨World.ownsRow_made W2 #[] 0 (Nat.le_refl _) (Nat.zero_le _) rfl, (Below.refl _ W2).alloc (Nat.le_refl _) _⟩
      | some a2 =>
        go_wp2_with (at_builtin; refine wpList_append_own _ rfl _ _ 22 rfl W2.heap.size 5 i0 (.int .u8 0) 1 1 Try.underlying22 hi hz0 hz1 hz2 rfl (by decide) _ _ _ rfl (World.ownsRow_made W2 #[] 0 (Nat.le_refl _) (Nat.zero_le _) rfl) a2 M d (zs.map (Value.int .u8)) rfl ?qf1 ?qf2 ?qf3 ?qf4 ?qf5 ?qf6 ?_)
        case qf1 => have := HZ.out; simp; omega
        case qf2 =>
          intro j u hj
          have hjn : j < zs.length := by
            have := (List.getElem?_eq_some_iff.1 hj).1
            simpa using this
          obtain ⟨a', ha', hcell⟩ := HBx.out (by omega)
          obtain rfl := Option.some.inj ha'
          refine Lib.cell?_alloc_some _ ?_
          rw [hcell j hjn]
          have e : (zs.map (Value.int .u8))[j]? = some (Value.int .u8 (zs.getD j 0)) := by simp [List.getElem?_eq_getElem hjn]
          rw [e] at hj
          exact hj
        case qf3 => intro u hu; obtain ⟨x, _, rfl⟩ := List.mem_map.1 hu; rfl
        case qf4 => unfold maxLen; omega
        case qf5 => omega
        case qf6 => simp
        intro v' wg hown hgrow hnil
        have hbel : Below W2.heap.size W2 wg := ((Below.refl _ W2).alloc (Nat.le_refl _) _).grown hgrow (by simp) (by intro k hk; simp [Value.ownBlock] at hk; omega)
        have HC := Lib.hid (show Copied W2 M zs v' wg from ⟨by simpa using hown, hbel⟩)
        clear hown hgrow hnil hbel
        go_wp2_with fail
        go_meet
        case rel => exact HC.out
    case rest =>
      obtain ⟨q3, d3, rfl, hd3, hd3', hb3, hq3⟩ := hcut.read2 HZ.out
      have hk3 := Keeps.ofBelow (S := NoBlock) hcut.2
      have HK3 := Lib.hid (HK2.out.trans hk3)
      have HB3 := Lib.hid hb3
      have HBx := Lib.hid (HBx.out.keep hk3 (fun _ _ h => h))
      clear hcut hb3 hk3
      obtain ⟨W3, rfl⟩ : ∃ W3, W3 = wc := ⟨_, rfl⟩
      go_wp2_with fail
      refine (HSt.out q3 d3 _ hd3 hd3' hq3 HB3.out).mono ?_
      rintro e w4 ⟨v, rfl, q4, m4, d4, rfl, hm4, hd4, hd4', hq4, hb4, hk⟩
      rw [← HFF.out] at hm4
      have hm4' := hm4.symm
      subst hm4'
      have HK4 := Lib.hid (HK3.out.trans hk)
      have HB4 := Lib.hid hb4
      have HB3 := Lib.hid (HB3.out.keep hk (fun _ _ h => h))
      have HBx := Lib.hid (HBx.out.keep hk (fun _ _ h => h))
      clear hb4 hk
      go_wp2_with fail
      go_loop [11, 39] (fun _ i => ∃ k : Nat, k ≤ F ∧ i = .int .i64 (k : Int)) (fun _ i => F - (intOf i).toNat)
      case atStart => exact ⟨0, Nat.zero_le _, rfl⟩
      case round =>
        obtain ⟨k, hk, rfl⟩ := hrel
        by_cases hlt : k < F
        · have hdk : decide ((k : Int) < (F : Int)) = true := decide_eq_true (by omega)
          have ha1 : (0 : Int) ≤ (k : Int) := by omega
          have ha2 : (k : Int) < (F : Int) := by omega
          obtain ⟨a', rfl, hcell⟩ := HB4.out (by have := HFF.out; omega)
          have c0 := hcell k (by have := HFF.out; omega)
          have hne := solid_getD HSo.out k (by have := HFF.out; omega)
          obtain ⟨b, hb⟩ : ∃ b, b = S.getD k 0 := ⟨_, rfl⟩
          rw [← hb] at c0 hne
          have hbz : (b == 0) = false := by rw [beq_eq_false_iff_ne]; exact hne
          clear hb hne hcell
          go_wp2_with fail
          exact ⟨⟨k + 1, by omega, rfl⟩, by simp [intOf]; omega⟩
        · obtain rfl : k = F := by omega
          have hdk : decide ((k : Int) < (k : Int)) = false := decide_eq_false (by omega)
          have HC5 := Lib.hid (HUn.out q4 k d4 S w4 HFF.out hd4 hd4' hq4 HSo.out.octets (by omega) HB4.out)
          rw [HUS.out] at HC5
          go_wp2_with fail
          refine HC5.out.mono ?_
          rintro e w5 ⟨v, rfl, q5, m5, d5, rfl, hm5, hd5, hd5', hq5, hb5, hk⟩
          have hm5' : M = m5 := by rw [HZ.out]; exact hm5.symm
          subst hm5'
          have HK5 := Lib.hid (HK4.out.trans hk)
          have HB5 := Lib.hid hb5
          have HB4 := Lib.hid (HB4.out.keep hk (fun _ _ h => h))
          have HB3 := Lib.hid (HB3.out.keep hk (fun _ _ h => h))
          have HBx := Lib.hid (HBx.out.keep hk (fun _ _ h => h))
          have HT : Hid (∀ w', Keeps NoBlock w5 w' → (convert 22 9 (.slice q4 k d4)).run Try.prog w' = .ok (.string (strOfNums S)) w' ∧ (convert 22 9 (.slice q M d)).run Try.prog w' = .ok (.string (strOfNums zs)) w' ∧ (convert 22 9 (.slice q5 M d5)).run Try.prog w' = .ok (.string (strOfNums zs)) w' ∧ (convert 22 9 (.slice q3 M d3)).run Try.prog w' = .ok (.string (strOfNums zs)) w') :=
            Lib.hid (fun w' hk => ⟨textOf q4 k d4 S w' HFF.out (HB4.out.keep hk (fun _ _ h => h)), textOf q M d zs w' HZ.out (HBx.out.keep hk (fun _ _ h => h)), textOf q5 M d5 zs w' HZ.out (HB5.out.keep hk (fun _ _ h => h)), textOf q3 M d3 zs w' HZ.out (HB3.out.keep hk (fun _ _ h => h))⟩)
          have HK9 : Hid (Keeps NoBlock w5 w5) := Lib.hid (Keeps.refl _ _)
          have s0 := HT.out w5.drew (Keeps.refl NoBlock w5).drew
          have sN := HT.out w5 (Keeps.refl NoBlock w5)
          clear hk hb5 hm5 HB5 HB4 HB3 HC5 HUn HSt
          go_wp2_with fail
          go_region_held3 (fun w' => (convert 22 9 (.slice q4 k d4)).run Try.prog w' = .ok (.string (strOfNums S)) w' ∧ (convert 22 9 (.slice q M d)).run Try.prog w' = .ok (.string (strOfNums zs)) w' ∧ (convert 22 9 (.slice q5 M d5)).run Try.prog w' = .ok (.string (strOfNums zs)) w' ∧ (convert 22 9 (.slice q3 M d3)).run Try.prog w' = .ok (.string (strOfNums zs)) w')
            (first | exact s5 | exact s0 | exact sN)
            (first | (go_at_call 11; refine (HRf.out _).mono ?_; rintro e w6 ⟨rfl, hk⟩; have HK9 := Lib.hid (HK9.out.trans (c := w6) (by first | exact hk | exact hk.ofDrew | exact hk.ofDrewN)); have s5 := HT.out w6 HK9.out; clear hk) | (go_at_call 12; refine (HSi.out q d _ hdx hdx' hqx (HBx.out.keep (S := NoBlock) (by first | exact HK9.out | exact HK9.out.drew) (fun _ _ h => h))).mono ?_; rintro e w6 ⟨rfl, hk⟩; have HK9 := Lib.hid (HK9.out.trans (c := w6) (by first | exact hk | exact hk.ofDrew | exact hk.ofDrewN)); have s5 := HT.out w6 HK9.out; clear hk) | (go_at_call 13; refine (HMo.out _).mono ?_; rintro e w6 ⟨rfl, hk⟩; have HK9 := Lib.hid (HK9.out.trans (c := w6) (by first | exact hk | exact hk.ofDrew | exact hk.ofDrewN)); have s5 := HT.out w6 HK9.out; clear hk))
          all_goals
            go_wp2_with fail
            go_ret
            exact ⟨rfl, HK5.out.trans HK9.out⟩

set_option maxRecDepth 10000 in
theorem stuffs5_walk (H : CobsOk) (p : Option Addr) (N c : Nat) (xs : List Int) (z : Int) (p2 : Option Addr) (N2 c2 : Nat) (ys : List Int) (w : World) (hx : N = xs.length) (hb : Bytes8 w p xs) (hoc : Octets xs) (hc : N ≤ c) (hc' : c ≤ 9223372036854775807) (hn0 : p = none → N = 0 ∧ c = 0) (hz : 0 ≤ z ∧ z < 65536)
    (hy : N2 = ys.length) (hb2 : Bytes8 w p2 ys) (hoy : Octets ys) (hd : N2 ≤ c2) (hd' : c2 ≤ 9223372036854775807) (hm0 : p2 = none → N2 = 0 ∧ c2 = 0) :
    Calls Try.prog 3 #[.slice p N c, .int .u16 z, .slice p2 N2 c2] w fun e w' => e = .returned (.bool true) ∧ Keeps NoBlock w w' := by
  by_cases hgo : N ≤ 400 ∧ N2 ≤ 400
  · exact stuffs5_small H p N c xs z p2 N2 c2 ys w hx hb hoc hc hc' hn0 hgo.1 hz hy hb2 hoy hd hd' hm0 hgo.2
  · have HLv := Lib.hid (fun w => lives5_true H w)
    clear H hx hb hoc hn0 hy hb2 hoy hm0 hz
    by_cases hg : N ≤ 400
    · have hgN : decide ((400 : Int) < (N : Int)) = false := decide_eq_false (by omega)
      have hgN2 : decide ((400 : Int) < (N2 : Int)) = true := decide_eq_true (by omega)
      go_enter Try.func3, Try.ntmps3
      go_wp2_with fail
      refine (HLv.out _).mono ?_
      rintro e w1 ⟨rfl, hk⟩
      have HK := Lib.hid hk
      clear hk
      go_wp2_with fail
      refine (HLv.out _).mono ?_
      rintro e w2 ⟨rfl, hk2⟩
      have HK2 := Lib.hid (HK.out.trans hk2)
      clear hk2
      go_wp2_with fail
      go_ret
      exact ⟨rfl, HK2.out⟩
    · have hgN : decide ((400 : Int) < (N : Int)) = true := decide_eq_true (by omega)
      go_enter Try.func3, Try.ntmps3
      go_wp2_with fail
      refine (HLv.out _).mono ?_
      rintro e w1 ⟨rfl, hk⟩
      have HK := Lib.hid hk
      clear hk
      go_wp2_with fail
      refine (HLv.out _).mono ?_
      rintro e w2 ⟨rfl, hk2⟩
      have HK2 := Lib.hid (HK.out.trans hk2)
      clear hk2
      go_wp2_with fail
      go_ret
      exact ⟨rfl, HK2.out⟩
end Go.Proofs.Ytckebghkilamjaa

/-
  WideBegin; WideRefSum; TextEq; Ref2; Set3; VarPut.
-/
import Derived.StillTailTactics
import Derived.Deep.CutRange
import Derived.Deep.DeepCutAuto
import Derived.Deep.Cut
import Derived.Deep.RegionHeld3
import Derived.Test.YtmifbohdepejaaaM01
import Derived.Test.YtmifbohdepejaaaM02
import Derived.Test.YtmifbohdepejaaaM04
import Derived.Test.YtmifbohdepejaaaM06
namespace Go.Proofs.Ytmifbohdepejaaa
open Go.RowKit

theorem four8_drop (xs : List Int) (a k : Nat) : ((xs.drop a).drop (8 * k)).take 8 = (xs.drop (a + 8 * k)).take 8 := by rw [List.drop_drop]

set_option maxHeartbeats 2000000 in
set_option maxRecDepth 10000 in
theorem wbegin_ref (s : Int) (xs : List Int) (hs : U64 s) (ho : Octets xs) (w : World) :
    Calls Try.prog 109 #[.int .u64 s, .string (strOfNums xs)] w fun e w' => e = .returned (.tuple #[.int .u64 (wmerged (wnums (wseed s) xs (xs.length / 32)) 4), .string (strOfNums (wleft xs))]) ∧ Keeps NoBlock w w' := by
  obtain ⟨n, hn⟩ : ∃ n, n = xs.length := ⟨_, rfl⟩
  have h0 := hs.1
  have h1 := hs.2
  have HS := Lib.hid hs
  have HO := Lib.hid ho
  have HN := Lib.hid hn
  have HB := Lib.hid (fun k j (hj : j < 4) => wnums_bound (fun j _ => wseed_bound hs j) xs k j hj)
  have hdd : strOfNums (wleft xs) = strOfNums (xs.drop (32 * (n / 32))) := by rw [hn]; rfl
  rw [hdd, ← hn]
  clear hs ho hn hdd
  go_enter Try.func109, Try.ntmps109
  go_wp2_with fail
  go_loopw [1] (fun s1 wr => ∃ k : Nat, 32 * k ≤ n ∧ s1 = .string (strOfNums (xs.drop (32 * k))) ∧ Whole wr w.heap.size 166 (row4 .u64 (wnums (wseed s) xs k)) ∧ Keeps NoBlock w wr) (fun s1 _ => strSize s1)
  case atStart =>
    exact ⟨0, Nat.zero_le _, rfl, Whole.new _ _ _, (Keeps.refl _ _).alloc _⟩
  case round =>
    obtain ⟨k, hk32, rfl, hwh, hk⟩ := hrel
    have HK := Lib.hid hk
    clear hk
    obtain ⟨ys, hyd⟩ : ∃ ys, ys = xs.drop (32 * k) := ⟨_, rfl⟩
    have hyo : Octets ys := by rw [hyd]; exact HO.out.drop _
    have hyl : ys.length = n - 32 * k := by rw [hyd, List.length_drop, HN.out]
    obtain ⟨v, hv⟩ : ∃ v, v = wnums (wseed s) xs k := ⟨_, rfl⟩
    have HV : Hid (∀ j, j < 4 → U64 (v j)) := Lib.hid (by rw [hv]; exact fun j hj => HB.out k j hj)
    have hnx : wnums (wseed s) xs (k + 1) = wtaken v ys 4 := by rw [hv, hyd]; rfl
    have hdx : ys.drop 32 = xs.drop (32 * (k + 1)) := by rw [hyd, List.drop_drop]; rfl
    rw [← hv] at hwh
    rw [← hyd]
    have HW := Lib.hid hwh
    have HY := Lib.hid hyo
    have HNX := Lib.hid hnx
    have HDX := Lib.hid hdx
    have HVD := Lib.hid hv
    have HYD := Lib.hid hyd
    have hys : (strOfNums ys).size = ys.length := str_size ys
    obtain ⟨m, hm⟩ : ∃ m, m = ys.length := ⟨_, rfl⟩
    have HM := Lib.hid hm
    have HYL := Lib.hid (hm.trans hyl)
    rw [← hm] at hys
    have hmn : m ≤ n := by omega
    clear hm hyo hnx hdx hv hyd hyl hwh
    by_cases h32 : 32 ≤ m
    · have hdm : decide ((32 : Int) ≤ (m : Int)) = true := decide_eq_true (by omega)
      go_wp2_with fail
      obtain ⟨W1, rfl⟩ : ∃ W1, W1 = wr := ⟨_, rfl⟩
      go_loopw [29] (fun i wr => ∃ j : Nat, j ≤ 4 ∧ i = .int .i64 (j : Int) ∧ Whole wr w.heap.size 166 (row4 .u64 (wtaken v ys j)) ∧ Keeps (Just w.heap.size) W1 wr) (fun i _ => 4 - (intOf i).toNat)
      case atStart => exact ⟨0, by omega, rfl, by rw [wtaken_zero]; exact HW.out, Keeps.refl _ _⟩
      case round =>
        obtain ⟨j, hj4, rfl, hwk, hkk⟩ := hrel
        have HWk := Lib.hid hwk
        have HKk := Lib.hid hkk
        clear hkk
        by_cases hlt4 : j < 4
        · have c0 := hwk.cell j (row4_get hlt4)
          have f0 := hwk.free j
          have hub := wtaken_bound HV.out ys j j hlt4
          have HVl := Lib.hid (fun w => value_ref ((ys.drop (8 * j)).take 8) ((HY.out.drop _).take _) (by simp; omega) w)
          have HI := Lib.hid (fun w => winto_ref (wtaken v ys j j) (four8 ys j) hub (four8_bound HY.out j) w)
          clear hwk hub
          go_wp2_with fail
          have ha1 : (0 : Int) ≤ (j : Int) := by omega
          have ha2 : (j : Int) < 4 := by omega
          have ha3 : (8 : Int) * (j : Int) + 8 ≤ (m : Int) := by omega
          have ha4 : (0 : Int) ≤ 8 * (j : Int) := by omega
          have ha6 : 8 * (j : Int) ≤ 8 * (j : Int) + 8 := by omega
          have ha5 : (0 : Int) ≤ 8 * (j : Int) + 8 := by omega
          have hw1 : IntKind.i64.wrap (8 * (j : Int)) = 8 * (j : Int) := by rw [IntKind.wrap_i64]; omega
          have hw2 : IntKind.i64.wrap (8 * (j : Int) + 8) = 8 * (j : Int) + 8 := by rw [IntKind.wrap_i64]; omega
          have hex : (strOfNums ys).extract (8 * (j : Int)).toNat (8 * (j : Int) + 8).toNat = strOfNums ((ys.drop (8 * j)).take 8) := str_piece ys _ _ _ _ (by omega) (by omega)
          go_still_tail 14, (by kernel_rfl)
          still_call ((HVl.out _).mono fun e w5 h => ⟨h.1, h.2.symm⟩)
          still_call ((HI.out _).mono fun e w5 h => ⟨h.1, h.2.symm⟩)
          still_step
          refine wpStill_nil ?_
          change wpList _ _ _ _ _ wr.drew
          obtain ⟨W2, hW2⟩ : ∃ W2, W2 = wr.drew := ⟨_, rfl⟩
          rw [← hW2]
          have hw2f : W2.frozen? ⟨w.heap.size, j, none⟩ = false := by rw [hW2]; exact f0
          have hw2c : W2.cell? ⟨w.heap.size, j, none⟩ = some (.int .u64 (wtaken v ys j j)) := by rw [hW2]; exact c0
          have HW2 := Lib.hid hW2
          clear c0 f0 hW2
          go_wp2_with fail
          go_roundw
          case rel =>
            refine ⟨j + 1, by omega, rfl, ?_, ?_⟩
            · rw [← wtaken_succ, ← row4_set hlt4, HW2.out]
              exact HWk.out.set j _
            · rw [HW2.out]
              exact HKk.out.drew.setIn (Just.self _) _ _
          case measure => simp [intOf]; omega
        · obtain rfl : j = 4 := by omega
          have HKk2 := Lib.hid (HK.out.then HKk.out (fun i hi h => by unfold Just at h; omega))
          have hd16 := str_drop ys 32
          rw [hys] at hd16
          have HD16 := Lib.hid hd16
          clear hd16 hwk
          go_wp2_with fail
          go_roundw
          case rel =>
            refine ⟨k + 1, by have := HYL.out; omega, by rw [HD16.out, HDX.out], by rw [HNX.out]; exact HWk.out, HKk2.out⟩
          case measure =>
            rw [HD16.out, strSize_of, strSize_of, List.length_drop]
            have := HM.out
            omega
    · have hkn : k = n / 32 := by have := HYL.out; omega
      have c0 := HW.out.cell 0 (row4_get (by decide))
      have c1 := HW.out.cell 1 (row4_get (by decide))
      have c2 := HW.out.cell 2 (row4_get (by decide))
      have c3 := HW.out.cell 3 (row4_get (by decide))
      have HT0 := Lib.hid (fun w => wturn_ref (v 0) 1 1 (by decide) rfl (HV.out 0 (by decide)) w)
      have HT1 := Lib.hid (fun w => wturn_ref (v 1) 7 7 (by decide) rfl (HV.out 1 (by decide)) w)
      have HT2 := Lib.hid (fun w => wturn_ref (v 2) 12 12 (by decide) rfl (HV.out 2 (by decide)) w)
      have HT3 := Lib.hid (fun w => wturn_ref (v 3) 18 18 (by decide) rfl (HV.out 3 (by decide)) w)
      have HKN := Lib.hid hkn
      have HMg : Hid (∀ j, wmerged v j = wmerged (wnums (wseed s) xs k) j) := Lib.hid (by rw [HVD.out]; exact fun _ => rfl)
      clear hkn
      go_wp2_with fail
      refine wp_region_still_lit (by kernel_rfl) (by kernel_rfl) ?_
      still_step
      still_step
      still_call ((HT0.out _).mono fun e w5 h => ⟨h.1, h.2.symm⟩)
      still_step
      still_step
      still_call ((HT1.out _).mono fun e w5 h => ⟨h.1, h.2.symm⟩)
      still_step
      still_step
      still_step
      still_call ((HT2.out _).mono fun e w5 h => ⟨h.1, h.2.symm⟩)
      still_step
      still_step
      still_step
      still_call ((HT3.out _).mono fun e w5 h => ⟨h.1, h.2.symm⟩)
      still_step
      still_step
      refine wpStill_nil ?_
      go_wp2_with fail
      have HWd : Hid (Whole wr.drew w.heap.size 166 (row4 .u64 v)) := Lib.hid HW.out
      have HKd := Lib.hid HK.out.drew
      clear c0 c1 c2 c3
      change Code.wp _ _ _ _ wr.drew
      obtain ⟨W3, hW3⟩ : ∃ W3, W3 = wr.drew := ⟨_, rfl⟩
      rw [← hW3] at HWd HKd ⊢
      clear hW3
      go_loop [10, 64] (fun h i => ∃ j : Nat, j ≤ 4 ∧ i = .int .i64 (j : Int) ∧ h = .int .u64 (wmerged v j)) (fun _ i => 4 - (intOf i).toNat)
      case atStart => exact ⟨0, by omega, rfl, rfl⟩
      case round =>
        obtain ⟨j, hj4, rfl, rfl⟩ := hrel
        by_cases hlt4 : j < 4
        · have c0 := HWd.out.cell j (row4_get hlt4)
          have HI := Lib.hid (fun w => winto_ref 0 (v j) ⟨by decide, by decide⟩ (HV.out j hlt4) w)
          have ha1 : (0 : Int) ≤ (j : Int) := by omega
          have ha2 : (j : Int) < 4 := by omega
          go_wp2_with fail
          refine (HI.out _).mono ?_
          rintro e w' ⟨rfl, rfl⟩
          go_wp2_with fail
          go_round
          case rel => exact ⟨j + 1, by omega, rfl, rfl⟩
          case measure => simp [intOf]; omega
        · obtain rfl : j = 4 := by omega
          go_wp2_with fail
          exact bodyPost_ret (v := .tuple #[.int .u64 (wmerged v 4), .string (strOfNums ys)]) (by simp [results, Try.results109, go_sem]) rfl ⟨by rw [HMg.out, HYD.out, HKN.out], HKd.out⟩
end Go.Proofs.Ytmifbohdepejaaa

namespace Go.Proofs.Ytmifbohdepejaaa
open Go.RowKit

set_option maxHeartbeats 2000000 in
set_option maxRecDepth 10000 in
theorem wsum_ref (s : Int) (xs : List Int) (hs : U64 s) (ho : Octets xs) (hl : xs.length ≤ 140737488355328) (w : World) :
    Calls Try.prog 75 #[.int .u64 s, .string (strOfNums xs)] w fun e w' => e = .returned (.int .u64 (wxxh s xs)) ∧ Keeps NoBlock w w' := by
  have hss : (strOfNums xs).size = xs.length := str_size xs
  have HBeg := Lib.hid (fun w => wbegin_ref s xs hs ho w)
  obtain ⟨n, hn⟩ : ∃ n, n = xs.length := ⟨_, rfl⟩
  have h0 := hs.1
  have h1 := hs.2
  have HO := Lib.hid ho
  have HN := Lib.hid hn
  rw [← hn] at hss hl
  clear hs ho hn
  go_enter Try.func75, Try.ntmps75
  go_upto_if 17 with (fail)
  go_cut [1, 6] (fun s1 s6 wx => s1 = .string (strOfNums (wleft xs)) ∧ s6 = .int .u64 (wblocks s xs) ∧ Keeps NoBlock w wx)
  case first =>
    by_cases hlt : 32 ≤ n
    · have hdn : decide ((32 : Int) ≤ (n : Int)) = true := decide_eq_true (by omega)
      have hwb : wblocks s xs = wmerged (wnums (wseed s) xs (xs.length / 32)) 4 := by
        unfold wblocks
        rw [if_neg (by have := HN.out; omega)]
      have HWB := Lib.hid hwb
      obtain ⟨B, hB⟩ : ∃ B, B = wmerged (wnums (wseed s) xs (xs.length / 32)) 4 := ⟨_, rfl⟩
      rw [← hB] at HBeg HWB
      clear hB hwb
      go_wp2_with fail
      refine (HBeg.out _).mono ?_
      rintro e w1 ⟨rfl, hk⟩
      have HK := Lib.hid hk
      clear hk
      go_wp2_with fail
      go_meet
      case rel => exact ⟨rfl, by rw [HWB.out], HK.out⟩
    · have hwb : wblocks s xs = IntKind.u64.wrap (s + 2870177450012600261) := by
        unfold wblocks
        rw [if_pos (by have := HN.out; omega)]
      have hwl : wleft xs = xs := by
        unfold wleft
        rw [show xs.length / 32 = 0 by have := HN.out; omega]
        rfl
      have HWB := Lib.hid hwb
      have HWL := Lib.hid hwl
      clear hwb hwl HBeg
      go_wp2_with fail
      go_meet
      case rel => exact ⟨by rw [HWL.out], by rw [HWB.out], Keeps.refl _ _⟩
  case rest =>
    obtain ⟨rfl, rfl, hk⟩ := hcut
    have HK := Lib.hid hk
    have hspec : wxxh s xs = wend (weights (IntKind.u64.wrap (wblocks s xs + (xs.length : Int))) (wleft xs)) := rfl
    have hB0 := wblocks_bound s xs
    have hL2 := wleft_length xs
    have hLo := HO.out.wleft
    obtain ⟨B, hB⟩ : ∃ B, B = wblocks s xs := ⟨_, rfl⟩
    obtain ⟨L, hL⟩ : ∃ L, L = wleft xs := ⟨_, rfl⟩
    rw [← hB] at hB0 hspec ⊢
    rw [← hL] at hL2 hLo hspec ⊢
    rw [← HN.out] at hspec hL2
    have hln : L.length ≤ 31 := by omega
    have HS0 := Lib.hid hspec
    have HLo := Lib.hid hLo
    have HLn := Lib.hid hln
    have B0 := hB0.1
    have B1 := hB0.2
    clear hB hL hB0 hL2 hLo hspec hk HO h0 h1 hss HBeg hln
    go_wp2_with fail
    obtain ⟨h1, hh1⟩ : ∃ h1, h1 = IntKind.u64.wrap (B + (n : Int)) := ⟨_, rfl⟩
    have hb1 := wmod_bound (B + (n : Int))
    rw [← hh1] at hb1 HS0 ⊢
    have HB1 := Lib.hid hb1
    clear hh1 B0 B1 hb1
    obtain ⟨W0, rfl⟩ : ∃ W0, W0 = wc := ⟨_, rfl⟩
    go_loop [1, 6] (fun s1 s6 => ∃ (h : Int) (ys : List Int), s1 = .string (strOfNums ys) ∧ s6 = .int .u64 h ∧ Hid (U64 h) ∧ Hid (Octets ys) ∧ ys.length ≤ 31 ∧ Hid (weights h ys = weights h1 L)) (fun s1 _ => strSize s1)
    case atStart => exact ⟨_, L, rfl, rfl, HB1, HLo, HLn.out, Lib.hid rfl⟩
    case round =>
      obtain ⟨h, ys, rfl, rfl, hu, hy, hyl, ht⟩ := hrel
      have hys : (strOfNums ys).size = ys.length := str_size ys
      obtain ⟨m, hm⟩ : ∃ m, m = ys.length := ⟨_, rfl⟩
      have HM := Lib.hid hm
      rw [← hm] at hyl hys
      clear hm
      have hu0 := hu.out.1
      have hu1 := hu.out.2
      by_cases h8 : 8 ≤ m
      · have hdm : decide ((8 : Int) ≤ (m : Int)) = true := decide_eq_true (by omega)
        have hex : (strOfNums ys).extract 0 8 = strOfNums ((ys.drop (8 * 0)).take 8) := str_piece ys _ _ _ _ rfl rfl
        have hd8 := str_drop ys 8
        rw [hys] at hd8
        have HV := Lib.hid (fun w => value_ref ((ys.drop (8 * 0)).take 8) ((hy.out.drop _).take _) (by simp; omega) w)
        obtain ⟨y, hyd⟩ : ∃ y, y = four8 ys 0 := ⟨_, rfl⟩
        have hyb := four8_bound hy.out 0
        rw [show le ((ys.drop (8 * 0)).take 8) = four8 ys 0 from rfl, ← hyd] at HV
        rw [← hyd] at hyb
        have HI := Lib.hid (fun w => winto_ref 0 y ⟨by decide, by decide⟩ hyb w)
        have HT := Lib.hid (fun w => wturn_ref (xr h (win 0 y)) 27 27 (by decide) rfl (xr_bound _ _) w)
        have HG := Lib.hid (weights_go (h := h) (xs := ys) (by have := HM.out; omega))
        rw [← hyd] at HG
        have he : weight h y = IntKind.u64.wrap (IntKind.u64.wrap (wrot 27 (xr h (win 0 y)) * 11400714785074694791) + 9650029242287828579) := rfl
        have HE := Lib.hid he
        clear hyd hyb he
        go_wp2_with fail
        refine (HV.out _).mono ?_
        rintro e w' ⟨rfl, rfl⟩
        go_wp2_with fail
        refine (HI.out _).mono ?_
        rintro e w' ⟨rfl, rfl⟩
        go_wp2_with fail
        refine (HT.out _).mono ?_
        rintro e w' ⟨rfl, rfl⟩
        go_wp2_with fail
        go_round
        case rel =>
          refine ⟨_, ys.drop 8, rfl, rfl, Lib.hid ?_, Lib.hid (hy.out.drop 8), by rw [List.length_drop]; have := HM.out; omega, Lib.hid ?_⟩
          · exact wmod_bound _
          · rw [← HE.out, ← HG.out]
            exact ht.out
        case measure =>
          show strSize (.string (strOfNums (ys.drop 8))) < strSize (.string (strOfNums ys))
          rw [strSize_of, strSize_of, List.length_drop]
          have := HM.out
          omega
      · have HG := Lib.hid (weights_end (h := h) (xs := ys) (by have := HM.out; omega))
        obtain ⟨T, hT⟩ : ∃ T, T = weights h1 L := ⟨_, rfl⟩
        rw [← hT] at HS0 ht
        rw [HG.out] at ht
        clear hT
        have hdm : decide ((8 : Int) ≤ (m : Int)) = false := decide_eq_false (by omega)
        go_wp2_with fail
        obtain ⟨h2, rfl⟩ : ∃ h2, h2 = h := ⟨_, rfl⟩
        go_loop [1, 6] (fun s1 s6 => ∃ (h : Int) (zs : List Int), s1 = .string (strOfNums zs) ∧ s6 = .int .u64 h ∧ Hid (U64 h) ∧ Hid (Octets zs) ∧ zs.length ≤ 7 ∧ Hid (wfours h zs = T)) (fun s1 _ => strSize s1)
        case atStart => exact ⟨_, ys, rfl, rfl, hu, hy, by have := HM.out; omega, ht⟩
        case round =>
          clear hdm hys HM hyl h8 HG hu hy ht hu0 hu1
          obtain ⟨h, zs, rfl, rfl, hu, hy, hyl, ht⟩ := hrel
          have hys : (strOfNums zs).size = zs.length := str_size zs
          obtain ⟨m, hm⟩ : ∃ m, m = zs.length := ⟨_, rfl⟩
          have HM := Lib.hid hm
          rw [← hm] at hyl hys
          clear hm
          have hu0 := hu.out.1
          have hu1 := hu.out.2
          by_cases h4 : 4 ≤ m
          · have hdm : decide ((4 : Int) ≤ (m : Int)) = true := decide_eq_true (by omega)
            have hex : (strOfNums zs).extract 0 4 = strOfNums ((zs.drop (4 * 0)).take 4) := str_piece zs _ _ _ _ rfl rfl
            have hd8 := str_drop zs 4
            rw [hys] at hd8
            have HV := Lib.hid (fun w => value_ref ((zs.drop (4 * 0)).take 4) ((hy.out.drop _).take _) (by simp; omega) w)
            obtain ⟨y, hyd⟩ : ∃ y, y = four4 zs 0 := ⟨_, rfl⟩
            rw [show le ((zs.drop (4 * 0)).take 4) = four4 zs 0 from rfl, ← hyd] at HV
            have HT := Lib.hid (fun w => wturn_ref (xr h (IntKind.u64.wrap (y * 11400714785074694791))) 23 23 (by decide) rfl (xr_bound _ _) w)
            have HG := Lib.hid (wfours_go (h := h) (xs := zs) (by have := HM.out; omega))
            rw [← hyd] at HG
            have he : wfour h y = IntKind.u64.wrap (IntKind.u64.wrap (wrot 23 (xr h (IntKind.u64.wrap (y * 11400714785074694791))) * 14029467366897019727) + 1609587929392839161) := rfl
            have HE := Lib.hid he
            clear hyd he
            go_wp2_with fail
            refine (HV.out _).mono ?_
            rintro e w' ⟨rfl, rfl⟩
            go_wp2_with fail
            refine (HT.out _).mono ?_
            rintro e w' ⟨rfl, rfl⟩
            go_wp2_with fail
            go_round
            case rel =>
              refine ⟨_, zs.drop 4, rfl, rfl, Lib.hid ?_, Lib.hid (hy.out.drop 4), by rw [List.length_drop]; have := HM.out; omega, Lib.hid ?_⟩
              · exact wmod_bound _
              · rw [← HE.out, ← HG.out]
                exact ht.out
            case measure =>
              show strSize (.string (strOfNums (zs.drop 4))) < strSize (.string (strOfNums zs))
              rw [strSize_of, strSize_of, List.length_drop]
              have := HM.out
              omega
          · have HG := Lib.hid (wfours_end (h := h) (xs := zs) (by have := HM.out; omega))
            rw [HG.out] at ht
            have hdm : decide ((4 : Int) ≤ (m : Int)) = false := decide_eq_false (by omega)
            go_wp2_with fail
            go_loop [6, 8] (fun s6 i => ∃ k : Nat, k ≤ m ∧ i = .int .i64 (k : Int) ∧ s6 = .int .u64 ((zs.take k).foldl wone h)) (fun _ i => m - (intOf i).toNat)
            case atStart => exact ⟨0, Nat.zero_le _, rfl, rfl⟩
            case round =>
              obtain ⟨k, hk, rfl, rfl⟩ := hrel
              have hfb := fold_wone (zs.take k) h hu.out
              by_cases hlt : k < m
              · have HN2 := Lib.hid (fold_wnext zs h k (by have := HM.out; omega))
                have hsg := str_get zs hy.out k (by have := HM.out; omega)
                have hgb := hy.out.getD k
                obtain ⟨q, hq⟩ : ∃ q, q = (zs.take k).foldl wone h := ⟨_, rfl⟩
                obtain ⟨b, hb⟩ : ∃ b, b = zs.getD k 0 := ⟨_, rfl⟩
                rw [← hq] at hfb HN2 ⊢
                rw [← hb] at hgb HN2 hsg
                have hq0 := hfb.1
                have hq1 := hfb.2
                have hb0 := hgb.1
                have hb1 := hgb.2
                have HT := Lib.hid (fun w => wturn_ref (xr q (IntKind.u64.wrap (b * 2870177450012600261))) 11 11 (by decide) rfl (xr_bound _ _) w)
                have he : wone q b = IntKind.u64.wrap (wrot 11 (xr q (IntKind.u64.wrap (b * 2870177450012600261))) * 11400714785074694791) := rfl
                have HE := Lib.hid he
                clear hq hb hfb hgb he
                have hdk : decide ((k : Int) < (m : Int)) = true := decide_eq_true (by omega)
                go_wp2_with fail
                refine (HT.out _).mono ?_
                rintro e w' ⟨rfl, rfl⟩
                go_wp2_with fail
                exact ⟨⟨k + 1, by omega, rfl, by rw [HN2.out, HE.out]⟩, by simp [intOf]; omega⟩
              · obtain rfl : k = m := by omega
                rw [List.take_of_length_le (Nat.le_of_eq HM.out.symm), ht.out] at hfb ⊢
                have HX1 := Lib.hid (fun w => wmix_ref T 33 33 (by decide) rfl hfb w)
                have HX2 := Lib.hid (fun w => wmix_ref (IntKind.u64.wrap (down 33 T * 14029467366897019727)) 29 29 (by decide) rfl (wmod_bound _) w)
                have HX3 := Lib.hid (fun w => wmix_ref (IntKind.u64.wrap (down 29 (IntKind.u64.wrap (down 33 T * 14029467366897019727)) * 1609587929392839161)) 32 32 (by decide) rfl (wmod_bound _) w)
                have hend : wend T = down 32 (IntKind.u64.wrap (down 29 (IntKind.u64.wrap (down 33 T * 14029467366897019727)) * 1609587929392839161)) := rfl
                rw [hend] at HS0
                clear hend hfb
                go_wp2_with fail
                refine (HX1.out _).mono ?_
                rintro e w' ⟨rfl, rfl⟩
                go_wp2_with fail
                refine (HX2.out _).mono ?_
                rintro e w' ⟨rfl, rfl⟩
                go_wp2_with fail
                refine (HX3.out _).mono ?_
                rintro e w' ⟨rfl, rfl⟩
                go_wp2_with fail
                go_ret
                exact ⟨by rw [HS0.out]; rfl, HK.out⟩
end Go.Proofs.Ytmifbohdepejaaa

namespace Go.Proofs.Ytmifbohdepejaaa
open Go.RowKit

theorem strOf_inj {xs ys : List Int} (hx : Octets xs) (hy : Octets ys) (h : strOfNums xs = strOfNums ys) : xs = ys := by
  have e : (strOfNums xs).data.toList = (strOfNums ys).data.toList := by rw [h]
  rw [strOfNums_data, strOfNums_data] at e
  have hm : ∀ {zs : List Int}, Octets zs → (zs.map fun n => UInt8.ofNat n.toNat).map (fun u => ((u.toNat : Nat) : Int)) = zs := fun {zs} hz => by
    rw [List.map_map]
    conv => rhs; rw [← List.map_id zs]
    exact List.map_congr_left fun z hzm => by
      have := hz z hzm
      simp [UInt8.toNat_ofNat']
      omega
  rw [← hm hx, ← hm hy, e]

theorem text_beq (a b : ByteArray) : (a.toList == b.toList) = decide (a = b) := by
  rw [Bool.eq_iff_iff, beq_iff_eq, decide_eq_true_iff, ByteArray.toList_eq, ByteArray.toList_eq]
  exact ⟨fun h => ByteArray.ext (Array.toList_inj.1 h), fun h => by rw [h]⟩
end Go.Proofs.Ytmifbohdepejaaa

namespace Go.Proofs.Ytmifbohdepejaaa
open Go.RowKit

/-- What the document's Get leaves: the rest, how far, why it stops; the number. -/
def refOut (xs : List Int) (a : Int) (t : VR) : Value := .tuple #[rdr (xs.drop t.n) (a + t.n) t.e, .int .u64 (if t.e = 0 then t.x else 0)]

/-- Ahead of byte i: the Reader's block, the number so far. -/
structure RState2 (xs : List Int) (a : Int) (B R : Nat) (w : World) (i X : Nat) (wr : World) : Prop where
  rd : Whole wr B 84 #[.string (strOfNums (xs.drop i)), .int .i64 (a + i), .int .i64 0]
  res : Whole wr R 84 #[.string { data := #[] }, .int .i64 0, .int .i64 0]
  keep : Keeps NoBlock w wr
  lt : X < 2 ^ (7 * i)
  vr : vget xs = (vread (9 - i + 1) (i == 0) (xs.drop i)).up i X
  i9 : i ≤ 9
  le : i ≤ xs.length

section
variable {xs : List Int} {a : Int} {B R : Nat} {w : World} {i X : Nat} {wr : World}

theorem RState2.short (h : RState2 xs a B R w i X wr) (hs : ¬ i < xs.length) : refOut xs a (vget xs) = .tuple #[rdr (xs.drop i) (a + i) 2, .int .u64 0] := by
  have hd : xs.drop i = [] := List.drop_eq_nil_of_le (by omega)
  rw [h.vr, hd, vread]
  simp [VR.up, refOut, hd]

theorem RState2.wrong (h : RState2 xs a B R w i X wr) (hs : i < xs.length) (y b : Int) (hb : b = xs.getD i 0) (hy : (y = 3 ∧ i = 9 ∧ 1 < b) ∨ (y = 4 ∧ ¬ (i = 9 ∧ 1 < b) ∧ 0 < i ∧ b = 0)) : refOut xs a (vget xs) = .tuple #[rdr (xs.drop (i + 1)) (a + i + 1) y, .int .u64 0] := by
  have hd := drop_cons (xs := xs) (n := i) hs
  rw [← hb] at hd
  have hi9 := h.i9
  have e2 : vget xs = ⟨y, i + 1, X + 2 ^ (7 * i) * 0⟩ := by
    rw [h.vr, hd, vread]
    rcases hy with ⟨rfl, rfl, h1⟩ | ⟨rfl, h0, h1, h2⟩
    · rw [if_pos ⟨by omega, h1⟩]
      simp [VR.up, Nat.add_comm]
    · rw [if_neg (by omega), if_pos ⟨beq_false_of_ne (by omega), h2⟩]
      simp [VR.up, Nat.add_comm]
  rw [e2]
  have hy0 : ¬ y = 0 := by rcases hy with ⟨rfl, _⟩ | ⟨rfl, _⟩ <;> simp
  simp only [refOut, if_neg hy0]
  rw [show a + ((i + 1 : Nat) : Int) = a + i + 1 by omega]

theorem RState2.last (h : RState2 xs a B R w i X wr) (hs : i < xs.length) (b : Int) (hb : b = xs.getD i 0) (h9 : ¬ (i = 9 ∧ 1 < b)) (h0 : ¬ (0 < i ∧ b = 0)) (h1 : b < 128) : refOut xs a (vget xs) = .tuple #[rdr (xs.drop (i + 1)) (a + i + 1) 0, .int .u64 (X + 2 ^ (7 * i) * b)] := by
  have hd := drop_cons (xs := xs) (n := i) hs
  rw [← hb] at hd
  have hi9 := h.i9
  have e2 : vget xs = ⟨0, i + 1, X + 2 ^ (7 * i) * b⟩ := by
    rw [h.vr, hd, vread, if_neg (by omega), if_neg (fun hh => h0 ⟨Nat.pos_of_ne_zero (by simpa using hh.1), hh.2⟩), if_pos h1]
    simp [VR.up, Nat.add_comm]
  rw [e2]
  simp only [refOut]
  rw [show a + ((i + 1 : Nat) : Int) = a + i + 1 by omega]
  rfl

/-- More follow. -/
theorem RState2.more (h : RState2 xs a B R w i X wr) (hs : i < xs.length) (b : Int) (hb : b = xs.getD i 0) (h9 : i ≤ 8) (h0 : 128 ≤ b) (h1 : b < 256) {w2 : World}
    (hrd : Whole w2 B 84 #[.string (strOfNums (xs.drop (i + 1))), .int .i64 (a + i + 1), .int .i64 0]) (hres : Whole w2 R 84 #[.string { data := #[] }, .int .i64 0, .int .i64 0]) (hk : Keeps NoBlock w w2) : RState2 xs a B R w (i + 1) (X + 2 ^ (7 * i) * (b.toNat % 128)) w2 := by
  have hd := drop_cons (xs := xs) (n := i) hs
  rw [← hb] at hd
  have hp : 2 ^ (7 * (i + 1)) = 128 * 2 ^ (7 * i) := by rw [show 7 * (i + 1) = 7 + 7 * i by omega, Nat.pow_add]
  refine ⟨by rw [show a + ((i + 1 : Nat) : Int) = a + i + 1 by omega]; exact hrd, hres, hk, ?_, ?_, by omega, by omega⟩
  · have := h.lt
    have h2 : 2 ^ (7 * i) * (b.toNat % 128) ≤ 2 ^ (7 * i) * 127 := Nat.mul_le_mul_left _ (by omega)
    omega
  · rw [h.vr, hd, vread, if_neg (by omega), if_neg (by omega), if_neg (by omega)]
    have e1 : 9 - i = 9 - (i + 1) + 1 := by omega
    rw [show ((i + 1 == 0) : Bool) = false from by simp, ← e1]
    simp only [VR.up, VR.mk.injEq, true_and]
    refine ⟨by omega, ?_⟩
    have e2 : ((2 : Int) ^ (7 * (i + 1))) = 128 * 2 ^ (7 * i) := by rw [show 7 * (i + 1) = 7 + 7 * i by omega, Int.pow_add]; rfl
    have e3 : ((X + 2 ^ (7 * i) * (b.toNat % 128) : Nat) : Int) = X + 2 ^ (7 * i) * (b - 128) := by
      push_cast
      congr 2
      omega
    rw [e2, e3, Int.mul_add, Int.mul_assoc, Int.add_assoc, Int.mul_left_comm]
end

/-- The byte's group is added. -/
theorem acc_group (X P i : Nat) (b : Int) (b0 : 0 ≤ b) (b1 : b < 256) (hX : X < 2 ^ (7 * i)) (hP : P = 2 ^ (7 * i)) (hi : i ≤ 9) (h9 : i = 9 → b ≤ 1) :
    IntKind.u64.wrap ((X : Int) + IntKind.u64.wrap (b % 128 * (P : Int))) = ((X + 2 ^ (7 * i) * (b.toNat % 128) : Nat) : Int) := by
  rw [← hP] at hX ⊢
  have hm : (b % 128 * (P : Int)) = ((P * (b.toNat % 128) : Nat) : Int) := by
    push_cast
    rw [Int.mul_comm]
    congr 1
    omega
  have hp : P * (b.toNat % 128) ≤ 9223372036854775808 := by
    by_cases h : i = 9
    · subst h
      have := h9 rfl
      have h1 : b.toNat % 128 ≤ 1 := by omega
      have h2 : P * (b.toNat % 128) ≤ P * 1 := Nat.mul_le_mul_left _ h1
      rw [hP] at h2 ⊢
      exact Nat.le_trans h2 (by decide)
    · have h1 : P ≤ 2 ^ 56 := by rw [hP]; exact Nat.pow_le_pow_right (by omega) (by omega)
      have h2 : P * (b.toNat % 128) ≤ 2 ^ 56 * 127 := Nat.mul_le_mul h1 (by omega)
      exact Nat.le_trans h2 (by decide)
  have hq : P ≤ 9223372036854775808 := by
    have h1 : P ≤ 2 ^ 63 := by rw [hP]; exact Nat.pow_le_pow_right (by omega) (by omega)
    exact h1
  rw [hm, IntKind.wrap_u64, IntKind.wrap_u64]
  omega

theorem acc_last (X P i : Nat) (b : Int) (b0 : 0 ≤ b) (b1 : b < 128) (hX : X < 2 ^ (7 * i)) (hP : P = 2 ^ (7 * i)) (hi : i ≤ 9) (h9 : i = 9 → b ≤ 1) :
    IntKind.u64.wrap ((X : Int) + IntKind.u64.wrap (b % 128 * (P : Int))) = X + 2 ^ (7 * i) * b := by
  rw [acc_group X P i b b0 (by omega) hX hP hi h9]
  push_cast
  congr 2
  omega

theorem acc_pow (P i : Nat) (hP : P = 2 ^ (7 * i)) (hi : i ≤ 8) : IntKind.u64.wrap ((P : Int) * 128) = ((2 ^ (7 * (i + 1)) : Nat) : Int) := by
  have e : 2 ^ (7 * (i + 1)) = P * 128 := by rw [hP, show 7 * (i + 1) = 7 * i + 7 by omega, Nat.pow_add]
  have h1 : P ≤ 2 ^ 56 := by rw [hP]; exact Nat.pow_le_pow_right (by omega) (by omega)
  rw [e, IntKind.wrap_u64]
  omega

end Go.Proofs.Ytmifbohdepejaaa

namespace Go.Proofs.Ytmifbohdepejaaa
open Go.RowKit

theorem Keeps.set3 {S : Nat → Prop} {a b : World} (h : Keeps S a b) {g : Nat} (hg : a.heap.size ≤ g) (x y z : Value) : Keeps S a (((b.setCell ⟨g, 0, none⟩ x).setCell ⟨g, 1, none⟩ y).setCell ⟨g, 2, none⟩ z) :=
  ((h.setNew hg 0 x).setNew hg 1 y).setNew hg 2 z
theorem Whole.other3 {w : World} {g h : Nat} {t : TypeId} {cs : Array Value} (hw : Whole w g t cs) (hn : g ≠ h) (x y z : Value) : Whole (((w.setCell ⟨h, 0, none⟩ x).setCell ⟨h, 1, none⟩ y).setCell ⟨h, 2, none⟩ z) g t cs :=
  ((hw.setOther (p := ⟨h, 0, none⟩) hn x).setOther (p := ⟨h, 1, none⟩) hn y).setOther (p := ⟨h, 2, none⟩) hn z
theorem Whole.set3 {w : World} {g : Nat} {t : TypeId} {a b c : Value} (hw : Whole w g t #[a, b, c]) (x y z : Value) : Whole (((w.setCell ⟨g, 0, none⟩ x).setCell ⟨g, 1, none⟩ y).setCell ⟨g, 2, none⟩ z) g t #[x, y, z] := by
  have := ((hw.set 0 x).set 1 y).set 2 z
  simpa using this
end Go.Proofs.Ytmifbohdepejaaa

namespace Go.Proofs.Ytmifbohdepejaaa
open Go.RowKit

/-- What Put leaves. -/
def PutOk (base g : Nat) (xs : List Int) (w : World) (e : Ending) (w' : World) : Prop :=
  e = .returned (.tuple #[]) ∧ BufAt w' base g xs ∧ Keeps (OnBuf base g) w w'

theorem one_conv {v : Int} {W : World} {g : Nat} {t : TypeId} (h : Whole W g t #[.int .u8 v]) : (convert 27 9 (.slice (some ⟨g, 0, none⟩) 1 1)).run Try.prog W = .ok (.string (strOfNums [v])) W :=
  textOf _ 1 1 [v] _ rfl (h.bytes [v] (fun i hi => by
    match i, hi with
    | 0, _ => rfl))

theorem vnum_conv (v : Int) (w : World) : (convert 27 9 (.slice (some ⟨w.heap.size, 0, none⟩) 1 1)).run Try.prog (w.alloc (.cells #[.int .u8 v] 5)) = .ok (.string (strOfNums [v])) (w.alloc (.cells #[.int .u8 v] 5)) :=
  one_conv (Whole.new w _ _)
theorem vnum_convD (v : Int) (w : World) : (convert 27 9 (.slice (some ⟨w.heap.size, 0, none⟩) 1 1)).run Try.prog (w.alloc (.cells #[.int .u8 v] 5)).drew = .ok (.string (strOfNums [v])) (w.alloc (.cells #[.int .u8 v] 5)).drew :=
  one_conv (W := (w.alloc (.cells #[.int .u8 v] 5)).drew) (show Whole _ _ 5 _ from Whole.new w _ _)
theorem vnum_conv_keep {v : Int} {w w1 : World} (h : Keeps NoBlock (w.alloc (.cells #[.int .u8 v] 5)).drew w1) :
    (convert 27 9 (.slice (some ⟨w.heap.size, 0, none⟩) 1 1)).run Try.prog w1 = .ok (.string (strOfNums [v])) w1 ∧ (convert 27 9 (.slice (some ⟨w.heap.size, 0, none⟩) 1 1)).run Try.prog w1.drew = .ok (.string (strOfNums [v])) w1.drew := by
  have hw : Whole w1 w.heap.size 5 #[.int .u8 v] := (show Whole (w.alloc (.cells #[.int .u8 v] 5)).drew _ _ _ from Whole.new w _ _).keep h (fun h => h)
  exact ⟨one_conv hw, one_conv (show Whole w1.drew _ 5 _ from hw)⟩

end Go.Proofs.Ytmifbohdepejaaa

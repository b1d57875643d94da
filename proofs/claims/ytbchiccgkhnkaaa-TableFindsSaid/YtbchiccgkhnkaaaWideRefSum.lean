/-
  The document's Sum of 64 bits.
-/
import Derived.Test.YtbchiccgkhnkaaaWideBegin
import Derived.Deep.CutRange
import Derived.Deep.DeepCutAuto
namespace Go.Proofs.Ytbchiccgkhnkaaa
open Go.RowKit

set_option maxHeartbeats 2000000 in
set_option maxRecDepth 10000 in
theorem wsum_ref (s : Int) (xs : List Int) (hs : U64 s) (ho : Octets xs) (hl : xs.length ≤ 140737488355328) (w : World) :
    Calls Try.prog 29 #[.int .u64 s, .string (strOfNums xs)] w fun e w' => e = .returned (.int .u64 (wxxh s xs)) ∧ Keeps NoBlock w w' := by
  have hss : (strOfNums xs).size = xs.length := str_size xs
  have HBeg := Lib.hid (fun w => wbegin_ref s xs hs ho w)
  obtain ⟨n, hn⟩ : ∃ n, n = xs.length := ⟨_, rfl⟩
  have h0 := hs.1
  have h1 := hs.2
  have HO := Lib.hid ho
  have HN := Lib.hid hn
  rw [← hn] at hss hl
  clear hs ho hn
  go_enter Try.func29, Try.ntmps29
  go_upto_if 17 with (fail)
  go_cut [1, 6] (fun s1 s6 wx => s1 = .string (strOfNums (wleft xs)) ∧ s6 = .int .u64 (wblocks s xs) ∧ Keeps NoBlock w wx)
  case first =>
    by_cases hlt : 32 ≤ n
    · have hdn : decide ((32 : Int) ≤ (n : Int)) = true := decide_eq_true (by omega)
      have hwb : wblocks s xs = wmerged (wnums (wseed s) xs (xs.length / 32)) 4 := by
        unfold wblocks
        rw [if_neg (by have := HN.out; omega)]
      have HWB := Lib.hid hwb
      obtain ⟨B, hB⟩ : ∃ B, B = wmerged (wnums (wseed s) xs (xs.length / 32)) 4 := ⟨_, rfl⟩
      rw [← hB] at HBeg HWB
      clear hB hwb
      go_wp2_with fail
      refine (HBeg.out _).mono ?_
      rintro e w1 ⟨rfl, hk⟩
      have HK := Lib.hid hk
      clear hk
      go_wp2_with fail
      go_meet
      case rel => exact ⟨rfl, by rw [HWB.out], HK.out⟩
    · have hwb : wblocks s xs = IntKind.u64.wrap (s + 2870177450012600261) := by
        unfold wblocks
        rw [if_pos (by have := HN.out; omega)]
      have hwl : wleft xs = xs := by
        unfold wleft
        rw [show xs.length / 32 = 0 by have := HN.out; omega]
        rfl
      have HWB := Lib.hid hwb
      have HWL := Lib.hid hwl
      clear hwb hwl HBeg
      go_wp2_with fail
      go_meet
      case rel => exact ⟨by rw [HWL.out], by rw [HWB.out], Keeps.refl _ _⟩
  case rest =>
    obtain ⟨rfl, rfl, hk⟩ := hcut
    have HK := Lib.hid hk
    have hspec : wxxh s xs = wend (weights (IntKind.u64.wrap (wblocks s xs + (xs.length : Int))) (wleft xs)) := rfl
    have hB0 := wblocks_bound s xs
    have hL2 := wleft_length xs
    have hLo := HO.out.wleft
    obtain ⟨B, hB⟩ : ∃ B, B = wblocks s xs := ⟨_, rfl⟩
    obtain ⟨L, hL⟩ : ∃ L, L = wleft xs := ⟨_, rfl⟩
    rw [← hB] at hB0 hspec ⊢
    rw [← hL] at hL2 hLo hspec ⊢
    rw [← HN.out] at hspec hL2
    have hln : L.length ≤ 31 := by omega
    have HS0 := Lib.hid hspec
    have HLo := Lib.hid hLo
    have HLn := Lib.hid hln
    have B0 := hB0.1
    have B1 := hB0.2
    clear hB hL hB0 hL2 hLo hspec hk HO h0 h1 hss HBeg hln
    go_wp2_with fail
    obtain ⟨h1, hh1⟩ : ∃ h1, h1 = IntKind.u64.wrap (B + (n : Int)) := ⟨_, rfl⟩
    have hb1 := wmod_bound (B + (n : Int))
    rw [← hh1] at hb1 HS0 ⊢
    have HB1 := Lib.hid hb1
    clear hh1 B0 B1 hb1
    obtain ⟨W0, rfl⟩ : ∃ W0, W0 = wc := ⟨_, rfl⟩
    go_loop [1, 6] (fun s1 s6 => ∃ (h : Int) (ys : List Int), s1 = .string (strOfNums ys) ∧ s6 = .int .u64 h ∧ Hid (U64 h) ∧ Hid (Octets ys) ∧ ys.length ≤ 31 ∧ Hid (weights h ys = weights h1 L)) (fun s1 _ => strSize s1)
    case atStart => exact ⟨_, L, rfl, rfl, HB1, HLo, HLn.out, Lib.hid rfl⟩
    case round =>
      obtain ⟨h, ys, rfl, rfl, hu, hy, hyl, ht⟩ := hrel
      have hys : (strOfNums ys).size = ys.length := str_size ys
      obtain ⟨m, hm⟩ : ∃ m, m = ys.length := ⟨_, rfl⟩
      have HM := Lib.hid hm
      rw [← hm] at hyl hys
      clear hm
      have hu0 := hu.out.1
      have hu1 := hu.out.2
      by_cases h8 : 8 ≤ m
      · have hdm : decide ((8 : Int) ≤ (m : Int)) = true := decide_eq_true (by omega)
        have hex : (strOfNums ys).extract 0 8 = strOfNums ((ys.drop (8 * 0)).take 8) := str_piece ys _ _ _ _ rfl rfl
        have hd8 := str_drop ys 8
        rw [hys] at hd8
        have HV := Lib.hid (fun w => value_ref ((ys.drop (8 * 0)).take 8) ((hy.out.drop _).take _) (by simp; omega) w)
        obtain ⟨y, hyd⟩ : ∃ y, y = four8 ys 0 := ⟨_, rfl⟩
        have hyb := four8_bound hy.out 0
        rw [show le ((ys.drop (8 * 0)).take 8) = four8 ys 0 from rfl, ← hyd] at HV
        rw [← hyd] at hyb
        have HI := Lib.hid (fun w => winto_ref 0 y ⟨by decide, by decide⟩ hyb w)
        have HT := Lib.hid (fun w => wturn_ref (xr h (win 0 y)) 27 27 (by decide) rfl (xr_bound _ _) w)
        have HG := Lib.hid (weights_go (h := h) (xs := ys) (by have := HM.out; omega))
        rw [← hyd] at HG
        have he : weight h y = IntKind.u64.wrap (IntKind.u64.wrap (wrot 27 (xr h (win 0 y)) * 11400714785074694791) + 9650029242287828579) := rfl
        have HE := Lib.hid he
        clear hyd hyb he
        go_wp2_with fail
        refine (HV.out _).mono ?_
        rintro e w' ⟨rfl, rfl⟩
        go_wp2_with fail
        refine (HI.out _).mono ?_
        rintro e w' ⟨rfl, rfl⟩
        go_wp2_with fail
        refine (HT.out _).mono ?_
        rintro e w' ⟨rfl, rfl⟩
        go_wp2_with fail
        go_round
        case rel =>
          refine ⟨_, ys.drop 8, rfl, rfl, Lib.hid ?_, Lib.hid (hy.out.drop 8), by rw [List.length_drop]; have := HM.out; omega, Lib.hid ?_⟩
          · exact wmod_bound _
          · rw [← HE.out, ← HG.out]
            exact ht.out
        case measure =>
          show strSize (.string (strOfNums (ys.drop 8))) < strSize (.string (strOfNums ys))
          rw [strSize_of, strSize_of, List.length_drop]
          have := HM.out
          omega
      · have HG := Lib.hid (weights_end (h := h) (xs := ys) (by have := HM.out; omega))
        obtain ⟨T, hT⟩ : ∃ T, T = weights h1 L := ⟨_, rfl⟩
        rw [← hT] at HS0 ht
        rw [HG.out] at ht
        clear hT
        have hdm : decide ((8 : Int) ≤ (m : Int)) = false := decide_eq_false (by omega)
        go_wp2_with fail
        obtain ⟨h2, rfl⟩ : ∃ h2, h2 = h := ⟨_, rfl⟩
        go_loop [1, 6] (fun s1 s6 => ∃ (h : Int) (zs : List Int), s1 = .string (strOfNums zs) ∧ s6 = .int .u64 h ∧ Hid (U64 h) ∧ Hid (Octets zs) ∧ zs.length ≤ 7 ∧ Hid (wfours h zs = T)) (fun s1 _ => strSize s1)
        case atStart => exact ⟨_, ys, rfl, rfl, hu, hy, by have := HM.out; omega, ht⟩
        case round =>
          clear hdm hys HM hyl h8 HG hu hy ht hu0 hu1
          obtain ⟨h, zs, rfl, rfl, hu, hy, hyl, ht⟩ := hrel
          have hys : (strOfNums zs).size = zs.length := str_size zs
          obtain ⟨m, hm⟩ : ∃ m, m = zs.length := ⟨_, rfl⟩
          have HM := Lib.hid hm
          rw [← hm] at hyl hys
          clear hm
          have hu0 := hu.out.1
          have hu1 := hu.out.2
          by_cases h4 : 4 ≤ m
          · have hdm : decide ((4 : Int) ≤ (m : Int)) = true := decide_eq_true (by omega)
            have hex : (strOfNums zs).extract 0 4 = strOfNums ((zs.drop (4 * 0)).take 4) := str_piece zs _ _ _ _ rfl rfl
            have hd8 := str_drop zs 4
            rw [hys] at hd8
            have HV := Lib.hid (fun w => value_ref ((zs.drop (4 * 0)).take 4) ((hy.out.drop _).take _) (by simp; omega) w)
            obtain ⟨y, hyd⟩ : ∃ y, y = four4 zs 0 := ⟨_, rfl⟩
            rw [show le ((zs.drop (4 * 0)).take 4) = four4 zs 0 from rfl, ← hyd] at HV
            have HT := Lib.hid (fun w => wturn_ref (xr h (IntKind.u64.wrap (y * 11400714785074694791))) 23 23 (by decide) rfl (xr_bound _ _) w)
            have HG := Lib.hid (wfours_go (h := h) (xs := zs) (by have := HM.out; omega))
            rw [← hyd] at HG
            have he : wfour h y = IntKind.u64.wrap (IntKind.u64.wrap (wrot 23 (xr h (IntKind.u64.wrap (y * 11400714785074694791))) * 14029467366897019727) + 1609587929392839161) := rfl
            have HE := Lib.hid he
            clear hyd he
            go_wp2_with fail
            refine (HV.out _).mono ?_
            rintro e w' ⟨rfl, rfl⟩
            go_wp2_with fail
            refine (HT.out _).mono ?_
            rintro e w' ⟨rfl, rfl⟩
            go_wp2_with fail
            go_round
            case rel =>
              refine ⟨_, zs.drop 4, rfl, rfl, Lib.hid ?_, Lib.hid (hy.out.drop 4), by rw [List.length_drop]; have := HM.out; omega, Lib.hid ?_⟩
              · exact wmod_bound _
              · rw [← HE.out, ← HG.out]
                exact ht.out
            case measure =>
              show strSize (.string (strOfNums (zs.drop 4))) < strSize (.string (strOfNums zs))
              rw [strSize_of, strSize_of, List.length_drop]
              have := HM.out
              omega
          · have HG := Lib.hid (wfours_end (h := h) (xs := zs) (by have := HM.out; omega))
            rw [HG.out] at ht
            have hdm : decide ((4 : Int) ≤ (m : Int)) = false := decide_eq_false (by omega)
            go_wp2_with fail
            go_loop [6, 8] (fun s6 i => ∃ k : Nat, k ≤ m ∧ i = .int .i64 (k : Int) ∧ s6 = .int .u64 ((zs.take k).foldl wone h)) (fun _ i => m - (intOf i).toNat)
            case atStart => exact ⟨0, Nat.zero_le _, rfl, rfl⟩
            case round =>
              obtain ⟨k, hk, rfl, rfl⟩ := hrel
              have hfb := fold_wone (zs.take k) h hu.out
              by_cases hlt : k < m
              · have HN2 := Lib.hid (fold_wnext zs h k (by have := HM.out; omega))
                have hsg := str_get zs hy.out k (by have := HM.out; omega)
                have hgb := hy.out.getD k
                obtain ⟨q, hq⟩ : ∃ q, q = (zs.take k).foldl wone h := ⟨_, rfl⟩
                obtain ⟨b, hb⟩ : ∃ b, b = zs.getD k 0 := ⟨_, rfl⟩
                rw [← hq] at hfb HN2 ⊢
                rw [← hb] at hgb HN2 hsg
                have hq0 := hfb.1
                have hq1 := hfb.2
                have hb0 := hgb.1
                have hb1 := hgb.2
                have HT := Lib.hid (fun w => wturn_ref (xr q (IntKind.u64.wrap (b * 2870177450012600261))) 11 11 (by decide) rfl (xr_bound _ _) w)
                have he : wone q b = IntKind.u64.wrap (wrot 11 (xr q (IntKind.u64.wrap (b * 2870177450012600261))) * 11400714785074694791) := rfl
                have HE := Lib.hid he
                clear hq hb hfb hgb he
                have hdk : decide ((k : Int) < (m : Int)) = true := decide_eq_true (by omega)
                go_wp2_with fail
                refine (HT.out _).mono ?_
                rintro e w' ⟨rfl, rfl⟩
                go_wp2_with fail
                exact ⟨⟨k + 1, by omega, rfl, by rw [HN2.out, HE.out]⟩, by simp [intOf]; omega⟩
              · obtain rfl : k = m := by omega
                rw [List.take_of_length_le (Nat.le_of_eq HM.out.symm), ht.out] at hfb ⊢
                have HX1 := Lib.hid (fun w => wmix_ref T 33 33 (by decide) rfl hfb w)
                have HX2 := Lib.hid (fun w => wmix_ref (IntKind.u64.wrap (down 33 T * 14029467366897019727)) 29 29 (by decide) rfl (wmod_bound _) w)
                have HX3 := Lib.hid (fun w => wmix_ref (IntKind.u64.wrap (down 29 (IntKind.u64.wrap (down 33 T * 14029467366897019727)) * 1609587929392839161)) 32 32 (by decide) rfl (wmod_bound _) w)
                have hend : wend T = down 32 (IntKind.u64.wrap (down 29 (IntKind.u64.wrap (down 33 T * 14029467366897019727)) * 1609587929392839161)) := rfl
                rw [hend] at HS0
                clear hend hfb
                go_wp2_with fail
                refine (HX1.out _).mono ?_
                rintro e w' ⟨rfl, rfl⟩
                go_wp2_with fail
                refine (HX2.out _).mono ?_
                rintro e w' ⟨rfl, rfl⟩
                go_wp2_with fail
                refine (HX3.out _).mono ?_
                rintro e w' ⟨rfl, rfl⟩
                go_wp2_with fail
                go_ret
                exact ⟨by rw [HS0.out]; rfl, HK.out⟩
end Go.Proofs.Ytbchiccgkhnkaaa

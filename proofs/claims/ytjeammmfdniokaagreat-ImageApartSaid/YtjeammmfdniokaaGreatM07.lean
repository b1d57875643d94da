/-
  WideRefSum; TextEq; Ref2; Set3; VarPut; RecRef.
-/
import Derived.Deep.CutRange
import Derived.Deep.DeepCutAuto
import Derived.Deep.Cut
import Derived.Deep.RegionHeld3
import Derived.Lib.Bytes
import Derived.Test.YtjeammmfdniokaaGreatM01
import Derived.Test.YtjeammmfdniokaaGreatM02
import Derived.Test.YtjeammmfdniokaaGreatM04
import Derived.Test.YtjeammmfdniokaaGreatM05
import Derived.Test.YtjeammmfdniokaaGreatM06
namespace Go.Proofs.YtjeammmfdniokaaGreat
open Go.RowKit

set_option maxHeartbeats 2000000 in
set_option maxRecDepth 10000 in
theorem wsum_ref (s : Int) (xs : List Int) (hs : U64 s) (ho : Octets xs) (hl : xs.length ≤ 140737488355328) (w : World) :
    Calls Tryz.prog 43 #[.int .u64 s, .string (strOfNums xs)] w fun e w' => e = .returned (.int .u64 (wxxh s xs)) ∧ Keeps NoBlock w w' := by
  have hss : (strOfNums xs).size = xs.length := str_size xs
  have HBeg := Lib.hid (fun w => wbegin_ref s xs hs ho w)
  obtain ⟨n, hn⟩ : ∃ n, n = xs.length := ⟨_, rfl⟩
  have h0 := hs.1
  have h1 := hs.2
  have HO := Lib.hid ho
  have HN := Lib.hid hn
  rw [← hn] at hss hl
  clear hs ho hn
  go_enter Tryz.func43, Tryz.ntmps43
  go_upto_if 17 with (fail)
  go_cut [1, 6] (fun s1 s6 wx => s1 = .string (strOfNums (wleft xs)) ∧ s6 = .int .u64 (wblocks s xs) ∧ Keeps NoBlock w wx)
  case first =>
    by_cases hlt : 32 ≤ n
    · have hdn : decide ((32 : Int) ≤ (n : Int)) = true := decide_eq_true (by omega)
      have hwb : wblocks s xs = wmerged (wnums (wseed s) xs (xs.length / 32)) 4 := by
        unfold wblocks
        rw [if_neg (by have := HN.out; omega)]
      have HWB := Lib.hid hwb
      obtain ⟨B, hB⟩ : ∃ B, B = wmerged (wnums (wseed s) xs (xs.length / 32)) 4 := ⟨_, rfl⟩
      rw [← hB] at HBeg HWB
      clear hB hwb
      go_wp2_with fail
      refine (HBeg.out _).mono ?_
      rintro e w1 ⟨rfl, hk⟩
      have HK := Lib.hid hk
      clear hk
      go_wp2_with fail
      go_meet
      case rel => exact ⟨rfl, by rw [HWB.out], HK.out⟩
    · have hwb : wblocks s xs = IntKind.u64.wrap (s + 2870177450012600261) := by
        unfold wblocks
        rw [if_pos (by have := HN.out; omega)]
      have hwl : wleft xs = xs := by
        unfold wleft
        rw [show xs.length / 32 = 0 by have := HN.out; omega]
        rfl
      have HWB := Lib.hid hwb
      have HWL := Lib.hid hwl
      clear hwb hwl HBeg
      go_wp2_with fail
      go_meet
      case rel => exact ⟨by rw [HWL.out], by rw [HWB.out], Keeps.refl _ _⟩
  case rest =>
    obtain ⟨rfl, rfl, hk⟩ := hcut
    have HK := Lib.hid hk
    have hspec : wxxh s xs = wend (weights (IntKind.u64.wrap (wblocks s xs + (xs.length : Int))) (wleft xs)) := rfl
    have hB0 := wblocks_bound s xs
    have hL2 := wleft_length xs
    have hLo := HO.out.wleft
    obtain ⟨B, hB⟩ : ∃ B, B = wblocks s xs := ⟨_, rfl⟩
    obtain ⟨L, hL⟩ : ∃ L, L = wleft xs := ⟨_, rfl⟩
    rw [← hB] at hB0 hspec ⊢
    rw [← hL] at hL2 hLo hspec ⊢
    rw [← HN.out] at hspec hL2
    have hln : L.length ≤ 31 := by omega
    have HS0 := Lib.hid hspec
    have HLo := Lib.hid hLo
    have HLn := Lib.hid hln
    have B0 := hB0.1
    have B1 := hB0.2
    clear hB hL hB0 hL2 hLo hspec hk HO h0 h1 hss HBeg hln
    go_wp2_with fail
    obtain ⟨h1, hh1⟩ : ∃ h1, h1 = IntKind.u64.wrap (B + (n : Int)) := ⟨_, rfl⟩
    have hb1 := wmod_bound (B + (n : Int))
    rw [← hh1] at hb1 HS0 ⊢
    have HB1 := Lib.hid hb1
    clear hh1 B0 B1 hb1
    obtain ⟨W0, rfl⟩ : ∃ W0, W0 = wc := ⟨_, rfl⟩
    go_loop [1, 6] (fun s1 s6 => ∃ (h : Int) (ys : List Int), s1 = .string (strOfNums ys) ∧ s6 = .int .u64 h ∧ Hid (U64 h) ∧ Hid (Octets ys) ∧ ys.length ≤ 31 ∧ Hid (weights h ys = weights h1 L)) (fun s1 _ => strSize s1)
    case atStart => exact ⟨_, L, rfl, rfl, HB1, HLo, HLn.out, Lib.hid rfl⟩
    case round =>
      obtain ⟨h, ys, rfl, rfl, hu, hy, hyl, ht⟩ := hrel
      have hys : (strOfNums ys).size = ys.length := str_size ys
      obtain ⟨m, hm⟩ : ∃ m, m = ys.length := ⟨_, rfl⟩
      have HM := Lib.hid hm
      rw [← hm] at hyl hys
      clear hm
      have hu0 := hu.out.1
      have hu1 := hu.out.2
      by_cases h8 : 8 ≤ m
      · have hdm : decide ((8 : Int) ≤ (m : Int)) = true := decide_eq_true (by omega)
        have hex : (strOfNums ys).extract 0 8 = strOfNums ((ys.drop (8 * 0)).take 8) := str_piece ys _ _ _ _ rfl rfl
        have hd8 := str_drop ys 8
        rw [hys] at hd8
        have HV := Lib.hid (fun w => value_ref ((ys.drop (8 * 0)).take 8) ((hy.out.drop _).take _) (by simp; omega) w)
        obtain ⟨y, hyd⟩ : ∃ y, y = four8 ys 0 := ⟨_, rfl⟩
        have hyb := four8_bound hy.out 0
        rw [show le ((ys.drop (8 * 0)).take 8) = four8 ys 0 from rfl, ← hyd] at HV
        rw [← hyd] at hyb
        have HI := Lib.hid (fun w => winto_ref 0 y ⟨by decide, by decide⟩ hyb w)
        have HT := Lib.hid (fun w => wturn_ref (xr h (win 0 y)) 27 27 (by decide) rfl (xr_bound _ _) w)
        have HG := Lib.hid (weights_go (h := h) (xs := ys) (by have := HM.out; omega))
        rw [← hyd] at HG
        have he : weight h y = IntKind.u64.wrap (IntKind.u64.wrap (wrot 27 (xr h (win 0 y)) * 11400714785074694791) + 9650029242287828579) := rfl
        have HE := Lib.hid he
        clear hyd hyb he
        go_wp2_with fail
        refine (HV.out _).mono ?_
        rintro e w' ⟨rfl, rfl⟩
        go_wp2_with fail
        refine (HI.out _).mono ?_
        rintro e w' ⟨rfl, rfl⟩
        go_wp2_with fail
        refine (HT.out _).mono ?_
        rintro e w' ⟨rfl, rfl⟩
        go_wp2_with fail
        go_round
        case rel =>
          refine ⟨_, ys.drop 8, rfl, rfl, Lib.hid ?_, Lib.hid (hy.out.drop 8), by rw [List.length_drop]; have := HM.out; omega, Lib.hid ?_⟩
          · exact wmod_bound _
          · rw [← HE.out, ← HG.out]
            exact ht.out
        case measure =>
          show strSize (.string (strOfNums (ys.drop 8))) < strSize (.string (strOfNums ys))
          rw [strSize_of, strSize_of, List.length_drop]
          have := HM.out
          omega
      · have HG := Lib.hid (weights_end (h := h) (xs := ys) (by have := HM.out; omega))
        obtain ⟨T, hT⟩ : ∃ T, T = weights h1 L := ⟨_, rfl⟩
        rw [← hT] at HS0 ht
        rw [HG.out] at ht
        clear hT
        have hdm : decide ((8 : Int) ≤ (m : Int)) = false := decide_eq_false (by omega)
        go_wp2_with fail
        obtain ⟨h2, rfl⟩ : ∃ h2, h2 = h := ⟨_, rfl⟩
        go_loop [1, 6] (fun s1 s6 => ∃ (h : Int) (zs : List Int), s1 = .string (strOfNums zs) ∧ s6 = .int .u64 h ∧ Hid (U64 h) ∧ Hid (Octets zs) ∧ zs.length ≤ 7 ∧ Hid (wfours h zs = T)) (fun s1 _ => strSize s1)
        case atStart => exact ⟨_, ys, rfl, rfl, hu, hy, by have := HM.out; omega, ht⟩
        case round =>
          clear hdm hys HM hyl h8 HG hu hy ht hu0 hu1
          obtain ⟨h, zs, rfl, rfl, hu, hy, hyl, ht⟩ := hrel
          have hys : (strOfNums zs).size = zs.length := str_size zs
          obtain ⟨m, hm⟩ : ∃ m, m = zs.length := ⟨_, rfl⟩
          have HM := Lib.hid hm
          rw [← hm] at hyl hys
          clear hm
          have hu0 := hu.out.1
          have hu1 := hu.out.2
          by_cases h4 : 4 ≤ m
          · have hdm : decide ((4 : Int) ≤ (m : Int)) = true := decide_eq_true (by omega)
            have hex : (strOfNums zs).extract 0 4 = strOfNums ((zs.drop (4 * 0)).take 4) := str_piece zs _ _ _ _ rfl rfl
            have hd8 := str_drop zs 4
            rw [hys] at hd8
            have HV := Lib.hid (fun w => value_ref ((zs.drop (4 * 0)).take 4) ((hy.out.drop _).take _) (by simp; omega) w)
            obtain ⟨y, hyd⟩ : ∃ y, y = four4 zs 0 := ⟨_, rfl⟩
            rw [show le ((zs.drop (4 * 0)).take 4) = four4 zs 0 from rfl, ← hyd] at HV
            have HT := Lib.hid (fun w => wturn_ref (xr h (IntKind.u64.wrap (y * 11400714785074694791))) 23 23 (by decide) rfl (xr_bound _ _) w)
            have HG := Lib.hid (wfours_go (h := h) (xs := zs) (by have := HM.out; omega))
            rw [← hyd] at HG
            have he : wfour h y = IntKind.u64.wrap (IntKind.u64.wrap (wrot 23 (xr h (IntKind.u64.wrap (y * 11400714785074694791))) * 14029467366897019727) + 1609587929392839161) := rfl
            have HE := Lib.hid he
            clear hyd he
            go_wp2_with fail
            refine (HV.out _).mono ?_
            rintro e w' ⟨rfl, rfl⟩
            go_wp2_with fail
            refine (HT.out _).mono ?_
            rintro e w' ⟨rfl, rfl⟩
            go_wp2_with fail
            go_round
            case rel =>
              refine ⟨_, zs.drop 4, rfl, rfl, Lib.hid ?_, Lib.hid (hy.out.drop 4), by rw [List.length_drop]; have := HM.out; omega, Lib.hid ?_⟩
              · exact wmod_bound _
              · rw [← HE.out, ← HG.out]
                exact ht.out
            case measure =>
              show strSize (.string (strOfNums (zs.drop 4))) < strSize (.string (strOfNums zs))
              rw [strSize_of, strSize_of, List.length_drop]
              have := HM.out
              omega
          · have HG := Lib.hid (wfours_end (h := h) (xs := zs) (by have := HM.out; omega))
            rw [HG.out] at ht
            have hdm : decide ((4 : Int) ≤ (m : Int)) = false := decide_eq_false (by omega)
            go_wp2_with fail
            go_loop [6, 8] (fun s6 i => ∃ k : Nat, k ≤ m ∧ i = .int .i64 (k : Int) ∧ s6 = .int .u64 ((zs.take k).foldl wone h)) (fun _ i => m - (intOf i).toNat)
            case atStart => exact ⟨0, Nat.zero_le _, rfl, rfl⟩
            case round =>
              obtain ⟨k, hk, rfl, rfl⟩ := hrel
              have hfb := fold_wone (zs.take k) h hu.out
              by_cases hlt : k < m
              · have HN2 := Lib.hid (fold_wnext zs h k (by have := HM.out; omega))
                have hsg := str_get zs hy.out k (by have := HM.out; omega)
                have hgb := hy.out.getD k
                obtain ⟨q, hq⟩ : ∃ q, q = (zs.take k).foldl wone h := ⟨_, rfl⟩
                obtain ⟨b, hb⟩ : ∃ b, b = zs.getD k 0 := ⟨_, rfl⟩
                rw [← hq] at hfb HN2 ⊢
                rw [← hb] at hgb HN2 hsg
                have hq0 := hfb.1
                have hq1 := hfb.2
                have hb0 := hgb.1
                have hb1 := hgb.2
                have HT := Lib.hid (fun w => wturn_ref (xr q (IntKind.u64.wrap (b * 2870177450012600261))) 11 11 (by decide) rfl (xr_bound _ _) w)
                have he : wone q b = IntKind.u64.wrap (wrot 11 (xr q (IntKind.u64.wrap (b * 2870177450012600261))) * 11400714785074694791) := rfl
                have HE := Lib.hid he
                clear hq hb hfb hgb he
                have hdk : decide ((k : Int) < (m : Int)) = true := decide_eq_true (by omega)
                go_wp2_with fail
                refine (HT.out _).mono ?_
                rintro e w' ⟨rfl, rfl⟩
                go_wp2_with fail
                exact ⟨⟨k + 1, by omega, rfl, by rw [HN2.out, HE.out]⟩, by simp [intOf]; omega⟩
              · obtain rfl : k = m := by omega
                rw [List.take_of_length_le (Nat.le_of_eq HM.out.symm), ht.out] at hfb ⊢
                have HX1 := Lib.hid (fun w => wmix_ref T 33 33 (by decide) rfl hfb w)
                have HX2 := Lib.hid (fun w => wmix_ref (IntKind.u64.wrap (down 33 T * 14029467366897019727)) 29 29 (by decide) rfl (wmod_bound _) w)
                have HX3 := Lib.hid (fun w => wmix_ref (IntKind.u64.wrap (down 29 (IntKind.u64.wrap (down 33 T * 14029467366897019727)) * 1609587929392839161)) 32 32 (by decide) rfl (wmod_bound _) w)
                have hend : wend T = down 32 (IntKind.u64.wrap (down 29 (IntKind.u64.wrap (down 33 T * 14029467366897019727)) * 1609587929392839161)) := rfl
                rw [hend] at HS0
                clear hend hfb
                go_wp2_with fail
                refine (HX1.out _).mono ?_
                rintro e w' ⟨rfl, rfl⟩
                go_wp2_with fail
                refine (HX2.out _).mono ?_
                rintro e w' ⟨rfl, rfl⟩
                go_wp2_with fail
                refine (HX3.out _).mono ?_
                rintro e w' ⟨rfl, rfl⟩
                go_wp2_with fail
                go_ret
                exact ⟨by rw [HS0.out]; rfl, HK.out⟩
end Go.Proofs.YtjeammmfdniokaaGreat

namespace Go.Proofs.YtjeammmfdniokaaGreat
open Go.RowKit

theorem strOf_inj {xs ys : List Int} (hx : Octets xs) (hy : Octets ys) (h : strOfNums xs = strOfNums ys) : xs = ys := by
  have e : (strOfNums xs).data.toList = (strOfNums ys).data.toList := by rw [h]
  rw [strOfNums_data, strOfNums_data] at e
  have hm : ∀ {zs : List Int}, Octets zs → (zs.map fun n => UInt8.ofNat n.toNat).map (fun u => ((u.toNat : Nat) : Int)) = zs := fun {zs} hz => by
    rw [List.map_map]
    conv => rhs; rw [← List.map_id zs]
    exact List.map_congr_left fun z hzm => by
      have := hz z hzm
      simp [UInt8.toNat_ofNat']
      omega
  rw [← hm hx, ← hm hy, e]

theorem text_beq (a b : ByteArray) : (a.toList == b.toList) = decide (a = b) := by
  rw [Bool.eq_iff_iff, beq_iff_eq, decide_eq_true_iff, ByteArray.toList_eq, ByteArray.toList_eq]
  exact ⟨fun h => ByteArray.ext (Array.toList_inj.1 h), fun h => by rw [h]⟩
end Go.Proofs.YtjeammmfdniokaaGreat

namespace Go.Proofs.YtjeammmfdniokaaGreat
open Go.RowKit

section
variable {xs : List Int} {a : Int} {B R : Nat} {w : World} {i X : Nat} {wr : World}

end

end Go.Proofs.YtjeammmfdniokaaGreat

namespace Go.Proofs.YtjeammmfdniokaaGreat
open Go.RowKit

end Go.Proofs.YtjeammmfdniokaaGreat

namespace Go.Proofs.YtjeammmfdniokaaGreat
open Go.RowKit

/-- What Put leaves. -/
def PutOk (base g : Nat) (xs : List Int) (w : World) (e : Ending) (w' : World) : Prop :=
  e = .returned (.tuple #[]) ∧ BufAt w' base g xs ∧ Keeps (OnBuf base g) w w'

set_option maxRecDepth 10000 in
set_option maxHeartbeats 800000 in
theorem put_any (base g : Nat) (xs : List Int) (x : Nat) (z : Int) (hz : z = x) (w : World) (h : BufAt w base g xs) (hs : base ≤ w.heap.size) (hx : xs.length + 10 ≤ 140737488355328) (h64 : x < 18446744073709551616) :
    Calls Tryz.prog 73 #[.pointer (some ⟨g, 0, none⟩), .int .u64 z] w (PutOk base g (xs ++ vnum x) w) := by
  subst hz
  have HT := Lib.hid (vnum_ten h64)
  have H := Lib.hid h; have HX := Lib.hid hx; have H64 := Lib.hid h64
  clear h hx h64
  go_enter Tryz.func73, Tryz.ntmps73
  go_wp2_with fail
  go_loopw [1] (fun v wr => ∃ (y : Nat) (pre : List Int), v = .int .u64 y ∧ y ≤ x ∧ Hid (pre ++ vnum y = vnum x) ∧ BufAt wr base g (xs ++ pre) ∧ Keeps (OnBuf base g) w wr) (fun v _ => (intOf v).toNat)
  case atStart => exact ⟨x, [], rfl, Nat.le_refl _, Lib.hid rfl, by simpa using H.out, Keeps.refl _ _⟩
  case round =>
    obtain ⟨y, pre, rfl, hyx, hpre, hbuf, hbel⟩ := hrel
    have HB := Lib.hid hbuf; have HL := Lib.hid hbel
    clear hbuf hbel
    have hlen : xs.length + pre.length + 1 ≤ 140737488355328 := by
      have e := congrArg List.length hpre.out
      rw [List.length_append] at e
      have := HT.out; have := HX.out; have := vnum_pos y
      omega
    have HLen := Lib.hid hlen
    clear hlen
    by_cases hlt : y < 128
    · go_wp2_with fail
      refine (bufByteK base g (xs ++ pre) _ _ HB.out (by have := HL.out.size; omega) (by have := HLen.out; simp; omega)).mono ?_
      rintro e w2 ⟨rfl, hbuf, hbel⟩
      have HB2 := Lib.hid hbuf; have HL2 := Lib.hid (HL.out.trans hbel)
      clear hbuf hbel
      go_wp2_with fail
      go_returns
      refine ⟨rfl, ?_, HL2.out⟩
      have := HB2.out
      have e := hpre.out
      rw [vnum_small hlt] at e
      rw [← e, ← List.append_assoc]
      first | exact this | (have e2 : IntKind.u8.wrap (y : Int) = y := by (rw [IntKind.wrap_u8']; omega)); (rw [e2] at this; exact this)
    · go_wp2_with fail
      refine (bufByteK base g (xs ++ pre) _ _ HB.out (by have := HL.out.size; omega) (by have := HLen.out; simp; omega)).mono ?_
      rintro e w2 ⟨rfl, hbuf, hbel⟩
      have HB2 := Lib.hid hbuf; have HL2 := Lib.hid (HL.out.trans hbel)
      clear hbuf hbel
      go_wp2_with fail
      go_roundw
      case rel =>
        refine ⟨y / 128, pre ++ [((128 + y % 128 : Nat) : Int)], ?_, by omega, Lib.hid ?_, ?_, HL2.out⟩
        · go_num
        · have e := hpre.out
          rw [vnum_big hlt] at e
          rw [← e, List.append_assoc]
          rfl
        · have := HB2.out
          rw [← IntKind.wrap_u8', more_seven] at this
          rw [← List.append_assoc]
          exact this
      case measure => simp [intOf]; omega

theorem one_conv {v : Int} {W : World} {g : Nat} {t : TypeId} (h : Whole W g t #[.int .u8 v]) : (convert 29 9 (.slice (some ⟨g, 0, none⟩) 1 1)).run Tryz.prog W = .ok (.string (strOfNums [v])) W :=
  textOf _ 1 1 [v] _ rfl (h.bytes [v] (fun i hi => by
    match i, hi with
    | 0, _ => rfl))

theorem vnum_conv (v : Int) (w : World) : (convert 29 9 (.slice (some ⟨w.heap.size, 0, none⟩) 1 1)).run Tryz.prog (w.alloc (.cells #[.int .u8 v] 5)) = .ok (.string (strOfNums [v])) (w.alloc (.cells #[.int .u8 v] 5)) :=
  one_conv (Whole.new w _ _)
theorem vnum_convD (v : Int) (w : World) : (convert 29 9 (.slice (some ⟨w.heap.size, 0, none⟩) 1 1)).run Tryz.prog (w.alloc (.cells #[.int .u8 v] 5)).drew = .ok (.string (strOfNums [v])) (w.alloc (.cells #[.int .u8 v] 5)).drew :=
  one_conv (W := (w.alloc (.cells #[.int .u8 v] 5)).drew) (show Whole _ _ 5 _ from Whole.new w _ _)
theorem vnum_conv_keep {v : Int} {w w1 : World} (h : Keeps NoBlock (w.alloc (.cells #[.int .u8 v] 5)).drew w1) :
    (convert 29 9 (.slice (some ⟨w.heap.size, 0, none⟩) 1 1)).run Tryz.prog w1 = .ok (.string (strOfNums [v])) w1 ∧ (convert 29 9 (.slice (some ⟨w.heap.size, 0, none⟩) 1 1)).run Tryz.prog w1.drew = .ok (.string (strOfNums [v])) w1.drew := by
  have hw : Whole w1 w.heap.size 5 #[.int .u8 v] := (show Whole (w.alloc (.cells #[.int .u8 v] 5)).drew _ _ _ from Whole.new w _ _).keep h (fun h => h)
  exact ⟨one_conv hw, one_conv (show Whole w1.drew _ 5 _ from hw)⟩

set_option maxHeartbeats 800000 in
theorem num_bytes (x : Nat) : ∀ (z : Int), z = x → x < 18446744073709551616 → ∀ (w : World),
    Calls Tryz.prog 44 #[.int .u64 z] w fun e w' => e = .returned (.string (strOfNums (vnum x))) ∧ Keeps NoBlock w w' := by
  induction x using Nat.strongRecOn with
  | _ x ih =>
    intro z hz h64 w
    subst hz
    have hcv := vnum_conv
    by_cases hlt : x < 128
    · clear ih
      have hi : (x : Int) < 128 := by omega
      go_enter Tryz.func44, Tryz.ntmps44
      go_wp2_with fail
      go_ret
      refine ⟨?_, (Keeps.refl _ _).alloc _⟩
      rw [vnum_small hlt]
      rfl
    · have hcd := vnum_convD
      have hrec := fun z hz w => ih (x / 128) (by omega) z hz (by omega) w
      have HR := Lib.hid hrec
      have hten := vnum_ten (x := x / 128) (by omega)
      clear ih hrec
      have hi : ¬ (x : Int) < 128 := by omega
      have hsz : ∀ v : Int, ¬ 9223372036854775807 < (strOfNums [v]).size + (strOfNums (vnum (x / 128))).size := fun v => by simp only [str_size, List.length_cons, List.length_nil]; omega
      have HQ := Lib.hid (show IntKind.u64.wrap ((x : Int) / 128) = ((x / 128 : Nat) : Int) by rw [IntKind.wrap_u64]; omega)
      have HV := Lib.hid (show IntKind.u8.wrap (IntKind.u64.wrap (128 + (x : Int).tmod 128)) = ((128 + x % 128 : Nat) : Int) by rw [Int.tmod_eq_emod_of_nonneg (by omega), IntKind.wrap_u64, IntKind.wrap_u8']; omega)
      clear h64
      go_enter Tryz.func44, Tryz.ntmps44
      go_wp2_with fail
      go_region_with (go_at_call 44; refine (HR.out _ HQ.out _).mono ?_; rintro e w1 ⟨rfl, hk⟩; first | (obtain ⟨hc1, hc2⟩ := vnum_conv_keep hk; have HK := Lib.hid hk; clear hk) | (have HK := Lib.hid hk; clear hk))
      all_goals
        go_wp2_with fail
        go_ret
        refine ⟨?_, ?_⟩
        · show Ending.returned (Value.string (strOfNums [IntKind.u8.wrap (IntKind.u64.wrap (128 + (x : Int).tmod 128))] ++ strOfNums (vnum (x / 128)))) = _
          rw [HV.out, str_append, vnum_big hlt]
          rfl
        · first
            | exact (((Keeps.refl NoBlock w).alloc _).drew).trans HK.out
            | exact ((((Keeps.refl NoBlock w).alloc _).drew).trans HK.out).drew
            | exact (((Keeps.refl NoBlock w).drew).trans HK.out).alloc _
            | exact ((((Keeps.refl NoBlock w).drew).trans HK.out).alloc _).drew
            | exact ((((Keeps.refl NoBlock w).drew).trans HK.out).drew).alloc _
            | exact HK.out.alloc _
end Go.Proofs.YtjeammmfdniokaaGreat

namespace Go.Proofs.YtjeammmfdniokaaGreat
open Go.RowKit

/-- A record, as a value. -/
def recV (r : Rec) : Value := .agg #[.bool r.del, .int .u64 (r.seq : Int), .string (strOfNums r.key), .string (strOfNums r.val)]
def recCells (r : Rec) : Array Value := #[.bool r.del, .int .u64 (r.seq : Int), .string (strOfNums r.key), .string (strOfNums r.val)]

set_option maxHeartbeats 800000 in
theorem check7_ref (r : Rec) (h1 : r.key.length ≤ 140737488355328) (h2 : r.val.length ≤ 140737488355328) (w : World) :
    Calls Tryz.prog 46 #[recV r] w fun e w' => e = .returned (.int .i64 (checkR r)) ∧ Keeps NoBlock w w' := by
  obtain ⟨del, seq, key, val⟩ := r
  simp only at h1 h2
  have hk := str_size key
  have hv := str_size val
  have hdef : checkR ⟨del, seq, key, val⟩ = if key.length = 0 then 4 else if 4096 < key.length then 3 else if del = true ∧ 0 < val.length then 4 else if 1048576 < val.length then 3 else 0 := rfl
  rw [hdef]
  unfold recV
  simp only
  clear hdef
  obtain ⟨K, hK⟩ : ∃ K, K = key.length := ⟨_, rfl⟩
  obtain ⟨V, hV⟩ : ∃ V, V = val.length := ⟨_, rfl⟩
  rw [← hK] at h1 hk ⊢
  rw [← hV] at h2 hv ⊢
  clear hK hV
  by_cases c1 : K = 0
  · rw [if_pos c1]
    subst c1
    go_enter Tryz.func46, Tryz.ntmps46
    go_wp2_with fail
    go_ret
    exact ⟨rfl, (Keeps.refl _ _).alloc _⟩
  · rw [if_neg c1]
    have d1 : decide ((K : Int) = 0) = false := decide_eq_false (by omega)
    by_cases c2 : 4096 < K
    · rw [if_pos c2]
      have d2 : decide ((4096 : Int) < (K : Int)) = true := decide_eq_true (by omega)
      go_enter Tryz.func46, Tryz.ntmps46
      go_wp2_with fail
      go_ret
      exact ⟨rfl, (Keeps.refl _ _).alloc _⟩
    · rw [if_neg c2]
      have d2 : decide ((4096 : Int) < (K : Int)) = false := decide_eq_false (by omega)
      cases del with
      | true =>
        by_cases c3 : 0 < V
        · rw [if_pos ⟨rfl, c3⟩]
          have d3 : decide ((0 : Int) < (V : Int)) = true := decide_eq_true (by omega)
          go_enter Tryz.func46, Tryz.ntmps46
          go_wp2_with fail
          go_ret
          exact ⟨rfl, (Keeps.refl _ _).alloc _⟩
        · obtain rfl : V = 0 := by omega
          rw [if_neg (by simp), if_neg (by decide)]
          go_enter Tryz.func46, Tryz.ntmps46
          go_wp2_with fail
          go_ret
          exact ⟨rfl, (Keeps.refl _ _).alloc _⟩
      | false =>
        rw [if_neg (by simp)]
        by_cases c4 : 1048576 < V
        · rw [if_pos c4]
          have d4 : decide ((1048576 : Int) < (V : Int)) = true := decide_eq_true (by omega)
          go_enter Tryz.func46, Tryz.ntmps46
          go_wp2_with fail
          go_ret
          exact ⟨rfl, (Keeps.refl _ _).alloc _⟩
        · rw [if_neg c4]
          have d4 : decide ((1048576 : Int) < (V : Int)) = false := decide_eq_false (by omega)
          go_enter Tryz.func46, Tryz.ntmps46
          go_wp2_with fail
          go_ret
          exact ⟨rfl, (Keeps.refl _ _).alloc _⟩

set_option maxHeartbeats 800000 in
theorem text_ref (xs : List Int) (h : xs.length ≤ 1000000000) (w : World) :
    Calls Tryz.prog 45 #[.string (strOfNums xs)] w fun e w' => e = .returned (.string (strOfNums (textB xs))) ∧ Keeps NoBlock w w' := by
  have HN := Lib.hid (fun w => num_bytes xs.length (xs.length : Int) rfl (by omega) w)
  have hs := str_size xs
  have hten := vnum_ten (x := xs.length) (by omega)
  have hap := str_append (vnum xs.length) xs
  have hsv := str_size (vnum xs.length)
  unfold textB
  obtain ⟨V, hV⟩ : ∃ V, V = vnum xs.length := ⟨_, rfl⟩
  rw [← hV] at HN hten hap hsv ⊢
  obtain ⟨L, hL⟩ : ∃ L, L = xs.length := ⟨_, rfl⟩
  rw [← hL] at HN hs h
  have hroom : ¬ 9223372036854775807 < V.length + L := by omega
  clear hV hL
  go_enter Tryz.func45, Tryz.ntmps45
  go_wp2_with fail
  refine (HN.out _).mono ?_
  rintro e w1 ⟨rfl, hk⟩
  have HK := Lib.hid hk
  clear hk
  go_wp2_with fail
  go_ret
  exact ⟨rfl, HK.out⟩

end Go.Proofs.YtjeammmfdniokaaGreat

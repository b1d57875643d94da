/-
  The document's Sum.
-/
import Derived.Test.YtdkpkpmgiglnhaaThinRef
import Derived.Deep.CutRange
import Derived.Deep.DeepCutAuto
import Derived.Deep.RegionHeld3
import Derived.StillTailTactics
namespace Go.Proofs.Ytdkpkpmgiglnhaa
open Go.RowKit

theorem join_sum {a b c d : Int} (_ha : U32 a) (_hb : U32 b) (_hc : U32 c) (_hd : U32 d) :
    (IntKind.u64.wrap (IntKind.u64.wrap (IntKind.u64.wrap (a + b) + c) + d)).tmod 4294967296 = (a + b + c + d) % 4294967296 := by
  unfold U32 at *
  rw [IntKind.wrap_u64, IntKind.wrap_u64, IntKind.wrap_u64, Int.tmod_eq_emod_of_nonneg (by omega)]
  omega

set_option maxHeartbeats 2000000 in
set_option maxRecDepth 10000 in
theorem sum_ref (s : Int) (xs : List Int) (hs : U32 s) (ho : Octets xs) (hl : xs.length ≤ 140737488355328) (w : World) :
    Calls Try.prog 29 #[.int .u32 s, .string (strOfNums xs)] w fun e w' => e = .returned (.int .u32 (xxh s xs)) ∧ Keeps NoBlock w w' := by
  have hss : (strOfNums xs).size = xs.length := str_size xs
  obtain ⟨n, hn⟩ : ∃ n, n = xs.length := ⟨_, rfl⟩
  have h0 := hs.1
  have h1 := hs.2
  have HS := Lib.hid hs
  have HO := Lib.hid ho
  have HN := Lib.hid hn
  rw [← hn] at hss hl
  clear hs ho hn
  go_enter Try.func29, Try.ntmps29
  go_upto_if 20 with (fail)
  go_cut [1, 5] (fun s1 s5 wx => s1 = .string (strOfNums (tblocks s xs).2) ∧ s5 = .int .u64 (tblocks s xs).1 ∧ Keeps NoBlock w wx)
  case first =>
    by_cases hlt : 16 ≤ n
    · have hdn : decide ((16 : Int) ≤ (n : Int)) = true := decide_eq_true (by omega)
      go_wp2_with fail
      rw [hdn]
      go_loopw [1] (fun s1 wr => ∃ (v : Nat → Int) (ys : List Int), s1 = .string (strOfNums ys) ∧ Whole wr w.heap.size 85 (row4 .u64 v) ∧ Hid (∀ j, j < 4 → U32 (v j)) ∧ Hid (Octets ys) ∧ ys.length ≤ n ∧ Hid (sixteens (v 0) (v 1) (v 2) (v 3) ys = tblocks s xs) ∧ Keeps NoBlock w wr) (fun s1 _ => strSize s1)
      case atStart =>
        have hlt' : ¬ xs.length < 16 := by have := HN.out; omega
        refine ⟨fun j => match j with | 0 => (s + 2654435761 + 2246822519) % 4294967296 | 1 => (s + 2246822519) % 4294967296 | 2 => s | _ => (s + 4294967296 - 2654435761) % 4294967296, xs, rfl, Whole.new _ _ _, Lib.hid ?_, HO, Nat.le_of_eq HN.out.symm, Lib.hid ?_, (Keeps.refl _ _).alloc _⟩
        · intro j hj
          have : j = 0 ∨ j = 1 ∨ j = 2 ∨ j = 3 := by omega
          rcases this with rfl | rfl | rfl | rfl
          · exact mod_bound _
          · exact mod_bound _
          · exact HS.out
          · exact mod_bound _
        · unfold tblocks
          rw [if_neg hlt']
          rfl
      case round =>
        obtain ⟨v, ys, rfl, hwh, hv, hy, hyl, hsix, hk⟩ := hrel
        have hys : (strOfNums ys).size = ys.length := str_size ys
        have HW := Lib.hid hwh
        have HK := Lib.hid hk
        clear hwh hk
        obtain ⟨m, hm⟩ : ∃ m, m = ys.length := ⟨_, rfl⟩
        have HM := Lib.hid hm
        rw [← hm] at hyl hys
        clear hm
        by_cases h16 : 16 ≤ m
        · have hdm : decide ((16 : Int) ≤ (m : Int)) = true := decide_eq_true (by omega)
          go_wp2_with fail
          obtain ⟨W1, rfl⟩ : ∃ W1, W1 = wr := ⟨_, rfl⟩
          go_loopw [41] (fun i wr => ∃ k : Nat, k ≤ 4 ∧ i = .int .i64 (k : Int) ∧ Whole wr w.heap.size 85 (row4 .u64 (taken v ys k)) ∧ Keeps (Just w.heap.size) W1 wr) (fun i _ => 4 - (intOf i).toNat)
          case atStart => exact ⟨0, by omega, rfl, by rw [taken_zero]; exact HW.out, Keeps.refl _ _⟩
          case round =>
            obtain ⟨k, hk4, rfl, hwk, hkk⟩ := hrel
            have HWk := Lib.hid hwk
            have HKk := Lib.hid hkk
            clear hkk
            by_cases hlt4 : k < 4
            · have c0 := hwk.cell k (row4_get hlt4)
              have f0 := hwk.free k
              have hub := taken_bound hv.out ys k k hlt4
              have HV := Lib.hid (fun w => value_ref ((ys.drop (4 * k)).take 4) ((hy.out.drop _).take _) (by simp; omega) w)
              have HI := Lib.hid (fun w => into_ref (taken v ys k k) (four4 ys k) hub (four4_bound hy.out k) w)
              clear hwk hub
              go_wp2_with fail
              have ha1 : (0 : Int) ≤ (k : Int) := by omega
              have ha2 : (k : Int) < 4 := by omega
              have ha3 : (4 : Int) * (k : Int) + 4 ≤ (m : Int) := by omega
              have ha4 : (0 : Int) ≤ 4 * (k : Int) := by omega
              have ha6 : 4 * (k : Int) ≤ 4 * (k : Int) + 4 := by omega
              have ha5 : (0 : Int) ≤ 4 * (k : Int) + 4 := by omega
              have hw1 : IntKind.i64.wrap (4 * (k : Int)) = 4 * (k : Int) := by rw [IntKind.wrap_i64]; omega
              have hw2 : IntKind.i64.wrap (4 * (k : Int) + 4) = 4 * (k : Int) + 4 := by rw [IntKind.wrap_i64]; omega
              have hex : (strOfNums ys).extract (4 * (k : Int)).toNat (4 * (k : Int) + 4).toNat = strOfNums ((ys.drop (4 * k)).take 4) := str_piece ys _ _ _ _ (by omega) (by omega)
              go_still_tail 14, (by kernel_rfl)
              still_call ((HV.out _).mono fun e w5 h => ⟨h.1, h.2.symm⟩)
              still_call ((HI.out _).mono fun e w5 h => ⟨h.1, h.2.symm⟩)
              still_step
              refine wpStill_nil ?_
              change wpList _ _ _ _ _ wr.drew
              obtain ⟨W2, hW2⟩ : ∃ W2, W2 = wr.drew := ⟨_, rfl⟩
              rw [← hW2]
              have hw2f : W2.frozen? ⟨w.heap.size, k, none⟩ = false := by rw [hW2]; exact f0
              have hw2c : W2.cell? ⟨w.heap.size, k, none⟩ = some (.int .u64 (taken v ys k k)) := by rw [hW2]; exact c0
              have HW2 := Lib.hid hW2
              clear c0 f0 hW2
              go_wp2_with fail
              go_roundw
              case rel =>
                refine ⟨k + 1, by omega, rfl, ?_, ?_⟩
                · rw [← taken_succ, ← row4_set hlt4, HW2.out]
                  exact HWk.out.set k _
                · rw [HW2.out]
                  exact HKk.out.drew.setIn (Just.self _) _ _
              case measure => simp [intOf]; omega
            · obtain rfl : k = 4 := by omega
              have HKk2 := Lib.hid (HK.out.then HKk.out (fun i hi h => by unfold Just at h; omega))
              have hs6 := sixteens_go (a := v 0) (b := v 1) (c := v 2) (d := v 3) (xs := ys) (by have := HM.out; omega)
              have HX6 := Lib.hid hs6
              have hd16 := str_drop ys 16
              rw [hys] at hd16
              have HD16 := Lib.hid hd16
              clear hs6 hd16 hwk
              go_wp2_with fail
              go_roundw
              case rel =>
                refine ⟨taken v ys 4, ys.drop 16, by rw [HD16.out], HWk.out, Lib.hid (fun j hj => taken_bound hv.out ys 4 j hj), Lib.hid (hy.out.drop 16), by rw [List.length_drop]; have := HM.out; omega, Lib.hid ?_, HKk2.out⟩
                rw [← hsix.out, HX6.out]
                rfl
              case measure =>
                rw [HD16.out, strSize_of, strSize_of, List.length_drop]
                have := HM.out
                omega
        · have c0 := HW.out.cell 0 (row4_get (by decide))
          have c1 := HW.out.cell 1 (row4_get (by decide))
          have c2 := HW.out.cell 2 (row4_get (by decide))
          have c3 := HW.out.cell 3 (row4_get (by decide))
          have HT0 := Lib.hid (fun w => turn_ref (v 0) 1 1 (by decide) rfl (hv.out 0 (by decide)) w)
          have HT1 := Lib.hid (fun w => turn_ref (v 1) 7 7 (by decide) rfl (hv.out 1 (by decide)) w)
          have HT2 := Lib.hid (fun w => turn_ref (v 2) 12 12 (by decide) rfl (hv.out 2 (by decide)) w)
          have HT3 := Lib.hid (fun w => turn_ref (v 3) 18 18 (by decide) rfl (hv.out 3 (by decide)) w)
          have hb0 := (rot_bound (n := 1) (by decide) (hv.out 0 (by decide)))
          have hb1 := (rot_bound (n := 7) (by decide) (hv.out 1 (by decide)))
          have hb2 := (rot_bound (n := 12) (by decide) (hv.out 2 (by decide)))
          have hb3 := (rot_bound (n := 18) (by decide) (hv.out 3 (by decide)))
          have hjoin := join_sum hb0 hb1 hb2 hb3
          clear hb0 hb1 hb2 hb3
          have HE := Lib.hid (sixteens_end (a := v 0) (b := v 1) (c := v 2) (d := v 3) (xs := ys) (by have := HM.out; omega))
          go_wp2_with fail
          refine wp_region_still_lit (by kernel_rfl) (by kernel_rfl) ?_
          repeat still_step
          still_call ((HT0.out _).mono fun e w5 h => ⟨h.1, h.2.symm⟩)
          repeat still_step
          still_call ((HT1.out _).mono fun e w5 h => ⟨h.1, h.2.symm⟩)
          repeat still_step
          still_call ((HT2.out _).mono fun e w5 h => ⟨h.1, h.2.symm⟩)
          repeat still_step
          still_call ((HT3.out _).mono fun e w5 h => ⟨h.1, h.2.symm⟩)
          repeat still_step
          refine wpStill_nil ?_
          go_wp2_with fail
          go_meet
          case rel =>
            refine ⟨?_, ?_, ?_⟩
            · rw [← hsix.out, HE.out]
            · rw [← hsix.out, HE.out]
            · exact HK.out.drew
    · go_wp2_with fail
      go_meet
      case rel => 
        have hlt' : xs.length < 16 := by have := HN.out; omega
        unfold tblocks
        rw [if_pos hlt']
        exact ⟨rfl, rfl, Keeps.refl _ _⟩
  case rest =>
    obtain ⟨rfl, rfl, hk⟩ := hcut
    have HK := Lib.hid hk
    obtain ⟨b1, b2, b3⟩ := tblocks_ok s xs
    have hspec : xxh s xs = tend (tails (((tblocks s xs).1 + xs.length) % 4294967296) (tblocks s xs).2) := rfl
    obtain ⟨B, hB⟩ : ∃ B, B = (tblocks s xs).1 := ⟨_, rfl⟩
    obtain ⟨L, hL⟩ : ∃ L, L = (tblocks s xs).2 := ⟨_, rfl⟩
    rw [← hB] at b1 hspec ⊢
    rw [← hL] at b2 b3 hspec ⊢
    rw [← HN.out] at b2 hspec
    have HS0 := Lib.hid hspec
    have HL := Lib.hid (b3 HO.out)
    have B0 := b1.1
    have B1 := b1.2
    clear hB hL b3 b1 hspec hk HS HO h0 h1 hss
    go_wp2_with fail
    rw [show (B + (n : Int) % 4294967296) % 4294967296 = (B + (n : Int)) % 4294967296 by omega]
    obtain ⟨W0, rfl⟩ : ∃ W0, W0 = wc := ⟨_, rfl⟩
    go_loop [1, 5] (fun s1 s5 => ∃ (h : Int) (ys : List Int), s1 = .string (strOfNums ys) ∧ s5 = .int .u64 h ∧ Hid (U32 h) ∧ Hid (Octets ys) ∧ ys.length ≤ n ∧ Hid (tails h ys = tails ((B + n) % 4294967296) L)) (fun s1 _ => strSize s1)
    case atStart =>
      exact ⟨_, L, rfl, rfl, Lib.hid (mod_bound _), HL, b2, Lib.hid rfl⟩
    case round =>
      obtain ⟨h, ys, rfl, rfl, hu, hy, hyl, ht⟩ := hrel
      have hys : (strOfNums ys).size = ys.length := str_size ys
      obtain ⟨m, hm⟩ : ∃ m, m = ys.length := ⟨_, rfl⟩
      have HM := Lib.hid hm
      rw [← hm] at hyl hys
      clear hm
      have hu0 := hu.out.1
      have hu1 := hu.out.2
      by_cases h4 : 4 ≤ m
      · have hdm : decide ((4 : Int) ≤ (m : Int)) = true := decide_eq_true (by omega)
        have hex : (strOfNums ys).extract 0 4 = strOfNums ((ys.drop (4 * 0)).take 4) := str_piece ys _ _ _ _ rfl rfl
        have hd4 := str_drop ys 4
        rw [hys] at hd4
        have HV := Lib.hid (fun w => value_ref ((ys.drop (4 * 0)).take 4) ((hy.out.drop _).take _) (by simp; omega) w)
        obtain ⟨y, hyd⟩ : ∃ y, y = four4 ys 0 := ⟨_, rfl⟩
        have hyb := four4_bound hy.out 0
        have HT := Lib.hid (fun w => turn_ref ((h + y * 3266489917) % 4294967296) 17 17 (by decide) rfl (mod_bound _) w)
        have hrb := rot_bound (n := 17) (by decide) (mod_bound (h + y * 3266489917))
        rw [show le ((ys.drop (4 * 0)).take 4) = four4 ys 0 from rfl, ← hyd] at HV
        rw [← hyd] at hyb
        have hy0 := hyb.1
        have hy1 := hyb.2
        have hr0 := hrb.1
        have hr1 := hrb.2
        have HG := Lib.hid (tails_go (h := h) (xs := ys) (by have := HM.out; omega))
        rw [← hyd] at HG
        have he : tfour h y = rot 17 ((h + y * 3266489917) % 4294967296) * 668265263 % 4294967296 := rfl
        obtain ⟨r, hr⟩ : ∃ r, r = rot 17 ((h + y * 3266489917) % 4294967296) := ⟨_, rfl⟩
        rw [← hr] at hr0 hr1 HT he
        have HE := Lib.hid he
        clear hyd hyb hrb hr he
        go_wp2_with (first | (refine (HV.out _).mono ?_; rintro e w' ⟨rfl, rfl⟩) | (refine (HT.out _).mono ?_; rintro e w' ⟨rfl, rfl⟩) | fail)
        go_round
        case rel =>
          refine ⟨_, ys.drop 4, rfl, rfl, Lib.hid ?_, Lib.hid (hy.out.drop 4), by rw [List.length_drop]; have := HM.out; omega, Lib.hid ?_⟩
          · exact mod_bound _
          · rw [← HE.out, ← HG.out]
            exact ht.out
        case measure =>
          show strSize (.string (strOfNums (ys.drop 4))) < strSize (.string (strOfNums ys))
          rw [strSize_of, strSize_of, List.length_drop]
          have := HM.out
          omega
      · have HG := Lib.hid (tails_end (h := h) (xs := ys) (by have := HM.out; omega))
        obtain ⟨g, hg⟩ : ∃ g, g = ys.foldl tone h := ⟨_, rfl⟩
        go_wp2_with fail
        go_loop [5, 9] (fun s5 i => ∃ k : Nat, k ≤ m ∧ i = .int .i64 (k : Int) ∧ s5 = .int .u64 ((ys.take k).foldl tone h)) (fun _ i => m - (intOf i).toNat)
        case atStart => exact ⟨0, Nat.zero_le _, rfl, rfl⟩
        case round =>
          obtain ⟨k, hk, rfl, rfl⟩ := hrel
          have hfb := fold_tone (ys.take k) h hu.out
          by_cases hlt : k < m
          · have HN2 := Lib.hid (fold_next ys h k (by have := HM.out; omega))
            have hsg := str_get ys hy.out k (by omega)
            have hgb := hy.out.getD k
            obtain ⟨q, hq⟩ : ∃ q, q = (ys.take k).foldl tone h := ⟨_, rfl⟩
            obtain ⟨b, hb⟩ : ∃ b, b = ys.getD k 0 := ⟨_, rfl⟩
            rw [← hq] at hfb HN2 ⊢
            rw [← hb] at hgb HN2 hsg
            have hq0 := hfb.1
            have hq1 := hfb.2
            have hb0 := hgb.1
            have hb1 := hgb.2
            have HT := Lib.hid (fun w => turn_ref ((q + b * 374761393) % 4294967296) 11 11 (by decide) rfl (mod_bound _) w)
            have hrb := rot_bound (n := 11) (by decide) (mod_bound (q + b * 374761393))
            have he : tone q b = rot 11 ((q + b * 374761393) % 4294967296) * 2654435761 % 4294967296 := rfl
            obtain ⟨r, hr⟩ : ∃ r, r = rot 11 ((q + b * 374761393) % 4294967296) := ⟨_, rfl⟩
            rw [← hr] at hrb HT he
            have hr0 := hrb.1
            have hr1 := hrb.2
            have HE := Lib.hid he
            clear hq hb hfb hgb hr hrb he
            have hdk : decide ((k : Int) < (m : Int)) = true := decide_eq_true (by omega)
            go_wp2_with (first | (refine (HT.out _).mono ?_; rintro e w' ⟨rfl, rfl⟩) | fail)
            exact ⟨⟨k + 1, by omega, rfl, by rw [HN2.out, HE.out]⟩, by simp [intOf]; omega⟩
          · obtain rfl : k = m := by omega
            rw [List.take_of_length_le (Nat.le_of_eq HM.out.symm), ← HG.out, ht.out] at hfb ⊢
            obtain ⟨z, hz⟩ : ∃ z, z = tails ((B + (n : Int)) % 4294967296) L := ⟨_, rfl⟩
            rw [← hz] at hfb ⊢
            have HX1 := Lib.hid (fun w => mix_ref z 15 15 (by decide) rfl hfb w)
            have HX2 := Lib.hid (fun w => mix_ref (down 15 z * 2246822519 % 4294967296) 13 13 (by decide) rfl (mod_bound _) w)
            have HX3 := Lib.hid (fun w => mix_ref (down 13 (down 15 z * 2246822519 % 4294967296) * 3266489917 % 4294967296) 16 16 (by decide) rfl (mod_bound _) w)
            have hd1 := down_bound 15 hfb
            have hd2 := down_bound 13 (mod_bound (down 15 z * 2246822519))
            have hd3 := tend_bound z
            have hend : tend z = down 16 (down 13 (down 15 z * 2246822519 % 4294967296) * 3266489917 % 4294967296) := rfl
            rw [hend] at hd3
            rw [← hz] at HS0
            rw [hend] at HS0
            obtain ⟨d1, e1⟩ : ∃ d, d = down 15 z := ⟨_, rfl⟩
            rw [← e1] at HX1 HX2 HX3 hd1 hd2 hd3 HS0
            obtain ⟨d2, e2⟩ : ∃ d, d = down 13 (d1 * 2246822519 % 4294967296) := ⟨_, rfl⟩
            rw [← e2] at HX2 HX3 hd2 hd3 HS0
            obtain ⟨d3, e3⟩ : ∃ d, d = down 16 (d2 * 3266489917 % 4294967296) := ⟨_, rfl⟩
            rw [← e3] at HX3 hd3 HS0
            have q0 := hd1.1
            have q1 := hd1.2
            have q2 := hd2.1
            have q3 := hd2.2
            have q4 := hd3.1
            have q5 := hd3.2
            clear hd1 hd2 hd3 e1 e2 e3 hz hfb hend
            go_wp2_with fail
            refine (HX1.out _).mono ?_
            rintro e w' ⟨rfl, rfl⟩
            go_wp2_with fail
            refine (HX2.out _).mono ?_
            rintro e w' ⟨rfl, rfl⟩
            go_wp2_with fail
            refine (HX3.out _).mono ?_
            rintro e w' ⟨rfl, rfl⟩
            go_wp2_with fail
            go_ret
            exact ⟨by rw [HS0.out]; rfl, HK.out⟩
end Go.Proofs.Ytdkpkpmgiglnhaa

/-
  SgBaWalk; BytesLib; WideSum; WideState.
-/
import Derived.Deep.LoopGhost
import Derived.Deep.Cut
import Derived.Deep.CutRange
import Derived.Deep.DeepCutAuto
import Derived.Deep.RegionHeld3
import Derived.Laws.Externs
import Derived.Lib.Bytealg
import Derived.Lib.BytesEntry
import Derived.BigQuiet
import Derived.Test.YtlejobomjgccnaaGreatM02
import Derived.Test.YtlejobomjgccnaaGreatM06
import Derived.Test.YtlejobomjgccnaaGreatM07
import Derived.Test.YtlejobomjgccnaaGreatM11
import Derived.Test.YtlejobomjgccnaaGreatM17
namespace Go.Proofs.YtlejobomjgccnaaGreat
open Go.RowKit

set_option maxHeartbeats 8000000 in
set_option maxRecDepth 10000 in
theorem segback_walk {At : BAt} (HB : SgBuild At) (HNw : SgNewOk At) (HAd : SgAddOk At) (HFr : SgFramesOk At) (HOp : SgOpenOk At) (HSe : SgSealOk At) (HPa : SgParseOk) (k : Nat) (p : Option Addr) (n c : Nat) (l : List Rec) (sl : Bool) (pos tob : Nat) (w : World) (hk : k < 256) (hn : n = l.length) (hc : n ≤ c) (hc' : c ≤ 9223372036854775807) (hf : ∀ r ∈ l, r.Fine) (hb : ∀ r ∈ l, r.key.length ≤ 9223372036854775807 ∧ r.val.length ≤ 9223372036854775807) (hl : RecsAt w p l) (hpos : pos < 65536) (hto : tob < 256) :
    Calls Tryz.prog 5 #[.int .u8 (k : Int), .slice p n c, .bool sl, .int .u16 (pos : Int), .int .u8 (tob : Int)] w fun e w' => e = .returned (.bool true) ∧ Keeps NoBlock w w' := by
  have HL := Lib.hid (fun w => lives15_true HB HNw HOp w)
  have HFw := Lib.hid (fun (w : World) hl => few_any p n c l 60 5000 60 5000 rfl rfl hn (by omega) hb w hl)
  have HR := Lib.hid hl
  by_cases hlt : fewR l 60 5000 = true
  rotate_left
  · rw [Bool.not_eq_true] at hlt
    rw [hlt] at HFw
    clear hl hb hf HB HNw HAd HFr HOp HSe HPa hn hlt
    go_enter Tryz.func5, Tryz.ntmps5
    go_wp2_with fail
    refine (HL.out _).mono ?_
    rintro e w1 ⟨rfl, hk1⟩
    have HK := Lib.hid hk1
    have HR := Lib.hid (HR.out.keep hk1 (fun _ _ h => h))
    clear hk1
    go_wp2_with fail
    refine (HFw.out _ HR.out).mono ?_
    rintro e w2 ⟨rfl, hk1⟩
    have HK := Lib.hid (HK.out.trans hk1)
    clear hk1
    go_wp2_with fail
    refine (HL.out _).mono ?_
    rintro e w3 ⟨rfl, hk1⟩
    have HK := Lib.hid (HK.out.trans hk1)
    clear hk1
    go_wp2_with fail
    go_ret
    exact ⟨rfl, HK.out⟩
  rw [hlt] at HFw
  unfold fewR at hlt
  rw [Bool.and_eq_true, decide_eq_true_eq] at hlt
  obtain ⟨hlt1, hlt2⟩ := hlt
  have hlit : ∀ r ∈ l, r.key.length ≤ 5000 ∧ r.val.length ≤ 5000 := fun r hr => by
    have := List.all_eq_true.1 hlt1 r hr
    unfold littleR at this
    rw [Bool.and_eq_true, decide_eq_true_eq, decide_eq_true_eq] at this
    exact this
  have hn60 : n ≤ 60 := by omega
  obtain ⟨he1, he2, hs1, hs2⟩ := small_room k
  have HSm := Lib.hid (fun w => small15_go k hk w)
  have hz : 4096 ≤ 2 ^ smallE k ∧ 2 ^ smallE k ≤ 8192 := two15 k
  obtain ⟨e, hed⟩ : ∃ e, e = smallE k := ⟨_, rfl⟩
  obtain ⟨s0, hsd⟩ : ∃ s, s = smallS k := ⟨_, rfl⟩
  rw [← hed] at HSm he1 he2 hz
  rw [← hsd] at HSm hs1 hs2
  clear hed hsd hlt1 hlt2 hb
  obtain ⟨s, hs⟩ : ∃ s, s = s0 + 1 := ⟨_, rfl⟩
  have hs3 : (s0 : Int) + 1 = (s : Int) := by omega
  have hs4 : 2 ≤ s ∧ s ≤ 9 := by omega
  clear hs
  have hm0 : mayHead e s 0 = true := may15 he1 he2 hs4.1 hs4.2 (by omega)
  have hm1 : mayHead e s 1 = true := may15 he1 he2 hs4.1 hs4.2 (by omega)
  have HN := Lib.hid (fun w => HNw.may e s 0 w (by omega) (by omega) (by omega) hm0)
  have HOk := Lib.hid (fun j (h : j ≤ l.length) => accS_ok hm0 hf j h (by omega))
  have HLit := Lib.hid (fun j (hj : j < l.length) => show (l.getD j Rec.none).Fine ∧ (l.getD j Rec.none).key.length ≤ 100000 ∧ (l.getD j Rec.none).val.length ≤ 100000 by
    have hm : l.getD j Rec.none ∈ l := by
      rw [List.getD_eq_getElem?_getD, List.getElem?_eq_getElem hj]
      exact List.getElem_mem _
    have := hlit _ hm
    exact ⟨hf _ hm, by omega, by omega⟩)
  have HLn := Lib.hid hn
  have HPr := Lib.hid (fun (i : Nat) (hi : i < 4294967296) q N d T w h => HPa.parse e s i q N d T w h)
  have HMy := Lib.hid (And.intro hm0 hm1)
  have HE := Lib.hid (And.intro he1 (And.intro he2 (And.intro hs4 hz)))
  clear hl hf hlit HNw hm0 hm1 hs1 hs2 he1 he2 hs4 hz hn HPa
  unfold confV at HSm HN HPr
  obtain ⟨i0, hi, hi0, hi1, hi2⟩ := info_parts infoRc
  obtain ⟨j0, ki, kz0, kz1, kz2⟩ := info_parts infoU32s
  go_enter Tryz.func5, Tryz.ntmps5
  go_wp2_with fail
  refine (HL.out _).mono ?_
  rintro e1 w1 ⟨rfl, hk1⟩
  have HK := Lib.hid hk1
  have HR := Lib.hid (HR.out.keep hk1 (fun _ _ h => h))
  clear hk1
  go_wp2_with fail
  refine (HFw.out _ HR.out).mono ?_
  rintro e2 w2 ⟨rfl, hk1⟩
  have HK := Lib.hid (HK.out.trans hk1)
  have HR := Lib.hid (HR.out.keep hk1 (fun _ _ h => h))
  clear hk1
  go_wp2_with fail
  refine (HSm.out _).mono ?_
  rintro e3 w3 ⟨rfl, hk1⟩
  have HK := Lib.hid (HK.out.trans hk1)
  have HR := Lib.hid (HR.out.keep hk1 (fun _ _ h => h))
  clear hk1
  have hw32 : (s : Int) % 4294967296 = (s : Int) := by have := HE.out; omega
  go_wp2_with fail
  obtain ⟨wC, hwC⟩ : ∃ wC, wC = w3.alloc (.cells #[.int .u8 (e : Int), .int .u32 (s : Int)] 27) := ⟨_, rfl⟩
  have HK := Lib.hid (HK.out.alloc (.cells #[.int .u8 (e : Int), .int .u32 (s : Int)] 27))
  have HR := Lib.hid (HR.out.keep ((Keeps.refl NoBlock w3).alloc (.cells #[.int .u8 (e : Int), .int .u32 (s : Int)] 27)) (fun _ _ h => h))
  have HC : Hid (Whole wC w3.heap.size 27 (confCells e s)) := Lib.hid (by rw [hwC]; exact Whole.new w3 _ _)
  rw [← hwC] at HK HR ⊢
  clear hwC hw32
  refine (HN.out _).mono ?_
  rintro e4 w4 ⟨hk4, F, v, rfl, hat, hF⟩
  obtain ⟨g, rfl⟩ := HB.ptr hat
  have HSt := Lib.hid (show BSt At wC w4 F (.pointer (some ⟨g, 0, none⟩)) e s 0 [] from ⟨hat, hF, hk4⟩)
  clear hk4 hat hF HN
  go_wp2_with fail
  go_loopw [14, 15, 56] (fun hv pv i wr => ∃ (j : Nat) (F : Nat → Prop), j ≤ n ∧ i = .int .i64 (j : Int) ∧ Hid (BSt At wC wr F (.pointer (some ⟨g, 0, none⟩)) e s 0 (accS e s 0 (l.take j))) ∧ Hid (OwnR wC F 39 4 hv (accS e s 0 (l.take j)).length (rcFlat (accS e s 0 (l.take j))) wr) ∧ Hid (OwnR wC F 22 1 pv (accS e s 0 (l.take j)).length ((placesS e s 0 (accS e s 0 (l.take j))).map u32V) wr)) (fun _ _ i _ => n - (intOf i).toNat)
  case atStart => exact ⟨0, F, Nat.zero_le _, rfl, HSt, Lib.hid (OwnR.start _ _ _ _ _), Lib.hid (OwnR.start _ _ _ _ _)⟩
  case round =>
    obtain ⟨j, F, hj, rfl, HSt, HHv, HPv⟩ := hrel
    by_cases hlt : j < n
    · have hdj : decide ((j : Int) < (n : Int)) = true := decide_eq_true (by omega)
      have hjl : j < l.length := by rw [← HLn.out]; exact hlt
      have HOj := Lib.hid (HOk.out j (by omega))
      have hst := accS_step (e := e) (s := s) (n := 0) hjl
      obtain ⟨hrf, hrk, hrv⟩ := HLit.out j hjl
      obtain ⟨A, hA⟩ : ∃ A, A = accS e s 0 (l.take j) := ⟨_, rfl⟩
      rw [← hA] at HSt HHv HPv HOj hst
      have hfew := HOj.out.few
      obtain ⟨a, rfl, c0, c1, c2, c3⟩ := (HR.out.keep HSt.out.kept (fun _ _ h => h)) j hjl
      obtain ⟨r, hr⟩ : ∃ r, r = l.getD j Rec.none := ⟨_, rfl⟩
      rw [← hr] at hrf hrk hrv c0 c1 c2 c3 hst
      have hka := (Keeps.refl NoBlock wr).alloc (.cells #[.bool r.del, .int .u64 (r.seq : Int), .string (strOfNums r.key), .string (strOfNums r.val)] 39)
      have HSt1 := Lib.hid (HSt.out.keep HB hka)
      have HHv1 := Lib.hid (HHv.out.keep hka)
      have HPv1 := Lib.hid (HPv.out.keep hka)
      have HBx := Lib.hid (show Whole (wr.alloc (.cells #[.bool r.del, .int .u64 (r.seq : Int), .string (strOfNums r.key), .string (strOfNums r.val)] 39)) wr.heap.size 39 (recCells r) from Whole.new wr _ _)
      have HBf := Lib.hid (show ¬ F wr.heap.size from fun h => by have := HB.old HSt.out.at_ _ h; omega)
      have HA := Lib.hid (HAd.add F _ e s 0 A r _ HSt1.out.at_ HOj.out.room (by omega) HOj.out.fine hrf hrk hrv)
      have HSt' := Lib.hid hst
      have HFw' := Lib.hid hfew
      unfold recV at HA
      clear hA hr hka hjl hrf hrk hrv hst hfew HSt HHv HPv
      go_wp2_with fail
      refine HA.out.mono ?_
      rintro e5 w5 ⟨rfl, hsame⟩
      obtain ⟨hk5, F5, hsub, hst5⟩ := HSt1.out.call hsame
      have HSt5 := Lib.hid hst5
      have HHv5 := Lib.hid (HHv1.out.call hk5 hsub)
      have HPv5 := Lib.hid (HPv1.out.call hk5 hsub)
      have HB5 := Lib.hid (HBx.out.keep hk5 HBf.out)
      clear hk5 hsub hst5 hsame HSt1 HHv1 HPv1 HA HBx HBf c0 c1 c2 c3
      have b0 := HB5.out.cell 0 rfl
      have b1 := HB5.out.cell 1 rfl
      have b2 := HB5.out.cell 2 rfl
      have b3 := HB5.out.cell 3 rfl
      simp only [recCells, List.getElem_toArray, List.getElem_cons_zero, List.getElem_cons_succ] at b0 b1 b2 b3
      have hP : addAt e s 0 A r = if addE e s 0 A r = 0 then (outS e s 0 A).length else 0 := rfl
      by_cases h0 : addE e s 0 A r = 0
      · rw [if_pos h0] at hP
        rw [addL_some h0] at HSt5 HSt'
        rw [h0, hP]
        obtain ⟨P, hPd⟩ : ∃ P, P = (outS e s 0 A).length := ⟨_, rfl⟩
        rw [← hPd]
        have HPd := Lib.hid hPd
        have hkb := (Keeps.refl NoBlock w5).alloc (.cells #[.bool r.del, .int .u64 (r.seq : Int), .string (strOfNums r.key), .string (strOfNums r.val)] 39)
        have HSt6 := Lib.hid (HSt5.out.keep HB hkb)
        have HHv6 := Lib.hid (HHv5.out.keep hkb)
        have HPv6 := Lib.hid (HPv5.out.keep hkb)
        have HBy := Lib.hid (show Whole (w5.alloc (.cells #[.bool r.del, .int .u64 (r.seq : Int), .string (strOfNums r.key), .string (strOfNums r.val)] 39)) w5.heap.size 39 (recCells r) from Whole.new w5 _ _)
        clear h0 hP hPd hkb HSt5 HHv5 HPv5 HB5
        go_wp2_with (at_builtin; refine wpList_append_lies _ rfl _ _ 23 rfl wC.heap.size 39 i0 (.agg #[.bool false, .int .u64 0, .string ⟨#[]⟩, .string ⟨#[]⟩]) 4 48 Tryz.underlying23 hi hi0 hi1 hi2 rfl (by decide) _ A.length (rcFlat A) rfl HHv6.out.1 ⟨w5.heap.size, 0, none⟩ 1 1 (rcFour r) rfl rfl ?c1 ?c2 (by decide) ?c3 ?c4 ?c5 _ rfl ?_)
        case c1 => exact fun i u hu => World.news_of_block HBy.out i u hu
        case c2 =>
          intro u hu
          simp only [rcFour, List.mem_cons, List.not_mem_nil, or_false] at hu
          rcases hu with rfl | rfl | rfl | rfl <;> rfl
        case c3 => have := HFw'.out; unfold maxLen; omega
        case c4 => have := HFw'.out; omega
        case c5 => exact HSt6.out.kept.size
        intro g7 cap7 w7 hown hgrow hlie _
        have HSt7 := Lib.hid (HSt6.out.grown HB hgrow HHv6.out.2 HHv6.out.from_)
        have HHv7 := Lib.hid (HHv6.out.added (HB.old HSt6.out.at_) hown (hlie.imp id (fun h => h.trans (by simp))))
        have HPv7 := Lib.hid (HPv6.out.grown hgrow (rows_apart (by decide) HPv6.out.1 HHv6.out.1))
        clear hown hgrow hlie HSt6 HHv6 HPv6 HBy b0 b1 b2 b3
        have hkc := (Keeps.refl NoBlock w7).alloc (.cells #[.int .u32 (P : Int)] 22)
        have HSt8 := Lib.hid (HSt7.out.keep HB hkc)
        have HHv8 := Lib.hid (HHv7.out.keep hkc)
        have HPv8 := Lib.hid (HPv7.out.keep hkc)
        have HBz := Lib.hid (show Whole (w7.alloc (.cells #[.int .u32 (P : Int)] 22)) w7.heap.size 22 #[.int .u32 (P : Int)] from Whole.new w7 _ _)
        clear hkc HSt7 HHv7 HPv7
        go_wp2_with (at_builtin; refine wpList_append_lies _ rfl _ _ 58 rfl wC.heap.size 22 j0 (.int .u32 0) 1 4 Tryz.underlying58 ki kz0 kz1 kz2 rfl (by decide) _ A.length _ rfl HPv8.out.1 ⟨w7.heap.size, 0, none⟩ 1 1 [.int .u32 (P : Int)] rfl rfl ?c1 ?c2 (by decide) ?c3 ?c4 ?c5 _ rfl ?_)
        case c1 => exact fun i u hu => World.news_of_block HBz.out i u hu
        case c2 =>
          intro u hu
          obtain rfl := List.mem_singleton.1 hu
          rfl
        case c3 => have := HFw'.out; unfold maxLen; omega
        case c4 => have := HFw'.out; omega
        case c5 => exact HSt8.out.kept.size
        intro g9 cap9 w9 hown hgrow hlie _
        have HSt9 := Lib.hid (HSt8.out.grown HB hgrow HPv8.out.2 HPv8.out.from_)
        have HHv9 := Lib.hid (HHv8.out.grown hgrow (rows_apart (by decide) HHv8.out.1 HPv8.out.1))
        have HPv9 := Lib.hid (HPv8.out.added (HB.old HSt8.out.at_) hown (hlie.imp id (fun h => h.trans (by simp))))
        clear hown hgrow hlie HSt8 HHv8 HPv8 HBz
        go_wp2_with fail
        go_roundw
        case rel =>
          refine ⟨j + 1, F5, by omega, by go_num, by rw [HSt'.out]; exact HSt9, Lib.hid ?_, Lib.hid ?_⟩
          · rw [HSt'.out, rcFlat_append, List.length_append, show rcFlat [r] = rcFour r by simp [rcFlat]]
            exact HHv9.out
          · rw [HSt'.out, places_snoc, List.map_append, List.length_append, ← HPd.out]
            exact HPv9.out
        case measure => simp [intOf]; omega
      · have hz0 : (addE e s 0 A r == 0) = false := beq_eq_false_iff_ne.2 h0
        rw [addL_none h0] at HSt5 HSt'
        clear h0 hP
        go_wp2_with fail
        go_roundw
        case rel => exact ⟨j + 1, F5, by omega, by go_num, by rw [HSt'.out]; exact HSt5, by rw [HSt'.out]; exact HHv5, by rw [HSt'.out]; exact HPv5⟩
        case measure => simp [intOf]; omega
    · have hdj : decide ((j : Int) < (n : Int)) = false := decide_eq_false (by omega)
      have HOj := HOk.out j (by have := HLn.out; omega)
      have hjn : l.take j = l := by rw [List.take_of_length_le]; have := HLn.out; omega
      rw [hjn] at HSt HHv HPv HOj
      obtain ⟨A, hA⟩ : ∃ A, A = accS e s 0 l := ⟨_, rfl⟩
      rw [← hA] at HSt HHv HPv HOj
      have HOA := Lib.hid HOj
      obtain ⟨L, hL⟩ : ∃ L, L = A.length := ⟨_, rfl⟩
      have hL60 : L ≤ 60 := by have := HOj.few; omega
      have HLd := Lib.hid hL
      obtain ⟨qh, mh, dh, rfl, hmh, hmdh, hdh, _, _, _⟩ := HHv.out.recs HSt.out.kept
      obtain ⟨qp, mp, dp, rfl, hmp, hmdp, hdp, _, _, _⟩ := HPv.out.nums (by rw [places_length]) HSt.out.kept
      rw [places_length, ← hL] at hmp
      rw [← hL] at hmh
      have hmh' : L = mh := hmh.symm
      have hmp' : L = mp := hmp.symm
      clear hmh hmp
      subst hmh'
      subst hmp'
      have HO := Lib.hid (HOp.open_ F _ e s 0 A wr HSt.out.at_ HOj.room (by omega) HOj.fine)
      clear hjn hA hj HOj hL
      go_wp2_with fail
      refine HO.out.mono ?_
      rintro e5 w5 ⟨u, rfl, hg5⟩
      obtain ⟨hk5, hob, F5, hsub, hst5, hap⟩ := HSt.out.gives hg5
      have HU5 := Lib.hid (OwnG.given hob HSt.out.kept.size hap)
      have HSt5 := Lib.hid hst5
      have HHv5 := Lib.hid (HHv.out.call hk5 hsub)
      have HPv5 := Lib.hid (HPv.out.call hk5 hsub)
      clear hk5 hob hsub hst5 hap hg5 HSt HHv HPv HO
      go_upto_if 79 with (fail)
      go_cut [20] (fun u wx => ∃ F, Hid (BSt At wC wx F (.pointer (some ⟨g, 0, none⟩)) e s 0 A) ∧ Hid (OwnR wC F 39 4 (.slice qh L dh) A.length (rcFlat A) wx) ∧ Hid (OwnR wC F 22 1 (.slice qp L dp) A.length ((placesS e s 0 A).map u32V) wx) ∧ Hid (OwnG wC F u (textS e s 0 A sl).length ((textS e s 0 A sl).map (Value.int .u8)) wx) ∧ Hid (sl = true → 0 < A.length))
      case first =>
        by_cases hsl : sl = true
        · subst hsl
          by_cases hA0 : 0 < A.length
          · have HS := Lib.hid (HSe.seals F5 _ e s 0 A w5 HSt5.out.at_ HOA.out.room (by have := HLd.out; omega) HOA.out.fine hA0)
            have HA0 := Lib.hid hA0
            clear hA0
            go_wp2_with fail
            refine HS.out.mono ?_
            rintro e6 w6 ⟨u6, rfl, hg6⟩
            obtain ⟨hk6, hob, F6, hsub, hst6, hap⟩ := HSt5.out.gives hg6
            have HU6 := Lib.hid (OwnG.given hob HSt5.out.kept.size hap)
            have HSt6 := Lib.hid hst6
            have HHv6 := Lib.hid (HHv5.out.call hk6 hsub)
            have HPv6 := Lib.hid (HPv5.out.call hk6 hsub)
            clear hk6 hob hsub hst6 hap hg6 HSt5 HHv5 HPv5 HU5 HS
            go_wp2_with fail
            go_meet
            case rel => exact ⟨F6, HSt6, HHv6, HPv6, HU6, Lib.hid (fun _ => HA0.out)⟩
          · have hA1 : A = [] := List.length_eq_zero_iff.1 (by omega)
            have hL0 : (L : Int) = 0 := by have := HLd.out; omega
            have HS := Lib.hid (HSe.none F5 (.pointer (some ⟨g, 0, none⟩)) e s 0 w5 (by rw [← hA1]; exact HSt5.out.at_) (by rw [← hA1]; exact HOA.out.room))
            rw [hA1] at HSt5
            clear hA0 hA1
            go_wp2_with fail
            refine HS.out.mono ?_
            rintro e6 w6 ⟨q6, d6, rfl, hg6⟩
            obtain ⟨_, F6, _, hst6⟩ := HSt5.out.call hg6
            have HKf := Lib.hid (HK.out.trans hst6.kept)
            clear hg6 hst6
            go_wp2_with fail
            go_ret
            exact ⟨rfl, HKf.out⟩
        · rw [Bool.not_eq_true] at hsl
          subst hsl
          go_wp2_with fail
          go_meet
          case rel => exact ⟨F5, HSt5, HHv5, HPv5, HU5, Lib.hid (fun h => by simp at h)⟩
      case rest =>
        obtain ⟨F6, HSt6, HHv6, HPv6, HU6, Hsl⟩ := hcut
        clear HSt5 HHv5 HPv5 HU5 HAd HSe HOp
        obtain ⟨T, hT⟩ : ∃ T, T = textS e s 0 A sl := ⟨_, rfl⟩
        obtain ⟨Z, hZ⟩ : ∃ Z, Z = T.length := ⟨_, rfl⟩
        have hTl : Z = 2 ^ e := by rw [hZ, hT]; exact text_len HOA.out.room sl Hsl.out
        have HTle := Lib.hid (Nat.le_of_eq hTl)
        have hZb : 4096 ≤ Z ∧ Z ≤ 8192 := by rw [hTl]; exact HE.out.2.2.2
        have hTo : Octets T := by rw [hT]; exact textS_octets (by have := HE.out; omega) (fun r hr => (HOA.out.fine r hr).1) sl
        have hOl := out_fits HOA.out.room
        rw [← hTl] at hOl
        have hO1 : 1 ≤ (outS e s 0 A).length := by
          unfold outS sealN
          simp only [List.length_append, List.length_cons, List.length_nil]
          omega
        have hpt := parse_text (e := e) (s := s) (n := 0) (by have := HE.out; omega) HOA.out.fine sl Hsl.out
        have hpo := parse_other (e := e) (s := s) (n := 0) (k := 1) (by have := HE.out; omega) (by omega) A sl
        have HPo := Lib.hid (fun (ys : List Int) (h : parseS e s 0 ys = some (A, sl)) => (parse_only h).1)
        rw [← hT] at HU6 hpt hpo HPo
        rw [← hZ] at HU6
        obtain ⟨gu, du, cur, rfl, hdu1, hdu2, hgu, hwu, hcu⟩ := OwnP.whole HU6.out.1 hZ (by omega)
        have HWu := Lib.hid hwu
        have HCu := Lib.hid hcu
        have HGu := Lib.hid (And.intro hgu (And.intro hdu1 hdu2))
        have hb8 := hwu.bytes T (fun i hi => hcu i (by omega))
        have HP1 := Lib.hid (HPr.out 0 (by decide) (some ⟨gu, 0, none⟩) Z du T wc ⟨hZ, hdu1, hdu2, fun h => by simp at h, hTo, hb8⟩ (by omega) HTle.out (by have := HE.out; omega) (by have := HE.out; omega) (by decide))
        have HC6 := Lib.hid (HC.out.keep HSt6.out.kept (fun h => h))
        have hltC := HC6.out.lt
        have g0 := HC6.out.cell 0 rfl
        have g1 := HC6.out.cell 1 rfl
        simp only [confCells, List.getElem_toArray, List.getElem_cons_zero, List.getElem_cons_succ] at g0 g1
        have HTo := Lib.hid hTo
        have HZd := Lib.hid hZ
        have hTl' := Lib.hid hT
        have HPT := Lib.hid (And.intro hpt hpo)
        obtain ⟨O, hO⟩ : ∃ O, O = (outS e s 0 A).length := ⟨_, rfl⟩
        rw [← hO] at hOl hO1
        have HOd := Lib.hid hO
        clear hT hZ hTl hTo hpt hpo hwu hcu hgu hb8 hO
        obtain ⟨hZb1, hZb2⟩ := hZb
        go_wp2_with fail
        refine HP1.out.mono ?_
        rintro e7 w7 h
        unfold ViewPost noView at h
        rcases h with ⟨hm, _⟩ | ⟨_, hp, _⟩ | ⟨_, l', b', vr, va, hp, rfl, hr, ha, hnew⟩
        · rw [HMy.out.1] at hm
          simp at hm
        · rw [HPT.out.1] at hp
          simp at hp
        rw [HPT.out.1] at hp
        simp only [Option.some.injEq, Prod.mk.injEq] at hp
        obtain ⟨rfl, rfl⟩ := hp
        rw [← HOd.out]
        obtain ⟨q1, m1, d1, rfl, hm1, hmd1, hd1, hq1, hrec, hk7⟩ := hr
        obtain ⟨q2, m2, d2, rfl, hm2, hmd2, hd2, hq2, hrow, _⟩ := ha
        rw [← HLd.out] at hm1
        rw [places_length, ← HLd.out] at hm2
        have hm1' : L = m1 := hm1.symm
        have hm2' : L = m2 := hm2.symm
        clear hm1 hm2
        subst hm1'
        subst hm2'
        have HF6 := Lib.hid (HB.old HSt6.out.at_)
        have hk8 := hk7.alloc (.cells #[.slice q1 L d1, .slice q2 L d2, .int .u32 (O : Int), .bool sl] 60)
        have hka := (Keeps.refl NoBlock w7).alloc (.cells #[.slice q1 L d1, .slice q2 L d2, .int .u32 (O : Int), .bool sl] 60)
        obtain ⟨w8, hw8⟩ : ∃ w8, w8 = w7.alloc (.cells #[.slice q1 L d1, .slice q2 L d2, .int .u32 (O : Int), .bool sl] 60) := ⟨_, rfl⟩
        have HV8 : Hid (Whole w8 w7.heap.size 60 #[.slice q1 L d1, .slice q2 L d2, .int .u32 (O : Int), .bool sl]) := Lib.hid (by rw [hw8]; exact Whole.new w7 _ _)
        rw [← hw8] at hk8 hka
        have HSt8 := Lib.hid (HSt6.out.keep HB hk8)
        have HHv8 := Lib.hid (HHv6.out.keep hk8)
        have HPv8 := Lib.hid (HPv6.out.keep hk8)
        have HU8 := Lib.hid (HU6.out.keep hk8)
        have HWu8 := Lib.hid (HWu.out.keep hk8 (fun h => h))
        have HR8 := Lib.hid (hrec.keep hka (fun _ _ h => h))
        have HA8 := Lib.hid (hrow.keep hka (fun _ _ h => h))
        have HQ1 := Lib.hid (fun a (h : q1 = some a) => own_blk (fun k hk => hnew k (.inl hk)) a h)
        have HQ2 := Lib.hid (fun a (h : q2 = some a) => own_blk (fun k hk => hnew k (.inr hk)) a h)
        have HFm := Lib.hid (fun wx (h : Keeps NoBlock w8 wx) => HFr.frames F6 _ e s 0 A wx (HB.keep HSt8.out.at_ h (fun _ _ h => h)) HOA.out.room (by have := HLd.out; omega) HOA.out.fine)
        have HW7 : Hid (wc.heap.size ≤ w7.heap.size) := Lib.hid hk7.size
        have hHb : ¬ F6 w7.heap.size := fun h => by have := HF6.out _ h; have := HW7.out; omega
        have HHb := Lib.hid hHb
        have n1 : ((L : Int) != (L : Int)) = false := by simp
        have n2 : (sl != sl) = false := by cases sl <;> rfl
        have n3 : ((O : Int) != (O : Int)) = false := by simp
        have n4 : IntKind.i64.wrap (O : Int) = (O : Int) := by rw [IntKind.wrap_i64]; omega
        have hW8 := Lib.hid hw8
        clear hw8 hk8 hka hk7 hrec hrow hnew hHb hq1 hq2 HSt6 HHv6 HPv6 HU6 g0 g1 hltC
        go_upto_region 24 with (fail)
        rw [← hW8.out]
        have s0 : w8.drew.cell? ⟨w7.heap.size, 0, none⟩ = some (.slice q1 L d1) ∧ w8.drew.cell? ⟨w7.heap.size, 2, none⟩ = some (.int .u32 (O : Int)) ∧ w8.drew.cell? ⟨w7.heap.size, 3, none⟩ = some (.bool sl) := ⟨HV8.out.cell 0 rfl, HV8.out.cell 2 rfl, HV8.out.cell 3 rfl⟩
        have sN : w8.cell? ⟨w7.heap.size, 0, none⟩ = some (.slice q1 L d1) ∧ w8.cell? ⟨w7.heap.size, 2, none⟩ = some (.int .u32 (O : Int)) ∧ w8.cell? ⟨w7.heap.size, 3, none⟩ = some (.bool sl) := ⟨HV8.out.cell 0 rfl, HV8.out.cell 2 rfl, HV8.out.cell 3 rfl⟩
        go_wp2_with fail
        go_region_held3 (fun w' => w'.cell? ⟨w7.heap.size, 0, none⟩ = some (.slice q1 L d1) ∧ w'.cell? ⟨w7.heap.size, 2, none⟩ = some (.int .u32 (O : Int)) ∧ w'.cell? ⟨w7.heap.size, 3, none⟩ = some (.bool sl))
          (first | exact s5 | exact s0 | exact sN)
          (first | (go_at_call 20; refine (HFm.out _ (by first | exact Keeps.refl _ _ | exact (Keeps.refl _ _).drew | exact (Keeps.refl _ _).drewN _)).mono ?_; rintro e9 w9 ⟨u9, rfl, hg9⟩; obtain ⟨hk9, ho9, F9, hs9, ha9, hp9⟩ := hg9; obtain ⟨q9, d9, rfl, hd9, hc9, _⟩ := ho9.read; rw [← HOd.out]; rw [← HOd.out] at hd9; have HKa := Lib.hid (show Keeps F6 w8 w9 by first | exact hk9 | exact hk9.ofDrew | exact hk9.ofDrewN); have HVa := Lib.hid (HV8.out.keep HKa.out HHb.out); have s5 : w9.cell? ⟨w7.heap.size, 0, none⟩ = some (.slice q1 L d1) ∧ w9.cell? ⟨w7.heap.size, 2, none⟩ = some (.int .u32 (O : Int)) ∧ w9.cell? ⟨w7.heap.size, 3, none⟩ = some (.bool sl) := ⟨HVa.out.cell 0 rfl, HVa.out.cell 2 rfl, HVa.out.cell 3 rfl⟩; have HSm9 := Lib.hid (show SubF F9 F6 w8 from hs9); have HAt9 := Lib.hid ha9; clear hk9 ho9 hs9 ha9 hp9))
        have HSt9 := Lib.hid (show BSt At wC w9 F9 (.pointer (some ⟨g, 0, none⟩)) e s 0 A from ⟨HAt9.out, fun k hk => (HSm9.out k hk).elim (HSt8.out.new k) (fun h => Nat.le_trans HSt8.out.kept.size h), HSt8.out.kept.then HKa.out (fun k _ hf => by have := HSt8.out.new k hf; omega)⟩)
        have HHv9 := Lib.hid (HHv8.out.call HKa.out HSm9.out)
        have HPv9 := Lib.hid (HPv8.out.call HKa.out HSm9.out)
        have HU9 := Lib.hid (HU8.out.call HKa.out HSm9.out)
        have HWu9 := Lib.hid (HWu8.out.keep HKa.out (fun hf => HU8.out.2 gu hf rfl))
        have HR9 := Lib.hid (recs_far HR8.out HKa.out (fun a ha hf => by have := HQ1.out a ha; have := HF6.out _ hf; omega))
        have HA9 := Lib.hid (row32_far HA8.out HKa.out (fun a ha hf => by have := HQ2.out a ha; have := HF6.out _ hf; omega))
        have HX9 : Hid (RecsAt w9 qh A) := Lib.hid (by
          obtain ⟨q', m', d', hv, _, _, _, _, hx, _⟩ := HHv9.out.recs HSt9.out.kept
          simp only [Value.slice.injEq] at hv
          rw [hv.1]
          exact hx)
        have HY9 : Hid (OnesAt u32V 0 w9 qp (placesS e s 0 A)) := Lib.hid (by
          obtain ⟨q', m', d', hv, _, _, _, _, hx, _⟩ := HPv9.out.nums (by rw [places_length]) HSt9.out.kept
          simp only [Value.slice.injEq] at hv
          rw [hv.1]
          exact hx)
        have HC9 := Lib.hid (HC.out.keep HSt9.out.kept (fun h => h))
        have HK9 := Lib.hid (HK.out.trans HSt9.out.kept)
        clear s0 sN s5 HSt8 HHv8 HPv8 HU8 HWu8 HR8 HA8 HFm HAt9 HSm9 HKa HV8 HC6 n1 n2 n3 hW8
        go_wp2_with fail
        go_loopw [123] (fun i wr => ∃ j : Nat, j ≤ L ∧ i = .int .i64 (j : Int) ∧ Hid (Keeps NoBlock w9 wr)) (fun i _ => L - (intOf i).toNat)
        case atStart => exact ⟨0, Nat.zero_le _, rfl, Lib.hid (Keeps.refl _ _)⟩
        case round =>
          obtain ⟨j, hj, rfl, HKr⟩ := hrel
          by_cases hlt : j < L
          · have hdj : decide ((j : Int) < (L : Int)) = true := decide_eq_true (by omega)
            have hjl : j < A.length := by rw [← HLd.out]; exact hlt
            have HVr := Lib.hid (HVa.out.keep HKr.out (fun h => h))
            have v0 := HVr.out.cell 0 rfl
            have v1 := HVr.out.cell 1 rfl
            simp only [List.getElem_toArray, List.getElem_cons_zero, List.getElem_cons_succ] at v0 v1
            obtain ⟨a1, rfl, x0, x1, x2, x3⟩ := (HR9.out.keep HKr.out (fun _ _ h => h)) j hjl
            obtain ⟨a3, rfl, y0, y1, y2, y3⟩ := (HX9.out.keep HKr.out (fun _ _ h => h)) j hjl
            obtain ⟨a2, rfl, p0⟩ := (HA9.out.keep HKr.out (fun _ _ h => h)) j (by rw [places_length]; exact hjl)
            obtain ⟨a4, rfl, p1⟩ := (HY9.out.keep HKr.out (fun _ _ h => h)) j (by rw [places_length]; exact hjl)
            unfold u32V at p1
            obtain ⟨r, hr⟩ : ∃ r, r = A.getD j Rec.none := ⟨_, rfl⟩
            rw [← hr] at x0 x1 x2 x3 y0 y1 y2 y3
            obtain ⟨P, hP⟩ : ∃ P, P = (placesS e s 0 A).getD j 0 := ⟨_, rfl⟩
            rw [← hP] at p0 p1
            have hne := fun w => recNe15 r w
            unfold recV at hne
            have n5 : ((P : Int) != (P : Int)) = false := by simp
            have hjL : (j : Int) < (L : Int) := by omega
            clear hr hP hjl
            go_wp2_with fail
            go_quiet (fail)
            go_wp2_with fail
            go_roundw
            case rel => exact ⟨j + 1, by omega, by go_num, Lib.hid (by first | exact HKr.out.drewN _ | exact HKr.out)⟩
            case measure => simp [intOf]; omega
          · have hdj : decide ((j : Int) < (L : Int)) = false := decide_eq_false (by omega)
            have HWr := Lib.hid (HWu9.out.keep HKr.out (fun h => h))
            have HCr := Lib.hid (HC9.out.keep HKr.out (fun h => h))
            have hb8 := HWr.out.bytes T (fun i hi => HCu.out i (by have := HZd.out; omega))
            have HP2 := Lib.hid (HPr.out 1 (by decide) (some ⟨gu, 0, none⟩) Z du T wr ⟨HZd.out, HGu.out.2.1, HGu.out.2.2, fun h => by simp at h, HTo.out, hb8⟩ (by omega) HTle.out (by have := HE.out; omega) (by have := HE.out; omega) (by decide))
            have hltC := HCr.out.lt
            have g0 := HCr.out.cell 0 rfl
            have g1 := HCr.out.cell 1 rfl
            simp only [confCells, List.getElem_toArray, List.getElem_cons_zero, List.getElem_cons_succ] at g0 g1
            clear hb8
            go_wp2_with fail
            refine HP2.out.mono ?_
            rintro e10 w10 h
            unfold ViewPost noView at h
            rcases h with ⟨hm, _⟩ | ⟨_, _, rfl, hk10⟩ | ⟨_, l', b', vr, va, hp, _⟩
            · rw [HMy.out.2] at hm
              simp at hm
            rotate_left
            · rw [HPT.out.2] at hp
              simp at hp
            have hk11 := (HKr.out.trans hk10).alloc (.cells #[.slice none 0 0, .slice none 0 0, .int .u32 0, .bool false] 60)
            obtain ⟨w11, hw11⟩ : ∃ w11, w11 = w10.alloc (.cells #[.slice none 0 0, .slice none 0 0, .int .u32 0, .bool false] 60) := ⟨_, rfl⟩
            rw [← hw11] at hk11
            have HSt11 := Lib.hid (HSt9.out.keep HB hk11)
            have HHv11 := Lib.hid (HHv9.out.keep hk11)
            have HU11 := Lib.hid (HU9.out.keep hk11)
            have HWu11 := Lib.hid (HWu9.out.keep hk11 (fun h => h))
            have HFn := Lib.hid (HFr.frames F9 _ e s 0 A w11 HSt11.out.at_ HOA.out.room (by have := HLd.out; omega) HOA.out.fine)
            have HW11 := Lib.hid hw11
            rw [hw11] at HFn
            clear hw11 hk11 hk10 g0 g1 hltC HP2 HHv9 HU9 HWu9 HSt9 HPv9 HR9 HA9 HX9 HY9 HC9 HCr HWr hdj
            go_wp2_with fail
            refine HFn.out.mono ?_
            rintro e12 w12 ⟨u12, rfl, hg12⟩
            rw [← HW11.out] at hg12
            obtain ⟨hk12, ho12, F12, hs12, hst12, _⟩ := HSt11.out.gives hg12
            obtain ⟨q12, d12, rfl, hd12, hc12, _⟩ := ho12.read
            rw [← HOd.out]
            rw [← HOd.out] at hd12
            have HHv12 := Lib.hid (HHv11.out.call hk12 hs12)
            have HU12 := Lib.hid (HU11.out.call hk12 hs12)
            have HWu12 := Lib.hid (HWu11.out.keep hk12 (fun hf => HU11.out.2 gu hf rfl))
            have HK12 := Lib.hid hst12.kept
            clear hk12 ho12 hs12 hst12 hg12 HSt11 HHv11 HU11 HWu11 HFn
            obtain ⟨i, hi2⟩ : ∃ i : Nat, (pos : Int).tmod (O : Int) = (i : Int) := ⟨pos % O, by rw [Int.tmod_eq_emod_of_nonneg (by omega)]; rfl⟩
            have hiO : i < O := by
              have h1 := Int.emod_lt_of_pos (pos : Int) (show (0 : Int) < (O : Int) by omega)
              rw [Int.tmod_eq_emod_of_nonneg (by omega)] at hi2
              omega
            have hiZ : (i : Int) < (Z : Int) := by omega
            have hiZn : i < Z := by omega
            have c1 : w12.cell? ⟨gu, i, none⟩ = some (.int .u8 (T.getD i 0)) := HWu12.out.cell i (HCu.out i hiZn)
            have f1 := HWu12.out.free i
            have HBn := Lib.hid (bytes_set15 HWu12.out HCu.out HZd.out i hiZn (tob : Int))
            have HKs := Lib.hid (HK12.out.setNew HGu.out.1 i (.int .u8 (tob : Int)))
            have HXs : Hid (RecsAt (w12.setCell ⟨gu, i, none⟩ (.int .u8 (tob : Int))) qh A) := Lib.hid (by
              obtain ⟨q', m', d', hv, _, _, _, _, hx, _⟩ := HHv12.out.recs HK12.out
              simp only [Value.slice.injEq] at hv
              rw [hv.1]
              refine recs_far hx ((Keeps.refl (fun k => k = gu) w12).setIn rfl i (.int .u8 (tob : Int))) (fun a ha hb => ?_)
              refine rows_apartP (by decide) HHv12.out.1 HU12.out.1 gu ?_ rfl
              rw [hv.1, ha, ← hb]
              rfl)
            have HSo : Hid (Octets (T.set i (tob : Int))) := Lib.hid (fun b hb => by
              rcases List.mem_or_eq_of_mem_set hb with h | h
              · exact HTo.out b h
              · rw [h]; omega)
            have HTi : Hid (T.getD i 0 ≠ (tob : Int) → T ≠ T.set i (tob : Int)) := Lib.hid (fun h hh => h (by
              have hl : i < T.length := by have := HZd.out; omega
              have e1 : (T.set i (tob : Int)).getD i 0 = (tob : Int) := by simp [hl]
              rw [← hh] at e1
              exact e1))
            obtain ⟨was, hwas⟩ : ∃ was, was = T.getD i 0 := ⟨_, rfl⟩
            rw [← hwas] at c1 HTi
            clear hwas HHv12 HU12 HWu12 hiZn
            by_cases hwt : was = (tob : Int)
            · have hwb : (was == (tob : Int)) = true := by rw [hwt]; simp
              have HKf := Lib.hid (HK.out.trans HK12.out)
              clear hwt
              go_wp2_with fail
              go_ret
              exact ⟨rfl, HKf.out⟩
            have hwb : (was == (tob : Int)) = false := beq_eq_false_iff_ne.2 hwt
            have HTn := Lib.hid (HTi.out hwt)
            clear hwt HTi
            go_upto_region 39 with (fail)
            obtain ⟨W, hW⟩ : ∃ W, W = w12.setCell ⟨gu, i, none⟩ (.int .u8 (tob : Int)) := ⟨_, rfl⟩
            rw [← hW] at HBn HKs HXs ⊢
            clear hW c1 f1 hwb
            obtain ⟨T', hT'⟩ : ∃ T', T' = T.set i (tob : Int) := ⟨_, rfl⟩
            have hT'l : Z = T'.length := by rw [hT', List.length_set]; exact HZd.out
            rw [← hT'] at HBn HSo HTn
            have HP3 := Lib.hid (HPr.out 0 (by decide) (some ⟨gu, 0, none⟩) Z du T' W ⟨hT'l, HGu.out.2.1, HGu.out.2.2, fun h => by simp at h, HSo.out, HBn.out⟩ (by omega) HTle.out (by have := HE.out; omega) (by have := HE.out; omega) (by decide))
            have HCs := Lib.hid (HC.out.keep HKs.out (fun h => h))
            have hltC := HCs.out.lt
            have g0 := HCs.out.cell 0 rfl
            have g1 := HCs.out.cell 1 rfl
            simp only [confCells, List.getElem_toArray, List.getElem_cons_zero, List.getElem_cons_succ] at g0 g1
            have HKW := Lib.hid (HK.out.trans HKs.out)
            clear hT' hT'l HBn hi2 hiO hiZ
            go_wp2_with fail
            refine HP3.out.mono ?_
            rintro e13 w13 h
            unfold ViewPost noView at h
            rcases h with ⟨hm, _⟩ | ⟨_, _, rfl, hk13⟩ | ⟨_, l', b', vr, va, hp, rfl, hr, ha, _⟩
            · rw [HMy.out.1] at hm
              simp at hm
            · have HKn := Lib.hid ((HKW.out.trans hk13).alloc (.cells #[.slice none 0 0, .slice none 0 0, .int .u32 0, .bool false] 60))
              clear hk13 g0 g1 hltC
              go_wp2_with fail
              go_loopw [27, 28] (fun sm i wq => sm = .bool false ∧ i = .int .i64 0 ∧ Hid (Keeps NoBlock (w13.alloc (.cells #[.slice none 0 0, .slice none 0 0, .int .u32 0, .bool false] 60)) wq)) (fun _ _ _ => 0)
              case atStart => exact ⟨rfl, rfl, Lib.hid (Keeps.refl _ _)⟩
              case round =>
                obtain ⟨rfl, rfl, HKq⟩ := hrel
                have HKf := Lib.hid (HKn.out.trans HKq.out)
                go_wp2_with fail
                go_ret
                exact ⟨rfl, HKf.out⟩
            · obtain ⟨q5, m5, d5, rfl, hm5, hmd5, hd5, hq5, hrec, hk13⟩ := hr
              obtain ⟨q6, m6, d6, rfl, hm6, hmd6, hd6, hq6, hrow, _⟩ := ha
              obtain ⟨U, hU⟩ : ∃ U : Int, U = ((outS e s 0 l').length : Int) := ⟨_, rfl⟩
              rw [← hU]
              have hka := (Keeps.refl NoBlock w13).alloc (.cells #[.slice q5 m5 d5, .slice q6 m6 d6, .int .u32 U, .bool b'] 60)
              have HKn := Lib.hid ((HKW.out.trans hk13).trans hka)
              have HX13 := Lib.hid ((HXs.out.keep hk13 (fun _ _ h => h)).keep hka (fun _ _ h => h))
              have HR13 := Lib.hid (hrec.keep hka (fun _ _ h => h))
              have HV13 := Lib.hid (show Whole (w13.alloc (.cells #[.slice q5 m5 d5, .slice q6 m6 d6, .int .u32 U, .bool b'] 60)) w13.heap.size 60 #[.slice q5 m5 d5, .slice q6 m6 d6, .int .u32 U, .bool b'] from Whole.new w13 _ _)
              have HM5 := Lib.hid hm5
              have HPp := Lib.hid hp
              clear hU hka hk13 hrec hrow hm5 hm6 hq5 hq6 hp g0 g1 hltC HP3 HCs HXs
              by_cases hML : m5 = L
              rotate_left
              · have hb1 : ((m5 : Int) == (L : Int)) = false := beq_eq_false_iff_ne.2 (by omega)
                clear hML
                go_wp2_with fail
                go_loopw [27, 28] (fun sm i wq => sm = .bool false ∧ i = .int .i64 0 ∧ Hid (Keeps NoBlock (w13.alloc (.cells #[.slice q5 m5 d5, .slice q6 m6 d6, .int .u32 U, .bool b'] 60)) wq)) (fun _ _ _ => 0)
                case atStart => exact ⟨rfl, rfl, Lib.hid (Keeps.refl _ _)⟩
                case round =>
                  obtain ⟨rfl, rfl, HKq⟩ := hrel
                  have HKf := Lib.hid (HKn.out.trans HKq.out)
                  go_wp2_with fail
                  go_ret
                  exact ⟨rfl, HKf.out⟩
              have hML' : L = m5 := hML.symm
              clear hML
              subst hML'
              by_cases hbs : b' = sl
              rotate_left
              · have hb1 : (b' == sl) = false := beq_eq_false_iff_ne.2 hbs
                clear hbs
                go_wp2_with fail
                go_loopw [27, 28] (fun sm i wq => sm = .bool false ∧ i = .int .i64 0 ∧ Hid (Keeps NoBlock (w13.alloc (.cells #[.slice q5 L d5, .slice q6 m6 d6, .int .u32 U, .bool b'] 60)) wq)) (fun _ _ _ => 0)
                case atStart => exact ⟨rfl, rfl, Lib.hid (Keeps.refl _ _)⟩
                case round =>
                  obtain ⟨rfl, rfl, HKq⟩ := hrel
                  have HKf := Lib.hid (HKn.out.trans HKq.out)
                  go_wp2_with fail
                  go_ret
                  exact ⟨rfl, HKf.out⟩
              subst hbs
              have hb1 : (b' == b') = true := by cases b' <;> rfl
              have HFl := Lib.hid (scan_fine HSo.out).1
              rw [← parse_scan HPp.out] at HFl
              obtain ⟨W2, hW2⟩ : ∃ W2, W2 = w13.alloc (.cells #[.slice q5 L d5, .slice q6 m6 d6, .int .u32 U, .bool b'] 60) := ⟨_, rfl⟩
              rw [← hW2] at HKn HX13 HR13 HV13
              have HW2 := Lib.hid hW2
              clear hW2
              go_wp2_with fail
              rw [← HW2.out]
              go_loopw [27, 28] (fun sm i wq => ∃ (j : Nat) (t : Bool), j ≤ L ∧ i = .int .i64 (j : Int) ∧ sm = .bool t ∧ Hid (t = true → ∀ x, x < j → l'.getD x Rec.none = A.getD x Rec.none) ∧ Hid (Keeps NoBlock W2 wq)) (fun _ i _ => L - (intOf i).toNat)
              case atStart => exact ⟨0, true, Nat.zero_le _, rfl, rfl, Lib.hid (fun _ x hx => by omega), Lib.hid (Keeps.refl _ _)⟩
              case round =>
                obtain ⟨j, t, hj, rfl, rfl, HJ, HKq⟩ := hrel
                cases t with
                | false =>
                  have HKf := Lib.hid (HKn.out.trans HKq.out)
                  go_wp2_with fail
                  go_ret
                  exact ⟨rfl, HKf.out⟩
                | true =>
                  by_cases hlt : j < L
                  · have hdj : decide ((j : Int) < (L : Int)) = true := decide_eq_true (by omega)
                    have hjl : j < A.length := by rw [← HLd.out]; exact hlt
                    have hjl' : j < l'.length := by rw [← HM5.out]; exact hlt
                    have HVq := Lib.hid (HV13.out.keep HKq.out (fun h => h))
                    have v0 := HVq.out.cell 0 rfl
                    simp only [List.getElem_toArray, List.getElem_cons_zero] at v0
                    obtain ⟨a1, rfl, x0, x1, x2, x3⟩ := (HR13.out.keep HKq.out (fun _ _ h => h)) j hjl'
                    obtain ⟨a3, rfl, y0, y1, y2, y3⟩ := (HX13.out.keep HKq.out (fun _ _ h => h)) j hjl
                    have hf1 : (l'.getD j Rec.none).Fine := by
                      rw [List.getD_eq_getElem?_getD, List.getElem?_eq_getElem hjl']
                      exact (HFl.out _ (List.getElem_mem _)).1
                    have hf2 : (A.getD j Rec.none).Fine := by
                      rw [List.getD_eq_getElem?_getD, List.getElem?_eq_getElem hjl]
                      exact (HOA.out.fine _ (List.getElem_mem _)).1
                    obtain ⟨tt, hcmp, himp⟩ := recCmp hf1 hf2
                    have HIm := Lib.hid himp
                    obtain ⟨r1, hr1⟩ : ∃ r, r = l'.getD j Rec.none := ⟨_, rfl⟩
                    obtain ⟨r2, hr2⟩ : ∃ r, r = A.getD j Rec.none := ⟨_, rfl⟩
                    rw [← hr1] at x0 x1 x2 x3 hcmp
                    rw [← hr2] at y0 y1 y2 y3 hcmp
                    unfold recV at hcmp
                    have hjL : (j : Int) < (L : Int) := by omega
                    clear hr1 hr2 hjl hjl' hf1 hf2 himp
                    go_wp2_with fail
                    go_quiet (fail)
                    go_wp2_with fail
                    go_roundw
                    case rel =>
                      exact ⟨j + 1, tt, by omega, by go_num, rfl, Lib.hid (fun ht x hx => by
                        rcases Nat.lt_or_ge x j with h1 | h1
                        · exact HJ.out (by first | rfl | trivial) x h1
                        · obtain rfl : x = j := by omega
                          exact HIm.out ht), Lib.hid (by first | exact HKq.out.drewN _ | exact HKq.out)⟩
                    case measure => simp [intOf]; omega
                  · have hla : l' = A := List.ext_getElem (by have := HM5.out; have := HLd.out; omega) (fun x h1 h2 => by
                      have := HJ.out (by first | rfl | trivial) x (by have := HLd.out; omega)
                      simpa [List.getD_eq_getElem?_getD, h1, h2] using this)
                    exact absurd (HPo.out T' (by rw [← hla]; exact HPp.out)) HTn.out
end Go.Proofs.YtlejobomjgccnaaGreat

namespace Go.Proofs.YtlejobomjgccnaaGreat
open Go.RowKit

set_option maxHeartbeats 800000 in
set_option maxRecDepth 10000 in
theorem equal_bytes (p q : Option Addr) (n c m d : Nat) (xs ys : List Int) (w : World) (hx : n = xs.length) (hy : m = ys.length) (ox : Octets xs) (oy : Octets ys) (hp : Bytes8 w p xs) (hq : Bytes8 w q ys) :
    Calls Tryz.prog 74 #[.slice p n c, .slice q m d] w fun e w' => e = .returned (.bool (decide (xs = ys))) ∧ w' = w := by
  have t1 := textOf p n c xs w hx hp
  have t2 := textOf q m d ys w hy hq
  have he : ((strOfNums xs).toList == (strOfNums ys).toList) = decide (xs = ys) := by
    rw [text_beq, decide_eq_decide]
    exact ⟨fun h => strOf_inj ox oy h, fun h => by rw [h]⟩
  obtain ⟨A, hA⟩ : ∃ A, A = strOfNums xs := ⟨_, rfl⟩
  obtain ⟨B, hB⟩ : ∃ B, B = strOfNums ys := ⟨_, rfl⟩
  rw [← hA] at t1 he
  rw [← hB] at t2 he
  obtain ⟨z, hz⟩ : ∃ z, z = decide (xs = ys) := ⟨_, rfl⟩
  rw [← hz] at he ⊢
  clear hA hB hz hx hy ox oy hp hq
  go_enter Tryz.func74, Tryz.ntmps74
  go_wp2_with fail
  go_ret
  exact ⟨rfl, rfl⟩

set_option maxHeartbeats 1600000 in
set_option maxRecDepth 10000 in
theorem prefix_bytes (p q : Option Addr) (n c m d : Nat) (xs ys : List Int) (w : World) (h1 : In8 w p n c xs) (h2 : In8 w q m d ys) :
    Calls Tryz.prog 45 #[.slice p n c, .slice q m d] w fun e w' => e = .returned (.bool (decide (m ≤ n ∧ xs.take m = ys))) ∧ w' = w := by
  by_cases hmn : m ≤ n
  · have hE := Lib.hid (fun q' c' (h8 : Bytes8 w q' (xs.take m)) => equal_bytes q' q m c' m d (xs.take m) ys w (by rw [List.length_take, ← h1.len]; omega) h2.len (h1.oct.take _) h2.oct h8 h2.at_)
    have hpc : Hid (∀ q', (0 < m → q' = p) → Bytes8 w q' (xs.take m)) := Lib.hid (fun q' hq' => by
      have := h1.at_.piece (q := q') 0 m (by have := h1.len; omega) (fun h0 => by rw [hq' h0]; cases p <;> simp [Addr.add])
      rwa [List.drop_zero] at this)
    have hd : decide (m ≤ n ∧ xs.take m = ys) = decide (xs.take m = ys) := by simp [hmn]
    rw [hd]
    obtain ⟨z, hz⟩ : ∃ z, z = decide (xs.take m = ys) := ⟨_, rfl⟩
    rw [← hz] at hE ⊢
    have hge : (m : Int) ≤ (n : Int) := by omega
    have hmc : (m : Int) ≤ (c : Int) := by have := h1.cap; omega
    have hm0 : (0 : Int) ≤ (m : Int) := by omega
    have hc9 := h1.room
    clear hd hz h1 h2 hmn
    go_enter Tryz.func45, Tryz.ntmps45
    go_wp2_with fail
    refine (hE.out _ _ (hpc.out _ (fun h0 => by first | rfl | (cases p <;> simp [Addr.add])))).mono ?_
    rintro e w2 ⟨rfl, rfl⟩
    go_wp2_with fail
    go_ret
    exact ⟨rfl, rfl⟩
  · have hd : decide (m ≤ n ∧ xs.take m = ys) = false := decide_eq_false (fun h => hmn h.1)
    rw [hd]
    have hge : decide ((m : Int) ≤ (n : Int)) = false := decide_eq_false (by omega)
    have hlt : ¬ (m : Int) ≤ (n : Int) := by omega
    clear hd h1 h2
    go_enter Tryz.func45, Tryz.ntmps45
    go_wp2_with fail
    go_ret
    exact ⟨rfl, rfl⟩

/-- A row's bytes, copied into a row of one's own. -/
theorem clone_row (p : Option Addr) (n c : Nat) (xs : List Int) (w : World) (hx : n = xs.length) (hbig : n ≤ 140737488355328) (h0 : 0 < n) (hc : Bytes8 w p xs) :
    Calls Tryz.prog 41 #[.slice p n c] w fun e w' => ∃ v, e = .returned v ∧ w'.ownsRow w.heap.size 5 1 v n (xs.map (Value.int .u8)) ∧ Keeps NoBlock w w' := by
  obtain ⟨a, rfl, hca⟩ := hc (by omega)
  obtain ⟨i0, hi, hz0, hz1, hz2⟩ := info_parts infoByte
  have q22 : ∀ (w : World) (a : Option Addr) (n c n' c' : Nat), (binOp .eql 52 (.slice a n c) (.slice none n' c')).run Tryz.prog w = .ok (.bool a.isNone) w := fun w a n c n' c' => Lib.run_eql_slice_nil w _ _ a n c n' c' Tryz.underlying52
  have u22 : ∀ w, Sem.run Tryz.prog (underlying 52) w = .ok (TypeDesc.slice 5) w := run_underlying Tryz.underlying52
  have z5 : ∀ w, Sem.run Tryz.prog (Go.sizeOf 5) w = .ok 1 w := fun w => by simp [Go.sizeOf, typeInfo, hi, hz1]
  have HX := Lib.hid hx; have HC := Lib.hid hca
  clear hx hc hca
  go_enter Tryz.func41, Tryz.ntmps41
  go_wp2_with (at_builtin; refine wpList_append_own _ rfl _ _ 52 rfl w.heap.size 5 i0 (.int .u8 0) 1 1 Tryz.underlying52 hi hz0 hz1 hz2 rfl (by decide) _ _ _ rfl (World.ownsRow_made w #[] 0 (Nat.le_refl _) (Nat.zero_le _) rfl) a n c (xs.map (Value.int .u8)) rfl ?qc1 ?qc2 ?qc3 ?qc4 ?qc5 ?qc6 ?_)
  case qc1 => have := HX.out; simp; omega
  case qc2 =>
    intro j u hj
    have hjn : j < xs.length := by
      have := (List.getElem?_eq_some_iff.1 hj).1
      simpa using this
    refine Lib.cell?_alloc_some _ ?_
    rw [HC.out j hjn]
    have e : (xs.map (Value.int .u8))[j]? = some (Value.int .u8 (xs.getD j 0)) := by simp [List.getElem?_eq_getElem hjn]
    rw [e] at hj
    exact hj
  case qc3 => intro u hu; obtain ⟨x, _, rfl⟩ := List.mem_map.1 hu; rfl
  case qc4 => unfold maxLen; omega
  case qc5 => omega
  case qc6 => simp
  intro v' w1 hown hgrow hnil
  have hbel : Below w.heap.size w w1 := ((Below.refl _ w).alloc (Nat.le_refl _) _).grown hgrow (by simp) (by intro k hk; simp [Value.ownBlock] at hk; omega)
  have HF := Lib.hid (show w1.ownsRow w.heap.size 5 1 v' n (xs.map (Value.int .u8)) by simpa using hown)
  have HB := Lib.hid (Keeps.ofBelow (S := NoBlock) hbel)
  clear hown hgrow hnil hbel
  go_wp2
  go_ret
  exact ⟨v', rfl, HF.out, HB.out⟩

/-- How often a byte stands among bytes. -/
theorem run_count (w : World) (p : Option Addr) (n c : Nat) (xs : List Int) (hx : n = xs.length) (hb : Bytes8 w p xs) (hn0 : p = none → n = 0) (x : Int) :
    (Extern.BytealgCount.count #[.slice p n c, .int .u8 x]).run Tryz.prog w = .ok (.int .i64 ((Lib.countByte (Lib.bytesOf xs) x.toNat.toUInt8 : Nat) : Int)) w := by
  have hs := Lib.run_countString (P := Tryz.prog) ⟨(Lib.bytesOf xs).toArray⟩ x w
  have hl : (Extern.Bytes.bytesOf (.slice p n c)).run Tryz.prog w = .ok (⟨(Lib.bytesOf xs).toArray⟩ : ByteArray) w := by
    cases p with
    | none =>
      have h0 := hn0 rfl
      obtain rfl : xs = [] := List.length_eq_zero_iff.1 (by omega)
      rfl
    | some a =>
      have h := Lib.run_loadBytesX (P := Tryz.prog) w xs a .empty (fun j x hj => by
        have hjl : j < xs.length := (List.getElem?_eq_some_iff.1 hj).1
        obtain ⟨a', ha', hc⟩ := hb (by omega)
        obtain rfl := Option.some.inj ha'
        rw [hc j hjl, List.getD_eq_getElem?_getD, hj]
        rfl)
      rw [← hx] at h
      have he : (⟨ByteArray.empty.data ++ (Lib.bytesOf xs).toArray⟩ : ByteArray) = ⟨(Lib.bytesOf xs).toArray⟩ := by
        apply ByteArray.ext
        show (#[] : Array UInt8) ++ (Lib.bytesOf xs).toArray = (Lib.bytesOf xs).toArray
        simp
      rw [he] at h
      exact h
  change Sem.run Tryz.prog (do
    let b ← Extern.Bytes.bytesOf (.slice p n c)
    let c' ← Extern.Bytes.asByte (.int .u8 x)
    pure (goInt (b.foldl (fun n x => if x == c' then n + 1 else n) (0 : Nat)))) w = _
  change Sem.run Tryz.prog (do
    let b ← Extern.Bytes.bytesOf (.string ⟨(Lib.bytesOf xs).toArray⟩)
    let c' ← Extern.Bytes.asByte (.int .u8 x)
    pure (goInt (b.foldl (fun n x => if x == c' then n + 1 else n) (0 : Nat)))) w = _ at hs
  rw [Sem.run_bind, hl]
  simp only [Extern.Bytes.bytesOf, Sem.run_bind, Sem.run_pure, Result.andThen] at hs ⊢
  simpa using hs

theorem count_all {xs : List Int} (ho : Octets xs) : Lib.countByte (Lib.bytesOf xs) ((255 : Int).toNat.toUInt8) = xs.length ↔ xs = List.replicate xs.length 255 := by
  have hl : (Lib.bytesOf xs).length = xs.length := by simp [Lib.bytesOf]
  unfold Lib.countByte
  rw [show xs.length = (Lib.bytesOf xs).length from hl.symm, List.count_eq_length, hl, List.eq_replicate_iff]
  constructor
  · intro h
    refine ⟨rfl, fun b hb => ?_⟩
    have h1 := h b.toNat.toUInt8 (by unfold Lib.bytesOf; exact List.mem_map.2 ⟨b, hb, rfl⟩)
    have h2 := congrArg UInt8.toNat h1
    have h3 := ho b hb
    have e1 : ((255 : Int).toNat.toUInt8).toNat = 255 := rfl
    rw [e1] at h2
    have e2 : (b.toNat.toUInt8).toNat = b.toNat % 256 := by simp
    rw [e2] at h2
    omega
  · rintro ⟨-, h⟩ b hb
    unfold Lib.bytesOf at hb
    obtain ⟨x, hx, rfl⟩ := List.mem_map.1 hb
    rw [h x hx]

set_option maxHeartbeats 1600000 in
set_option maxRecDepth 10000 in
/-- bytes.Count of a byte that stands alone in a row. -/
theorem count_bytes (p : Option Addr) (n c : Nat) (xs : List Int) (g : Nat) (x : Int) (w : World) (h : In8 w p n c xs) (hg : w.cell? ⟨g, 0, none⟩ = some (.int .u8 x)) :
    Calls Tryz.prog 104 #[.slice p n c, .slice (some ⟨g, 0, none⟩) 1 1] w fun e w' => e = .returned (.int .i64 ((Lib.countByte (Lib.bytesOf xs) x.toNat.toUInt8 : Nat) : Int)) ∧ w' = w := by
  have hr : (callFunc 136 #[.slice p n c, .int .u8 x]).run Tryz.prog w = .ok (.value (.int .i64 ((Lib.countByte (Lib.bytesOf xs) x.toNat.toUInt8 : Nat) : Int))) w := by
    rw [run_callFunc_extern (e := Extern.BytealgCount.count) Tryz.func136 (by kernel_rfl) (by kernel_rfl) (by kernel_rfl) (by kernel_rfl), run_count w p n c xs h.len h.at_ (fun h0 => (h.bare h0).1) x]
    rfl
  obtain ⟨z, hz⟩ : ∃ z : Int, z = ((Lib.countByte (Lib.bytesOf xs) x.toNat.toUInt8 : Nat) : Int) := ⟨_, rfl⟩
  rw [← hz] at hr ⊢
  clear h hz
  go_enter Tryz.func104, Tryz.ntmps104
  go_wp2_with fail
  go_ret
  exact ⟨rfl, rfl⟩
end Go.Proofs.YtlejobomjgccnaaGreat

namespace Go.Proofs.YtlejobomjgccnaaGreat
open Go.RowKit

theorem and63 (n : Nat) (hn : n < 64) : bits BinOp.and IntKind.u64 (n : Int) 63 = (n : Int) := by
  have e := u64_and_nat n 63 (by omega) (by decide)
  rw [show n &&& 63 = n % 2 ^ 6 from Nat.and_two_pow_sub_one_eq_mod n 6, Nat.mod_eq_of_lt (by omega)] at e
  exact e

set_option maxHeartbeats 800000 in
set_option maxRecDepth 10000 in
theorem wrotl (x y : Int) (n : Nat) (hn : n < 64) (h0 : 0 < n) (hy : y = n) (h : U64 x) (w : World) :
    Calls Tryz.prog 143 #[.int .u64 x, .int .i64 y] w fun e w' => e = .returned (.int .u64 (wrot n x)) ∧ w = w' := by
  subst hy
  have ha := and63 n hn
  have HR := Lib.hid (wrot_of hn h)
  have hx0 := h.1
  have hx1 := h.2
  clear h
  go_enter Tryz.func143, Tryz.ntmps143
  go_wp2
  go_ret
  exact ⟨by rw [← HR.out, ← IntKind.wrap_u64]; rfl, rfl⟩

set_option maxHeartbeats 800000 in
set_option maxRecDepth 10000 in
theorem winto_wide (x y : Int) (h : U64 x) (hy : U64 y) (w : World) :
    Calls Tryz.prog 144 #[.int .u64 x, .int .u64 y] w fun e w' => e = .returned (.int .u64 (win x y)) ∧ w = w' := by
  have hm := wmod_bound (x + IntKind.u64.wrap (y * 14029467366897019727))
  have hr := wrot_bound (n := 31) (by decide) hm
  have HT := Lib.hid (wrotl _ 31 31 (by decide) (by decide) rfl hm)
  have h0 := h.1; have h1 := h.2; have h2 := hy.1; have h3 := hy.2; have h4 := hr.1; have h5 := hr.2
  have he : win x y = IntKind.u64.wrap (wrot 31 (IntKind.u64.wrap (x + IntKind.u64.wrap (y * 14029467366897019727))) * 11400714785074694791) := rfl
  have HE := Lib.hid he
  clear h hy hm hr he
  rw [HE.out]
  obtain ⟨z, hz⟩ : ∃ z, z = wrot 31 (IntKind.u64.wrap (x + IntKind.u64.wrap (y * 14029467366897019727))) := ⟨_, rfl⟩
  rw [← hz] at h4 h5 HT ⊢
  clear hz HE
  go_enter Tryz.func144, Tryz.ntmps144
  go_wp2_with fail
  refine (HT.out _).mono ?_
  rintro e w' ⟨rfl, rfl⟩
  go_wp2_with fail
  go_ret
  exact ⟨rfl, rfl⟩

theorem wdown64 {x : Int} (h : U64 x) : bits BinOp.xor IntKind.u64 x (x / 8589934592) = down 33 x ∧ bits BinOp.xor IntKind.u64 x (x / 536870912) = down 29 x ∧ bits BinOp.xor IntKind.u64 x (x / 4294967296) = down 32 x :=
  ⟨wdown_of 33 h, wdown_of 29 h, wdown_of 32 h⟩

set_option maxHeartbeats 800000 in
set_option maxRecDepth 10000 in
theorem wmix_wide (x : Int) (h : U64 x) (w : World) :
    Calls Tryz.prog 147 #[.int .u64 x] w fun e w' => e = .returned (.int .u64 (wend x)) ∧ w = w' := by
  have hx0 := h.1
  have hx1 := h.2
  have e1 := (wdown64 h).1
  have hd1 := wdown_bound 33 h
  have hend : wend x = down 32 (IntKind.u64.wrap (down 29 (IntKind.u64.wrap (down 33 x * 14029467366897019727)) * 1609587929392839161)) := rfl
  obtain ⟨d1, q1⟩ : ∃ d, d = down 33 x := ⟨_, rfl⟩
  rw [← q1] at e1 hd1 hend
  obtain ⟨m1, t1⟩ : ∃ d, d = IntKind.u64.wrap (d1 * 14029467366897019727) := ⟨_, rfl⟩
  have hm1 := wmod_bound (d1 * 14029467366897019727)
  rw [← t1] at hm1 hend
  have e2 := (wdown64 hm1).2.1
  have hd2 := wdown_bound 29 hm1
  obtain ⟨d2, q2⟩ : ∃ d, d = down 29 m1 := ⟨_, rfl⟩
  rw [← q2] at e2 hd2 hend
  obtain ⟨m2, t2⟩ : ∃ d, d = IntKind.u64.wrap (d2 * 1609587929392839161) := ⟨_, rfl⟩
  have hm2 := wmod_bound (d2 * 1609587929392839161)
  rw [← t2] at hm2 hend
  have e3 := (wdown64 hm2).2.2
  have p0 := hd1.1
  have p1 := hd1.2
  have p2 := hd2.1
  have p3 := hd2.2
  have r0 := hm1.1
  have r1 := hm1.2
  have r2 := hm2.1
  have r3 := hm2.2
  have HE := Lib.hid (hend.trans e3.symm)
  have t1' := t1.symm
  have t2' := t2.symm
  clear q1 q2 hd1 hd2 hend h e3 hm1 hm2 t1 t2
  go_enter Tryz.func147, Tryz.ntmps147
  go_wp2
  go_ret
  exact ⟨by rw [HE.out]; rfl, rfl⟩

/-- 'x | uint64(b) << (8*k)' where x has k bytes: as the walk says it. -/
theorem or_byte64 (X y : Int) (k : Nat) (hk : k < 4) (hX0 : 0 ≤ X) (hX : X < 2 ^ (8 * k)) (h0 : 0 ≤ y) (h1 : y < 256) :
    bits BinOp.or IntKind.u64 X (y * 2 ^ (8 * k)) = X + 2 ^ (8 * k) * y := by
  obtain ⟨x, rfl⟩ := Int.eq_ofNat_of_zero_le hX0
  obtain ⟨b, rfl⟩ := Int.eq_ofNat_of_zero_le h0
  have hp := pow_le_of (show k < 8 by omega)
  have hx : x < 2 ^ (8 * k) := by exact_mod_cast hX
  have hb : b < 256 := by omega
  have hbp : b * 2 ^ (8 * k) < 18446744073709551616 := by
    have : b * 2 ^ (8 * k) < 256 * 2 ^ (8 * k) := Nat.mul_lt_mul_of_pos_right hb (Nat.two_pow_pos _)
    rw [Nat.mul_comm 256] at this
    omega
  have e2 : (b : Int) * 2 ^ (8 * k) = ((b * 2 ^ (8 * k) : Nat) : Int) := by push_cast; rfl
  rw [e2, u64_or_nat _ _ (by omega) hbp, Nat.or_comm, Nat.mul_comm b, ← Nat.two_pow_add_eq_or_of_lt hx]
  push_cast
  omega

set_option maxHeartbeats 2000000 in
set_option maxRecDepth 10000 in
theorem four_wide (p : Option Addr) (N c : Nat) (xs : List Int) (hx : N = xs.length) (h4 : 4 ≤ N) (ho : Octets xs) (w : World) (hb : Bytes8 w p xs) :
    Calls Tryz.prog 146 #[.slice p N c] w fun e w' => e = .returned (.int .u64 (four4 xs 0)) ∧ ∃ n, w' = w.drewN n := by
  obtain ⟨a, rfl, c0, c1, c2, c3⟩ := hb.at4 (by omega)
  have HF := Lib.hid (four_le (xs := xs) (by omega))
  have g0 := ho.getD 0
  have g1 := ho.getD 1
  have g2 := ho.getD 2
  have g3 := ho.getD 3
  clear hb ho hx
  obtain ⟨b0, e0⟩ : ∃ b, b = xs.getD 0 0 := ⟨_, rfl⟩
  obtain ⟨b1, e1⟩ : ∃ b, b = xs.getD 1 0 := ⟨_, rfl⟩
  obtain ⟨b2, e2⟩ : ∃ b, b = xs.getD 2 0 := ⟨_, rfl⟩
  obtain ⟨b3, e3⟩ : ∃ b, b = xs.getD 3 0 := ⟨_, rfl⟩
  rw [← e0] at c0 HF g0
  rw [← e1] at c1 HF g1
  rw [← e2] at c2 HF g2
  rw [← e3] at c3 HF g3
  clear e0 e1 e2 e3
  obtain ⟨g00, g01⟩ := g0
  obtain ⟨g10, g11⟩ := g1
  obtain ⟨g20, g21⟩ := g2
  obtain ⟨g30, g31⟩ := g3
  go_enter Tryz.func146, Tryz.ntmps146
  have n0 : 0 < N := by omega
  have o1 := or_byte64 b0 b1 1 (by decide) g00 g01 g10 g11
  have o2 := or_byte64 (b0 + 256 * b1) b2 2 (by decide) (by omega) (by omega) g20 g21
  have o3 := or_byte64 (b0 + 256 * b1 + 65536 * b2) b3 3 (by decide) (by omega) (by omega) g30 g31
  have hor : bits BinOp.or IntKind.u64 (bits BinOp.or IntKind.u64 (bits BinOp.or IntKind.u64 b0 (b1 * 256)) (b2 * 65536)) (b3 * 16777216) = b0 + 256 * b1 + 65536 * b2 + 16777216 * b3 := by
    rw [show bits BinOp.or IntKind.u64 b0 (b1 * 256) = b0 + 256 * b1 from o1, show bits BinOp.or IntKind.u64 (b0 + 256 * b1) (b2 * 65536) = b0 + 256 * b1 + 65536 * b2 from o2]
    exact o3
  have HO := Lib.hid hor
  clear o1 o2 o3 hor
  have n1 : (1 : Int) < (N : Int) := by omega
  have n2 : (2 : Int) < (N : Int) := by omega
  have n3 : (3 : Int) < (N : Int) := by omega
  go_wp2
  go_quiet (fail)
  go_wp2
  go_ret
  refine ⟨?_, nq, rfl⟩
  rw [HF.out, ← HO.out]
  rfl
end Go.Proofs.YtlejobomjgccnaaGreat

namespace Go.Proofs.YtlejobomjgccnaaGreat
open Go.RowKit

theorem four8_le {xs : List Int} (h8 : 8 ≤ xs.length) : four8 xs 0 = four4 xs 0 + 4294967296 * four4 (xs.drop 4) 0 := by
  match xs, h8 with
  | a :: b :: c :: d :: e :: f :: g :: h :: r, _ => simp [four4, four8, le]; omega

set_option maxHeartbeats 2000000 in
set_option maxRecDepth 10000 in
theorem eight_wide (p : Option Addr) (N c : Nat) (xs : List Int) (hx : N = xs.length) (h8 : 8 ≤ N) (hc : N ≤ c) (ho : Octets xs) (w : World) (hb : Bytes8 w p xs) :
    Calls Tryz.prog 145 #[.slice p N c] w fun e w' => e = .returned (.int .u64 (four8 xs 0)) ∧ ∃ n, w' = w.drewN n := by
  have hb4 := hb.piece (q := p.map (·.add 4)) 4 (N - 4) (by omega) (fun _ => rfl)
  rw [List.take_of_length_le (by rw [List.length_drop]; omega)] at hb4
  obtain ⟨a, rfl, _⟩ := id hb (by omega)
  have HB := Lib.hid hb
  have HB4 : Hid (Bytes8 w (some ⟨a.block, a.off + 4, none⟩) (xs.drop 4)) := Lib.hid hb4
  have HF0 := Lib.hid (fun w hb => four_wide (some a) N c xs hx (by omega) ho w hb)
  have HF1 := Lib.hid (fun w hb => four_wide (some ⟨a.block, a.off + 4, none⟩) (N - 4) (c - 4) (xs.drop 4) (by rw [List.length_drop, hx]) (by omega) (ho.drop 4) w hb)
  have b0 := four4_bound ho 0
  have b1 := four4_bound (ho.drop 4) 0
  have he := four8_le (xs := xs) (by omega)
  obtain ⟨f0, e0⟩ : ∃ f, f = four4 xs 0 := ⟨_, rfl⟩
  obtain ⟨f1, e1⟩ : ∃ f, f = four4 (xs.drop 4) 0 := ⟨_, rfl⟩
  rw [← e0] at HF0 b0 he
  rw [← e1] at HF1 b1 he
  have hor : bits BinOp.or IntKind.u64 f0 (f1 * 4294967296) = f0 + 4294967296 * f1 := by
    obtain ⟨x, rfl⟩ := Int.eq_ofNat_of_zero_le b0.1
    obtain ⟨y, rfl⟩ := Int.eq_ofNat_of_zero_le b1.1
    have hxx : x < 2 ^ 32 := by have := b0.2; omega
    have hyy : y < 4294967296 := by have := b1.2; omega
    have e2 : (y : Int) * 4294967296 = ((4294967296 * y : Nat) : Int) := by omega
    have e3 : 4294967296 * y + x = 4294967296 * y ||| x := Nat.two_pow_add_eq_or_of_lt (i := 32) hxx y
    rw [e2, u64_or_nat _ _ (by omega) (by omega), Nat.or_comm, ← e3]
    omega
  have HE := Lib.hid (he.trans hor.symm)
  have z0 := b0.1
  have z1 := b0.2
  have z2 := b1.1
  have z3 := b1.2
  have hcne : ¬ c = 4 := by omega
  have n4 : (4 : Int) ≤ (N : Int) := by omega
  have c4 : (4 : Int) ≤ (c : Int) := by omega
  clear hb hb4 e0 e1 b0 b1 hor he ho hx
  go_enter Tryz.func145, Tryz.ntmps145
  go_wp2_with fail
  go_quiet (first
    | (go_at_call_of 146 (Value.slice (some a) N c); exact Calls.quiet_of (HF0.out _ (by exact HB.out)))
    | (go_at_call 146; exact Calls.quiet_of (HF1.out _ (by exact HB4.out))))
  go_wp2_with fail
  go_ret
  exact ⟨by rw [HE.out]; rfl, nq, rfl⟩

/-- A State's cells. -/
def scells (s : Int) (v : Nat → Int) (ps : List Int) (z : Int) : Array Value :=
  (Value.int .u64 s :: Value.int .u64 (v 0) :: Value.int .u64 (v 1) :: Value.int .u64 (v 2) :: Value.int .u64 (v 3) :: (ps.map (Value.int .u8) ++ [Value.int .u64 z])).toArray
theorem scells_seed (s : Int) (v : Nat → Int) (ps : List Int) (z : Int) : (scells s v ps z)[0]? = some (.int .u64 s) := rfl
theorem scells_num (s : Int) (v : Nat → Int) (ps : List Int) (z : Int) {j : Nat} (hj : j < 4) : (scells s v ps z)[1 + j]? = some (.int .u64 (v j)) := by
  have : j = 0 ∨ j = 1 ∨ j = 2 ∨ j = 3 := by omega
  rcases this with rfl | rfl | rfl | rfl <;> rfl
theorem scells_size (s : Int) (v : Nat → Int) {ps : List Int} (z : Int) (h : ps.length = 32) : (scells s v ps z)[37]? = some (.int .u64 z) := by
  unfold scells
  rw [List.getElem?_toArray]
  show (ps.map (Value.int .u8) ++ [Value.int .u64 z])[32]? = _
  rw [List.getElem?_append_right (by simp [h])]
  simp [h]
theorem scells_part (s : Int) (v : Nat → Int) {ps : List Int} (z : Int) (i : Nat) (h : i < ps.length) : (scells s v ps z)[5 + i]? = some (.int .u8 (ps.getD i 0)) := by
  unfold scells
  rw [List.getElem?_toArray, Nat.add_comm 5]
  show (ps.map (Value.int .u8) ++ [Value.int .u64 z])[i]? = _
  rw [List.getElem?_append_left (by simpa using h)]
  simp [h]
theorem scells_setNum (s : Int) (v : Nat → Int) (ps : List Int) (z : Int) {j : Nat} (hj : j < 4) (x : Int) : (scells s v ps z).setIfInBounds (1 + j) (.int .u64 x) = scells s (upd v j x) ps z := by
  have : j = 0 ∨ j = 1 ∨ j = 2 ∨ j = 3 := by omega
  rcases this with rfl | rfl | rfl | rfl <;> rfl
theorem scells_setSize (s : Int) (v : Nat → Int) {ps : List Int} (z y : Int) (h : ps.length = 32) : (scells s v ps z).setIfInBounds 37 (.int .u64 y) = scells s v ps y := by
  apply Array.ext'
  unfold scells
  rw [Array.toList_setIfInBounds]
  show (Value.int .u64 s :: Value.int .u64 (v 0) :: Value.int .u64 (v 1) :: Value.int .u64 (v 2) :: Value.int .u64 (v 3) :: ((ps.map (Value.int .u8) ++ [Value.int .u64 z]).set 32 (.int .u64 y))) = _
  rw [List.set_append_right _ _ (by simp [h])]
  simp [h]
theorem scells_copy (s : Int) (v : Nat → Int) {ps cs : List Int} (z : Int) (o : Nat) (h : ps.length = 32) (hf : o + cs.length ≤ 32) :
    ((scells s v ps z).toList.take (5 + o) ++ cs.map (Value.int .u8) ++ (scells s v ps z).toList.drop (5 + o + cs.length)).toArray = scells s v (ps.take o ++ cs ++ ps.drop (o + cs.length)) z := by
  unfold scells
  rw [show 5 + o + cs.length = 5 + (o + cs.length) by omega, Nat.add_comm 5 o, Nat.add_comm 5 (o + cs.length)]
  simp only [List.take_succ_cons, List.drop_succ_cons, List.cons_append]
  rw [List.take_append_of_le_length (by simp; omega), List.drop_append_of_le_length (by simp; omega)]
  simp [List.map_take, List.map_drop]

/-- The State at block g: its cells. -/
def StAt (w : World) (g : Nat) (s : Int) (v : Nat → Int) (ps : List Int) (z : Int) : Prop :=
  ps.length = 32 ∧ Octets ps ∧ Whole w g 199 (scells s v ps z)
/-- The State at block g has these bytes. -/
def Holds (w : World) (g : Nat) (s : Int) (xs : List Int) : Prop :=
  ∃ ps, StAt w g s (wnums (wseed s) xs (xs.length / 32)) ps xs.length ∧ ps.take (xs.length % 32) = wleft xs

theorem StAt.keep {w w' : World} {g : Nat} {s : Int} {v : Nat → Int} {ps : List Int} {z : Int} (h : StAt w g s v ps z) {S : Nat → Prop} (hk : Keeps S w w') (hs : ¬ S g) : StAt w' g s v ps z :=
  ⟨h.1, h.2.1, h.2.2.keep hk hs⟩
theorem Holds.keep {w w' : World} {g : Nat} {s : Int} {xs : List Int} (h : Holds w g s xs) {S : Nat → Prop} (hk : Keeps S w w') (hs : ¬ S g) : Holds w' g s xs := by
  obtain ⟨ps, h1, h2⟩ := h
  exact ⟨ps, h1.keep hk hs, h2⟩

set_option maxHeartbeats 2000000 in
set_option maxRecDepth 10000 in
theorem new_wide (s : Int) (hs : U64 s) (w : World) :
    Calls Tryz.prog 110 #[.int .u64 s] w fun e w' => e = .returned (.pointer (some ⟨w.heap.size, 0, none⟩)) ∧ Holds w' w.heap.size s [] ∧ Keeps NoBlock w w' := by
  have h0 := hs.1
  have h1 := hs.2
  clear hs
  go_enter Tryz.func110, Tryz.ntmps110
  go_wp2_with fail
  go_ret
  refine ⟨rfl, ⟨List.replicate 32 0, ⟨rfl, fun b hb => ?_, ?_⟩, rfl⟩, (Keeps.refl _ _).alloc _⟩
  · have := List.eq_of_mem_replicate hb
    omega
  · exact Whole.new _ _ _

set_option maxHeartbeats 2000000 in
set_option maxRecDepth 10000 in
theorem take_wide (g : Nat) (s : Int) (v : Nat → Int) (ps : List Int) (z : Int) (p : Option Addr) (N c : Nat) (bs : List Int) (w : World) (hst : StAt w g s v ps z) (hv : ∀ j, j < 4 → U64 (v j)) (hx : N = bs.length) (h32 : 32 ≤ N) (hc : N ≤ c) (hc' : c ≤ 9223372036854775807) (ho : Octets bs) (hb : Bytes8 w p bs)
    (hsep : ∀ a, p = some a → ∀ i j, i < N → j < 4 → a.add i ≠ ⟨g, 1 + j, none⟩) :
    Calls Tryz.prog 141 #[.pointer (some ⟨g, 0, none⟩), .slice p N c] w fun e w' => e = .returned (.tuple #[]) ∧ StAt w' g s (wtaken v bs 4) ps z ∧ Keeps (Just g) w w' := by
  obtain ⟨hl, hpo, hwh⟩ := hst
  obtain ⟨a, rfl, hcell⟩ := hb (by omega)
  have HW0 := Lib.hid hwh
  have HC := Lib.hid hcell
  have HV := Lib.hid hv
  have HX := Lib.hid hx
  have HO := Lib.hid ho
  have HSep := Lib.hid (fun i j hi hj => hsep a rfl i j hi hj)
  have HL := Lib.hid hl
  have HP := Lib.hid hpo
  clear hl hpo hwh hcell hv hx ho hsep hb
  go_enter Tryz.func141, Tryz.ntmps141
  go_wp2_with fail
  go_loopw [5] (fun i wr => ∃ k : Nat, k ≤ 4 ∧ i = .int .i64 (k : Int) ∧ Whole wr g 199 (scells s (wtaken v bs k) ps z) ∧ (∀ i, i < bs.length → wr.cell? (a.add i) = some (.int .u8 (bs.getD i 0))) ∧ Keeps (Just g) w wr) (fun i _ => 4 - (intOf i).toNat)
  case atStart => exact ⟨0, by omega, rfl, by rw [wtaken_zero]; exact HW0.out, HC.out, Keeps.refl _ _⟩
  case round =>
    obtain ⟨k, hk4, rfl, hwk, hck, hkk⟩ := hrel
    have HWk := Lib.hid hwk
    have HCk := Lib.hid hck
    have HKk := Lib.hid hkk
    clear hkk hck
    by_cases hlt4 : k < 4
    · have c0 := hwk.cell (1 + k) (scells_num s (wtaken v bs k) ps z hlt4)
      have f0 := hwk.free (1 + k)
      have hub := wtaken_bound HV.out bs k k hlt4
      have hu0 := hub.1
      have hu1 := hub.2
      have HI := Lib.hid (fun w => winto_wide (wtaken v bs k k) (four8 bs k) hub (four8_bound HO.out k) w)
      clear hwk hub
      have ha1 : (0 : Int) ≤ (k : Int) := by omega
      have ha2 : (k : Int) < 4 := by omega
      have ha3 : (8 : Int) * (k : Int) ≤ (N : Int) := by omega
      have ha4 : (0 : Int) ≤ 8 * (k : Int) := by omega
      have ha5 : (8 : Int) * (k : Int) ≤ (c : Int) := by omega
      have hw1 : IntKind.i64.wrap (8 * (k : Int)) = 8 * (k : Int) := by rw [IntKind.wrap_i64]; omega
      have hdne : ¬ c = 8 * k := by omega
      have htn : (8 * (k : Int)).toNat = 8 * k := by omega
      have HF := Lib.hid (fun w' (hb : Bytes8 w' (some (a.add (8 * k))) (bs.drop (8 * k))) => eight_wide (some (a.add (8 * k))) (N - 8 * k) (c - 8 * k) (bs.drop (8 * k)) (by rw [List.length_drop, HX.out]) (by omega) (by omega) (HO.out.drop _) w' hb)
      have hbk : Bytes8 wr (some (a.add (8 * k))) (bs.drop (8 * k)) := by
        have h1 : Bytes8 wr (some a) bs := fun _ => ⟨a, rfl, HCk.out⟩
        have h2 := h1.piece (q := some (a.add (8 * k))) (8 * k) (N - 8 * k) (by have := HX.out; omega) (fun _ => rfl)
        rw [List.take_of_length_le (by rw [List.length_drop]; have := HX.out; omega)] at h2
        exact h2
      have HBk := Lib.hid hbk
      rw [show four8 (bs.drop (8 * k)) 0 = four8 bs k by simp [four8]] at HF
      obtain ⟨y, hyd⟩ : ∃ y, y = four8 bs k := ⟨_, rfl⟩
      have hfb := four8_bound HO.out k
      have hsx := wtaken_succ v bs k
      rw [← hyd] at HF hfb HI hsx
      obtain ⟨u, hu⟩ : ∃ u, u = win (wtaken v bs k k) y := ⟨_, rfl⟩
      rw [← hu] at HI hsx
      have HSX := Lib.hid hsx
      have hy0 := hfb.1
      have hy1 := hfb.2
      clear hbk hfb hyd hu hsx
      go_wp2_with fail
      go_region_with (first | (go_at_call 145; refine (HF.out _ (by exact HBk.out)).mono ?_; rintro e w5 ⟨rfl, n5, rfl⟩) | (go_at_call 144; refine (HI.out _).mono ?_; rintro e w5 ⟨rfl, rfl⟩) | fail)
      all_goals
        go_wp2_with fail
        go_roundw
        case rel =>
          refine ⟨k + 1, by omega, rfl, ?_, ?_, ?_⟩
          · rw [← HSX.out, ← scells_setNum _ _ _ _ hlt4]
            exact HWk.out.set (1 + k) _
          · intro i hi
            rw [World.cell?_setCell_other _ _ _ _ (fun e => HSep.out i k (by have := HX.out; omega) hlt4 e.symm)]
            exact HCk.out i hi
          · exact (HKk.out.drewN _).setIn (Just.self _) _ _
        case measure => simp [intOf]; omega
    · obtain rfl : k = 4 := by omega
      have HS := Lib.hid (show StAt wr g s (wtaken v bs 4) ps z from ⟨HL.out, HP.out, HWk.out⟩)
      clear hwk
      go_wp2_with fail
      go_returns
      exact ⟨rfl, HS.out, HKk.out⟩
end Go.Proofs.YtlejobomjgccnaaGreat

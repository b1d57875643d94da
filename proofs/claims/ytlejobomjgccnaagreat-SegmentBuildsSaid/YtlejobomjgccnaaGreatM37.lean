/-
  SgBuWalk.
-/
import Derived.Deep.LoopGhost
import Derived.Deep.Cut
import Derived.Deep.CutRange
import Derived.Deep.DeepCutAuto
import Derived.Deep.RegionHeld3
import Derived.Test.YtlejobomjgccnaaGreatM36
namespace Go.Proofs.YtlejobomjgccnaaGreat
open Go.RowKit

theorem ownr_bytes {w0 wr : World} {F : Nat → Prop} {q : Option Addr} {m d : Nat} {ys : List Int} (h : OwnG w0 F (.slice q m d) m (ys.map (Value.int .u8)) wr) (hm : m = ys.length) : Bytes8 wr q ys := by
  intro hx
  obtain ⟨g, d', cur, hv, _, _, _, hw, hc⟩ := h.1.whole hm (by omega)
  simp only [Value.slice.injEq] at hv
  obtain ⟨rfl, _, rfl⟩ := hv
  exact (hw.bytes ys (fun i hi => hc i (by omega))) hx
theorem recB_len {r : Rec} (hf : r.Fine) (h1 : r.key.length ≤ 100000) (h2 : r.val.length ≤ 100000) : 1 ≤ (recB r).length ∧ (recB r).length ≤ 1000000 := by
  refine ⟨recB_pos r, ?_⟩
  have a1 := (seal_length (bodyR r)).2
  have a2 := sizeN_bound (bodyR r).length
  have a3 := bodyR_length hf (by omega) (by omega)
  show (sealN (bodyR r)).length ≤ _
  omega

set_option maxHeartbeats 32000000 in
set_option maxRecDepth 10000 in
theorem segbuilds_may {At : BAt} (HB : SgBuild At) (HNw : SgNewOk At) (HAd : SgAddOk At) (HRm : SgRoomOk At) (HFr : SgFramesOk At) (HOp : SgOpenOk At) (HSe : SgSealOk At) (k num : Nat) (p : Option Addr) (n c : Nat) (l : List Rec) (w : World) (hk : k < 256) (hnum : num < 4294967296) (hn : n = l.length) (hc : n ≤ c) (hc' : c ≤ 9223372036854775807) (hf : ∀ r ∈ l, r.Fine) (hb : ∀ r ∈ l, r.key.length ≤ 9223372036854775807 ∧ r.val.length ≤ 9223372036854775807) (hl : RecsAt w p l) (hlt : fewR l 60 5000 = true) (hm : mayHead (smallE k) (smallS k) num = true) :
    Calls Tryz.prog 3 #[.int .u8 (k : Int), .int .u32 (num : Int), .slice p n c] w fun e w' => e = .returned (.bool true) ∧ Keeps NoBlock w w' := by
  have HL := Lib.hid (fun w => lives15_true HB HNw HOp w)
  have HFw := Lib.hid (fun (w : World) hl => few_any p n c l 60 5000 60 5000 rfl rfl hn (by omega) hb w hl)
  have HR := Lib.hid hl
  rw [hlt] at HFw
  obtain ⟨he1, he2, hs1, hs2⟩ := small_room k
  have HSm := Lib.hid (fun w => small15_go k hk w)
  obtain ⟨e, hed⟩ : ∃ e, e = smallE k := ⟨_, rfl⟩
  obtain ⟨s, hsd⟩ : ∃ s, s = smallS k := ⟨_, rfl⟩
  rw [← hed] at HSm he1 he2 hm
  rw [← hsd] at HSm hs1 hs2 hm
  clear hed hsd hb
  have hn60 : n ≤ 60 := by
    unfold fewR at hlt
    rw [Bool.and_eq_true, decide_eq_true_eq] at hlt
    omega
  have hl60 : l.length ≤ 60 := by omega
  have HOk := Lib.hid (fun j (h : j ≤ l.length) => accS_ok hm hf j h (by omega))
  have hlit : ∀ r ∈ l, r.key.length ≤ 5000 ∧ r.val.length ≤ 5000 := fun r hr => by
    unfold fewR at hlt
    rw [Bool.and_eq_true, decide_eq_true_eq] at hlt
    have := List.all_eq_true.1 hlt.1 r hr
    unfold littleR at this
    rw [Bool.and_eq_true, decide_eq_true_eq, decide_eq_true_eq] at this
    exact this
  have HLit := Lib.hid (fun j (hj : j < l.length) => show (l.getD j Rec.none).Fine ∧ (l.getD j Rec.none).key.length ≤ 100000 ∧ (l.getD j Rec.none).val.length ≤ 100000 by
    have hm : l.getD j Rec.none ∈ l := by
      rw [List.getD_eq_getElem?_getD, List.getElem?_eq_getElem hj]
      exact List.getElem_mem _
    have := hlit _ hm
    exact ⟨hf _ hm, by omega, by omega⟩)
  have HRmO := HRm
  have hns : num < s := by
    unfold mayHead at hm
    rw [Bool.and_eq_true, decide_eq_true_eq] at hm
    exact hm.2
  have HN := Lib.hid (fun w => HNw.may e s num w (by omega) (by omega) hnum hm)
  have HMy := Lib.hid (fun w => may9_ref e s num (by omega) w)
  rw [hm] at HMy
  obtain ⟨s1, hs1d⟩ : ∃ s1 : Nat, s1 = s - 1 := ⟨_, rfl⟩
  have hsub : (s : Int) - 1 = (s1 : Int) := by omega
  have hmod1 : (s1 : Int) % 18446744073709551616 = (s1 : Int) := by omega
  have hmods : (s : Int) % 18446744073709551616 = (s : Int) := by omega
  have hnu : (num : Int) % 18446744073709551616 = (num : Int) := by omega
  have HE1 := Lib.hid (fun w => empty14_ref e s num (by omega) (by omega) (by omega) w)
  have HE2 := Lib.hid (fun w => empty14_ref e s s1 (by omega) (by omega) (by omega) w)
  have hr1 : room14V (emptyP e s num) = .agg #[.int .u8 (e : Int), .int .u32 (s : Int), .int .u64 (num : Int), .int .i64 ((headLen e s num : Nat) : Int), .int .i64 0] := rfl
  have hr2 : room14V (emptyP e s s1) = .agg #[.int .u8 (e : Int), .int .u32 (s : Int), .int .u64 (s1 : Int), .int .i64 ((headLen e s s1 : Nat) : Int), .int .i64 0] := rfl
  rw [hr1] at HE1
  rw [hr2] at HE2
  obtain ⟨H1, hH1⟩ : ∃ H1, H1 = headLen e s num := ⟨_, rfl⟩
  obtain ⟨H2, hH2⟩ : ∃ H2, H2 = headLen e s s1 := ⟨_, rfl⟩
  rw [← hH1] at HE1
  rw [← hH2] at HE2
  have HH := Lib.hid (And.intro hH1 hH2)
  have HS1 := Lib.hid hs1d
  have HAr := Lib.hid (And.intro hsub (And.intro hmod1 (And.intro hmods hnu)))
  have HRl := Lib.hid (show (emptyP e s s1).Real from real_empty (mayHead_true.2 (by have := mayHead_true.1 hm; omega)))
  have HBd := Lib.hid (And.intro hns (And.intro hs2 (And.intro hs1 (And.intro he1 he2))))
  unfold confV at HSm HN HMy HE1 HE2
  have HMh := Lib.hid hm
  have HLn := Lib.hid hn
  have HFrH := Lib.hid HFr
  have HOpH := Lib.hid HOp
  have HSeH := Lib.hid HSe
  clear hsub hmod1 hmods hnu hns hs1 hs2 he1 he2 hk hnum hm hf hn hlit HOp HSe HFr HRm
  clear hl HNw hr1 hr2 hH1 hH2 hs1d hlt
  obtain ⟨i0, hi, hi0, hi1, hi2⟩ := info_parts infoRc
  go_enter Tryz.func3, Tryz.ntmps3
  go_wp2_with fail
  refine (HL.out _).mono ?_
  rintro e1 w1 ⟨rfl, hk1⟩
  have HK := Lib.hid hk1
  have HR := Lib.hid (HR.out.keep hk1 (fun _ _ h => h))
  clear hk1
  go_wp2_with fail
  refine (HFw.out _ HR.out).mono ?_
  rintro e2 w2 ⟨rfl, hk1⟩
  have HK := Lib.hid (HK.out.trans hk1)
  have HR := Lib.hid (HR.out.keep hk1 (fun _ _ h => h))
  clear hk1
  go_wp2_with fail
  refine (HSm.out _).mono ?_
  rintro e3 w3 ⟨rfl, hk1⟩
  have HK := Lib.hid (HK.out.trans hk1)
  have HR := Lib.hid (HR.out.keep hk1 (fun _ _ h => h))
  clear hk1
  go_wp2_with fail
  obtain ⟨wC, hwC⟩ : ∃ wC, wC = w3.alloc (.cells #[.int .u8 (e : Int), .int .u32 (s : Int)] 27) := ⟨_, rfl⟩
  have HK := Lib.hid (HK.out.alloc (.cells #[.int .u8 (e : Int), .int .u32 (s : Int)] 27))
  have HR := Lib.hid (HR.out.keep ((Keeps.refl NoBlock w3).alloc (.cells #[.int .u8 (e : Int), .int .u32 (s : Int)] 27)) (fun _ _ h => h))
  have HC : Hid (Whole wC w3.heap.size 27 (confCells e s)) := Lib.hid (by rw [hwC]; exact Whole.new w3 _ _)
  rw [← hwC] at HK HR ⊢
  clear hwC
  refine (HN.out _).mono ?_
  rintro e4 w4 ⟨hk4, F, v, rfl, hat, hF⟩
  obtain ⟨g, rfl⟩ := HB.ptr hat
  have HSt := Lib.hid (show BSt At wC w4 F (.pointer (some ⟨g, 0, none⟩)) e s num [] from ⟨hat, hF, hk4⟩)
  clear hk4 hat hF HN
  have HC4 := Lib.hid (HC.out.keep HSt.out.kept (fun h => h))
  have g0 := HC4.out.cell 0 rfl
  have g1 := HC4.out.cell 1 rfl
  simp only [confCells, List.getElem_toArray, List.getElem_cons_zero, List.getElem_cons_succ] at g0 g1
  have hnu := HAr.out.2.2.2
  go_wp2_with fail
  refine (HMy.out _).mono ?_
  rintro e5 w5 ⟨rfl, hk5⟩
  have HSt5 := Lib.hid (HSt.out.keep HB hk5)
  have HC5 := Lib.hid (HC4.out.keep hk5 (fun h => h))
  have HW5 : Hid (wC.heap.size ≤ w5.heap.size) := Lib.hid HSt5.out.kept.size
  clear hk5 HSt HC4 g0 g1
  go_upto_region 9 with (fail)
  have s0 : w5.drew.cell? ⟨w3.heap.size, 0, none⟩ = some (.int .u8 (e : Int)) ∧ w5.drew.cell? ⟨w3.heap.size, 1, none⟩ = some (.int .u32 (s : Int)) := ⟨HC5.out.cell 0 rfl, HC5.out.cell 1 rfl⟩
  have sN : w5.cell? ⟨w3.heap.size, 0, none⟩ = some (.int .u8 (e : Int)) ∧ w5.cell? ⟨w3.heap.size, 1, none⟩ = some (.int .u32 (s : Int)) := ⟨HC5.out.cell 0 rfl, HC5.out.cell 1 rfl⟩
  have HCy := HC5
  go_cut [10, 11] (fun a b wx => ∃ ga gb : Nat, a = .pointer (some ⟨ga, 0, none⟩) ∧ b = .pointer (some ⟨gb, 0, none⟩) ∧ Hid (Keeps NoBlock w5 wx) ∧ Hid (Whole wx ga 36 (room14Cells (emptyP e s num))) ∧ Hid (Whole wx gb 36 (room14Cells (emptyP e s s1))) ∧ Hid (ga ≠ gb ∧ w5.heap.size ≤ ga ∧ w5.heap.size ≤ gb))
  case first =>
    -- REGION
    have hwn : IntKind.u64.wrap (num : Int) = (num : Int) := by rw [IntKind.wrap_u64]; exact HAr.out.2.2.2
    have hws : IntKind.u64.wrap (s : Int) = (s : Int) := by rw [IntKind.wrap_u64]; exact HAr.out.2.2.1
    have hws1 : IntKind.u64.wrap (s1 : Int) = (s1 : Int) := by rw [IntKind.wrap_u64]; exact HAr.out.2.1
    have hss := HAr.out.1
    go_wp2_with fail
    refine wp_region_held_drew (S := fun w' : World => w'.cell? ⟨w3.heap.size, 0, none⟩ = some (.int .u8 (e : Int)) ∧ w'.cell? ⟨w3.heap.size, 1, none⟩ = some (.int .u32 (s : Int))) (by kernel_rfl) s0 (fun hS => ?_)
    obtain ⟨wx0, hwx⟩ : ∃ W, W = w5.drew := ⟨_, rfl⟩
    have HKr : Hid (Keeps NoBlock w5 wx0) := Lib.hid (by rw [hwx]; exact (Keeps.refl _ _).drew)
    have HCr : Hid (Whole wx0 w3.heap.size 27 (confCells e s)) := Lib.hid (by rw [hwx]; exact HC5.out)
    rw [← hwx] at hS ⊢
    clear hwx s0 sN
    refine wpAnyH_take (i := 0) (v := ?vT1) rfl ?aT1 ?bT1 ?cT1 ?dT1 (Or.inl ⟨?eT1, ?fT1⟩) hS ?gT1
    case fT1 => intro w hSw; (try dsimp only at hSw); go_simp; (try with_reducible rfl)
    case aT1 => kernel_rfl
    case bT1 => kernel_rfl
    case cT1 => kernel_rfl
    case dT1 => exact fun _ _ _ h => h
    case eT1 => rfl
    simp only [Act.put, List.getElem_toArray, List.getElem_cons_zero, List.setIfInBounds_toArray, List.set_cons_zero, List.set_cons_succ]
    refine wpAnyH_take (i := 1) (v := ?vT2) rfl ?aT2 ?bT2 ?cT2 ?dT2 (Or.inl ⟨?eT2, ?fT2⟩) hS ?gT2
    case fT2 => intro w hSw; (try dsimp only at hSw); go_simp; (try with_reducible rfl)
    case aT2 => kernel_rfl
    case bT2 => kernel_rfl
    case cT2 => kernel_rfl
    case dT2 => exact fun _ _ _ h => h
    case eT2 => rfl
    simp only [Act.put, List.getElem_toArray, List.getElem_cons_zero, List.getElem_cons_succ, List.setIfInBounds_toArray, List.set_cons_zero, List.set_cons_succ]
    refine wpAnyH_take (i := 2) (v := ?vT3) rfl ?aT3 ?bT3 ?cT3 ?dT3 (Or.inl ⟨?eT3, ?fT3⟩) hS ?gT3
    case fT3 => intro w hSw; (try dsimp only at hSw); go_simp; (try with_reducible rfl)
    case aT3 => kernel_rfl
    case bT3 => kernel_rfl
    case cT3 => kernel_rfl
    case dT3 => exact fun _ _ _ h => h
    case eT3 => rfl
    simp only [Act.put, List.getElem_toArray, List.getElem_cons_zero, List.getElem_cons_succ, List.setIfInBounds_toArray, List.set_cons_zero, List.set_cons_succ]
    refine wpAnyH_take (i := 4) (v := ?vT4) rfl ?aT4 ?bT4 ?cT4 ?dT4 (Or.inl ⟨?eT4, ?fT4⟩) hS ?gT4
    case fT4 => intro w hSw; (try dsimp only at hSw); go_simp; (try with_reducible rfl)
    case aT4 => kernel_rfl
    case bT4 => kernel_rfl
    case cT4 => kernel_rfl
    case dT4 => exact fun _ _ _ h => h
    case eT4 => rfl
    simp only [Act.put, List.getElem_toArray, List.getElem_cons_zero, List.getElem_cons_succ, List.setIfInBounds_toArray, List.set_cons_zero, List.set_cons_succ]
    refine wpAnyH_take (i := 5) (v := ?vT5) rfl ?aT5 ?bT5 ?cT5 ?dT5 (Or.inl ⟨?eT5, ?fT5⟩) hS ?gT5
    case fT5 => intro w hSw; (try dsimp only at hSw); go_simp; (try with_reducible rfl)
    case aT5 => kernel_rfl
    case bT5 => kernel_rfl
    case cT5 => kernel_rfl
    case dT5 => exact fun _ _ _ h => h
    case eT5 => rfl
    simp only [Act.put, List.getElem_toArray, List.getElem_cons_zero, List.getElem_cons_succ, List.setIfInBounds_toArray, List.set_cons_zero, List.set_cons_succ]
    refine wpAnyH_take (i := 6) (v := ?vT6) rfl ?aT6 ?bT6 ?cT6 ?dT6 (Or.inl ⟨?eT6, ?fT6⟩) hS ?gT6
    case fT6 => intro w hSw; (try dsimp only at hSw); go_simp; (try with_reducible rfl)
    case aT6 => kernel_rfl
    case bT6 => kernel_rfl
    case cT6 => kernel_rfl
    case dT6 => exact fun _ _ _ h => h
    case eT6 => rfl
    simp only [Act.put, List.getElem_toArray, List.getElem_cons_zero, List.getElem_cons_succ, List.setIfInBounds_toArray, List.set_cons_zero, List.set_cons_succ]
    refine wpAnyH_take (i := 7) (v := ?vT7) rfl ?aT7 ?bT7 ?cT7 ?dT7 (Or.inl ⟨?eT7, ?fT7⟩) hS ?gT7
    case fT7 => intro w hSw; (try dsimp only at hSw); go_simp; (try with_reducible rfl)
    case aT7 => kernel_rfl
    case bT7 => kernel_rfl
    case cT7 => kernel_rfl
    case dT7 => exact fun _ _ _ h => h
    case eT7 => rfl
    simp only [Act.put, List.getElem_toArray, List.getElem_cons_zero, List.getElem_cons_succ, List.setIfInBounds_toArray, List.set_cons_zero, List.set_cons_succ]
    refine wpAnyH_take (i := 8) (v := ?vT8) rfl ?aT8 ?bT8 ?cT8 ?dT8 (Or.inl ⟨?eT8, ?fT8⟩) hS ?gT8
    case fT8 => intro w hSw; (try dsimp only at hSw); go_simp; (try with_reducible rfl)
    case aT8 => kernel_rfl
    case bT8 => kernel_rfl
    case cT8 => kernel_rfl
    case dT8 => exact fun _ _ _ h => h
    case eT8 => rfl
    simp only [Act.put, List.getElem_toArray, List.getElem_cons_zero, List.getElem_cons_succ, List.setIfInBounds_toArray, List.set_cons_zero, List.set_cons_succ]
    refine wpAnyH_ready (rs := [3, 10, 11]) (by kernel_rfl) (by simp) ?_
    refine (AllReadyH.cons (o := _) rfl (fun K hK => ?_) (AllReadyH.cons (o := _) rfl (fun K hK => ?_) (AllReadyH.cons (o := _) rfl (fun K hK => ?_) AllReadyH.nil)))
    · go_simp
      refine (HE1.out _).mono ?_
      rintro e9 wx1 ⟨rfl, hk⟩
      have hk' : Keeps NoBlock wx0 wx1 := by first | exact hk | exact hk.ofDrew | exact hk.ofDrewN
      have HKr := Lib.hid (HKr.out.trans hk')
      have HCr := Lib.hid (HCr.out.keep hk' (fun h => h))
      have hS : (fun w' : World => w'.cell? ⟨w3.heap.size, 0, none⟩ = some (.int .u8 (e : Int)) ∧ w'.cell? ⟨w3.heap.size, 1, none⟩ = some (.int .u32 (s : Int))) wx1 := And.intro (HCr.out.cell 0 rfl) (HCr.out.cell 1 rfl)
      clear hk hk'
      go_wp2_with fail
      refine hK.out _ _ hS (fun _ => ?_)
      clear hK K
      refine wpAnyH_ready (rs := [9, 10, 11]) (by kernel_rfl) (by simp) ?_
      refine (AllReadyH.cons (o := _) rfl (fun K hK => ?_) (AllReadyH.cons (o := _) rfl (fun K hK => ?_) (AllReadyH.cons (o := _) rfl (fun K hK => ?_) AllReadyH.nil)))
      · go_simp
        refine (HE2.out _).mono ?_
        rintro e9 wx2 ⟨rfl, hk⟩
        have hk' : Keeps NoBlock wx1 wx2 := by first | exact hk | exact hk.ofDrew | exact hk.ofDrewN
        have HKr := Lib.hid (HKr.out.trans hk')
        have HCr := Lib.hid (HCr.out.keep hk' (fun h => h))
        have hS : (fun w' : World => w'.cell? ⟨w3.heap.size, 0, none⟩ = some (.int .u8 (e : Int)) ∧ w'.cell? ⟨w3.heap.size, 1, none⟩ = some (.int .u32 (s : Int))) wx2 := And.intro (HCr.out.cell 0 rfl) (HCr.out.cell 1 rfl)
        clear hk hk'
        go_wp2_with fail
        refine hK.out _ _ hS (fun _ => ?_)
        clear hK K
        refine wpAnyH_ready (rs := [10, 11]) (by kernel_rfl) (by simp) ?_
        refine (AllReadyH.cons (o := _) rfl (fun K hK => ?_) (AllReadyH.cons (o := _) rfl (fun K hK => ?_) AllReadyH.nil))
        · obtain ⟨ga, hga⟩ : ∃ g, g = wx2.heap.size := ⟨_, rfl⟩
          obtain ⟨wx3, hwx⟩ : ∃ W, W = wx2.alloc (.cells #[.int .u8 0, .int .u32 0, .int .u64 0, .int .i64 0, .int .i64 0] 36) := ⟨_, rfl⟩
          have HGna := Lib.hid (show w5.heap.size ≤ ga from by rw [hga]; exact HKr.out.size)
          have HKr : Hid (Keeps NoBlock w5 wx3) := Lib.hid (by rw [hwx]; exact HKr.out.alloc _)
          have HCr : Hid (Whole wx3 w3.heap.size 27 (confCells e s)) := Lib.hid (by rw [hwx]; exact HCr.out.alloc _)
          have HRa : Hid (Whole wx3 ga 36 (room14Cells Rm.none)) := Lib.hid (by rw [hwx, hga]; exact Whole.new _ _ _)
          have hS : (fun w' : World => w'.cell? ⟨w3.heap.size, 0, none⟩ = some (.int .u8 (e : Int)) ∧ w'.cell? ⟨w3.heap.size, 1, none⟩ = some (.int .u32 (s : Int))) wx3 := And.intro (HCr.out.cell 0 rfl) (HCr.out.cell 1 rfl)
          go_simp
          rw [← hwx, ← hga]
          refine hK.out _ _ hS (fun _ => ?_)
          clear hK K hwx hga
          refine wpAnyH_ready (rs := [11]) (by kernel_rfl) (by simp) ?_
          refine (AllReadyH.cons (o := _) rfl (fun K hK => ?_) AllReadyH.nil)
          obtain ⟨gb, hgb⟩ : ∃ g, g = wx3.heap.size := ⟨_, rfl⟩
          obtain ⟨wx4, hwx⟩ : ∃ W, W = wx3.alloc (.cells #[.int .u8 0, .int .u32 0, .int .u64 0, .int .i64 0, .int .i64 0] 36) := ⟨_, rfl⟩
          have HGnb := Lib.hid (show w5.heap.size ≤ gb from by rw [hgb]; exact HKr.out.size)
          have HKr : Hid (Keeps NoBlock w5 wx4) := Lib.hid (by rw [hwx]; exact HKr.out.alloc _)
          have HCr : Hid (Whole wx4 w3.heap.size 27 (confCells e s)) := Lib.hid (by rw [hwx]; exact HCr.out.alloc _)
          have HNe := Lib.hid (show ga ≠ gb from fun h => by have := HRa.out.lt; omega)
          have HRa : Hid (Whole wx4 ga 36 (room14Cells Rm.none)) := Lib.hid (by rw [hwx]; exact HRa.out.alloc _)
          have HRb : Hid (Whole wx4 gb 36 (room14Cells Rm.none)) := Lib.hid (by rw [hwx, hgb]; exact Whole.new _ _ _)
          have hS : (fun w' : World => w'.cell? ⟨w3.heap.size, 0, none⟩ = some (.int .u8 (e : Int)) ∧ w'.cell? ⟨w3.heap.size, 1, none⟩ = some (.int .u32 (s : Int))) wx4 := And.intro (HCr.out.cell 0 rfl) (HCr.out.cell 1 rfl)
          go_simp
          rw [← hwx, ← hgb]
          refine hK.out _ _ hS (fun _ => ?_)
          clear hK K hwx hgb
          refine wpAnyH_ready (rs := [12]) (by kernel_rfl) (by simp) ?_
          refine (AllReadyH.cons (o := _) rfl (fun K hK => ?_) AllReadyH.nil)
          obtain ⟨z0, z1, z2, z3, z4⟩ := room14_at HRa.out
          obtain ⟨q0, q1, q2, q3, q4⟩ := room_free HRa.out
          obtain ⟨wx5, hwx⟩ : ∃ W, W = ((((wx4.setCell ⟨ga, 0, none⟩ (.int .u8 (e : Int))).setCell ⟨ga, 1, none⟩ (.int .u32 (s : Int))).setCell ⟨ga, 2, none⟩ (.int .u64 (num : Int))).setCell ⟨ga, 3, none⟩ (.int .i64 (H1 : Int))).setCell ⟨ga, 4, none⟩ (.int .i64 0) := ⟨_, rfl⟩
          have HKr : Hid (Keeps NoBlock w5 wx5) := Lib.hid (by rw [hwx]; exact HKr.out.new5 HGna.out _ _ _ _ _)
          have HCr : Hid (Whole wx5 w3.heap.size 27 (confCells e s)) := Lib.hid (by rw [hwx]; exact HCr.out.far5 (fun h => by have := HGna.out; have := HC5.out.lt; omega) _ _ _ _ _)
          have HRb : Hid (Whole wx5 gb 36 (room14Cells Rm.none)) := Lib.hid (by rw [hwx]; exact HRb.out.far5 (fun h => HNe.out (by omega)) _ _ _ _ _)
          have HRa : Hid (Whole wx5 ga 36 (room14Cells (emptyP e s num))) := Lib.hid (by rw [hwx]; unfold emptyP room14Cells; rw [← HH.out.1]; exact HRa.out.set5 _ _ _ _ _)
          have hS : (fun w' : World => w'.cell? ⟨w3.heap.size, 0, none⟩ = some (.int .u8 (e : Int)) ∧ w'.cell? ⟨w3.heap.size, 1, none⟩ = some (.int .u32 (s : Int))) wx5 := And.intro (HCr.out.cell 0 rfl) (HCr.out.cell 1 rfl)
          go_simp
          rw [← hwx]
          refine hK.out _ _ hS (fun _ => ?_)
          clear hK K hwx z0 z1 z2 z3 z4 q0 q1 q2 q3 q4
          refine wpAnyH_ready (rs := [13]) (by kernel_rfl) (by simp) ?_
          refine (AllReadyH.cons (o := _) rfl (fun K hK => ?_) AllReadyH.nil)
          obtain ⟨z0, z1, z2, z3, z4⟩ := room14_at HRb.out
          obtain ⟨q0, q1, q2, q3, q4⟩ := room_free HRb.out
          obtain ⟨wx6, hwx⟩ : ∃ W, W = ((((wx5.setCell ⟨gb, 0, none⟩ (.int .u8 (e : Int))).setCell ⟨gb, 1, none⟩ (.int .u32 (s : Int))).setCell ⟨gb, 2, none⟩ (.int .u64 (s1 : Int))).setCell ⟨gb, 3, none⟩ (.int .i64 (H2 : Int))).setCell ⟨gb, 4, none⟩ (.int .i64 0) := ⟨_, rfl⟩
          have HKr : Hid (Keeps NoBlock w5 wx6) := Lib.hid (by rw [hwx]; exact HKr.out.new5 HGnb.out _ _ _ _ _)
          have HCr : Hid (Whole wx6 w3.heap.size 27 (confCells e s)) := Lib.hid (by rw [hwx]; exact HCr.out.far5 (fun h => by have := HGnb.out; have := HC5.out.lt; omega) _ _ _ _ _)
          have HRa : Hid (Whole wx6 ga 36 (room14Cells (emptyP e s num))) := Lib.hid (by rw [hwx]; exact HRa.out.far5 (fun h => HNe.out (by omega)) _ _ _ _ _)
          have HRb : Hid (Whole wx6 gb 36 (room14Cells (emptyP e s s1))) := Lib.hid (by rw [hwx]; unfold emptyP room14Cells; rw [← HH.out.2]; exact HRb.out.set5 _ _ _ _ _)
          have hS : (fun w' : World => w'.cell? ⟨w3.heap.size, 0, none⟩ = some (.int .u8 (e : Int)) ∧ w'.cell? ⟨w3.heap.size, 1, none⟩ = some (.int .u32 (s : Int))) wx6 := And.intro (HCr.out.cell 0 rfl) (HCr.out.cell 1 rfl)
          go_simp
          rw [← hwx]
          refine hK.out _ _ hS (fun _ => ?_)
          clear hK K hwx z0 z1 z2 z3 z4 q0 q1 q2 q3 q4
          refine wpAnyH_done (by kernel_rfl) ?_ _
          go_wp2_with fail
          go_meet
          case rel => exact ⟨ga, gb, rfl, rfl, HKr, HRa, HRb, Lib.hid ⟨HNe.out, HGna.out, HGnb.out⟩⟩
        · obtain ⟨gb, hgb⟩ : ∃ g, g = wx2.heap.size := ⟨_, rfl⟩
          obtain ⟨wx3, hwx⟩ : ∃ W, W = wx2.alloc (.cells #[.int .u8 0, .int .u32 0, .int .u64 0, .int .i64 0, .int .i64 0] 36) := ⟨_, rfl⟩
          have HGnb := Lib.hid (show w5.heap.size ≤ gb from by rw [hgb]; exact HKr.out.size)
          have HKr : Hid (Keeps NoBlock w5 wx3) := Lib.hid (by rw [hwx]; exact HKr.out.alloc _)
          have HCr : Hid (Whole wx3 w3.heap.size 27 (confCells e s)) := Lib.hid (by rw [hwx]; exact HCr.out.alloc _)
          have HRb : Hid (Whole wx3 gb 36 (room14Cells Rm.none)) := Lib.hid (by rw [hwx, hgb]; exact Whole.new _ _ _)
          have hS : (fun w' : World => w'.cell? ⟨w3.heap.size, 0, none⟩ = some (.int .u8 (e : Int)) ∧ w'.cell? ⟨w3.heap.size, 1, none⟩ = some (.int .u32 (s : Int))) wx3 := And.intro (HCr.out.cell 0 rfl) (HCr.out.cell 1 rfl)
          go_simp
          rw [← hwx, ← hgb]
          refine hK.out _ _ hS (fun _ => ?_)
          clear hK K hwx hgb
          refine wpAnyH_ready (rs := [10]) (by kernel_rfl) (by simp) ?_
          refine (AllReadyH.cons (o := _) rfl (fun K hK => ?_) AllReadyH.nil)
          obtain ⟨ga, hga⟩ : ∃ g, g = wx3.heap.size := ⟨_, rfl⟩
          obtain ⟨wx4, hwx⟩ : ∃ W, W = wx3.alloc (.cells #[.int .u8 0, .int .u32 0, .int .u64 0, .int .i64 0, .int .i64 0] 36) := ⟨_, rfl⟩
          have HGna := Lib.hid (show w5.heap.size ≤ ga from by rw [hga]; exact HKr.out.size)
          have HKr : Hid (Keeps NoBlock w5 wx4) := Lib.hid (by rw [hwx]; exact HKr.out.alloc _)
          have HCr : Hid (Whole wx4 w3.heap.size 27 (confCells e s)) := Lib.hid (by rw [hwx]; exact HCr.out.alloc _)
          have HNe := Lib.hid (show ga ≠ gb from fun h => by have := HRb.out.lt; omega)
          have HRb : Hid (Whole wx4 gb 36 (room14Cells Rm.none)) := Lib.hid (by rw [hwx]; exact HRb.out.alloc _)
          have HRa : Hid (Whole wx4 ga 36 (room14Cells Rm.none)) := Lib.hid (by rw [hwx, hga]; exact Whole.new _ _ _)
          have hS : (fun w' : World => w'.cell? ⟨w3.heap.size, 0, none⟩ = some (.int .u8 (e : Int)) ∧ w'.cell? ⟨w3.heap.size, 1, none⟩ = some (.int .u32 (s : Int))) wx4 := And.intro (HCr.out.cell 0 rfl) (HCr.out.cell 1 rfl)
          go_simp
          rw [← hwx, ← hga]
          refine hK.out _ _ hS (fun _ => ?_)
          clear hK K hwx hga
          refine wpAnyH_ready (rs := [12]) (by kernel_rfl) (by simp) ?_
          refine (AllReadyH.cons (o := _) rfl (fun K hK => ?_) AllReadyH.nil)
          obtain ⟨z0, z1, z2, z3, z4⟩ := room14_at HRa.out
          obtain ⟨q0, q1, q2, q3, q4⟩ := room_free HRa.out
          obtain ⟨wx5, hwx⟩ : ∃ W, W = ((((wx4.setCell ⟨ga, 0, none⟩ (.int .u8 (e : Int))).setCell ⟨ga, 1, none⟩ (.int .u32 (s : Int))).setCell ⟨ga, 2, none⟩ (.int .u64 (num : Int))).setCell ⟨ga, 3, none⟩ (.int .i64 (H1 : Int))).setCell ⟨ga, 4, none⟩ (.int .i64 0) := ⟨_, rfl⟩
          have HKr : Hid (Keeps NoBlock w5 wx5) := Lib.hid (by rw [hwx]; exact HKr.out.new5 HGna.out _ _ _ _ _)
          have HCr : Hid (Whole wx5 w3.heap.size 27 (confCells e s)) := Lib.hid (by rw [hwx]; exact HCr.out.far5 (fun h => by have := HGna.out; have := HC5.out.lt; omega) _ _ _ _ _)
          have HRb : Hid (Whole wx5 gb 36 (room14Cells Rm.none)) := Lib.hid (by rw [hwx]; exact HRb.out.far5 (fun h => HNe.out (by omega)) _ _ _ _ _)
          have HRa : Hid (Whole wx5 ga 36 (room14Cells (emptyP e s num))) := Lib.hid (by rw [hwx]; unfold emptyP room14Cells; rw [← HH.out.1]; exact HRa.out.set5 _ _ _ _ _)
          have hS : (fun w' : World => w'.cell? ⟨w3.heap.size, 0, none⟩ = some (.int .u8 (e : Int)) ∧ w'.cell? ⟨w3.heap.size, 1, none⟩ = some (.int .u32 (s : Int))) wx5 := And.intro (HCr.out.cell 0 rfl) (HCr.out.cell 1 rfl)
          go_simp
          rw [← hwx]
          refine hK.out _ _ hS (fun _ => ?_)
          clear hK K hwx z0 z1 z2 z3 z4 q0 q1 q2 q3 q4
          refine wpAnyH_ready (rs := [13]) (by kernel_rfl) (by simp) ?_
          refine (AllReadyH.cons (o := _) rfl (fun K hK => ?_) AllReadyH.nil)
          obtain ⟨z0, z1, z2, z3, z4⟩ := room14_at HRb.out
          obtain ⟨q0, q1, q2, q3, q4⟩ := room_free HRb.out
          obtain ⟨wx6, hwx⟩ : ∃ W, W = ((((wx5.setCell ⟨gb, 0, none⟩ (.int .u8 (e : Int))).setCell ⟨gb, 1, none⟩ (.int .u32 (s : Int))).setCell ⟨gb, 2, none⟩ (.int .u64 (s1 : Int))).setCell ⟨gb, 3, none⟩ (.int .i64 (H2 : Int))).setCell ⟨gb, 4, none⟩ (.int .i64 0) := ⟨_, rfl⟩
          have HKr : Hid (Keeps NoBlock w5 wx6) := Lib.hid (by rw [hwx]; exact HKr.out.new5 HGnb.out _ _ _ _ _)
          have HCr : Hid (Whole wx6 w3.heap.size 27 (confCells e s)) := Lib.hid (by rw [hwx]; exact HCr.out.far5 (fun h => by have := HGnb.out; have := HC5.out.lt; omega) _ _ _ _ _)
          have HRa : Hid (Whole wx6 ga 36 (room14Cells (emptyP e s num))) := Lib.hid (by rw [hwx]; exact HRa.out.far5 (fun h => HNe.out (by omega)) _ _ _ _ _)
          have HRb : Hid (Whole wx6 gb 36 (room14Cells (emptyP e s s1))) := Lib.hid (by rw [hwx]; unfold emptyP room14Cells; rw [← HH.out.2]; exact HRb.out.set5 _ _ _ _ _)
          have hS : (fun w' : World => w'.cell? ⟨w3.heap.size, 0, none⟩ = some (.int .u8 (e : Int)) ∧ w'.cell? ⟨w3.heap.size, 1, none⟩ = some (.int .u32 (s : Int))) wx6 := And.intro (HCr.out.cell 0 rfl) (HCr.out.cell 1 rfl)
          go_simp
          rw [← hwx]
          refine hK.out _ _ hS (fun _ => ?_)
          clear hK K hwx z0 z1 z2 z3 z4 q0 q1 q2 q3 q4
          refine wpAnyH_done (by kernel_rfl) ?_ _
          go_wp2_with fail
          go_meet
          case rel => exact ⟨ga, gb, rfl, rfl, HKr, HRa, HRb, Lib.hid ⟨HNe.out, HGna.out, HGnb.out⟩⟩
      · obtain ⟨ga, hga⟩ : ∃ g, g = wx1.heap.size := ⟨_, rfl⟩
        obtain ⟨wx2, hwx⟩ : ∃ W, W = wx1.alloc (.cells #[.int .u8 0, .int .u32 0, .int .u64 0, .int .i64 0, .int .i64 0] 36) := ⟨_, rfl⟩
        have HGna := Lib.hid (show w5.heap.size ≤ ga from by rw [hga]; exact HKr.out.size)
        have HKr : Hid (Keeps NoBlock w5 wx2) := Lib.hid (by rw [hwx]; exact HKr.out.alloc _)
        have HCr : Hid (Whole wx2 w3.heap.size 27 (confCells e s)) := Lib.hid (by rw [hwx]; exact HCr.out.alloc _)
        have HRa : Hid (Whole wx2 ga 36 (room14Cells Rm.none)) := Lib.hid (by rw [hwx, hga]; exact Whole.new _ _ _)
        have hS : (fun w' : World => w'.cell? ⟨w3.heap.size, 0, none⟩ = some (.int .u8 (e : Int)) ∧ w'.cell? ⟨w3.heap.size, 1, none⟩ = some (.int .u32 (s : Int))) wx2 := And.intro (HCr.out.cell 0 rfl) (HCr.out.cell 1 rfl)
        go_simp
        rw [← hwx, ← hga]
        refine hK.out _ _ hS (fun _ => ?_)
        clear hK K hwx hga
        refine wpAnyH_ready (rs := [9, 11]) (by kernel_rfl) (by simp) ?_
        refine (AllReadyH.cons (o := _) rfl (fun K hK => ?_) (AllReadyH.cons (o := _) rfl (fun K hK => ?_) AllReadyH.nil))
        · go_simp
          refine (HE2.out _).mono ?_
          rintro e9 wx3 ⟨rfl, hk⟩
          have hk' : Keeps NoBlock wx2 wx3 := by first | exact hk | exact hk.ofDrew | exact hk.ofDrewN
          have HKr := Lib.hid (HKr.out.trans hk')
          have HCr := Lib.hid (HCr.out.keep hk' (fun h => h))
          have HRa := Lib.hid (HRa.out.keep hk' (fun h => h))
          have hS : (fun w' : World => w'.cell? ⟨w3.heap.size, 0, none⟩ = some (.int .u8 (e : Int)) ∧ w'.cell? ⟨w3.heap.size, 1, none⟩ = some (.int .u32 (s : Int))) wx3 := And.intro (HCr.out.cell 0 rfl) (HCr.out.cell 1 rfl)
          clear hk hk'
          go_wp2_with fail
          refine hK.out _ _ hS (fun _ => ?_)
          clear hK K
          refine wpAnyH_ready (rs := [11]) (by kernel_rfl) (by simp) ?_
          refine (AllReadyH.cons (o := _) rfl (fun K hK => ?_) AllReadyH.nil)
          obtain ⟨gb, hgb⟩ : ∃ g, g = wx3.heap.size := ⟨_, rfl⟩
          obtain ⟨wx4, hwx⟩ : ∃ W, W = wx3.alloc (.cells #[.int .u8 0, .int .u32 0, .int .u64 0, .int .i64 0, .int .i64 0] 36) := ⟨_, rfl⟩
          have HGnb := Lib.hid (show w5.heap.size ≤ gb from by rw [hgb]; exact HKr.out.size)
          have HKr : Hid (Keeps NoBlock w5 wx4) := Lib.hid (by rw [hwx]; exact HKr.out.alloc _)
          have HCr : Hid (Whole wx4 w3.heap.size 27 (confCells e s)) := Lib.hid (by rw [hwx]; exact HCr.out.alloc _)
          have HNe := Lib.hid (show ga ≠ gb from fun h => by have := HRa.out.lt; omega)
          have HRa : Hid (Whole wx4 ga 36 (room14Cells Rm.none)) := Lib.hid (by rw [hwx]; exact HRa.out.alloc _)
          have HRb : Hid (Whole wx4 gb 36 (room14Cells Rm.none)) := Lib.hid (by rw [hwx, hgb]; exact Whole.new _ _ _)
          have hS : (fun w' : World => w'.cell? ⟨w3.heap.size, 0, none⟩ = some (.int .u8 (e : Int)) ∧ w'.cell? ⟨w3.heap.size, 1, none⟩ = some (.int .u32 (s : Int))) wx4 := And.intro (HCr.out.cell 0 rfl) (HCr.out.cell 1 rfl)
          go_simp
          rw [← hwx, ← hgb]
          refine hK.out _ _ hS (fun _ => ?_)
          clear hK K hwx hgb
          refine wpAnyH_ready (rs := [12]) (by kernel_rfl) (by simp) ?_
          refine (AllReadyH.cons (o := _) rfl (fun K hK => ?_) AllReadyH.nil)
          obtain ⟨z0, z1, z2, z3, z4⟩ := room14_at HRa.out
          obtain ⟨q0, q1, q2, q3, q4⟩ := room_free HRa.out
          obtain ⟨wx5, hwx⟩ : ∃ W, W = ((((wx4.setCell ⟨ga, 0, none⟩ (.int .u8 (e : Int))).setCell ⟨ga, 1, none⟩ (.int .u32 (s : Int))).setCell ⟨ga, 2, none⟩ (.int .u64 (num : Int))).setCell ⟨ga, 3, none⟩ (.int .i64 (H1 : Int))).setCell ⟨ga, 4, none⟩ (.int .i64 0) := ⟨_, rfl⟩
          have HKr : Hid (Keeps NoBlock w5 wx5) := Lib.hid (by rw [hwx]; exact HKr.out.new5 HGna.out _ _ _ _ _)
          have HCr : Hid (Whole wx5 w3.heap.size 27 (confCells e s)) := Lib.hid (by rw [hwx]; exact HCr.out.far5 (fun h => by have := HGna.out; have := HC5.out.lt; omega) _ _ _ _ _)
          have HRb : Hid (Whole wx5 gb 36 (room14Cells Rm.none)) := Lib.hid (by rw [hwx]; exact HRb.out.far5 (fun h => HNe.out (by omega)) _ _ _ _ _)
          have HRa : Hid (Whole wx5 ga 36 (room14Cells (emptyP e s num))) := Lib.hid (by rw [hwx]; unfold emptyP room14Cells; rw [← HH.out.1]; exact HRa.out.set5 _ _ _ _ _)
          have hS : (fun w' : World => w'.cell? ⟨w3.heap.size, 0, none⟩ = some (.int .u8 (e : Int)) ∧ w'.cell? ⟨w3.heap.size, 1, none⟩ = some (.int .u32 (s : Int))) wx5 := And.intro (HCr.out.cell 0 rfl) (HCr.out.cell 1 rfl)
          go_simp
          rw [← hwx]
          refine hK.out _ _ hS (fun _ => ?_)
          clear hK K hwx z0 z1 z2 z3 z4 q0 q1 q2 q3 q4
          refine wpAnyH_ready (rs := [13]) (by kernel_rfl) (by simp) ?_
          refine (AllReadyH.cons (o := _) rfl (fun K hK => ?_) AllReadyH.nil)
          obtain ⟨z0, z1, z2, z3, z4⟩ := room14_at HRb.out
          obtain ⟨q0, q1, q2, q3, q4⟩ := room_free HRb.out
          obtain ⟨wx6, hwx⟩ : ∃ W, W = ((((wx5.setCell ⟨gb, 0, none⟩ (.int .u8 (e : Int))).setCell ⟨gb, 1, none⟩ (.int .u32 (s : Int))).setCell ⟨gb, 2, none⟩ (.int .u64 (s1 : Int))).setCell ⟨gb, 3, none⟩ (.int .i64 (H2 : Int))).setCell ⟨gb, 4, none⟩ (.int .i64 0) := ⟨_, rfl⟩
          have HKr : Hid (Keeps NoBlock w5 wx6) := Lib.hid (by rw [hwx]; exact HKr.out.new5 HGnb.out _ _ _ _ _)
          have HCr : Hid (Whole wx6 w3.heap.size 27 (confCells e s)) := Lib.hid (by rw [hwx]; exact HCr.out.far5 (fun h => by have := HGnb.out; have := HC5.out.lt; omega) _ _ _ _ _)
          have HRa : Hid (Whole wx6 ga 36 (room14Cells (emptyP e s num))) := Lib.hid (by rw [hwx]; exact HRa.out.far5 (fun h => HNe.out (by omega)) _ _ _ _ _)
          have HRb : Hid (Whole wx6 gb 36 (room14Cells (emptyP e s s1))) := Lib.hid (by rw [hwx]; unfold emptyP room14Cells; rw [← HH.out.2]; exact HRb.out.set5 _ _ _ _ _)
          have hS : (fun w' : World => w'.cell? ⟨w3.heap.size, 0, none⟩ = some (.int .u8 (e : Int)) ∧ w'.cell? ⟨w3.heap.size, 1, none⟩ = some (.int .u32 (s : Int))) wx6 := And.intro (HCr.out.cell 0 rfl) (HCr.out.cell 1 rfl)
          go_simp
          rw [← hwx]
          refine hK.out _ _ hS (fun _ => ?_)
          clear hK K hwx z0 z1 z2 z3 z4 q0 q1 q2 q3 q4
          refine wpAnyH_done (by kernel_rfl) ?_ _
          go_wp2_with fail
          go_meet
          case rel => exact ⟨ga, gb, rfl, rfl, HKr, HRa, HRb, Lib.hid ⟨HNe.out, HGna.out, HGnb.out⟩⟩
        · obtain ⟨gb, hgb⟩ : ∃ g, g = wx2.heap.size := ⟨_, rfl⟩
          obtain ⟨wx3, hwx⟩ : ∃ W, W = wx2.alloc (.cells #[.int .u8 0, .int .u32 0, .int .u64 0, .int .i64 0, .int .i64 0] 36) := ⟨_, rfl⟩
          have HGnb := Lib.hid (show w5.heap.size ≤ gb from by rw [hgb]; exact HKr.out.size)
          have HKr : Hid (Keeps NoBlock w5 wx3) := Lib.hid (by rw [hwx]; exact HKr.out.alloc _)
          have HCr : Hid (Whole wx3 w3.heap.size 27 (confCells e s)) := Lib.hid (by rw [hwx]; exact HCr.out.alloc _)
          have HNe := Lib.hid (show ga ≠ gb from fun h => by have := HRa.out.lt; omega)
          have HRa : Hid (Whole wx3 ga 36 (room14Cells Rm.none)) := Lib.hid (by rw [hwx]; exact HRa.out.alloc _)
          have HRb : Hid (Whole wx3 gb 36 (room14Cells Rm.none)) := Lib.hid (by rw [hwx, hgb]; exact Whole.new _ _ _)
          have hS : (fun w' : World => w'.cell? ⟨w3.heap.size, 0, none⟩ = some (.int .u8 (e : Int)) ∧ w'.cell? ⟨w3.heap.size, 1, none⟩ = some (.int .u32 (s : Int))) wx3 := And.intro (HCr.out.cell 0 rfl) (HCr.out.cell 1 rfl)
          go_simp
          rw [← hwx, ← hgb]
          refine hK.out _ _ hS (fun _ => ?_)
          clear hK K hwx hgb
          refine wpAnyH_ready (rs := [9]) (by kernel_rfl) (by simp) ?_
          refine (AllReadyH.cons (o := _) rfl (fun K hK => ?_) AllReadyH.nil)
          go_simp
          refine (HE2.out _).mono ?_
          rintro e9 wx4 ⟨rfl, hk⟩
          have hk' : Keeps NoBlock wx3 wx4 := by first | exact hk | exact hk.ofDrew | exact hk.ofDrewN
          have HKr := Lib.hid (HKr.out.trans hk')
          have HCr := Lib.hid (HCr.out.keep hk' (fun h => h))
          have HRa := Lib.hid (HRa.out.keep hk' (fun h => h))
          have HRb := Lib.hid (HRb.out.keep hk' (fun h => h))
          have hS : (fun w' : World => w'.cell? ⟨w3.heap.size, 0, none⟩ = some (.int .u8 (e : Int)) ∧ w'.cell? ⟨w3.heap.size, 1, none⟩ = some (.int .u32 (s : Int))) wx4 := And.intro (HCr.out.cell 0 rfl) (HCr.out.cell 1 rfl)
          clear hk hk'
          go_wp2_with fail
          refine hK.out _ _ hS (fun _ => ?_)
          clear hK K
          refine wpAnyH_ready (rs := [12]) (by kernel_rfl) (by simp) ?_
          refine (AllReadyH.cons (o := _) rfl (fun K hK => ?_) AllReadyH.nil)
          obtain ⟨z0, z1, z2, z3, z4⟩ := room14_at HRa.out
          obtain ⟨q0, q1, q2, q3, q4⟩ := room_free HRa.out
          obtain ⟨wx5, hwx⟩ : ∃ W, W = ((((wx4.setCell ⟨ga, 0, none⟩ (.int .u8 (e : Int))).setCell ⟨ga, 1, none⟩ (.int .u32 (s : Int))).setCell ⟨ga, 2, none⟩ (.int .u64 (num : Int))).setCell ⟨ga, 3, none⟩ (.int .i64 (H1 : Int))).setCell ⟨ga, 4, none⟩ (.int .i64 0) := ⟨_, rfl⟩
          have HKr : Hid (Keeps NoBlock w5 wx5) := Lib.hid (by rw [hwx]; exact HKr.out.new5 HGna.out _ _ _ _ _)
          have HCr : Hid (Whole wx5 w3.heap.size 27 (confCells e s)) := Lib.hid (by rw [hwx]; exact HCr.out.far5 (fun h => by have := HGna.out; have := HC5.out.lt; omega) _ _ _ _ _)
          have HRb : Hid (Whole wx5 gb 36 (room14Cells Rm.none)) := Lib.hid (by rw [hwx]; exact HRb.out.far5 (fun h => HNe.out (by omega)) _ _ _ _ _)
          have HRa : Hid (Whole wx5 ga 36 (room14Cells (emptyP e s num))) := Lib.hid (by rw [hwx]; unfold emptyP room14Cells; rw [← HH.out.1]; exact HRa.out.set5 _ _ _ _ _)
          have hS : (fun w' : World => w'.cell? ⟨w3.heap.size, 0, none⟩ = some (.int .u8 (e : Int)) ∧ w'.cell? ⟨w3.heap.size, 1, none⟩ = some (.int .u32 (s : Int))) wx5 := And.intro (HCr.out.cell 0 rfl) (HCr.out.cell 1 rfl)
          go_simp
          rw [← hwx]
          refine hK.out _ _ hS (fun _ => ?_)
          clear hK K hwx z0 z1 z2 z3 z4 q0 q1 q2 q3 q4
          refine wpAnyH_ready (rs := [13]) (by kernel_rfl) (by simp) ?_
          refine (AllReadyH.cons (o := _) rfl (fun K hK => ?_) AllReadyH.nil)
          obtain ⟨z0, z1, z2, z3, z4⟩ := room14_at HRb.out
          obtain ⟨q0, q1, q2, q3, q4⟩ := room_free HRb.out
          obtain ⟨wx6, hwx⟩ : ∃ W, W = ((((wx5.setCell ⟨gb, 0, none⟩ (.int .u8 (e : Int))).setCell ⟨gb, 1, none⟩ (.int .u32 (s : Int))).setCell ⟨gb, 2, none⟩ (.int .u64 (s1 : Int))).setCell ⟨gb, 3, none⟩ (.int .i64 (H2 : Int))).setCell ⟨gb, 4, none⟩ (.int .i64 0) := ⟨_, rfl⟩
          have HKr : Hid (Keeps NoBlock w5 wx6) := Lib.hid (by rw [hwx]; exact HKr.out.new5 HGnb.out _ _ _ _ _)
          have HCr : Hid (Whole wx6 w3.heap.size 27 (confCells e s)) := Lib.hid (by rw [hwx]; exact HCr.out.far5 (fun h => by have := HGnb.out; have := HC5.out.lt; omega) _ _ _ _ _)
          have HRa : Hid (Whole wx6 ga 36 (room14Cells (emptyP e s num))) := Lib.hid (by rw [hwx]; exact HRa.out.far5 (fun h => HNe.out (by omega)) _ _ _ _ _)
          have HRb : Hid (Whole wx6 gb 36 (room14Cells (emptyP e s s1))) := Lib.hid (by rw [hwx]; unfold emptyP room14Cells; rw [← HH.out.2]; exact HRb.out.set5 _ _ _ _ _)
          have hS : (fun w' : World => w'.cell? ⟨w3.heap.size, 0, none⟩ = some (.int .u8 (e : Int)) ∧ w'.cell? ⟨w3.heap.size, 1, none⟩ = some (.int .u32 (s : Int))) wx6 := And.intro (HCr.out.cell 0 rfl) (HCr.out.cell 1 rfl)
          go_simp
          rw [← hwx]
          refine hK.out _ _ hS (fun _ => ?_)
          clear hK K hwx z0 z1 z2 z3 z4 q0 q1 q2 q3 q4
          refine wpAnyH_done (by kernel_rfl) ?_ _
          go_wp2_with fail
          go_meet
          case rel => exact ⟨ga, gb, rfl, rfl, HKr, HRa, HRb, Lib.hid ⟨HNe.out, HGna.out, HGnb.out⟩⟩
      · obtain ⟨gb, hgb⟩ : ∃ g, g = wx1.heap.size := ⟨_, rfl⟩
        obtain ⟨wx2, hwx⟩ : ∃ W, W = wx1.alloc (.cells #[.int .u8 0, .int .u32 0, .int .u64 0, .int .i64 0, .int .i64 0] 36) := ⟨_, rfl⟩
        have HGnb := Lib.hid (show w5.heap.size ≤ gb from by rw [hgb]; exact HKr.out.size)
        have HKr : Hid (Keeps NoBlock w5 wx2) := Lib.hid (by rw [hwx]; exact HKr.out.alloc _)
        have HCr : Hid (Whole wx2 w3.heap.size 27 (confCells e s)) := Lib.hid (by rw [hwx]; exact HCr.out.alloc _)
        have HRb : Hid (Whole wx2 gb 36 (room14Cells Rm.none)) := Lib.hid (by rw [hwx, hgb]; exact Whole.new _ _ _)
        have hS : (fun w' : World => w'.cell? ⟨w3.heap.size, 0, none⟩ = some (.int .u8 (e : Int)) ∧ w'.cell? ⟨w3.heap.size, 1, none⟩ = some (.int .u32 (s : Int))) wx2 := And.intro (HCr.out.cell 0 rfl) (HCr.out.cell 1 rfl)
        go_simp
        rw [← hwx, ← hgb]
        refine hK.out _ _ hS (fun _ => ?_)
        clear hK K hwx hgb
        refine wpAnyH_ready (rs := [9, 10]) (by kernel_rfl) (by simp) ?_
        refine (AllReadyH.cons (o := _) rfl (fun K hK => ?_) (AllReadyH.cons (o := _) rfl (fun K hK => ?_) AllReadyH.nil))
        · go_simp
          refine (HE2.out _).mono ?_
          rintro e9 wx3 ⟨rfl, hk⟩
          have hk' : Keeps NoBlock wx2 wx3 := by first | exact hk | exact hk.ofDrew | exact hk.ofDrewN
          have HKr := Lib.hid (HKr.out.trans hk')
          have HCr := Lib.hid (HCr.out.keep hk' (fun h => h))
          have HRb := Lib.hid (HRb.out.keep hk' (fun h => h))
          have hS : (fun w' : World => w'.cell? ⟨w3.heap.size, 0, none⟩ = some (.int .u8 (e : Int)) ∧ w'.cell? ⟨w3.heap.size, 1, none⟩ = some (.int .u32 (s : Int))) wx3 := And.intro (HCr.out.cell 0 rfl) (HCr.out.cell 1 rfl)
          clear hk hk'
          go_wp2_with fail
          refine hK.out _ _ hS (fun _ => ?_)
          clear hK K
          refine wpAnyH_ready (rs := [10]) (by kernel_rfl) (by simp) ?_
          refine (AllReadyH.cons (o := _) rfl (fun K hK => ?_) AllReadyH.nil)
          obtain ⟨ga, hga⟩ : ∃ g, g = wx3.heap.size := ⟨_, rfl⟩
          obtain ⟨wx4, hwx⟩ : ∃ W, W = wx3.alloc (.cells #[.int .u8 0, .int .u32 0, .int .u64 0, .int .i64 0, .int .i64 0] 36) := ⟨_, rfl⟩
          have HGna := Lib.hid (show w5.heap.size ≤ ga from by rw [hga]; exact HKr.out.size)
          have HKr : Hid (Keeps NoBlock w5 wx4) := Lib.hid (by rw [hwx]; exact HKr.out.alloc _)
          have HCr : Hid (Whole wx4 w3.heap.size 27 (confCells e s)) := Lib.hid (by rw [hwx]; exact HCr.out.alloc _)
          have HNe := Lib.hid (show ga ≠ gb from fun h => by have := HRb.out.lt; omega)
          have HRb : Hid (Whole wx4 gb 36 (room14Cells Rm.none)) := Lib.hid (by rw [hwx]; exact HRb.out.alloc _)
          have HRa : Hid (Whole wx4 ga 36 (room14Cells Rm.none)) := Lib.hid (by rw [hwx, hga]; exact Whole.new _ _ _)
          have hS : (fun w' : World => w'.cell? ⟨w3.heap.size, 0, none⟩ = some (.int .u8 (e : Int)) ∧ w'.cell? ⟨w3.heap.size, 1, none⟩ = some (.int .u32 (s : Int))) wx4 := And.intro (HCr.out.cell 0 rfl) (HCr.out.cell 1 rfl)
          go_simp
          rw [← hwx, ← hga]
          refine hK.out _ _ hS (fun _ => ?_)
          clear hK K hwx hga
          refine wpAnyH_ready (rs := [12]) (by kernel_rfl) (by simp) ?_
          refine (AllReadyH.cons (o := _) rfl (fun K hK => ?_) AllReadyH.nil)
          obtain ⟨z0, z1, z2, z3, z4⟩ := room14_at HRa.out
          obtain ⟨q0, q1, q2, q3, q4⟩ := room_free HRa.out
          obtain ⟨wx5, hwx⟩ : ∃ W, W = ((((wx4.setCell ⟨ga, 0, none⟩ (.int .u8 (e : Int))).setCell ⟨ga, 1, none⟩ (.int .u32 (s : Int))).setCell ⟨ga, 2, none⟩ (.int .u64 (num : Int))).setCell ⟨ga, 3, none⟩ (.int .i64 (H1 : Int))).setCell ⟨ga, 4, none⟩ (.int .i64 0) := ⟨_, rfl⟩
          have HKr : Hid (Keeps NoBlock w5 wx5) := Lib.hid (by rw [hwx]; exact HKr.out.new5 HGna.out _ _ _ _ _)
          have HCr : Hid (Whole wx5 w3.heap.size 27 (confCells e s)) := Lib.hid (by rw [hwx]; exact HCr.out.far5 (fun h => by have := HGna.out; have := HC5.out.lt; omega) _ _ _ _ _)
          have HRb : Hid (Whole wx5 gb 36 (room14Cells Rm.none)) := Lib.hid (by rw [hwx]; exact HRb.out.far5 (fun h => HNe.out (by omega)) _ _ _ _ _)
          have HRa : Hid (Whole wx5 ga 36 (room14Cells (emptyP e s num))) := Lib.hid (by rw [hwx]; unfold emptyP room14Cells; rw [← HH.out.1]; exact HRa.out.set5 _ _ _ _ _)
          have hS : (fun w' : World => w'.cell? ⟨w3.heap.size, 0, none⟩ = some (.int .u8 (e : Int)) ∧ w'.cell? ⟨w3.heap.size, 1, none⟩ = some (.int .u32 (s : Int))) wx5 := And.intro (HCr.out.cell 0 rfl) (HCr.out.cell 1 rfl)
          go_simp
          rw [← hwx]
          refine hK.out _ _ hS (fun _ => ?_)
          clear hK K hwx z0 z1 z2 z3 z4 q0 q1 q2 q3 q4
          refine wpAnyH_ready (rs := [13]) (by kernel_rfl) (by simp) ?_
          refine (AllReadyH.cons (o := _) rfl (fun K hK => ?_) AllReadyH.nil)
          obtain ⟨z0, z1, z2, z3, z4⟩ := room14_at HRb.out
          obtain ⟨q0, q1, q2, q3, q4⟩ := room_free HRb.out
          obtain ⟨wx6, hwx⟩ : ∃ W, W = ((((wx5.setCell ⟨gb, 0, none⟩ (.int .u8 (e : Int))).setCell ⟨gb, 1, none⟩ (.int .u32 (s : Int))).setCell ⟨gb, 2, none⟩ (.int .u64 (s1 : Int))).setCell ⟨gb, 3, none⟩ (.int .i64 (H2 : Int))).setCell ⟨gb, 4, none⟩ (.int .i64 0) := ⟨_, rfl⟩
          have HKr : Hid (Keeps NoBlock w5 wx6) := Lib.hid (by rw [hwx]; exact HKr.out.new5 HGnb.out _ _ _ _ _)
          have HCr : Hid (Whole wx6 w3.heap.size 27 (confCells e s)) := Lib.hid (by rw [hwx]; exact HCr.out.far5 (fun h => by have := HGnb.out; have := HC5.out.lt; omega) _ _ _ _ _)
          have HRa : Hid (Whole wx6 ga 36 (room14Cells (emptyP e s num))) := Lib.hid (by rw [hwx]; exact HRa.out.far5 (fun h => HNe.out (by omega)) _ _ _ _ _)
          have HRb : Hid (Whole wx6 gb 36 (room14Cells (emptyP e s s1))) := Lib.hid (by rw [hwx]; unfold emptyP room14Cells; rw [← HH.out.2]; exact HRb.out.set5 _ _ _ _ _)
          have hS : (fun w' : World => w'.cell? ⟨w3.heap.size, 0, none⟩ = some (.int .u8 (e : Int)) ∧ w'.cell? ⟨w3.heap.size, 1, none⟩ = some (.int .u32 (s : Int))) wx6 := And.intro (HCr.out.cell 0 rfl) (HCr.out.cell 1 rfl)
          go_simp
          rw [← hwx]
          refine hK.out _ _ hS (fun _ => ?_)
          clear hK K hwx z0 z1 z2 z3 z4 q0 q1 q2 q3 q4
          refine wpAnyH_done (by kernel_rfl) ?_ _
          go_wp2_with fail
          go_meet
          case rel => exact ⟨ga, gb, rfl, rfl, HKr, HRa, HRb, Lib.hid ⟨HNe.out, HGna.out, HGnb.out⟩⟩
        · obtain ⟨ga, hga⟩ : ∃ g, g = wx2.heap.size := ⟨_, rfl⟩
          obtain ⟨wx3, hwx⟩ : ∃ W, W = wx2.alloc (.cells #[.int .u8 0, .int .u32 0, .int .u64 0, .int .i64 0, .int .i64 0] 36) := ⟨_, rfl⟩
          have HGna := Lib.hid (show w5.heap.size ≤ ga from by rw [hga]; exact HKr.out.size)
          have HKr : Hid (Keeps NoBlock w5 wx3) := Lib.hid (by rw [hwx]; exact HKr.out.alloc _)
          have HCr : Hid (Whole wx3 w3.heap.size 27 (confCells e s)) := Lib.hid (by rw [hwx]; exact HCr.out.alloc _)
          have HNe := Lib.hid (show ga ≠ gb from fun h => by have := HRb.out.lt; omega)
          have HRb : Hid (Whole wx3 gb 36 (room14Cells Rm.none)) := Lib.hid (by rw [hwx]; exact HRb.out.alloc _)
          have HRa : Hid (Whole wx3 ga 36 (room14Cells Rm.none)) := Lib.hid (by rw [hwx, hga]; exact Whole.new _ _ _)
          have hS : (fun w' : World => w'.cell? ⟨w3.heap.size, 0, none⟩ = some (.int .u8 (e : Int)) ∧ w'.cell? ⟨w3.heap.size, 1, none⟩ = some (.int .u32 (s : Int))) wx3 := And.intro (HCr.out.cell 0 rfl) (HCr.out.cell 1 rfl)
          go_simp
          rw [← hwx, ← hga]
          refine hK.out _ _ hS (fun _ => ?_)
          clear hK K hwx hga
          refine wpAnyH_ready (rs := [9]) (by kernel_rfl) (by simp) ?_
          refine (AllReadyH.cons (o := _) rfl (fun K hK => ?_) AllReadyH.nil)
          go_simp
          refine (HE2.out _).mono ?_
          rintro e9 wx4 ⟨rfl, hk⟩
          have hk' : Keeps NoBlock wx3 wx4 := by first | exact hk | exact hk.ofDrew | exact hk.ofDrewN
          have HKr := Lib.hid (HKr.out.trans hk')
          have HCr := Lib.hid (HCr.out.keep hk' (fun h => h))
          have HRa := Lib.hid (HRa.out.keep hk' (fun h => h))
          have HRb := Lib.hid (HRb.out.keep hk' (fun h => h))
          have hS : (fun w' : World => w'.cell? ⟨w3.heap.size, 0, none⟩ = some (.int .u8 (e : Int)) ∧ w'.cell? ⟨w3.heap.size, 1, none⟩ = some (.int .u32 (s : Int))) wx4 := And.intro (HCr.out.cell 0 rfl) (HCr.out.cell 1 rfl)
          clear hk hk'
          go_wp2_with fail
          refine hK.out _ _ hS (fun _ => ?_)
          clear hK K
          refine wpAnyH_ready (rs := [12]) (by kernel_rfl) (by simp) ?_
          refine (AllReadyH.cons (o := _) rfl (fun K hK => ?_) AllReadyH.nil)
          obtain ⟨z0, z1, z2, z3, z4⟩ := room14_at HRa.out
          obtain ⟨q0, q1, q2, q3, q4⟩ := room_free HRa.out
          obtain ⟨wx5, hwx⟩ : ∃ W, W = ((((wx4.setCell ⟨ga, 0, none⟩ (.int .u8 (e : Int))).setCell ⟨ga, 1, none⟩ (.int .u32 (s : Int))).setCell ⟨ga, 2, none⟩ (.int .u64 (num : Int))).setCell ⟨ga, 3, none⟩ (.int .i64 (H1 : Int))).setCell ⟨ga, 4, none⟩ (.int .i64 0) := ⟨_, rfl⟩
          have HKr : Hid (Keeps NoBlock w5 wx5) := Lib.hid (by rw [hwx]; exact HKr.out.new5 HGna.out _ _ _ _ _)
          have HCr : Hid (Whole wx5 w3.heap.size 27 (confCells e s)) := Lib.hid (by rw [hwx]; exact HCr.out.far5 (fun h => by have := HGna.out; have := HC5.out.lt; omega) _ _ _ _ _)
          have HRb : Hid (Whole wx5 gb 36 (room14Cells Rm.none)) := Lib.hid (by rw [hwx]; exact HRb.out.far5 (fun h => HNe.out (by omega)) _ _ _ _ _)
          have HRa : Hid (Whole wx5 ga 36 (room14Cells (emptyP e s num))) := Lib.hid (by rw [hwx]; unfold emptyP room14Cells; rw [← HH.out.1]; exact HRa.out.set5 _ _ _ _ _)
          have hS : (fun w' : World => w'.cell? ⟨w3.heap.size, 0, none⟩ = some (.int .u8 (e : Int)) ∧ w'.cell? ⟨w3.heap.size, 1, none⟩ = some (.int .u32 (s : Int))) wx5 := And.intro (HCr.out.cell 0 rfl) (HCr.out.cell 1 rfl)
          go_simp
          rw [← hwx]
          refine hK.out _ _ hS (fun _ => ?_)
          clear hK K hwx z0 z1 z2 z3 z4 q0 q1 q2 q3 q4
          refine wpAnyH_ready (rs := [13]) (by kernel_rfl) (by simp) ?_
          refine (AllReadyH.cons (o := _) rfl (fun K hK => ?_) AllReadyH.nil)
          obtain ⟨z0, z1, z2, z3, z4⟩ := room14_at HRb.out
          obtain ⟨q0, q1, q2, q3, q4⟩ := room_free HRb.out
          obtain ⟨wx6, hwx⟩ : ∃ W, W = ((((wx5.setCell ⟨gb, 0, none⟩ (.int .u8 (e : Int))).setCell ⟨gb, 1, none⟩ (.int .u32 (s : Int))).setCell ⟨gb, 2, none⟩ (.int .u64 (s1 : Int))).setCell ⟨gb, 3, none⟩ (.int .i64 (H2 : Int))).setCell ⟨gb, 4, none⟩ (.int .i64 0) := ⟨_, rfl⟩
          have HKr : Hid (Keeps NoBlock w5 wx6) := Lib.hid (by rw [hwx]; exact HKr.out.new5 HGnb.out _ _ _ _ _)
          have HCr : Hid (Whole wx6 w3.heap.size 27 (confCells e s)) := Lib.hid (by rw [hwx]; exact HCr.out.far5 (fun h => by have := HGnb.out; have := HC5.out.lt; omega) _ _ _ _ _)
          have HRa : Hid (Whole wx6 ga 36 (room14Cells (emptyP e s num))) := Lib.hid (by rw [hwx]; exact HRa.out.far5 (fun h => HNe.out (by omega)) _ _ _ _ _)
          have HRb : Hid (Whole wx6 gb 36 (room14Cells (emptyP e s s1))) := Lib.hid (by rw [hwx]; unfold emptyP room14Cells; rw [← HH.out.2]; exact HRb.out.set5 _ _ _ _ _)
          have hS : (fun w' : World => w'.cell? ⟨w3.heap.size, 0, none⟩ = some (.int .u8 (e : Int)) ∧ w'.cell? ⟨w3.heap.size, 1, none⟩ = some (.int .u32 (s : Int))) wx6 := And.intro (HCr.out.cell 0 rfl) (HCr.out.cell 1 rfl)
          go_simp
          rw [← hwx]
          refine hK.out _ _ hS (fun _ => ?_)
          clear hK K hwx z0 z1 z2 z3 z4 q0 q1 q2 q3 q4
          refine wpAnyH_done (by kernel_rfl) ?_ _
          go_wp2_with fail
          go_meet
          case rel => exact ⟨ga, gb, rfl, rfl, HKr, HRa, HRb, Lib.hid ⟨HNe.out, HGna.out, HGnb.out⟩⟩
    · obtain ⟨ga, hga⟩ : ∃ g, g = wx0.heap.size := ⟨_, rfl⟩
      obtain ⟨wx1, hwx⟩ : ∃ W, W = wx0.alloc (.cells #[.int .u8 0, .int .u32 0, .int .u64 0, .int .i64 0, .int .i64 0] 36) := ⟨_, rfl⟩
      have HGna := Lib.hid (show w5.heap.size ≤ ga from by rw [hga]; exact HKr.out.size)
      have HKr : Hid (Keeps NoBlock w5 wx1) := Lib.hid (by rw [hwx]; exact HKr.out.alloc _)
      have HCr : Hid (Whole wx1 w3.heap.size 27 (confCells e s)) := Lib.hid (by rw [hwx]; exact HCr.out.alloc _)
      have HRa : Hid (Whole wx1 ga 36 (room14Cells Rm.none)) := Lib.hid (by rw [hwx, hga]; exact Whole.new _ _ _)
      have hS : (fun w' : World => w'.cell? ⟨w3.heap.size, 0, none⟩ = some (.int .u8 (e : Int)) ∧ w'.cell? ⟨w3.heap.size, 1, none⟩ = some (.int .u32 (s : Int))) wx1 := And.intro (HCr.out.cell 0 rfl) (HCr.out.cell 1 rfl)
      go_simp
      rw [← hwx, ← hga]
      refine hK.out _ _ hS (fun _ => ?_)
      clear hK K hwx hga
      refine wpAnyH_ready (rs := [3, 11]) (by kernel_rfl) (by simp) ?_
      refine (AllReadyH.cons (o := _) rfl (fun K hK => ?_) (AllReadyH.cons (o := _) rfl (fun K hK => ?_) AllReadyH.nil))
      · go_simp
        refine (HE1.out _).mono ?_
        rintro e9 wx2 ⟨rfl, hk⟩
        have hk' : Keeps NoBlock wx1 wx2 := by first | exact hk | exact hk.ofDrew | exact hk.ofDrewN
        have HKr := Lib.hid (HKr.out.trans hk')
        have HCr := Lib.hid (HCr.out.keep hk' (fun h => h))
        have HRa := Lib.hid (HRa.out.keep hk' (fun h => h))
        have hS : (fun w' : World => w'.cell? ⟨w3.heap.size, 0, none⟩ = some (.int .u8 (e : Int)) ∧ w'.cell? ⟨w3.heap.size, 1, none⟩ = some (.int .u32 (s : Int))) wx2 := And.intro (HCr.out.cell 0 rfl) (HCr.out.cell 1 rfl)
        clear hk hk'
        go_wp2_with fail
        refine hK.out _ _ hS (fun _ => ?_)
        clear hK K
        refine wpAnyH_ready (rs := [9, 11]) (by kernel_rfl) (by simp) ?_
        refine (AllReadyH.cons (o := _) rfl (fun K hK => ?_) (AllReadyH.cons (o := _) rfl (fun K hK => ?_) AllReadyH.nil))
        · go_simp
          refine (HE2.out _).mono ?_
          rintro e9 wx3 ⟨rfl, hk⟩
          have hk' : Keeps NoBlock wx2 wx3 := by first | exact hk | exact hk.ofDrew | exact hk.ofDrewN
          have HKr := Lib.hid (HKr.out.trans hk')
          have HCr := Lib.hid (HCr.out.keep hk' (fun h => h))
          have HRa := Lib.hid (HRa.out.keep hk' (fun h => h))
          have hS : (fun w' : World => w'.cell? ⟨w3.heap.size, 0, none⟩ = some (.int .u8 (e : Int)) ∧ w'.cell? ⟨w3.heap.size, 1, none⟩ = some (.int .u32 (s : Int))) wx3 := And.intro (HCr.out.cell 0 rfl) (HCr.out.cell 1 rfl)
          clear hk hk'
          go_wp2_with fail
          refine hK.out _ _ hS (fun _ => ?_)
          clear hK K
          refine wpAnyH_ready (rs := [11]) (by kernel_rfl) (by simp) ?_
          refine (AllReadyH.cons (o := _) rfl (fun K hK => ?_) AllReadyH.nil)
          obtain ⟨gb, hgb⟩ : ∃ g, g = wx3.heap.size := ⟨_, rfl⟩
          obtain ⟨wx4, hwx⟩ : ∃ W, W = wx3.alloc (.cells #[.int .u8 0, .int .u32 0, .int .u64 0, .int .i64 0, .int .i64 0] 36) := ⟨_, rfl⟩
          have HGnb := Lib.hid (show w5.heap.size ≤ gb from by rw [hgb]; exact HKr.out.size)
          have HKr : Hid (Keeps NoBlock w5 wx4) := Lib.hid (by rw [hwx]; exact HKr.out.alloc _)
          have HCr : Hid (Whole wx4 w3.heap.size 27 (confCells e s)) := Lib.hid (by rw [hwx]; exact HCr.out.alloc _)
          have HNe := Lib.hid (show ga ≠ gb from fun h => by have := HRa.out.lt; omega)
          have HRa : Hid (Whole wx4 ga 36 (room14Cells Rm.none)) := Lib.hid (by rw [hwx]; exact HRa.out.alloc _)
          have HRb : Hid (Whole wx4 gb 36 (room14Cells Rm.none)) := Lib.hid (by rw [hwx, hgb]; exact Whole.new _ _ _)
          have hS : (fun w' : World => w'.cell? ⟨w3.heap.size, 0, none⟩ = some (.int .u8 (e : Int)) ∧ w'.cell? ⟨w3.heap.size, 1, none⟩ = some (.int .u32 (s : Int))) wx4 := And.intro (HCr.out.cell 0 rfl) (HCr.out.cell 1 rfl)
          go_simp
          rw [← hwx, ← hgb]
          refine hK.out _ _ hS (fun _ => ?_)
          clear hK K hwx hgb
          refine wpAnyH_ready (rs := [12]) (by kernel_rfl) (by simp) ?_
          refine (AllReadyH.cons (o := _) rfl (fun K hK => ?_) AllReadyH.nil)
          obtain ⟨z0, z1, z2, z3, z4⟩ := room14_at HRa.out
          obtain ⟨q0, q1, q2, q3, q4⟩ := room_free HRa.out
          obtain ⟨wx5, hwx⟩ : ∃ W, W = ((((wx4.setCell ⟨ga, 0, none⟩ (.int .u8 (e : Int))).setCell ⟨ga, 1, none⟩ (.int .u32 (s : Int))).setCell ⟨ga, 2, none⟩ (.int .u64 (num : Int))).setCell ⟨ga, 3, none⟩ (.int .i64 (H1 : Int))).setCell ⟨ga, 4, none⟩ (.int .i64 0) := ⟨_, rfl⟩
          have HKr : Hid (Keeps NoBlock w5 wx5) := Lib.hid (by rw [hwx]; exact HKr.out.new5 HGna.out _ _ _ _ _)
          have HCr : Hid (Whole wx5 w3.heap.size 27 (confCells e s)) := Lib.hid (by rw [hwx]; exact HCr.out.far5 (fun h => by have := HGna.out; have := HC5.out.lt; omega) _ _ _ _ _)
          have HRb : Hid (Whole wx5 gb 36 (room14Cells Rm.none)) := Lib.hid (by rw [hwx]; exact HRb.out.far5 (fun h => HNe.out (by omega)) _ _ _ _ _)
          have HRa : Hid (Whole wx5 ga 36 (room14Cells (emptyP e s num))) := Lib.hid (by rw [hwx]; unfold emptyP room14Cells; rw [← HH.out.1]; exact HRa.out.set5 _ _ _ _ _)
          have hS : (fun w' : World => w'.cell? ⟨w3.heap.size, 0, none⟩ = some (.int .u8 (e : Int)) ∧ w'.cell? ⟨w3.heap.size, 1, none⟩ = some (.int .u32 (s : Int))) wx5 := And.intro (HCr.out.cell 0 rfl) (HCr.out.cell 1 rfl)
          go_simp
          rw [← hwx]
          refine hK.out _ _ hS (fun _ => ?_)
          clear hK K hwx z0 z1 z2 z3 z4 q0 q1 q2 q3 q4
          refine wpAnyH_ready (rs := [13]) (by kernel_rfl) (by simp) ?_
          refine (AllReadyH.cons (o := _) rfl (fun K hK => ?_) AllReadyH.nil)
          obtain ⟨z0, z1, z2, z3, z4⟩ := room14_at HRb.out
          obtain ⟨q0, q1, q2, q3, q4⟩ := room_free HRb.out
          obtain ⟨wx6, hwx⟩ : ∃ W, W = ((((wx5.setCell ⟨gb, 0, none⟩ (.int .u8 (e : Int))).setCell ⟨gb, 1, none⟩ (.int .u32 (s : Int))).setCell ⟨gb, 2, none⟩ (.int .u64 (s1 : Int))).setCell ⟨gb, 3, none⟩ (.int .i64 (H2 : Int))).setCell ⟨gb, 4, none⟩ (.int .i64 0) := ⟨_, rfl⟩
          have HKr : Hid (Keeps NoBlock w5 wx6) := Lib.hid (by rw [hwx]; exact HKr.out.new5 HGnb.out _ _ _ _ _)
          have HCr : Hid (Whole wx6 w3.heap.size 27 (confCells e s)) := Lib.hid (by rw [hwx]; exact HCr.out.far5 (fun h => by have := HGnb.out; have := HC5.out.lt; omega) _ _ _ _ _)
          have HRa : Hid (Whole wx6 ga 36 (room14Cells (emptyP e s num))) := Lib.hid (by rw [hwx]; exact HRa.out.far5 (fun h => HNe.out (by omega)) _ _ _ _ _)
          have HRb : Hid (Whole wx6 gb 36 (room14Cells (emptyP e s s1))) := Lib.hid (by rw [hwx]; unfold emptyP room14Cells; rw [← HH.out.2]; exact HRb.out.set5 _ _ _ _ _)
          have hS : (fun w' : World => w'.cell? ⟨w3.heap.size, 0, none⟩ = some (.int .u8 (e : Int)) ∧ w'.cell? ⟨w3.heap.size, 1, none⟩ = some (.int .u32 (s : Int))) wx6 := And.intro (HCr.out.cell 0 rfl) (HCr.out.cell 1 rfl)
          go_simp
          rw [← hwx]
          refine hK.out _ _ hS (fun _ => ?_)
          clear hK K hwx z0 z1 z2 z3 z4 q0 q1 q2 q3 q4
          refine wpAnyH_done (by kernel_rfl) ?_ _
          go_wp2_with fail
          go_meet
          case rel => exact ⟨ga, gb, rfl, rfl, HKr, HRa, HRb, Lib.hid ⟨HNe.out, HGna.out, HGnb.out⟩⟩
        · obtain ⟨gb, hgb⟩ : ∃ g, g = wx2.heap.size := ⟨_, rfl⟩
          obtain ⟨wx3, hwx⟩ : ∃ W, W = wx2.alloc (.cells #[.int .u8 0, .int .u32 0, .int .u64 0, .int .i64 0, .int .i64 0] 36) := ⟨_, rfl⟩
          have HGnb := Lib.hid (show w5.heap.size ≤ gb from by rw [hgb]; exact HKr.out.size)
          have HKr : Hid (Keeps NoBlock w5 wx3) := Lib.hid (by rw [hwx]; exact HKr.out.alloc _)
          have HCr : Hid (Whole wx3 w3.heap.size 27 (confCells e s)) := Lib.hid (by rw [hwx]; exact HCr.out.alloc _)
          have HNe := Lib.hid (show ga ≠ gb from fun h => by have := HRa.out.lt; omega)
          have HRa : Hid (Whole wx3 ga 36 (room14Cells Rm.none)) := Lib.hid (by rw [hwx]; exact HRa.out.alloc _)
          have HRb : Hid (Whole wx3 gb 36 (room14Cells Rm.none)) := Lib.hid (by rw [hwx, hgb]; exact Whole.new _ _ _)
          have hS : (fun w' : World => w'.cell? ⟨w3.heap.size, 0, none⟩ = some (.int .u8 (e : Int)) ∧ w'.cell? ⟨w3.heap.size, 1, none⟩ = some (.int .u32 (s : Int))) wx3 := And.intro (HCr.out.cell 0 rfl) (HCr.out.cell 1 rfl)
          go_simp
          rw [← hwx, ← hgb]
          refine hK.out _ _ hS (fun _ => ?_)
          clear hK K hwx hgb
          refine wpAnyH_ready (rs := [9]) (by kernel_rfl) (by simp) ?_
          refine (AllReadyH.cons (o := _) rfl (fun K hK => ?_) AllReadyH.nil)
          go_simp
          refine (HE2.out _).mono ?_
          rintro e9 wx4 ⟨rfl, hk⟩
          have hk' : Keeps NoBlock wx3 wx4 := by first | exact hk | exact hk.ofDrew | exact hk.ofDrewN
          have HKr := Lib.hid (HKr.out.trans hk')
          have HCr := Lib.hid (HCr.out.keep hk' (fun h => h))
          have HRa := Lib.hid (HRa.out.keep hk' (fun h => h))
          have HRb := Lib.hid (HRb.out.keep hk' (fun h => h))
          have hS : (fun w' : World => w'.cell? ⟨w3.heap.size, 0, none⟩ = some (.int .u8 (e : Int)) ∧ w'.cell? ⟨w3.heap.size, 1, none⟩ = some (.int .u32 (s : Int))) wx4 := And.intro (HCr.out.cell 0 rfl) (HCr.out.cell 1 rfl)
          clear hk hk'
          go_wp2_with fail
          refine hK.out _ _ hS (fun _ => ?_)
          clear hK K
          refine wpAnyH_ready (rs := [12]) (by kernel_rfl) (by simp) ?_
          refine (AllReadyH.cons (o := _) rfl (fun K hK => ?_) AllReadyH.nil)
          obtain ⟨z0, z1, z2, z3, z4⟩ := room14_at HRa.out
          obtain ⟨q0, q1, q2, q3, q4⟩ := room_free HRa.out
          obtain ⟨wx5, hwx⟩ : ∃ W, W = ((((wx4.setCell ⟨ga, 0, none⟩ (.int .u8 (e : Int))).setCell ⟨ga, 1, none⟩ (.int .u32 (s : Int))).setCell ⟨ga, 2, none⟩ (.int .u64 (num : Int))).setCell ⟨ga, 3, none⟩ (.int .i64 (H1 : Int))).setCell ⟨ga, 4, none⟩ (.int .i64 0) := ⟨_, rfl⟩
          have HKr : Hid (Keeps NoBlock w5 wx5) := Lib.hid (by rw [hwx]; exact HKr.out.new5 HGna.out _ _ _ _ _)
          have HCr : Hid (Whole wx5 w3.heap.size 27 (confCells e s)) := Lib.hid (by rw [hwx]; exact HCr.out.far5 (fun h => by have := HGna.out; have := HC5.out.lt; omega) _ _ _ _ _)
          have HRb : Hid (Whole wx5 gb 36 (room14Cells Rm.none)) := Lib.hid (by rw [hwx]; exact HRb.out.far5 (fun h => HNe.out (by omega)) _ _ _ _ _)
          have HRa : Hid (Whole wx5 ga 36 (room14Cells (emptyP e s num))) := Lib.hid (by rw [hwx]; unfold emptyP room14Cells; rw [← HH.out.1]; exact HRa.out.set5 _ _ _ _ _)
          have hS : (fun w' : World => w'.cell? ⟨w3.heap.size, 0, none⟩ = some (.int .u8 (e : Int)) ∧ w'.cell? ⟨w3.heap.size, 1, none⟩ = some (.int .u32 (s : Int))) wx5 := And.intro (HCr.out.cell 0 rfl) (HCr.out.cell 1 rfl)
          go_simp
          rw [← hwx]
          refine hK.out _ _ hS (fun _ => ?_)
          clear hK K hwx z0 z1 z2 z3 z4 q0 q1 q2 q3 q4
          refine wpAnyH_ready (rs := [13]) (by kernel_rfl) (by simp) ?_
          refine (AllReadyH.cons (o := _) rfl (fun K hK => ?_) AllReadyH.nil)
          obtain ⟨z0, z1, z2, z3, z4⟩ := room14_at HRb.out
          obtain ⟨q0, q1, q2, q3, q4⟩ := room_free HRb.out
          obtain ⟨wx6, hwx⟩ : ∃ W, W = ((((wx5.setCell ⟨gb, 0, none⟩ (.int .u8 (e : Int))).setCell ⟨gb, 1, none⟩ (.int .u32 (s : Int))).setCell ⟨gb, 2, none⟩ (.int .u64 (s1 : Int))).setCell ⟨gb, 3, none⟩ (.int .i64 (H2 : Int))).setCell ⟨gb, 4, none⟩ (.int .i64 0) := ⟨_, rfl⟩
          have HKr : Hid (Keeps NoBlock w5 wx6) := Lib.hid (by rw [hwx]; exact HKr.out.new5 HGnb.out _ _ _ _ _)
          have HCr : Hid (Whole wx6 w3.heap.size 27 (confCells e s)) := Lib.hid (by rw [hwx]; exact HCr.out.far5 (fun h => by have := HGnb.out; have := HC5.out.lt; omega) _ _ _ _ _)
          have HRa : Hid (Whole wx6 ga 36 (room14Cells (emptyP e s num))) := Lib.hid (by rw [hwx]; exact HRa.out.far5 (fun h => HNe.out (by omega)) _ _ _ _ _)
          have HRb : Hid (Whole wx6 gb 36 (room14Cells (emptyP e s s1))) := Lib.hid (by rw [hwx]; unfold emptyP room14Cells; rw [← HH.out.2]; exact HRb.out.set5 _ _ _ _ _)
          have hS : (fun w' : World => w'.cell? ⟨w3.heap.size, 0, none⟩ = some (.int .u8 (e : Int)) ∧ w'.cell? ⟨w3.heap.size, 1, none⟩ = some (.int .u32 (s : Int))) wx6 := And.intro (HCr.out.cell 0 rfl) (HCr.out.cell 1 rfl)
          go_simp
          rw [← hwx]
          refine hK.out _ _ hS (fun _ => ?_)
          clear hK K hwx z0 z1 z2 z3 z4 q0 q1 q2 q3 q4
          refine wpAnyH_done (by kernel_rfl) ?_ _
          go_wp2_with fail
          go_meet
          case rel => exact ⟨ga, gb, rfl, rfl, HKr, HRa, HRb, Lib.hid ⟨HNe.out, HGna.out, HGnb.out⟩⟩
      · obtain ⟨gb, hgb⟩ : ∃ g, g = wx1.heap.size := ⟨_, rfl⟩
        obtain ⟨wx2, hwx⟩ : ∃ W, W = wx1.alloc (.cells #[.int .u8 0, .int .u32 0, .int .u64 0, .int .i64 0, .int .i64 0] 36) := ⟨_, rfl⟩
        have HGnb := Lib.hid (show w5.heap.size ≤ gb from by rw [hgb]; exact HKr.out.size)
        have HKr : Hid (Keeps NoBlock w5 wx2) := Lib.hid (by rw [hwx]; exact HKr.out.alloc _)
        have HCr : Hid (Whole wx2 w3.heap.size 27 (confCells e s)) := Lib.hid (by rw [hwx]; exact HCr.out.alloc _)
        have HNe := Lib.hid (show ga ≠ gb from fun h => by have := HRa.out.lt; omega)
        have HRa : Hid (Whole wx2 ga 36 (room14Cells Rm.none)) := Lib.hid (by rw [hwx]; exact HRa.out.alloc _)
        have HRb : Hid (Whole wx2 gb 36 (room14Cells Rm.none)) := Lib.hid (by rw [hwx, hgb]; exact Whole.new _ _ _)
        have hS : (fun w' : World => w'.cell? ⟨w3.heap.size, 0, none⟩ = some (.int .u8 (e : Int)) ∧ w'.cell? ⟨w3.heap.size, 1, none⟩ = some (.int .u32 (s : Int))) wx2 := And.intro (HCr.out.cell 0 rfl) (HCr.out.cell 1 rfl)
        go_simp
        rw [← hwx, ← hgb]
        refine hK.out _ _ hS (fun _ => ?_)
        clear hK K hwx hgb
        refine wpAnyH_ready (rs := [3]) (by kernel_rfl) (by simp) ?_
        refine (AllReadyH.cons (o := _) rfl (fun K hK => ?_) AllReadyH.nil)
        go_simp
        refine (HE1.out _).mono ?_
        rintro e9 wx3 ⟨rfl, hk⟩
        have hk' : Keeps NoBlock wx2 wx3 := by first | exact hk | exact hk.ofDrew | exact hk.ofDrewN
        have HKr := Lib.hid (HKr.out.trans hk')
        have HCr := Lib.hid (HCr.out.keep hk' (fun h => h))
        have HRa := Lib.hid (HRa.out.keep hk' (fun h => h))
        have HRb := Lib.hid (HRb.out.keep hk' (fun h => h))
        have hS : (fun w' : World => w'.cell? ⟨w3.heap.size, 0, none⟩ = some (.int .u8 (e : Int)) ∧ w'.cell? ⟨w3.heap.size, 1, none⟩ = some (.int .u32 (s : Int))) wx3 := And.intro (HCr.out.cell 0 rfl) (HCr.out.cell 1 rfl)
        clear hk hk'
        go_wp2_with fail
        refine hK.out _ _ hS (fun _ => ?_)
        clear hK K
        refine wpAnyH_ready (rs := [9]) (by kernel_rfl) (by simp) ?_
        refine (AllReadyH.cons (o := _) rfl (fun K hK => ?_) AllReadyH.nil)
        go_simp
        refine (HE2.out _).mono ?_
        rintro e9 wx4 ⟨rfl, hk⟩
        have hk' : Keeps NoBlock wx3 wx4 := by first | exact hk | exact hk.ofDrew | exact hk.ofDrewN
        have HKr := Lib.hid (HKr.out.trans hk')
        have HCr := Lib.hid (HCr.out.keep hk' (fun h => h))
        have HRa := Lib.hid (HRa.out.keep hk' (fun h => h))
        have HRb := Lib.hid (HRb.out.keep hk' (fun h => h))
        have hS : (fun w' : World => w'.cell? ⟨w3.heap.size, 0, none⟩ = some (.int .u8 (e : Int)) ∧ w'.cell? ⟨w3.heap.size, 1, none⟩ = some (.int .u32 (s : Int))) wx4 := And.intro (HCr.out.cell 0 rfl) (HCr.out.cell 1 rfl)
        clear hk hk'
        go_wp2_with fail
        refine hK.out _ _ hS (fun _ => ?_)
        clear hK K
        refine wpAnyH_ready (rs := [12]) (by kernel_rfl) (by simp) ?_
        refine (AllReadyH.cons (o := _) rfl (fun K hK => ?_) AllReadyH.nil)
        obtain ⟨z0, z1, z2, z3, z4⟩ := room14_at HRa.out
        obtain ⟨q0, q1, q2, q3, q4⟩ := room_free HRa.out
        obtain ⟨wx5, hwx⟩ : ∃ W, W = ((((wx4.setCell ⟨ga, 0, none⟩ (.int .u8 (e : Int))).setCell ⟨ga, 1, none⟩ (.int .u32 (s : Int))).setCell ⟨ga, 2, none⟩ (.int .u64 (num : Int))).setCell ⟨ga, 3, none⟩ (.int .i64 (H1 : Int))).setCell ⟨ga, 4, none⟩ (.int .i64 0) := ⟨_, rfl⟩
        have HKr : Hid (Keeps NoBlock w5 wx5) := Lib.hid (by rw [hwx]; exact HKr.out.new5 HGna.out _ _ _ _ _)
        have HCr : Hid (Whole wx5 w3.heap.size 27 (confCells e s)) := Lib.hid (by rw [hwx]; exact HCr.out.far5 (fun h => by have := HGna.out; have := HC5.out.lt; omega) _ _ _ _ _)
        have HRb : Hid (Whole wx5 gb 36 (room14Cells Rm.none)) := Lib.hid (by rw [hwx]; exact HRb.out.far5 (fun h => HNe.out (by omega)) _ _ _ _ _)
        have HRa : Hid (Whole wx5 ga 36 (room14Cells (emptyP e s num))) := Lib.hid (by rw [hwx]; unfold emptyP room14Cells; rw [← HH.out.1]; exact HRa.out.set5 _ _ _ _ _)
        have hS : (fun w' : World => w'.cell? ⟨w3.heap.size, 0, none⟩ = some (.int .u8 (e : Int)) ∧ w'.cell? ⟨w3.heap.size, 1, none⟩ = some (.int .u32 (s : Int))) wx5 := And.intro (HCr.out.cell 0 rfl) (HCr.out.cell 1 rfl)
        go_simp
        rw [← hwx]
        refine hK.out _ _ hS (fun _ => ?_)
        clear hK K hwx z0 z1 z2 z3 z4 q0 q1 q2 q3 q4
        refine wpAnyH_ready (rs := [13]) (by kernel_rfl) (by simp) ?_
        refine (AllReadyH.cons (o := _) rfl (fun K hK => ?_) AllReadyH.nil)
        obtain ⟨z0, z1, z2, z3, z4⟩ := room14_at HRb.out
        obtain ⟨q0, q1, q2, q3, q4⟩ := room_free HRb.out
        obtain ⟨wx6, hwx⟩ : ∃ W, W = ((((wx5.setCell ⟨gb, 0, none⟩ (.int .u8 (e : Int))).setCell ⟨gb, 1, none⟩ (.int .u32 (s : Int))).setCell ⟨gb, 2, none⟩ (.int .u64 (s1 : Int))).setCell ⟨gb, 3, none⟩ (.int .i64 (H2 : Int))).setCell ⟨gb, 4, none⟩ (.int .i64 0) := ⟨_, rfl⟩
        have HKr : Hid (Keeps NoBlock w5 wx6) := Lib.hid (by rw [hwx]; exact HKr.out.new5 HGnb.out _ _ _ _ _)
        have HCr : Hid (Whole wx6 w3.heap.size 27 (confCells e s)) := Lib.hid (by rw [hwx]; exact HCr.out.far5 (fun h => by have := HGnb.out; have := HC5.out.lt; omega) _ _ _ _ _)
        have HRa : Hid (Whole wx6 ga 36 (room14Cells (emptyP e s num))) := Lib.hid (by rw [hwx]; exact HRa.out.far5 (fun h => HNe.out (by omega)) _ _ _ _ _)
        have HRb : Hid (Whole wx6 gb 36 (room14Cells (emptyP e s s1))) := Lib.hid (by rw [hwx]; unfold emptyP room14Cells; rw [← HH.out.2]; exact HRb.out.set5 _ _ _ _ _)
        have hS : (fun w' : World => w'.cell? ⟨w3.heap.size, 0, none⟩ = some (.int .u8 (e : Int)) ∧ w'.cell? ⟨w3.heap.size, 1, none⟩ = some (.int .u32 (s : Int))) wx6 := And.intro (HCr.out.cell 0 rfl) (HCr.out.cell 1 rfl)
        go_simp
        rw [← hwx]
        refine hK.out _ _ hS (fun _ => ?_)
        clear hK K hwx z0 z1 z2 z3 z4 q0 q1 q2 q3 q4
        refine wpAnyH_done (by kernel_rfl) ?_ _
        go_wp2_with fail
        go_meet
        case rel => exact ⟨ga, gb, rfl, rfl, HKr, HRa, HRb, Lib.hid ⟨HNe.out, HGna.out, HGnb.out⟩⟩
    · obtain ⟨gb, hgb⟩ : ∃ g, g = wx0.heap.size := ⟨_, rfl⟩
      obtain ⟨wx1, hwx⟩ : ∃ W, W = wx0.alloc (.cells #[.int .u8 0, .int .u32 0, .int .u64 0, .int .i64 0, .int .i64 0] 36) := ⟨_, rfl⟩
      have HGnb := Lib.hid (show w5.heap.size ≤ gb from by rw [hgb]; exact HKr.out.size)
      have HKr : Hid (Keeps NoBlock w5 wx1) := Lib.hid (by rw [hwx]; exact HKr.out.alloc _)
      have HCr : Hid (Whole wx1 w3.heap.size 27 (confCells e s)) := Lib.hid (by rw [hwx]; exact HCr.out.alloc _)
      have HRb : Hid (Whole wx1 gb 36 (room14Cells Rm.none)) := Lib.hid (by rw [hwx, hgb]; exact Whole.new _ _ _)
      have hS : (fun w' : World => w'.cell? ⟨w3.heap.size, 0, none⟩ = some (.int .u8 (e : Int)) ∧ w'.cell? ⟨w3.heap.size, 1, none⟩ = some (.int .u32 (s : Int))) wx1 := And.intro (HCr.out.cell 0 rfl) (HCr.out.cell 1 rfl)
      go_simp
      rw [← hwx, ← hgb]
      refine hK.out _ _ hS (fun _ => ?_)
      clear hK K hwx hgb
      refine wpAnyH_ready (rs := [3, 10]) (by kernel_rfl) (by simp) ?_
      refine (AllReadyH.cons (o := _) rfl (fun K hK => ?_) (AllReadyH.cons (o := _) rfl (fun K hK => ?_) AllReadyH.nil))
      · go_simp
        refine (HE1.out _).mono ?_
        rintro e9 wx2 ⟨rfl, hk⟩
        have hk' : Keeps NoBlock wx1 wx2 := by first | exact hk | exact hk.ofDrew | exact hk.ofDrewN
        have HKr := Lib.hid (HKr.out.trans hk')
        have HCr := Lib.hid (HCr.out.keep hk' (fun h => h))
        have HRb := Lib.hid (HRb.out.keep hk' (fun h => h))
        have hS : (fun w' : World => w'.cell? ⟨w3.heap.size, 0, none⟩ = some (.int .u8 (e : Int)) ∧ w'.cell? ⟨w3.heap.size, 1, none⟩ = some (.int .u32 (s : Int))) wx2 := And.intro (HCr.out.cell 0 rfl) (HCr.out.cell 1 rfl)
        clear hk hk'
        go_wp2_with fail
        refine hK.out _ _ hS (fun _ => ?_)
        clear hK K
        refine wpAnyH_ready (rs := [9, 10]) (by kernel_rfl) (by simp) ?_
        refine (AllReadyH.cons (o := _) rfl (fun K hK => ?_) (AllReadyH.cons (o := _) rfl (fun K hK => ?_) AllReadyH.nil))
        · go_simp
          refine (HE2.out _).mono ?_
          rintro e9 wx3 ⟨rfl, hk⟩
          have hk' : Keeps NoBlock wx2 wx3 := by first | exact hk | exact hk.ofDrew | exact hk.ofDrewN
          have HKr := Lib.hid (HKr.out.trans hk')
          have HCr := Lib.hid (HCr.out.keep hk' (fun h => h))
          have HRb := Lib.hid (HRb.out.keep hk' (fun h => h))
          have hS : (fun w' : World => w'.cell? ⟨w3.heap.size, 0, none⟩ = some (.int .u8 (e : Int)) ∧ w'.cell? ⟨w3.heap.size, 1, none⟩ = some (.int .u32 (s : Int))) wx3 := And.intro (HCr.out.cell 0 rfl) (HCr.out.cell 1 rfl)
          clear hk hk'
          go_wp2_with fail
          refine hK.out _ _ hS (fun _ => ?_)
          clear hK K
          refine wpAnyH_ready (rs := [10]) (by kernel_rfl) (by simp) ?_
          refine (AllReadyH.cons (o := _) rfl (fun K hK => ?_) AllReadyH.nil)
          obtain ⟨ga, hga⟩ : ∃ g, g = wx3.heap.size := ⟨_, rfl⟩
          obtain ⟨wx4, hwx⟩ : ∃ W, W = wx3.alloc (.cells #[.int .u8 0, .int .u32 0, .int .u64 0, .int .i64 0, .int .i64 0] 36) := ⟨_, rfl⟩
          have HGna := Lib.hid (show w5.heap.size ≤ ga from by rw [hga]; exact HKr.out.size)
          have HKr : Hid (Keeps NoBlock w5 wx4) := Lib.hid (by rw [hwx]; exact HKr.out.alloc _)
          have HCr : Hid (Whole wx4 w3.heap.size 27 (confCells e s)) := Lib.hid (by rw [hwx]; exact HCr.out.alloc _)
          have HNe := Lib.hid (show ga ≠ gb from fun h => by have := HRb.out.lt; omega)
          have HRb : Hid (Whole wx4 gb 36 (room14Cells Rm.none)) := Lib.hid (by rw [hwx]; exact HRb.out.alloc _)
          have HRa : Hid (Whole wx4 ga 36 (room14Cells Rm.none)) := Lib.hid (by rw [hwx, hga]; exact Whole.new _ _ _)
          have hS : (fun w' : World => w'.cell? ⟨w3.heap.size, 0, none⟩ = some (.int .u8 (e : Int)) ∧ w'.cell? ⟨w3.heap.size, 1, none⟩ = some (.int .u32 (s : Int))) wx4 := And.intro (HCr.out.cell 0 rfl) (HCr.out.cell 1 rfl)
          go_simp
          rw [← hwx, ← hga]
          refine hK.out _ _ hS (fun _ => ?_)
          clear hK K hwx hga
          refine wpAnyH_ready (rs := [12]) (by kernel_rfl) (by simp) ?_
          refine (AllReadyH.cons (o := _) rfl (fun K hK => ?_) AllReadyH.nil)
          obtain ⟨z0, z1, z2, z3, z4⟩ := room14_at HRa.out
          obtain ⟨q0, q1, q2, q3, q4⟩ := room_free HRa.out
          obtain ⟨wx5, hwx⟩ : ∃ W, W = ((((wx4.setCell ⟨ga, 0, none⟩ (.int .u8 (e : Int))).setCell ⟨ga, 1, none⟩ (.int .u32 (s : Int))).setCell ⟨ga, 2, none⟩ (.int .u64 (num : Int))).setCell ⟨ga, 3, none⟩ (.int .i64 (H1 : Int))).setCell ⟨ga, 4, none⟩ (.int .i64 0) := ⟨_, rfl⟩
          have HKr : Hid (Keeps NoBlock w5 wx5) := Lib.hid (by rw [hwx]; exact HKr.out.new5 HGna.out _ _ _ _ _)
          have HCr : Hid (Whole wx5 w3.heap.size 27 (confCells e s)) := Lib.hid (by rw [hwx]; exact HCr.out.far5 (fun h => by have := HGna.out; have := HC5.out.lt; omega) _ _ _ _ _)
          have HRb : Hid (Whole wx5 gb 36 (room14Cells Rm.none)) := Lib.hid (by rw [hwx]; exact HRb.out.far5 (fun h => HNe.out (by omega)) _ _ _ _ _)
          have HRa : Hid (Whole wx5 ga 36 (room14Cells (emptyP e s num))) := Lib.hid (by rw [hwx]; unfold emptyP room14Cells; rw [← HH.out.1]; exact HRa.out.set5 _ _ _ _ _)
          have hS : (fun w' : World => w'.cell? ⟨w3.heap.size, 0, none⟩ = some (.int .u8 (e : Int)) ∧ w'.cell? ⟨w3.heap.size, 1, none⟩ = some (.int .u32 (s : Int))) wx5 := And.intro (HCr.out.cell 0 rfl) (HCr.out.cell 1 rfl)
          go_simp
          rw [← hwx]
          refine hK.out _ _ hS (fun _ => ?_)
          clear hK K hwx z0 z1 z2 z3 z4 q0 q1 q2 q3 q4
          refine wpAnyH_ready (rs := [13]) (by kernel_rfl) (by simp) ?_
          refine (AllReadyH.cons (o := _) rfl (fun K hK => ?_) AllReadyH.nil)
          obtain ⟨z0, z1, z2, z3, z4⟩ := room14_at HRb.out
          obtain ⟨q0, q1, q2, q3, q4⟩ := room_free HRb.out
          obtain ⟨wx6, hwx⟩ : ∃ W, W = ((((wx5.setCell ⟨gb, 0, none⟩ (.int .u8 (e : Int))).setCell ⟨gb, 1, none⟩ (.int .u32 (s : Int))).setCell ⟨gb, 2, none⟩ (.int .u64 (s1 : Int))).setCell ⟨gb, 3, none⟩ (.int .i64 (H2 : Int))).setCell ⟨gb, 4, none⟩ (.int .i64 0) := ⟨_, rfl⟩
          have HKr : Hid (Keeps NoBlock w5 wx6) := Lib.hid (by rw [hwx]; exact HKr.out.new5 HGnb.out _ _ _ _ _)
          have HCr : Hid (Whole wx6 w3.heap.size 27 (confCells e s)) := Lib.hid (by rw [hwx]; exact HCr.out.far5 (fun h => by have := HGnb.out; have := HC5.out.lt; omega) _ _ _ _ _)
          have HRa : Hid (Whole wx6 ga 36 (room14Cells (emptyP e s num))) := Lib.hid (by rw [hwx]; exact HRa.out.far5 (fun h => HNe.out (by omega)) _ _ _ _ _)
          have HRb : Hid (Whole wx6 gb 36 (room14Cells (emptyP e s s1))) := Lib.hid (by rw [hwx]; unfold emptyP room14Cells; rw [← HH.out.2]; exact HRb.out.set5 _ _ _ _ _)
          have hS : (fun w' : World => w'.cell? ⟨w3.heap.size, 0, none⟩ = some (.int .u8 (e : Int)) ∧ w'.cell? ⟨w3.heap.size, 1, none⟩ = some (.int .u32 (s : Int))) wx6 := And.intro (HCr.out.cell 0 rfl) (HCr.out.cell 1 rfl)
          go_simp
          rw [← hwx]
          refine hK.out _ _ hS (fun _ => ?_)
          clear hK K hwx z0 z1 z2 z3 z4 q0 q1 q2 q3 q4
          refine wpAnyH_done (by kernel_rfl) ?_ _
          go_wp2_with fail
          go_meet
          case rel => exact ⟨ga, gb, rfl, rfl, HKr, HRa, HRb, Lib.hid ⟨HNe.out, HGna.out, HGnb.out⟩⟩
        · obtain ⟨ga, hga⟩ : ∃ g, g = wx2.heap.size := ⟨_, rfl⟩
          obtain ⟨wx3, hwx⟩ : ∃ W, W = wx2.alloc (.cells #[.int .u8 0, .int .u32 0, .int .u64 0, .int .i64 0, .int .i64 0] 36) := ⟨_, rfl⟩
          have HGna := Lib.hid (show w5.heap.size ≤ ga from by rw [hga]; exact HKr.out.size)
          have HKr : Hid (Keeps NoBlock w5 wx3) := Lib.hid (by rw [hwx]; exact HKr.out.alloc _)
          have HCr : Hid (Whole wx3 w3.heap.size 27 (confCells e s)) := Lib.hid (by rw [hwx]; exact HCr.out.alloc _)
          have HNe := Lib.hid (show ga ≠ gb from fun h => by have := HRb.out.lt; omega)
          have HRb : Hid (Whole wx3 gb 36 (room14Cells Rm.none)) := Lib.hid (by rw [hwx]; exact HRb.out.alloc _)
          have HRa : Hid (Whole wx3 ga 36 (room14Cells Rm.none)) := Lib.hid (by rw [hwx, hga]; exact Whole.new _ _ _)
          have hS : (fun w' : World => w'.cell? ⟨w3.heap.size, 0, none⟩ = some (.int .u8 (e : Int)) ∧ w'.cell? ⟨w3.heap.size, 1, none⟩ = some (.int .u32 (s : Int))) wx3 := And.intro (HCr.out.cell 0 rfl) (HCr.out.cell 1 rfl)
          go_simp
          rw [← hwx, ← hga]
          refine hK.out _ _ hS (fun _ => ?_)
          clear hK K hwx hga
          refine wpAnyH_ready (rs := [9]) (by kernel_rfl) (by simp) ?_
          refine (AllReadyH.cons (o := _) rfl (fun K hK => ?_) AllReadyH.nil)
          go_simp
          refine (HE2.out _).mono ?_
          rintro e9 wx4 ⟨rfl, hk⟩
          have hk' : Keeps NoBlock wx3 wx4 := by first | exact hk | exact hk.ofDrew | exact hk.ofDrewN
          have HKr := Lib.hid (HKr.out.trans hk')
          have HCr := Lib.hid (HCr.out.keep hk' (fun h => h))
          have HRa := Lib.hid (HRa.out.keep hk' (fun h => h))
          have HRb := Lib.hid (HRb.out.keep hk' (fun h => h))
          have hS : (fun w' : World => w'.cell? ⟨w3.heap.size, 0, none⟩ = some (.int .u8 (e : Int)) ∧ w'.cell? ⟨w3.heap.size, 1, none⟩ = some (.int .u32 (s : Int))) wx4 := And.intro (HCr.out.cell 0 rfl) (HCr.out.cell 1 rfl)
          clear hk hk'
          go_wp2_with fail
          refine hK.out _ _ hS (fun _ => ?_)
          clear hK K
          refine wpAnyH_ready (rs := [12]) (by kernel_rfl) (by simp) ?_
          refine (AllReadyH.cons (o := _) rfl (fun K hK => ?_) AllReadyH.nil)
          obtain ⟨z0, z1, z2, z3, z4⟩ := room14_at HRa.out
          obtain ⟨q0, q1, q2, q3, q4⟩ := room_free HRa.out
          obtain ⟨wx5, hwx⟩ : ∃ W, W = ((((wx4.setCell ⟨ga, 0, none⟩ (.int .u8 (e : Int))).setCell ⟨ga, 1, none⟩ (.int .u32 (s : Int))).setCell ⟨ga, 2, none⟩ (.int .u64 (num : Int))).setCell ⟨ga, 3, none⟩ (.int .i64 (H1 : Int))).setCell ⟨ga, 4, none⟩ (.int .i64 0) := ⟨_, rfl⟩
          have HKr : Hid (Keeps NoBlock w5 wx5) := Lib.hid (by rw [hwx]; exact HKr.out.new5 HGna.out _ _ _ _ _)
          have HCr : Hid (Whole wx5 w3.heap.size 27 (confCells e s)) := Lib.hid (by rw [hwx]; exact HCr.out.far5 (fun h => by have := HGna.out; have := HC5.out.lt; omega) _ _ _ _ _)
          have HRb : Hid (Whole wx5 gb 36 (room14Cells Rm.none)) := Lib.hid (by rw [hwx]; exact HRb.out.far5 (fun h => HNe.out (by omega)) _ _ _ _ _)
          have HRa : Hid (Whole wx5 ga 36 (room14Cells (emptyP e s num))) := Lib.hid (by rw [hwx]; unfold emptyP room14Cells; rw [← HH.out.1]; exact HRa.out.set5 _ _ _ _ _)
          have hS : (fun w' : World => w'.cell? ⟨w3.heap.size, 0, none⟩ = some (.int .u8 (e : Int)) ∧ w'.cell? ⟨w3.heap.size, 1, none⟩ = some (.int .u32 (s : Int))) wx5 := And.intro (HCr.out.cell 0 rfl) (HCr.out.cell 1 rfl)
          go_simp
          rw [← hwx]
          refine hK.out _ _ hS (fun _ => ?_)
          clear hK K hwx z0 z1 z2 z3 z4 q0 q1 q2 q3 q4
          refine wpAnyH_ready (rs := [13]) (by kernel_rfl) (by simp) ?_
          refine (AllReadyH.cons (o := _) rfl (fun K hK => ?_) AllReadyH.nil)
          obtain ⟨z0, z1, z2, z3, z4⟩ := room14_at HRb.out
          obtain ⟨q0, q1, q2, q3, q4⟩ := room_free HRb.out
          obtain ⟨wx6, hwx⟩ : ∃ W, W = ((((wx5.setCell ⟨gb, 0, none⟩ (.int .u8 (e : Int))).setCell ⟨gb, 1, none⟩ (.int .u32 (s : Int))).setCell ⟨gb, 2, none⟩ (.int .u64 (s1 : Int))).setCell ⟨gb, 3, none⟩ (.int .i64 (H2 : Int))).setCell ⟨gb, 4, none⟩ (.int .i64 0) := ⟨_, rfl⟩
          have HKr : Hid (Keeps NoBlock w5 wx6) := Lib.hid (by rw [hwx]; exact HKr.out.new5 HGnb.out _ _ _ _ _)
          have HCr : Hid (Whole wx6 w3.heap.size 27 (confCells e s)) := Lib.hid (by rw [hwx]; exact HCr.out.far5 (fun h => by have := HGnb.out; have := HC5.out.lt; omega) _ _ _ _ _)
          have HRa : Hid (Whole wx6 ga 36 (room14Cells (emptyP e s num))) := Lib.hid (by rw [hwx]; exact HRa.out.far5 (fun h => HNe.out (by omega)) _ _ _ _ _)
          have HRb : Hid (Whole wx6 gb 36 (room14Cells (emptyP e s s1))) := Lib.hid (by rw [hwx]; unfold emptyP room14Cells; rw [← HH.out.2]; exact HRb.out.set5 _ _ _ _ _)
          have hS : (fun w' : World => w'.cell? ⟨w3.heap.size, 0, none⟩ = some (.int .u8 (e : Int)) ∧ w'.cell? ⟨w3.heap.size, 1, none⟩ = some (.int .u32 (s : Int))) wx6 := And.intro (HCr.out.cell 0 rfl) (HCr.out.cell 1 rfl)
          go_simp
          rw [← hwx]
          refine hK.out _ _ hS (fun _ => ?_)
          clear hK K hwx z0 z1 z2 z3 z4 q0 q1 q2 q3 q4
          refine wpAnyH_done (by kernel_rfl) ?_ _
          go_wp2_with fail
          go_meet
          case rel => exact ⟨ga, gb, rfl, rfl, HKr, HRa, HRb, Lib.hid ⟨HNe.out, HGna.out, HGnb.out⟩⟩
      · obtain ⟨ga, hga⟩ : ∃ g, g = wx1.heap.size := ⟨_, rfl⟩
        obtain ⟨wx2, hwx⟩ : ∃ W, W = wx1.alloc (.cells #[.int .u8 0, .int .u32 0, .int .u64 0, .int .i64 0, .int .i64 0] 36) := ⟨_, rfl⟩
        have HGna := Lib.hid (show w5.heap.size ≤ ga from by rw [hga]; exact HKr.out.size)
        have HKr : Hid (Keeps NoBlock w5 wx2) := Lib.hid (by rw [hwx]; exact HKr.out.alloc _)
        have HCr : Hid (Whole wx2 w3.heap.size 27 (confCells e s)) := Lib.hid (by rw [hwx]; exact HCr.out.alloc _)
        have HNe := Lib.hid (show ga ≠ gb from fun h => by have := HRb.out.lt; omega)
        have HRb : Hid (Whole wx2 gb 36 (room14Cells Rm.none)) := Lib.hid (by rw [hwx]; exact HRb.out.alloc _)
        have HRa : Hid (Whole wx2 ga 36 (room14Cells Rm.none)) := Lib.hid (by rw [hwx, hga]; exact Whole.new _ _ _)
        have hS : (fun w' : World => w'.cell? ⟨w3.heap.size, 0, none⟩ = some (.int .u8 (e : Int)) ∧ w'.cell? ⟨w3.heap.size, 1, none⟩ = some (.int .u32 (s : Int))) wx2 := And.intro (HCr.out.cell 0 rfl) (HCr.out.cell 1 rfl)
        go_simp
        rw [← hwx, ← hga]
        refine hK.out _ _ hS (fun _ => ?_)
        clear hK K hwx hga
        refine wpAnyH_ready (rs := [3]) (by kernel_rfl) (by simp) ?_
        refine (AllReadyH.cons (o := _) rfl (fun K hK => ?_) AllReadyH.nil)
        go_simp
        refine (HE1.out _).mono ?_
        rintro e9 wx3 ⟨rfl, hk⟩
        have hk' : Keeps NoBlock wx2 wx3 := by first | exact hk | exact hk.ofDrew | exact hk.ofDrewN
        have HKr := Lib.hid (HKr.out.trans hk')
        have HCr := Lib.hid (HCr.out.keep hk' (fun h => h))
        have HRa := Lib.hid (HRa.out.keep hk' (fun h => h))
        have HRb := Lib.hid (HRb.out.keep hk' (fun h => h))
        have hS : (fun w' : World => w'.cell? ⟨w3.heap.size, 0, none⟩ = some (.int .u8 (e : Int)) ∧ w'.cell? ⟨w3.heap.size, 1, none⟩ = some (.int .u32 (s : Int))) wx3 := And.intro (HCr.out.cell 0 rfl) (HCr.out.cell 1 rfl)
        clear hk hk'
        go_wp2_with fail
        refine hK.out _ _ hS (fun _ => ?_)
        clear hK K
        refine wpAnyH_ready (rs := [9]) (by kernel_rfl) (by simp) ?_
        refine (AllReadyH.cons (o := _) rfl (fun K hK => ?_) AllReadyH.nil)
        go_simp
        refine (HE2.out _).mono ?_
        rintro e9 wx4 ⟨rfl, hk⟩
        have hk' : Keeps NoBlock wx3 wx4 := by first | exact hk | exact hk.ofDrew | exact hk.ofDrewN
        have HKr := Lib.hid (HKr.out.trans hk')
        have HCr := Lib.hid (HCr.out.keep hk' (fun h => h))
        have HRa := Lib.hid (HRa.out.keep hk' (fun h => h))
        have HRb := Lib.hid (HRb.out.keep hk' (fun h => h))
        have hS : (fun w' : World => w'.cell? ⟨w3.heap.size, 0, none⟩ = some (.int .u8 (e : Int)) ∧ w'.cell? ⟨w3.heap.size, 1, none⟩ = some (.int .u32 (s : Int))) wx4 := And.intro (HCr.out.cell 0 rfl) (HCr.out.cell 1 rfl)
        clear hk hk'
        go_wp2_with fail
        refine hK.out _ _ hS (fun _ => ?_)
        clear hK K
        refine wpAnyH_ready (rs := [12]) (by kernel_rfl) (by simp) ?_
        refine (AllReadyH.cons (o := _) rfl (fun K hK => ?_) AllReadyH.nil)
        obtain ⟨z0, z1, z2, z3, z4⟩ := room14_at HRa.out
        obtain ⟨q0, q1, q2, q3, q4⟩ := room_free HRa.out
        obtain ⟨wx5, hwx⟩ : ∃ W, W = ((((wx4.setCell ⟨ga, 0, none⟩ (.int .u8 (e : Int))).setCell ⟨ga, 1, none⟩ (.int .u32 (s : Int))).setCell ⟨ga, 2, none⟩ (.int .u64 (num : Int))).setCell ⟨ga, 3, none⟩ (.int .i64 (H1 : Int))).setCell ⟨ga, 4, none⟩ (.int .i64 0) := ⟨_, rfl⟩
        have HKr : Hid (Keeps NoBlock w5 wx5) := Lib.hid (by rw [hwx]; exact HKr.out.new5 HGna.out _ _ _ _ _)
        have HCr : Hid (Whole wx5 w3.heap.size 27 (confCells e s)) := Lib.hid (by rw [hwx]; exact HCr.out.far5 (fun h => by have := HGna.out; have := HC5.out.lt; omega) _ _ _ _ _)
        have HRb : Hid (Whole wx5 gb 36 (room14Cells Rm.none)) := Lib.hid (by rw [hwx]; exact HRb.out.far5 (fun h => HNe.out (by omega)) _ _ _ _ _)
        have HRa : Hid (Whole wx5 ga 36 (room14Cells (emptyP e s num))) := Lib.hid (by rw [hwx]; unfold emptyP room14Cells; rw [← HH.out.1]; exact HRa.out.set5 _ _ _ _ _)
        have hS : (fun w' : World => w'.cell? ⟨w3.heap.size, 0, none⟩ = some (.int .u8 (e : Int)) ∧ w'.cell? ⟨w3.heap.size, 1, none⟩ = some (.int .u32 (s : Int))) wx5 := And.intro (HCr.out.cell 0 rfl) (HCr.out.cell 1 rfl)
        go_simp
        rw [← hwx]
        refine hK.out _ _ hS (fun _ => ?_)
        clear hK K hwx z0 z1 z2 z3 z4 q0 q1 q2 q3 q4
        refine wpAnyH_ready (rs := [13]) (by kernel_rfl) (by simp) ?_
        refine (AllReadyH.cons (o := _) rfl (fun K hK => ?_) AllReadyH.nil)
        obtain ⟨z0, z1, z2, z3, z4⟩ := room14_at HRb.out
        obtain ⟨q0, q1, q2, q3, q4⟩ := room_free HRb.out
        obtain ⟨wx6, hwx⟩ : ∃ W, W = ((((wx5.setCell ⟨gb, 0, none⟩ (.int .u8 (e : Int))).setCell ⟨gb, 1, none⟩ (.int .u32 (s : Int))).setCell ⟨gb, 2, none⟩ (.int .u64 (s1 : Int))).setCell ⟨gb, 3, none⟩ (.int .i64 (H2 : Int))).setCell ⟨gb, 4, none⟩ (.int .i64 0) := ⟨_, rfl⟩
        have HKr : Hid (Keeps NoBlock w5 wx6) := Lib.hid (by rw [hwx]; exact HKr.out.new5 HGnb.out _ _ _ _ _)
        have HCr : Hid (Whole wx6 w3.heap.size 27 (confCells e s)) := Lib.hid (by rw [hwx]; exact HCr.out.far5 (fun h => by have := HGnb.out; have := HC5.out.lt; omega) _ _ _ _ _)
        have HRa : Hid (Whole wx6 ga 36 (room14Cells (emptyP e s num))) := Lib.hid (by rw [hwx]; exact HRa.out.far5 (fun h => HNe.out (by omega)) _ _ _ _ _)
        have HRb : Hid (Whole wx6 gb 36 (room14Cells (emptyP e s s1))) := Lib.hid (by rw [hwx]; unfold emptyP room14Cells; rw [← HH.out.2]; exact HRb.out.set5 _ _ _ _ _)
        have hS : (fun w' : World => w'.cell? ⟨w3.heap.size, 0, none⟩ = some (.int .u8 (e : Int)) ∧ w'.cell? ⟨w3.heap.size, 1, none⟩ = some (.int .u32 (s : Int))) wx6 := And.intro (HCr.out.cell 0 rfl) (HCr.out.cell 1 rfl)
        go_simp
        rw [← hwx]
        refine hK.out _ _ hS (fun _ => ?_)
        clear hK K hwx z0 z1 z2 z3 z4 q0 q1 q2 q3 q4
        refine wpAnyH_done (by kernel_rfl) ?_ _
        go_wp2_with fail
        go_meet
        case rel => exact ⟨ga, gb, rfl, rfl, HKr, HRa, HRb, Lib.hid ⟨HNe.out, HGna.out, HGnb.out⟩⟩
    -- BEHIND
  case rest =>
    -- LOOP
    obtain ⟨ga, gb, rfl, rfl, HKr, HRa, HRb, HNg⟩ := hcut
    have HFa : Hid (¬ F ga ∧ ¬ F gb) := Lib.hid ⟨fun h => by have := HB.old HSt5.out.at_ _ h; have := HNg.out.2.1; omega, fun h => by have := HB.old HSt5.out.at_ _ h; have := HNg.out.2.2; omega⟩
    have HSt := Lib.hid (HSt5.out.keep HB HKr.out)
    have HRa : Hid (Whole wc ga 36 (room14Cells (sgRoom e s num []))) := Lib.hid (by rw [sgRoom_nil]; exact HRa.out)
    clear HSt5 HC5 HCy s0 sN HMy HE1 HE2 HKr hnu
    go_wp2_with fail
    go_loopw [12, 69] (fun hv i wr => ∃ (j : Nat) (F : Nat → Prop), j ≤ n ∧ i = .int .i64 (j : Int) ∧ Hid (BSt At wC wr F (.pointer (some ⟨g, 0, none⟩)) e s num (accS e s num (l.take j))) ∧ Hid (OwnR wC F 39 4 hv (accS e s num (l.take j)).length (rcFlat (accS e s num (l.take j))) wr) ∧ Hid (Whole wr ga 36 (room14Cells (sgRoom e s num (accS e s num (l.take j))))) ∧ Hid (Whole wr gb 36 (room14Cells (emptyP e s s1))) ∧ Hid (¬ F ga ∧ ¬ F gb)) (fun _ i _ => n - (intOf i).toNat)
    case atStart => exact ⟨0, F, Nat.zero_le _, rfl, HSt, Lib.hid (OwnR.start _ _ _ _ _), HRa, HRb, HFa⟩
    case round =>
      clear HSt HRa HRb HFa
      obtain ⟨j, F, hj, rfl, HSt, HHv, HRa, HRb, HFa⟩ := hrel
      by_cases hlt : j < n
      · have hdj : decide ((j : Int) < (n : Int)) = true := decide_eq_true (by omega)
        have hjl : j < l.length := by rw [← HLn.out]; exact hlt
        have HOj := Lib.hid (HOk.out j (by omega))
        have HOn := Lib.hid (HOk.out (j + 1) (by omega))
        have hst := accS_step (e := e) (s := s) (n := num) hjl
        obtain ⟨hrf, hrk, hrv⟩ := HLit.out j hjl
        obtain ⟨A, hA⟩ : ∃ A, A = accS e s num (l.take j) := ⟨_, rfl⟩
        rw [← hA] at HSt HHv HRa HOj hst
        have hfew := HOj.out.few
        obtain ⟨a, rfl, c0, c1, c2, c3⟩ := (HR.out.keep HSt.out.kept (fun _ _ h => h)) j hjl
        obtain ⟨r, hr⟩ : ∃ r, r = l.getD j Rec.none := ⟨_, rfl⟩
        rw [← hr] at hrf hrk hrv c0 c1 c2 c3 hst
        rw [hst] at HOn
        have hka := (Keeps.refl NoBlock wr).alloc (.cells #[.bool r.del, .int .u64 (r.seq : Int), .string (strOfNums r.key), .string (strOfNums r.val)] 39)
        have HBf := Lib.hid (show ¬ F wr.heap.size from fun h => by have := HB.old HSt.out.at_ _ h; omega)
        have HSt := Lib.hid (HSt.out.keep HB hka)
        have HHv := Lib.hid (HHv.out.keep hka)
        have HRa := Lib.hid (HRa.out.keep hka (fun h => h))
        have HRb := Lib.hid (HRb.out.keep hka (fun h => h))
        have HBx := Lib.hid (show Whole (wr.alloc (.cells #[.bool r.del, .int .u64 (r.seq : Int), .string (strOfNums r.key), .string (strOfNums r.val)] 39)) wr.heap.size 39 (recCells r) from Whole.new wr _ _)
        have HAc := Lib.hid (HAd.add F _ e s num A r _ HSt.out.at_ HOj.out.room (by omega) HOj.out.fine hrf hrk hrv)
        have HRc := Lib.hid (fun w => record9_ref r hrf (by omega) (by omega) w)
        have HCk := Lib.hid (fun w => check7_ref r (by omega) (by omega) w)
        have HLr := Lib.hid (recB_len hrf hrk hrv)
        have hzs := str_size (sealN (bodyR r))
        have hrb : recB r = sealN (bodyR r) := rfl
        have hE : addE e s num A r = if checkR r ≠ 0 then checkR r else if fitsP (emptyP e s (s - 1)) ((recB r).length : Int) = false then 6 else if fitsP (sgRoom e s num A) ((recB r).length : Int) = false then 7 else 0 := rfl
        have hP : addAt e s num A r = if addE e s num A r = 0 then (outS e s num A).length else 0 := rfl
        rw [← HS1.out] at hE
        obtain ⟨E, hEd⟩ : ∃ E, E = addE e s num A r := ⟨_, rfl⟩
        obtain ⟨Pa, hPd⟩ : ∃ P, P = addAt e s num A r := ⟨_, rfl⟩
        rw [← hEd, ← hPd] at HAc
        rw [← hEd] at hE hP
        rw [← hPd] at hP
        rw [← hrb] at hzs HRc
        obtain ⟨Z, hZ⟩ : ∃ Z, Z = (recB r).length := ⟨_, rfl⟩
        have hZ9 := HLr.out
        rw [← hZ] at hE hzs hZ9
        have HFm := Lib.hid (fun w => fits14_ref (emptyP e s s1) (Z : Int) HRl.out (by omega) (by omega) w)
        have HFw := Lib.hid (fun w => fits14_ref (sgRoom e s num A) (Z : Int) HOj.out.room.real (by omega) (by omega) w)
        have HTk := Lib.hid (fun w (h1 : 1 ≤ Z) => take14_ref (sgRoom e s num A) (Z : Int) HOj.out.room.real (by omega) (by omega) w)
        have hm1 : room14V (emptyP e s s1) = .agg #[.int .u8 (e : Int), .int .u32 (s : Int), .int .u64 (s1 : Int), .int .i64 ((headLen e s s1 : Nat) : Int), .int .i64 0] := rfl
        obtain ⟨O, hO⟩ : ∃ O, O = (outS e s num A).length := ⟨_, rfl⟩
        obtain ⟨L, hL⟩ : ∃ L, L = A.length := ⟨_, rfl⟩
        have hr1 : room14V (sgRoom e s num A) = .agg #[.int .u8 (e : Int), .int .u32 (s : Int), .int .u64 (num : Int), .int .i64 (O : Int), .int .i64 (L : Int)] := by rw [hO, hL]; rfl
        obtain ⟨O2, hO2⟩ : ∃ x, x = O + Z := ⟨_, rfl⟩
        obtain ⟨L2, hL2⟩ : ∃ x, x = L + 1 := ⟨_, rfl⟩
        have hr2 : room14V (takeP (sgRoom e s num A) (Z : Int)) = .agg #[.int .u8 (e : Int), .int .u32 (s : Int), .int .u64 (num : Int), .int .i64 (O2 : Int), .int .i64 (L2 : Int)] := by rw [hO2, hL2, hO, hL]; rfl
        have hr3 : roomV (sgRoom e s num (A ++ [r])) = .agg #[.int .u8 (e : Int), .int .u32 (s : Int), .int .u32 (num : Int), .int .i64 (O2 : Int), .int .i64 (L2 : Int)] := by rw [hO2, hL2, hO, hL, sgRoom_take, ← hZ]; rfl
        have hr4 : room14Cells (sgRoom e s num (A ++ [r])) = #[.int .u8 (e : Int), .int .u32 (s : Int), .int .u64 (num : Int), .int .i64 (O2 : Int), .int .i64 (L2 : Int)] := by rw [hO2, hL2, hO, hL, sgRoom_take, ← hZ]; rfl
        have HV := Lib.hid (And.intro hr3 hr4)
        have hOf := out_fits HOj.out.room
        have HOl := Lib.hid (show O ≤ 8192 by
          rw [hO]
          have : e = 12 ∨ e = 13 := by have := HBd.out; omega
          have hp : 2 ^ e ≤ 8192 := by rcases this with h | h <;> rw [h] <;> decide
          exact Nat.le_trans hOf hp)
        rw [hm1] at HFm
        rw [hr1] at HFw HTk
        rw [hr2] at HTk
        rw [← HH.out.2] at HFm
        obtain ⟨fm, hfm⟩ : ∃ b, b = fitsP (emptyP e s s1) (Z : Int) := ⟨_, rfl⟩
        obtain ⟨fw, hfw⟩ : ∃ b, b = fitsP (sgRoom e s num A) (Z : Int) := ⟨_, rfl⟩
        obtain ⟨y, hy⟩ : ∃ y, y = checkR r := ⟨_, rfl⟩
        rw [← hO] at hP
        rw [← hfm] at hE HFm
        rw [← hfw] at hE HFw
        rw [← hy] at hE HCk
        have HZ := Lib.hid (And.intro hZ (And.intro hO hL))
        have HQ := Lib.hid (And.intro hE (And.intro hP (And.intro hEd hPd)))
        have HSt' := Lib.hid hst
        have HFw' := Lib.hid hfew
        have HRm := Lib.hid (fun F A wx (h : At wx F (.pointer (some ⟨g, 0, none⟩)) e s num A) (h2 : AccOk e s num (j + 1) A) => HRmO.room F _ e s num A wx h h2.room (by have := h2.few; omega) h2.fine)
        unfold recV at HAc HRc HCk
        clear hr3 hr4 hO2 hL2 hOf hA hr hka hjl hrf hrk hrv hst hfew hZ hO hL hr1 hr2 hm1 hfm hfw hy hrb hZ9 hE hP hEd hPd
        go_wp2_with fail
        refine HAc.out.mono ?_
        rintro e5 w5 ⟨rfl, hsame⟩
        obtain ⟨hk5, F5, hsub, hst5⟩ := HSt.out.call hsame
        have HFb := Lib.hid (show ¬ F5 ga ∧ ¬ F5 gb from ⟨fun h => (hsub _ h).elim HFa.out.1 (fun h2 => by have := HRa.out.lt; omega), fun h => (hsub _ h).elim HFa.out.2 (fun h2 => by have := HRb.out.lt; omega)⟩)
        have HHv := Lib.hid (HHv.out.call hk5 hsub)
        have HRa := Lib.hid (HRa.out.keep hk5 HFa.out.1)
        have HRb := Lib.hid (HRb.out.keep hk5 HFa.out.2)
        have HBx := Lib.hid (HBx.out.keep hk5 HBf.out)
        have HSt := Lib.hid hst5
        clear hk5 hsub hst5 hsame HAc HBf c0 c1 c2 c3 HFa
        have b0 := HBx.out.cell 0 rfl
        have b1 := HBx.out.cell 1 rfl
        have b2 := HBx.out.cell 2 rfl
        have b3 := HBx.out.cell 3 rfl
        simp only [recCells, List.getElem_toArray, List.getElem_cons_zero, List.getElem_cons_succ] at b0 b1 b2 b3
        go_wp2_with fail
        refine (HRc.out _).mono ?_
        rintro e9 w6 ⟨rfl, hk⟩
        have HSt := Lib.hid (HSt.out.keep HB hk)
        have HHv := Lib.hid (HHv.out.keep hk)
        have HRa := Lib.hid (HRa.out.keep hk (fun h => h))
        have HRb := Lib.hid (HRb.out.keep hk (fun h => h))
        have HBx := Lib.hid (HBx.out.keep hk (fun h => h))
        clear hk
        clear b0 b1 b2 b3
        have b0 := HBx.out.cell 0 rfl
        have b1 := HBx.out.cell 1 rfl
        have b2 := HBx.out.cell 2 rfl
        have b3 := HBx.out.cell 3 rfl
        simp only [recCells, List.getElem_toArray, List.getElem_cons_zero, List.getElem_cons_succ] at b0 b1 b2 b3
        go_wp2_with fail
        refine (HCk.out _).mono ?_
        rintro e9 w7 ⟨rfl, hk⟩
        have HSt := Lib.hid (HSt.out.keep HB hk)
        have HHv := Lib.hid (HHv.out.keep hk)
        have HRa := Lib.hid (HRa.out.keep hk (fun h => h))
        have HRb := Lib.hid (HRb.out.keep hk (fun h => h))
        have HBx := Lib.hid (HBx.out.keep hk (fun h => h))
        clear hk
        clear b0 b1 b2 b3
        obtain ⟨hE, hP, hEd, hPd⟩ := HQ.out
        clear HQ
        by_cases hy0 : y = 0
        rotate_left
        · have hz0 : (y == 0) = false := beq_eq_false_iff_ne.2 hy0
          have hE1 : E = y := by rw [hE, if_pos hy0]
          have hP1 : Pa = 0 := by rw [hP, if_neg (by rw [hE1]; exact hy0)]
          have hA0 := addL_none (e := e) (s := s) (n := num) (l := A) (r := r) (by rw [← hEd, hE1]; exact hy0)
          rw [hA0] at HSt HOn HSt'
          subst hE1
          subst hP1
          clear hE hP hEd hPd hA0 hy0 HFm HFw HTk
          -- A
          have b0 := HBx.out.cell 0 rfl
          have b1 := HBx.out.cell 1 rfl
          have b2 := HBx.out.cell 2 rfl
          have b3 := HBx.out.cell 3 rfl
          simp only [recCells, List.getElem_toArray, List.getElem_cons_zero, List.getElem_cons_succ] at b0 b1 b2 b3
          have r0 : w7.cell? ⟨ga, 0, none⟩ = some (.int .u8 (e : Int)) := HRa.out.cell 0 rfl
          have r1 : w7.cell? ⟨ga, 1, none⟩ = some (.int .u32 (s : Int)) := HRa.out.cell 1 rfl
          have r2 : w7.cell? ⟨ga, 2, none⟩ = some (.int .u64 (num : Int)) := HRa.out.cell 2 rfl
          have r3 : w7.cell? ⟨ga, 3, none⟩ = some (.int .i64 (O : Int)) := by rw [HZ.out.2.1]; exact HRa.out.cell 3 rfl
          have r4 : w7.cell? ⟨ga, 4, none⟩ = some (.int .i64 (L : Int)) := by rw [HZ.out.2.2]; exact HRa.out.cell 4 rfl
          go_wp2_with fail
          have HC9 := Lib.hid (HC.out.keep HSt.out.kept (fun h => h))
          have k0 : w7.cell? ⟨w3.heap.size, 0, none⟩ = some (.int .u8 (e : Int)) := HC9.out.cell 0 rfl
          have k1 : w7.cell? ⟨w3.heap.size, 1, none⟩ = some (.int .u32 (s : Int)) := HC9.out.cell 1 rfl
          have hrm := HRm.out F5 A _ HSt.out.at_ HOn.out
          rw [show roomV (sgRoom e s num A) = .agg #[.int .u8 (e : Int), .int .u32 (s : Int), .int .u32 (num : Int), .int .i64 (O : Int), .int .i64 (L : Int)] from by rw [HZ.out.2.1, HZ.out.2.2]; rfl] at hrm
          refine hrm.mono ?_
          rintro e9 wR ⟨rfl, hsame⟩
          obtain ⟨hk6, F6, hsub6, hst6⟩ := HSt.out.call hsame
          have HFa := Lib.hid (show ¬ F6 ga ∧ ¬ F6 gb from ⟨fun h => (hsub6 _ h).elim HFb.out.1 (fun h2 => by have := HRa.out.lt; omega), fun h => (hsub6 _ h).elim HFb.out.2 (fun h2 => by have := HRb.out.lt; omega)⟩)
          have HHv := Lib.hid (HHv.out.call hk6 hsub6)
          have HRa := Lib.hid (HRa.out.keep hk6 HFb.out.1)
          have HRb := Lib.hid (HRb.out.keep hk6 HFb.out.2)
          have HSt := Lib.hid hst6
          have HC9 := Lib.hid (HC.out.keep HSt.out.kept (fun h => h))
          clear hk6 hsub6 hst6 hsame HFb k0 k1 hrm
          clear r0 r1 r2 r3 r4 b0 b1 b2 b3
          have r0 : wR.cell? ⟨ga, 0, none⟩ = some (.int .u8 (e : Int)) := HRa.out.cell 0 rfl
          have r1 : wR.cell? ⟨ga, 1, none⟩ = some (.int .u32 (s : Int)) := HRa.out.cell 1 rfl
          have r2 : wR.cell? ⟨ga, 2, none⟩ = some (.int .u64 (num : Int)) := HRa.out.cell 2 rfl
          have r3 : wR.cell? ⟨ga, 3, none⟩ = some (.int .i64 (O : Int)) := by rw [HZ.out.2.1]; exact HRa.out.cell 3 rfl
          have r4 : wR.cell? ⟨ga, 4, none⟩ = some (.int .i64 (L : Int)) := by rw [HZ.out.2.2]; exact HRa.out.cell 4 rfl
          have k0 : wR.cell? ⟨w3.heap.size, 0, none⟩ = some (.int .u8 (e : Int)) := HC9.out.cell 0 rfl
          have k1 : wR.cell? ⟨w3.heap.size, 1, none⟩ = some (.int .u32 (s : Int)) := HC9.out.cell 1 rfl
          have lC := HC9.out.lt
          have lA := HRa.out.lt
          go_wp2_with fail
          exact ⟨⟨j + 1, F6, by omega, by go_num, by rw [HSt'.out]; exact Lib.hid (HSt.out.keep HB ((Keeps.refl NoBlock _).alloc _)), by rw [HSt'.out]; exact Lib.hid (HHv.out.keep ((Keeps.refl NoBlock _).alloc _)), by rw [HSt'.out]; exact Lib.hid (HRa.out.keep ((Keeps.refl NoBlock _).alloc _) (fun h => h)), Lib.hid (HRb.out.keep ((Keeps.refl NoBlock _).alloc _) (fun h => h)), HFa⟩, by simp [intOf]; omega⟩
          -- Z
        subst hy0
        cases fm
        · have hE1 : E = 6 := by rw [hE, if_neg (by simp), if_pos rfl]
          have hP1 : Pa = 0 := by rw [hP, if_neg (by rw [hE1]; decide)]
          have hA0 := addL_none (e := e) (s := s) (n := num) (l := A) (r := r) (by rw [← hEd, hE1]; decide)
          rw [hA0] at HSt HOn HSt'
          subst hE1
          subst hP1
          clear hE hP hEd hPd hA0 HFw HTk
          -- A
          have b0 := HBx.out.cell 0 rfl
          have b1 := HBx.out.cell 1 rfl
          have b2 := HBx.out.cell 2 rfl
          have b3 := HBx.out.cell 3 rfl
          simp only [recCells, List.getElem_toArray, List.getElem_cons_zero, List.getElem_cons_succ] at b0 b1 b2 b3
          have m0 : w7.cell? ⟨gb, 0, none⟩ = some (.int .u8 (e : Int)) := HRb.out.cell 0 rfl
          have m1 : w7.cell? ⟨gb, 1, none⟩ = some (.int .u32 (s : Int)) := HRb.out.cell 1 rfl
          have m2 : w7.cell? ⟨gb, 2, none⟩ = some (.int .u64 (s1 : Int)) := HRb.out.cell 2 rfl
          have m3 : w7.cell? ⟨gb, 3, none⟩ = some (.int .i64 (H2 : Int)) := by rw [HH.out.2]; exact HRb.out.cell 3 rfl
          have m4 : w7.cell? ⟨gb, 4, none⟩ = some (.int .i64 0) := HRb.out.cell 4 rfl
          go_wp2_with fail
          refine (HFm.out _).mono ?_
          rintro e9 w8 ⟨rfl, hk⟩
          have HSt := Lib.hid (HSt.out.keep HB hk)
          have HHv := Lib.hid (HHv.out.keep hk)
          have HRa := Lib.hid (HRa.out.keep hk (fun h => h))
          have HRb := Lib.hid (HRb.out.keep hk (fun h => h))
          have HBx := Lib.hid (HBx.out.keep hk (fun h => h))
          clear hk
          clear b0 b1 b2 b3 m0 m1 m2 m3 m4
          have b0 := HBx.out.cell 0 rfl
          have b1 := HBx.out.cell 1 rfl
          have b2 := HBx.out.cell 2 rfl
          have b3 := HBx.out.cell 3 rfl
          simp only [recCells, List.getElem_toArray, List.getElem_cons_zero, List.getElem_cons_succ] at b0 b1 b2 b3
          have r0 : w8.cell? ⟨ga, 0, none⟩ = some (.int .u8 (e : Int)) := HRa.out.cell 0 rfl
          have r1 : w8.cell? ⟨ga, 1, none⟩ = some (.int .u32 (s : Int)) := HRa.out.cell 1 rfl
          have r2 : w8.cell? ⟨ga, 2, none⟩ = some (.int .u64 (num : Int)) := HRa.out.cell 2 rfl
          have r3 : w8.cell? ⟨ga, 3, none⟩ = some (.int .i64 (O : Int)) := by rw [HZ.out.2.1]; exact HRa.out.cell 3 rfl
          have r4 : w8.cell? ⟨ga, 4, none⟩ = some (.int .i64 (L : Int)) := by rw [HZ.out.2.2]; exact HRa.out.cell 4 rfl
          go_wp2_with fail
          have HC9 := Lib.hid (HC.out.keep HSt.out.kept (fun h => h))
          have k0 : w8.cell? ⟨w3.heap.size, 0, none⟩ = some (.int .u8 (e : Int)) := HC9.out.cell 0 rfl
          have k1 : w8.cell? ⟨w3.heap.size, 1, none⟩ = some (.int .u32 (s : Int)) := HC9.out.cell 1 rfl
          have hrm := HRm.out F5 A _ HSt.out.at_ HOn.out
          rw [show roomV (sgRoom e s num A) = .agg #[.int .u8 (e : Int), .int .u32 (s : Int), .int .u32 (num : Int), .int .i64 (O : Int), .int .i64 (L : Int)] from by rw [HZ.out.2.1, HZ.out.2.2]; rfl] at hrm
          refine hrm.mono ?_
          rintro e9 wR ⟨rfl, hsame⟩
          obtain ⟨hk6, F6, hsub6, hst6⟩ := HSt.out.call hsame
          have HFa := Lib.hid (show ¬ F6 ga ∧ ¬ F6 gb from ⟨fun h => (hsub6 _ h).elim HFb.out.1 (fun h2 => by have := HRa.out.lt; omega), fun h => (hsub6 _ h).elim HFb.out.2 (fun h2 => by have := HRb.out.lt; omega)⟩)
          have HHv := Lib.hid (HHv.out.call hk6 hsub6)
          have HRa := Lib.hid (HRa.out.keep hk6 HFb.out.1)
          have HRb := Lib.hid (HRb.out.keep hk6 HFb.out.2)
          have HSt := Lib.hid hst6
          have HC9 := Lib.hid (HC.out.keep HSt.out.kept (fun h => h))
          clear hk6 hsub6 hst6 hsame HFb k0 k1 hrm
          clear r0 r1 r2 r3 r4 b0 b1 b2 b3
          have r0 : wR.cell? ⟨ga, 0, none⟩ = some (.int .u8 (e : Int)) := HRa.out.cell 0 rfl
          have r1 : wR.cell? ⟨ga, 1, none⟩ = some (.int .u32 (s : Int)) := HRa.out.cell 1 rfl
          have r2 : wR.cell? ⟨ga, 2, none⟩ = some (.int .u64 (num : Int)) := HRa.out.cell 2 rfl
          have r3 : wR.cell? ⟨ga, 3, none⟩ = some (.int .i64 (O : Int)) := by rw [HZ.out.2.1]; exact HRa.out.cell 3 rfl
          have r4 : wR.cell? ⟨ga, 4, none⟩ = some (.int .i64 (L : Int)) := by rw [HZ.out.2.2]; exact HRa.out.cell 4 rfl
          have k0 : wR.cell? ⟨w3.heap.size, 0, none⟩ = some (.int .u8 (e : Int)) := HC9.out.cell 0 rfl
          have k1 : wR.cell? ⟨w3.heap.size, 1, none⟩ = some (.int .u32 (s : Int)) := HC9.out.cell 1 rfl
          have lC := HC9.out.lt
          have lA := HRa.out.lt
          go_wp2_with fail
          exact ⟨⟨j + 1, F6, by omega, by go_num, by rw [HSt'.out]; exact Lib.hid (HSt.out.keep HB ((Keeps.refl NoBlock _).alloc _)), by rw [HSt'.out]; exact Lib.hid (HHv.out.keep ((Keeps.refl NoBlock _).alloc _)), by rw [HSt'.out]; exact Lib.hid (HRa.out.keep ((Keeps.refl NoBlock _).alloc _) (fun h => h)), Lib.hid (HRb.out.keep ((Keeps.refl NoBlock _).alloc _) (fun h => h)), HFa⟩, by simp [intOf]; omega⟩
          -- Z
        cases fw
        · have hE1 : E = 7 := by rw [hE, if_neg (by simp), if_neg (by simp), if_pos rfl]
          have hP1 : Pa = 0 := by rw [hP, if_neg (by rw [hE1]; decide)]
          have hA0 := addL_none (e := e) (s := s) (n := num) (l := A) (r := r) (by rw [← hEd, hE1]; decide)
          rw [hA0] at HSt HOn HSt'
          subst hE1
          subst hP1
          clear hE hP hEd hPd hA0 HTk
          -- A
          have b0 := HBx.out.cell 0 rfl
          have b1 := HBx.out.cell 1 rfl
          have b2 := HBx.out.cell 2 rfl
          have b3 := HBx.out.cell 3 rfl
          simp only [recCells, List.getElem_toArray, List.getElem_cons_zero, List.getElem_cons_succ] at b0 b1 b2 b3
          have m0 : w7.cell? ⟨gb, 0, none⟩ = some (.int .u8 (e : Int)) := HRb.out.cell 0 rfl
          have m1 : w7.cell? ⟨gb, 1, none⟩ = some (.int .u32 (s : Int)) := HRb.out.cell 1 rfl
          have m2 : w7.cell? ⟨gb, 2, none⟩ = some (.int .u64 (s1 : Int)) := HRb.out.cell 2 rfl
          have m3 : w7.cell? ⟨gb, 3, none⟩ = some (.int .i64 (H2 : Int)) := by rw [HH.out.2]; exact HRb.out.cell 3 rfl
          have m4 : w7.cell? ⟨gb, 4, none⟩ = some (.int .i64 0) := HRb.out.cell 4 rfl
          go_wp2_with fail
          refine (HFm.out _).mono ?_
          rintro e9 w8 ⟨rfl, hk⟩
          have HSt := Lib.hid (HSt.out.keep HB hk)
          have HHv := Lib.hid (HHv.out.keep hk)
          have HRa := Lib.hid (HRa.out.keep hk (fun h => h))
          have HRb := Lib.hid (HRb.out.keep hk (fun h => h))
          have HBx := Lib.hid (HBx.out.keep hk (fun h => h))
          clear hk
          clear b0 b1 b2 b3 m0 m1 m2 m3 m4
          have b0 := HBx.out.cell 0 rfl
          have b1 := HBx.out.cell 1 rfl
          have b2 := HBx.out.cell 2 rfl
          have b3 := HBx.out.cell 3 rfl
          simp only [recCells, List.getElem_toArray, List.getElem_cons_zero, List.getElem_cons_succ] at b0 b1 b2 b3
          have r0 : w8.cell? ⟨ga, 0, none⟩ = some (.int .u8 (e : Int)) := HRa.out.cell 0 rfl
          have r1 : w8.cell? ⟨ga, 1, none⟩ = some (.int .u32 (s : Int)) := HRa.out.cell 1 rfl
          have r2 : w8.cell? ⟨ga, 2, none⟩ = some (.int .u64 (num : Int)) := HRa.out.cell 2 rfl
          have r3 : w8.cell? ⟨ga, 3, none⟩ = some (.int .i64 (O : Int)) := by rw [HZ.out.2.1]; exact HRa.out.cell 3 rfl
          have r4 : w8.cell? ⟨ga, 4, none⟩ = some (.int .i64 (L : Int)) := by rw [HZ.out.2.2]; exact HRa.out.cell 4 rfl
          go_wp2_with fail
          refine (HFw.out _).mono ?_
          rintro e9 w9 ⟨rfl, hk⟩
          have HSt := Lib.hid (HSt.out.keep HB hk)
          have HHv := Lib.hid (HHv.out.keep hk)
          have HRa := Lib.hid (HRa.out.keep hk (fun h => h))
          have HRb := Lib.hid (HRb.out.keep hk (fun h => h))
          have HBx := Lib.hid (HBx.out.keep hk (fun h => h))
          clear hk
          clear b0 b1 b2 b3 r0 r1 r2 r3 r4
          have b0 := HBx.out.cell 0 rfl
          have b1 := HBx.out.cell 1 rfl
          have b2 := HBx.out.cell 2 rfl
          have b3 := HBx.out.cell 3 rfl
          simp only [recCells, List.getElem_toArray, List.getElem_cons_zero, List.getElem_cons_succ] at b0 b1 b2 b3
          have r0 : w9.cell? ⟨ga, 0, none⟩ = some (.int .u8 (e : Int)) := HRa.out.cell 0 rfl
          have r1 : w9.cell? ⟨ga, 1, none⟩ = some (.int .u32 (s : Int)) := HRa.out.cell 1 rfl
          have r2 : w9.cell? ⟨ga, 2, none⟩ = some (.int .u64 (num : Int)) := HRa.out.cell 2 rfl
          have r3 : w9.cell? ⟨ga, 3, none⟩ = some (.int .i64 (O : Int)) := by rw [HZ.out.2.1]; exact HRa.out.cell 3 rfl
          have r4 : w9.cell? ⟨ga, 4, none⟩ = some (.int .i64 (L : Int)) := by rw [HZ.out.2.2]; exact HRa.out.cell 4 rfl
          go_wp2_with fail
          have HC9 := Lib.hid (HC.out.keep HSt.out.kept (fun h => h))
          have k0 : w9.cell? ⟨w3.heap.size, 0, none⟩ = some (.int .u8 (e : Int)) := HC9.out.cell 0 rfl
          have k1 : w9.cell? ⟨w3.heap.size, 1, none⟩ = some (.int .u32 (s : Int)) := HC9.out.cell 1 rfl
          have hrm := HRm.out F5 A _ HSt.out.at_ HOn.out
          rw [show roomV (sgRoom e s num A) = .agg #[.int .u8 (e : Int), .int .u32 (s : Int), .int .u32 (num : Int), .int .i64 (O : Int), .int .i64 (L : Int)] from by rw [HZ.out.2.1, HZ.out.2.2]; rfl] at hrm
          refine hrm.mono ?_
          rintro e9 wR ⟨rfl, hsame⟩
          obtain ⟨hk6, F6, hsub6, hst6⟩ := HSt.out.call hsame
          have HFa := Lib.hid (show ¬ F6 ga ∧ ¬ F6 gb from ⟨fun h => (hsub6 _ h).elim HFb.out.1 (fun h2 => by have := HRa.out.lt; omega), fun h => (hsub6 _ h).elim HFb.out.2 (fun h2 => by have := HRb.out.lt; omega)⟩)
          have HHv := Lib.hid (HHv.out.call hk6 hsub6)
          have HRa := Lib.hid (HRa.out.keep hk6 HFb.out.1)
          have HRb := Lib.hid (HRb.out.keep hk6 HFb.out.2)
          have HSt := Lib.hid hst6
          have HC9 := Lib.hid (HC.out.keep HSt.out.kept (fun h => h))
          clear hk6 hsub6 hst6 hsame HFb k0 k1 hrm
          clear r0 r1 r2 r3 r4 b0 b1 b2 b3
          have r0 : wR.cell? ⟨ga, 0, none⟩ = some (.int .u8 (e : Int)) := HRa.out.cell 0 rfl
          have r1 : wR.cell? ⟨ga, 1, none⟩ = some (.int .u32 (s : Int)) := HRa.out.cell 1 rfl
          have r2 : wR.cell? ⟨ga, 2, none⟩ = some (.int .u64 (num : Int)) := HRa.out.cell 2 rfl
          have r3 : wR.cell? ⟨ga, 3, none⟩ = some (.int .i64 (O : Int)) := by rw [HZ.out.2.1]; exact HRa.out.cell 3 rfl
          have r4 : wR.cell? ⟨ga, 4, none⟩ = some (.int .i64 (L : Int)) := by rw [HZ.out.2.2]; exact HRa.out.cell 4 rfl
          have k0 : wR.cell? ⟨w3.heap.size, 0, none⟩ = some (.int .u8 (e : Int)) := HC9.out.cell 0 rfl
          have k1 : wR.cell? ⟨w3.heap.size, 1, none⟩ = some (.int .u32 (s : Int)) := HC9.out.cell 1 rfl
          have lC := HC9.out.lt
          have lA := HRa.out.lt
          go_wp2_with fail
          exact ⟨⟨j + 1, F6, by omega, by go_num, by rw [HSt'.out]; exact Lib.hid (HSt.out.keep HB ((Keeps.refl NoBlock _).alloc _)), by rw [HSt'.out]; exact Lib.hid (HHv.out.keep ((Keeps.refl NoBlock _).alloc _)), by rw [HSt'.out]; exact Lib.hid (HRa.out.keep ((Keeps.refl NoBlock _).alloc _) (fun h => h)), Lib.hid (HRb.out.keep ((Keeps.refl NoBlock _).alloc _) (fun h => h)), HFa⟩, by simp [intOf]; omega⟩
          -- Z
        · have hE1 : E = 0 := by rw [hE, if_neg (by simp), if_neg (by simp), if_neg (by simp)]
          have hP1 : O = Pa := by rw [hP, if_pos hE1]
          have hA0 := addL_some (e := e) (s := s) (n := num) (l := A) (r := r) (by rw [← hEd, hE1])
          rw [hA0] at HSt HOn HSt'
          subst hE1
          subst hP1
          clear hE hP hEd hPd hA0
          have b0 := HBx.out.cell 0 rfl
          have b1 := HBx.out.cell 1 rfl
          have b2 := HBx.out.cell 2 rfl
          have b3 := HBx.out.cell 3 rfl
          simp only [recCells, List.getElem_toArray, List.getElem_cons_zero, List.getElem_cons_succ] at b0 b1 b2 b3
          have m0 : w7.cell? ⟨gb, 0, none⟩ = some (.int .u8 (e : Int)) := HRb.out.cell 0 rfl
          have m1 : w7.cell? ⟨gb, 1, none⟩ = some (.int .u32 (s : Int)) := HRb.out.cell 1 rfl
          have m2 : w7.cell? ⟨gb, 2, none⟩ = some (.int .u64 (s1 : Int)) := HRb.out.cell 2 rfl
          have m3 : w7.cell? ⟨gb, 3, none⟩ = some (.int .i64 (H2 : Int)) := by rw [HH.out.2]; exact HRb.out.cell 3 rfl
          have m4 : w7.cell? ⟨gb, 4, none⟩ = some (.int .i64 0) := HRb.out.cell 4 rfl
          go_wp2_with fail
          refine (HFm.out _).mono ?_
          rintro e9 w8 ⟨rfl, hk⟩
          have HSt := Lib.hid (HSt.out.keep HB hk)
          have HHv := Lib.hid (HHv.out.keep hk)
          have HRa := Lib.hid (HRa.out.keep hk (fun h => h))
          have HRb := Lib.hid (HRb.out.keep hk (fun h => h))
          have HBx := Lib.hid (HBx.out.keep hk (fun h => h))
          clear hk
          clear b0 b1 b2 b3 m0 m1 m2 m3 m4
          have b0 := HBx.out.cell 0 rfl
          have b1 := HBx.out.cell 1 rfl
          have b2 := HBx.out.cell 2 rfl
          have b3 := HBx.out.cell 3 rfl
          simp only [recCells, List.getElem_toArray, List.getElem_cons_zero, List.getElem_cons_succ] at b0 b1 b2 b3
          have r0 : w8.cell? ⟨ga, 0, none⟩ = some (.int .u8 (e : Int)) := HRa.out.cell 0 rfl
          have r1 : w8.cell? ⟨ga, 1, none⟩ = some (.int .u32 (s : Int)) := HRa.out.cell 1 rfl
          have r2 : w8.cell? ⟨ga, 2, none⟩ = some (.int .u64 (num : Int)) := HRa.out.cell 2 rfl
          have r3 : w8.cell? ⟨ga, 3, none⟩ = some (.int .i64 (O : Int)) := by rw [HZ.out.2.1]; exact HRa.out.cell 3 rfl
          have r4 : w8.cell? ⟨ga, 4, none⟩ = some (.int .i64 (L : Int)) := by rw [HZ.out.2.2]; exact HRa.out.cell 4 rfl
          go_wp2_with fail
          refine (HFw.out _).mono ?_
          rintro e9 w9 ⟨rfl, hk⟩
          have HSt := Lib.hid (HSt.out.keep HB hk)
          have HHv := Lib.hid (HHv.out.keep hk)
          have HRa := Lib.hid (HRa.out.keep hk (fun h => h))
          have HRb := Lib.hid (HRb.out.keep hk (fun h => h))
          have HBx := Lib.hid (HBx.out.keep hk (fun h => h))
          clear hk
          clear b0 b1 b2 b3 r0 r1 r2 r3 r4
          have b0 := HBx.out.cell 0 rfl
          have b1 := HBx.out.cell 1 rfl
          have b2 := HBx.out.cell 2 rfl
          have b3 := HBx.out.cell 3 rfl
          simp only [recCells, List.getElem_toArray, List.getElem_cons_zero, List.getElem_cons_succ] at b0 b1 b2 b3
          have r0 : w9.cell? ⟨ga, 0, none⟩ = some (.int .u8 (e : Int)) := HRa.out.cell 0 rfl
          have r1 : w9.cell? ⟨ga, 1, none⟩ = some (.int .u32 (s : Int)) := HRa.out.cell 1 rfl
          have r2 : w9.cell? ⟨ga, 2, none⟩ = some (.int .u64 (num : Int)) := HRa.out.cell 2 rfl
          have r3 : w9.cell? ⟨ga, 3, none⟩ = some (.int .i64 (O : Int)) := by rw [HZ.out.2.1]; exact HRa.out.cell 3 rfl
          have r4 : w9.cell? ⟨ga, 4, none⟩ = some (.int .i64 (L : Int)) := by rw [HZ.out.2.2]; exact HRa.out.cell 4 rfl
          have hwO : IntKind.i64.wrap (O : Int) = (O : Int) := by rw [IntKind.wrap_i64]; have := HOl.out; omega
          have hka := (Keeps.refl NoBlock w9).alloc (.cells #[.bool r.del, .int .u64 (r.seq : Int), .string (strOfNums r.key), .string (strOfNums r.val)] 39)
          have HSt := Lib.hid (HSt.out.keep HB hka)
          have HHv := Lib.hid (HHv.out.keep hka)
          have HRa := Lib.hid (HRa.out.keep hka (fun h => h))
          have HRb := Lib.hid (HRb.out.keep hka (fun h => h))
          have HBy := Lib.hid (show Whole (w9.alloc (.cells #[.bool r.del, .int .u64 (r.seq : Int), .string (strOfNums r.key), .string (strOfNums r.val)] 39)) w9.heap.size 39 (recCells r) from Whole.new w9 _ _)
          clear hka
          go_wp2_with (at_builtin; refine wpList_append_lies _ rfl _ _ 23 rfl wC.heap.size 39 i0 (.agg #[.bool false, .int .u64 0, .string ⟨#[]⟩, .string ⟨#[]⟩]) 4 48 Tryz.underlying23 hi hi0 hi1 hi2 rfl (by decide) _ A.length (rcFlat A) rfl HHv.out.1 ⟨w9.heap.size, 0, none⟩ 1 1 (rcFour r) rfl rfl ?c1 ?c2 (by decide) ?c3 ?c4 ?c5 _ rfl ?_)
          case c1 => exact fun i u hu => World.news_of_block HBy.out i u hu
          case c2 =>
            intro u hu
            simp only [rcFour, List.mem_cons, List.not_mem_nil, or_false] at hu
            rcases hu with rfl | rfl | rfl | rfl <;> rfl
          case c3 => have := HFw'.out; unfold maxLen; omega
          case c4 => have := HFw'.out; omega
          case c5 => exact HSt.out.kept.size
          intro g7 cap7 w10 hown hgrow hlie _
          have HRa := Lib.hid (HRa.out.grown hgrow (own_apart (by decide) HHv.out.1 HRa.out))
          have HRb := Lib.hid (HRb.out.grown hgrow (own_apart (by decide) HHv.out.1 HRb.out))
          have HSn := Lib.hid (HSt.out.grown HB hgrow HHv.out.2 HHv.out.from_)
          have HHv := Lib.hid (HHv.out.added (HB.old HSt.out.at_) hown (hlie.imp id (fun h => h.trans (by simp))))
          have HSt := HSn
          clear hown hgrow hlie HBy b0 b1 b2 b3 r0 r1 r2 r3 r4 HSn hwO
          have r0 : w10.cell? ⟨ga, 0, none⟩ = some (.int .u8 (e : Int)) := HRa.out.cell 0 rfl
          have r1 : w10.cell? ⟨ga, 1, none⟩ = some (.int .u32 (s : Int)) := HRa.out.cell 1 rfl
          have r2 : w10.cell? ⟨ga, 2, none⟩ = some (.int .u64 (num : Int)) := HRa.out.cell 2 rfl
          have r3 : w10.cell? ⟨ga, 3, none⟩ = some (.int .i64 (O : Int)) := by rw [HZ.out.2.1]; exact HRa.out.cell 3 rfl
          have r4 : w10.cell? ⟨ga, 4, none⟩ = some (.int .i64 (L : Int)) := by rw [HZ.out.2.2]; exact HRa.out.cell 4 rfl
          go_wp2_with fail
          refine (HTk.out _ (by rw [HZ.out.1]; exact HLr.out.1)).mono ?_
          rintro e9 w11 ⟨rfl, hk⟩
          have HSt := Lib.hid (HSt.out.keep HB hk)
          have HHv := Lib.hid (HHv.out.keep hk)
          have HRa := Lib.hid (HRa.out.keep hk (fun h => h))
          have HRb := Lib.hid (HRb.out.keep hk (fun h => h))
          clear hk r0 r1 r2 r3 r4
          have r0 : w11.cell? ⟨ga, 0, none⟩ = some (.int .u8 (e : Int)) := HRa.out.cell 0 rfl
          have r1 : w11.cell? ⟨ga, 1, none⟩ = some (.int .u32 (s : Int)) := HRa.out.cell 1 rfl
          have r2 : w11.cell? ⟨ga, 2, none⟩ = some (.int .u64 (num : Int)) := HRa.out.cell 2 rfl
          have r3 : w11.cell? ⟨ga, 3, none⟩ = some (.int .i64 (O : Int)) := by rw [HZ.out.2.1]; exact HRa.out.cell 3 rfl
          have r4 : w11.cell? ⟨ga, 4, none⟩ = some (.int .i64 (L : Int)) := by rw [HZ.out.2.2]; exact HRa.out.cell 4 rfl
          obtain ⟨q0, q1, q2, q3, q4⟩ := room_free HRa.out
          obtain ⟨w12, hw12⟩ : ∃ W, W = ((((w11.setCell ⟨ga, 0, none⟩ (.int .u8 (e : Int))).setCell ⟨ga, 1, none⟩ (.int .u32 (s : Int))).setCell ⟨ga, 2, none⟩ (.int .u64 (num : Int))).setCell ⟨ga, 3, none⟩ (.int .i64 (O2 : Int))).setCell ⟨ga, 4, none⟩ (.int .i64 (L2 : Int)) := ⟨_, rfl⟩
          have hk5 : Keeps (Just ga) w11 w12 := by rw [hw12]; exact (((((Keeps.refl (Just ga) w11).setIn (Just.self ga) 0 _).setIn (Just.self ga) 1 _).setIn (Just.self ga) 2 _).setIn (Just.self ga) 3 _).setIn (Just.self ga) 4 _
          have HRb := Lib.hid (HRb.out.keep hk5 (fun h => HNg.out.1 h.symm))
          have HHv := Lib.hid (show OwnR wC F5 39 4 _ _ _ w12 from ⟨ownBlocks HHv.out.1 (fun k hk' => hk5.block k (HHv.out.1.lt k hk').2 (fun e => by
            obtain rfl : k = ga := e
            exact own_apart (by decide) HHv.out.1 HRa.out hk')), HHv.out.2⟩)
          have HSt := Lib.hid (show BSt At wC w12 F5 (.pointer (some ⟨g, 0, none⟩)) e s num (A ++ [r]) from ⟨HB.keep HSt.out.at_ hk5 (fun k hf e => by
            obtain rfl : k = ga := e
            exact HFb.out.1 hf), HSt.out.new, HSt.out.kept.then hk5 (fun k hlt e => by
            obtain rfl : k = ga := e
            have := HNg.out.2.1
            have := HW5.out
            omega)⟩)
          have HRa : Hid (Whole w12 ga 36 (room14Cells (sgRoom e s num (A ++ [r])))) := Lib.hid (by rw [hw12, HV.out.2]; exact HRa.out.set5 _ _ _ _ _)
          go_wp2_with fail
          rw [← hw12]
          clear hw12 hk5 q0 q1 q2 q3 q4 r0 r1 r2 r3 r4
          have HC9 := Lib.hid (HC.out.keep HSt.out.kept (fun h => h))
          have k0 : w12.cell? ⟨w3.heap.size, 0, none⟩ = some (.int .u8 (e : Int)) := HC9.out.cell 0 rfl
          have k1 : w12.cell? ⟨w3.heap.size, 1, none⟩ = some (.int .u32 (s : Int)) := HC9.out.cell 1 rfl
          have hrm := HRm.out F5 (A ++ [r]) _ HSt.out.at_ HOn.out
          rw [show roomV (sgRoom e s num (A ++ [r])) = .agg #[.int .u8 (e : Int), .int .u32 (s : Int), .int .u32 (num : Int), .int .i64 (O2 : Int), .int .i64 (L2 : Int)] from HV.out.1] at hrm
          refine hrm.mono ?_
          rintro e9 wR ⟨rfl, hsame⟩
          obtain ⟨hk6, F6, hsub6, hst6⟩ := HSt.out.call hsame
          have HFa := Lib.hid (show ¬ F6 ga ∧ ¬ F6 gb from ⟨fun h => (hsub6 _ h).elim HFb.out.1 (fun h2 => by have := HRa.out.lt; omega), fun h => (hsub6 _ h).elim HFb.out.2 (fun h2 => by have := HRb.out.lt; omega)⟩)
          have HHv := Lib.hid (HHv.out.call hk6 hsub6)
          have HRa := Lib.hid (HRa.out.keep hk6 HFb.out.1)
          have HRb := Lib.hid (HRb.out.keep hk6 HFb.out.2)
          have HSt := Lib.hid hst6
          have HC9 := Lib.hid (HC.out.keep HSt.out.kept (fun h => h))
          clear hk6 hsub6 hst6 hsame HFb k0 k1 hrm
          have r0 : wR.cell? ⟨ga, 0, none⟩ = some (.int .u8 (e : Int)) := HRa.out.cell 0 rfl
          have r1 : wR.cell? ⟨ga, 1, none⟩ = some (.int .u32 (s : Int)) := HRa.out.cell 1 rfl
          have r2 : wR.cell? ⟨ga, 2, none⟩ = some (.int .u64 (num : Int)) := HRa.out.cell 2 rfl
          have r3 : wR.cell? ⟨ga, 3, none⟩ = some (.int .i64 (O2 : Int)) := HRa.out.cell 3 (by rw [HV.out.2]; rfl)
          have r4 : wR.cell? ⟨ga, 4, none⟩ = some (.int .i64 (L2 : Int)) := HRa.out.cell 4 (by rw [HV.out.2]; rfl)
          have k0 : wR.cell? ⟨w3.heap.size, 0, none⟩ = some (.int .u8 (e : Int)) := HC9.out.cell 0 rfl
          have k1 : wR.cell? ⟨w3.heap.size, 1, none⟩ = some (.int .u32 (s : Int)) := HC9.out.cell 1 rfl
          have lC := HC9.out.lt
          have lA := HRa.out.lt
          have HHv : Hid (OwnR wC F6 39 4 _ (A ++ [r]).length (rcFlat (A ++ [r])) wR) := Lib.hid (by
            rw [rcFlat_append, List.length_append, show rcFlat [r] = rcFour r by simp [rcFlat]]
            exact HHv.out)
          go_wp2_with fail
          exact ⟨⟨j + 1, F6, by omega, by go_num, by rw [HSt'.out]; exact Lib.hid (HSt.out.keep HB ((Keeps.refl NoBlock _).alloc _)), by rw [HSt'.out]; exact Lib.hid (HHv.out.keep ((Keeps.refl NoBlock _).alloc _)), by rw [HSt'.out]; exact Lib.hid (HRa.out.keep ((Keeps.refl NoBlock _).alloc _) (fun h => h)), Lib.hid (HRb.out.keep ((Keeps.refl NoBlock _).alloc _) (fun h => h)), HFa⟩, by simp [intOf]; omega⟩
    -- END
      · have hdj : decide ((j : Int) < (n : Int)) = false := decide_eq_false (by omega)
        have HOj := HOk.out j (by have := HLn.out; omega)
        have hjn : l.take j = l := by rw [List.take_of_length_le]; have := HLn.out; omega
        rw [hjn] at HSt HHv HOj
        obtain ⟨A, hA⟩ : ∃ A, A = accS e s num l := ⟨_, rfl⟩
        rw [← hA] at HSt HHv HOj
        have HOA := Lib.hid HOj
        obtain ⟨L, hL⟩ : ∃ L, L = A.length := ⟨_, rfl⟩
        have hL60 : L ≤ 60 := by have := HOj.few; omega
        have HLd := Lib.hid hL
        obtain ⟨qh, mh, dh, rfl, hmh, hmdh, hdh, _, hrec, _⟩ := HHv.out.recs HSt.out.kept
        rw [← hL] at hmh
        have hmh' : L = mh := hmh.symm
        clear hmh
        subst hmh'
        have hOf := out_fits HOj.room
        have hSg : SegIn e s num A := seg_scan (by have := HBd.out; omega) (by have := HBd.out; omega) (by have := HBd.out; omega) (ys := outS e s num A) (by
          have : e = 12 ∨ e = 13 := by have := HBd.out; omega
          have hp : 2 ^ e ≤ 8192 := by rcases this with h | h <;> rw [h] <;> decide
          omega) HOj.fine (by unfold outS; rw [List.length_append]; omega)
        have HF5 := Lib.hid (fun w h => frames15_ref e s num qh L dh A hSg hL w h)
        have HTx := Lib.hid (fun b w h => text15_ref e s num (by have := HBd.out; omega) qh L dh A b hSg hL w h)
        have HSl := Lib.hid (fun w6 F (h : At w6 F (.pointer (some ⟨g, 0, none⟩)) e s num A) (h0 : 0 < L) => HSeH.out.seals F (.pointer (some ⟨g, 0, none⟩)) e s num A w6 h HOj.room (by omega) HOj.fine (by omega))
        have HSn := Lib.hid (fun w6 F (h : At w6 F (.pointer (some ⟨g, 0, none⟩)) e s num A) (h0 : L = 0) => HSeH.out.none F (.pointer (some ⟨g, 0, none⟩)) e s num w6 (by rw [← List.length_eq_zero_iff.1 (show A.length = 0 by omega)]; exact h) (by rw [← List.length_eq_zero_iff.1 (show A.length = 0 by omega)]; exact HOj.room))
        have HC9 := Lib.hid (HC.out.keep HSt.out.kept (fun h => h))
        have k0 : wr.cell? ⟨w3.heap.size, 0, none⟩ = some (.int .u8 (e : Int)) := HC9.out.cell 0 rfl
        have k1 : wr.cell? ⟨w3.heap.size, 1, none⟩ = some (.int .u32 (s : Int)) := HC9.out.cell 1 rfl
        have hnu := HAr.out.2.2.2
        have hwn : IntKind.u64.wrap (num : Int) = (num : Int) := by rw [IntKind.wrap_u64]; exact hnu
        have HRx := Lib.hid hrec
        unfold confV at HF5 HTx
        clear hA hjn hOf hSg hL HOj hj HRa HRb hmdh hdh hrec
        go_wp2_with fail
        refine (HF5.out _ HRx.out).mono ?_
        rintro e9 w5 ⟨v5, rfl, q5, m5, d5, rfl, _, _, _, _, _, hk⟩
        have HSt := Lib.hid (HSt.out.keep HB hk)
        have HHv := Lib.hid (HHv.out.keep hk)
        clear hk HF5 HRx k0 k1 HC9
        go_wp2_with fail
        by_cases hL0 : L = 0
        · have hA0 : A = [] := List.length_eq_zero_iff.1 (by have := HLd.out; omega)
          refine (HSn.out _ _ HSt.out.at_ hL0).mono ?_
          rintro e9 w6 ⟨q6, d6, rfl, hg⟩
          rw [← hA0] at hg
          obtain ⟨hk6, F6, hsub6, hst6⟩ := HSt.out.call hg
          have HHv := Lib.hid (HHv.out.call hk6 hsub6)
          have HSt := Lib.hid hst6
          have HL0 := Lib.hid hL0
          clear hk6 hsub6 hst6 hg hA0 HSl HSn hL0
          go_upto_region 33 with (fail)
          go_wp2_with fail
          obtain ⟨wy0, hwx⟩ : ∃ W, W = w6.drew := ⟨_, rfl⟩
          have HSt := Lib.hid (HSt.out.keep HB ((Keeps.refl NoBlock w6).drew))
          have HHv := Lib.hid (HHv.out.keep ((Keeps.refl NoBlock w6).drew))
          rw [← hwx] at HSt HHv
          have hS : (fun w' : World => w'.cell? ⟨w3.heap.size, 0, none⟩ = some (.int .u8 (e : Int)) ∧ w'.cell? ⟨w3.heap.size, 1, none⟩ = some (.int .u32 (s : Int))) wy0 := And.intro ((HC.out.keep HSt.out.kept (fun h => h)).cell 0 rfl) ((HC.out.keep HSt.out.kept (fun h => h)).cell 1 rfl)
          refine wp_region_held_drew (S := fun w' : World => w'.cell? ⟨w3.heap.size, 0, none⟩ = some (.int .u8 (e : Int)) ∧ w'.cell? ⟨w3.heap.size, 1, none⟩ = some (.int .u32 (s : Int))) (by kernel_rfl) (by rw [← hwx]; exact hS) (fun _ => ?_)
          rw [← hwx]
          clear hwx
          refine wpAnyH_take (i := 0) (v := ?vT501) rfl ?aT501 ?bT501 ?cT501 ?dT501 (Or.inl ⟨?eT501, ?fT501⟩) hS ?gT501
          case fT501 => intro w hSw; (try dsimp only at hSw); go_simp; (try with_reducible rfl)
          case aT501 => kernel_rfl
          case bT501 => kernel_rfl
          case cT501 => kernel_rfl
          case dT501 => exact fun _ _ _ h => h
          case eT501 => rfl
          simp only [Act.put, List.getElem_toArray, List.getElem_cons_zero, List.setIfInBounds_toArray, List.set_cons_zero, List.set_cons_succ]
          refine wpAnyH_take (i := 3) (v := ?vT502) rfl ?aT502 ?bT502 ?cT502 ?dT502 (Or.inl ⟨?eT502, ?fT502⟩) hS ?gT502
          case fT502 => intro w hSw; (try dsimp only at hSw); go_simp; (try with_reducible rfl)
          case aT502 => kernel_rfl
          case bT502 => kernel_rfl
          case cT502 => kernel_rfl
          case dT502 => exact fun _ _ _ h => h
          case eT502 => rfl
          simp only [Act.put, List.getElem_toArray, List.getElem_cons_zero, List.getElem_cons_succ, List.setIfInBounds_toArray, List.set_cons_zero, List.set_cons_succ]
          refine wpAnyH_ready (rs := [1]) (by kernel_rfl) (by simp) ?_
          refine (AllReadyH.cons (o := _) rfl (fun K hK => ?_) AllReadyH.nil)
          go_simp
          refine (HFrH.out.frames F6 _ e s num A _ HSt.out.at_ HOA.out.room (by have := HLd.out; omega) HOA.out.fine).mono ?_
          rintro e9 wy1 ⟨u9, rfl, hg⟩
          obtain ⟨hk9, ho9, F101, hsub9, hst9, _⟩ := HSt.out.gives hg
          obtain ⟨q101, d101, rfl, _, _, h8, _, _⟩ := ho9.read
          have HHv := Lib.hid (HHv.out.call hk9 hsub9)
          have HSt := Lib.hid hst9
          have H101 := Lib.hid h8
          have hS : (fun w' : World => w'.cell? ⟨w3.heap.size, 0, none⟩ = some (.int .u8 (e : Int)) ∧ w'.cell? ⟨w3.heap.size, 1, none⟩ = some (.int .u32 (s : Int))) wy1 := And.intro ((HC.out.keep HSt.out.kept (fun h => h)).cell 0 rfl) ((HC.out.keep HSt.out.kept (fun h => h)).cell 1 rfl)
          clear hk9 ho9 hsub9 hst9 h8 hg
          go_wp2_with fail
          refine hK.out _ _ hS (fun _ => ?_)
          clear hK K
          refine wpAnyH_ready (rs := [2]) (by kernel_rfl) (by simp) ?_
          refine (AllReadyH.cons (o := _) rfl (fun K hK => ?_) AllReadyH.nil)
          have hc := textOf q101 (outS e s num A).length d101 (outS e s num A) wy1 rfl H101.out
          go_simp
          refine hK.out _ _ hS (fun _ => ?_)
          clear hK K hc
          refine wpAnyH_take (i := 4) (v := ?vT503) rfl ?aT503 ?bT503 ?cT503 ?dT503 (Or.inl ⟨?eT503, ?fT503⟩) hS ?gT503
          case fT503 => intro w hSw; (try dsimp only at hSw); go_simp; (try with_reducible rfl)
          case aT503 => kernel_rfl
          case bT503 => kernel_rfl
          case cT503 => kernel_rfl
          case dT503 => exact fun _ _ _ h => h
          case eT503 => rfl
          simp only [Act.put, List.getElem_toArray, List.getElem_cons_zero, List.getElem_cons_succ, List.setIfInBounds_toArray, List.set_cons_zero, List.set_cons_succ]
          refine wpAnyH_take (i := 5) (v := ?vT504) rfl ?aT504 ?bT504 ?cT504 ?dT504 (Or.inl ⟨?eT504, ?fT504⟩) hS ?gT504
          case fT504 => intro w hSw; (try dsimp only at hSw); go_simp; (try with_reducible rfl)
          case aT504 => kernel_rfl
          case bT504 => kernel_rfl
          case cT504 => kernel_rfl
          case dT504 => exact fun _ _ _ h => h
          case eT504 => rfl
          simp only [Act.put, List.getElem_toArray, List.getElem_cons_zero, List.getElem_cons_succ, List.setIfInBounds_toArray, List.set_cons_zero, List.set_cons_succ]
          refine wpAnyH_take (i := 6) (v := ?vT505) rfl ?aT505 ?bT505 ?cT505 ?dT505 (Or.inl ⟨?eT505, ?fT505⟩) hS ?gT505
          case fT505 => intro w hSw; (try dsimp only at hSw); go_simp; (try with_reducible rfl)
          case aT505 => kernel_rfl
          case bT505 => kernel_rfl
          case cT505 => kernel_rfl
          case dT505 => exact fun _ _ _ h => h
          case eT505 => rfl
          simp only [Act.put, List.getElem_toArray, List.getElem_cons_zero, List.getElem_cons_succ, List.setIfInBounds_toArray, List.set_cons_zero, List.set_cons_succ]
          refine wpAnyH_take (i := 9) (v := ?vT506) rfl ?aT506 ?bT506 ?cT506 ?dT506 (Or.inl ⟨?eT506, ?fT506⟩) hS ?gT506
          case fT506 => intro w hSw; (try dsimp only at hSw); go_simp; (try with_reducible rfl)
          case aT506 => kernel_rfl
          case bT506 => kernel_rfl
          case cT506 => kernel_rfl
          case dT506 => exact fun _ _ _ h => h
          case eT506 => rfl
          simp only [Act.put, List.getElem_toArray, List.getElem_cons_zero, List.getElem_cons_succ, List.setIfInBounds_toArray, List.set_cons_zero, List.set_cons_succ]
          refine wpAnyH_take (i := 10) (v := ?vT507) rfl ?aT507 ?bT507 ?cT507 ?dT507 (Or.inl ⟨?eT507, ?fT507⟩) hS ?gT507
          case fT507 => intro w hSw; (try dsimp only at hSw); go_simp; (try with_reducible rfl)
          case aT507 => kernel_rfl
          case bT507 => kernel_rfl
          case cT507 => kernel_rfl
          case dT507 => exact fun _ _ _ h => h
          case eT507 => rfl
          simp only [Act.put, List.getElem_toArray, List.getElem_cons_zero, List.getElem_cons_succ, List.setIfInBounds_toArray, List.set_cons_zero, List.set_cons_succ]
          refine wpAnyH_take (i := 11) (v := ?vT508) rfl ?aT508 ?bT508 ?cT508 ?dT508 (Or.inl ⟨?eT508, ?fT508⟩) hS ?gT508
          case fT508 => intro w hSw; (try dsimp only at hSw); go_simp; (try with_reducible rfl)
          case aT508 => kernel_rfl
          case bT508 => kernel_rfl
          case cT508 => kernel_rfl
          case dT508 => exact fun _ _ _ h => h
          case eT508 => rfl
          simp only [Act.put, List.getElem_toArray, List.getElem_cons_zero, List.getElem_cons_succ, List.setIfInBounds_toArray, List.set_cons_zero, List.set_cons_succ]
          refine wpAnyH_take (i := 12) (v := ?vT509) rfl ?aT509 ?bT509 ?cT509 ?dT509 (Or.inl ⟨?eT509, ?fT509⟩) hS ?gT509
          case fT509 => intro w hSw; (try dsimp only at hSw); go_simp; (try with_reducible rfl)
          case aT509 => kernel_rfl
          case bT509 => kernel_rfl
          case cT509 => kernel_rfl
          case dT509 => exact fun _ _ _ h => h
          case eT509 => rfl
          simp only [Act.put, List.getElem_toArray, List.getElem_cons_zero, List.getElem_cons_succ, List.setIfInBounds_toArray, List.set_cons_zero, List.set_cons_succ]
          refine wpAnyH_ready (rs := [7]) (by kernel_rfl) (by simp) ?_
          refine (AllReadyH.cons (o := _) rfl (fun K hK => ?_) AllReadyH.nil)
          go_simp
          refine (HOpH.out.open_ F101 _ e s num A _ HSt.out.at_ HOA.out.room (by have := HLd.out; omega) HOA.out.fine).mono ?_
          rintro e9 wy2 ⟨u9, rfl, hg⟩
          obtain ⟨hk9, ho9, F102, hsub9, hst9, _⟩ := HSt.out.gives hg
          obtain ⟨q102, d102, rfl, _, _, h8, _, _⟩ := ho9.read
          have HHv := Lib.hid (HHv.out.call hk9 hsub9)
          have HSt := Lib.hid hst9
          have H102 := Lib.hid h8
          have hS : (fun w' : World => w'.cell? ⟨w3.heap.size, 0, none⟩ = some (.int .u8 (e : Int)) ∧ w'.cell? ⟨w3.heap.size, 1, none⟩ = some (.int .u32 (s : Int))) wy2 := And.intro ((HC.out.keep HSt.out.kept (fun h => h)).cell 0 rfl) ((HC.out.keep HSt.out.kept (fun h => h)).cell 1 rfl)
          clear hk9 ho9 hsub9 hst9 h8 hg
          go_wp2_with fail
          refine hK.out _ _ hS (fun _ => ?_)
          clear hK K
          refine wpAnyH_ready (rs := [8, 13]) (by kernel_rfl) (by simp) ?_
          refine (AllReadyH.cons (o := _) rfl (fun K hK => ?_) (AllReadyH.cons (o := _) rfl (fun K hK => ?_) AllReadyH.nil))
          · have hc := textOf q102 (textS e s num A false).length d102 (textS e s num A false) wy2 rfl H102.out
            go_simp
            refine hK.out _ _ hS (fun _ => ?_)
            clear hK K hc
            refine wpAnyH_ready (rs := [13]) (by kernel_rfl) (by simp) ?_
            refine (AllReadyH.cons (o := _) rfl (fun K hK => ?_) AllReadyH.nil)
            have hx9 : RecsAt wy2 qh A := by
              obtain ⟨q', m', d', hv, _, _, _, _, hx, _⟩ := HHv.out.recs HSt.out.kept
              simp only [Value.slice.injEq] at hv
              rw [hv.1]
              exact hx
            go_simp
            refine (HTx.out false _ hx9).mono ?_
            rintro e9 wy3 ⟨rfl, hk⟩
            have hk' : Keeps NoBlock wy2 wy3 := by first | exact hk | exact hk.ofDrew | exact hk.ofDrewN
            have HSt := Lib.hid (HSt.out.keep HB hk')
            have HHv := Lib.hid (HHv.out.keep hk')
            have H102 := Lib.hid (H102.out.keep hk' (fun _ _ h => h))
            have hS : (fun w' : World => w'.cell? ⟨w3.heap.size, 0, none⟩ = some (.int .u8 (e : Int)) ∧ w'.cell? ⟨w3.heap.size, 1, none⟩ = some (.int .u32 (s : Int))) wy3 := And.intro ((HC.out.keep HSt.out.kept (fun h => h)).cell 0 rfl) ((HC.out.keep HSt.out.kept (fun h => h)).cell 1 rfl)
            clear hk hk' hx9
            go_wp2_with fail
            refine hK.out _ _ hS (fun _ => ?_)
            clear hK K
            refine wpAnyH_take (i := 14) (v := ?vT510) rfl ?aT510 ?bT510 ?cT510 ?dT510 (Or.inl ⟨?eT510, ?fT510⟩) hS ?gT510
            case fT510 => intro w hSw; (try dsimp only at hSw); go_simp; (try with_reducible rfl)
            case aT510 => kernel_rfl
            case bT510 => kernel_rfl
            case cT510 => kernel_rfl
            case dT510 => exact fun _ _ _ h => h
            case eT510 => rfl
            simp only [Act.put, List.getElem_toArray, List.getElem_cons_zero, List.getElem_cons_succ, List.setIfInBounds_toArray, List.set_cons_zero, List.set_cons_succ]
            refine wpAnyH_take (i := 15) (v := ?vT511) rfl ?aT511 ?bT511 ?cT511 ?dT511 (Or.inl ⟨?eT511, ?fT511⟩) hS ?gT511
            case fT511 => intro w hSw; (try dsimp only at hSw); go_simp; (try with_reducible rfl)
            case aT511 => kernel_rfl
            case bT511 => kernel_rfl
            case cT511 => kernel_rfl
            case dT511 => exact fun _ _ _ h => h
            case eT511 => rfl
            simp only [Act.put, List.getElem_toArray, List.getElem_cons_zero, List.getElem_cons_succ, List.setIfInBounds_toArray, List.set_cons_zero, List.set_cons_succ]
            refine wpAnyH_done (by kernel_rfl) ?_ _
            have hL0 := HL0.out
            have hLz : (L : Int) = 0 := by omega
            have hLy : ((L : Int) == 0) = true := by rw [hLz]; rfl
            have hLx : (L == 0) = true := by rw [hL0]; rfl
            have hLw : decide (L = 0) = true := decide_eq_true hL0
            go_wp2_with fail
            go_ret
            exact ⟨rfl, HK.out.trans HSt.out.kept⟩
          · have hx9 : RecsAt wy2 qh A := by
              obtain ⟨q', m', d', hv, _, _, _, _, hx, _⟩ := HHv.out.recs HSt.out.kept
              simp only [Value.slice.injEq] at hv
              rw [hv.1]
              exact hx
            go_simp
            refine (HTx.out false _ hx9).mono ?_
            rintro e9 wy3 ⟨rfl, hk⟩
            have hk' : Keeps NoBlock wy2 wy3 := by first | exact hk | exact hk.ofDrew | exact hk.ofDrewN
            have HSt := Lib.hid (HSt.out.keep HB hk')
            have HHv := Lib.hid (HHv.out.keep hk')
            have H102 := Lib.hid (H102.out.keep hk' (fun _ _ h => h))
            have hS : (fun w' : World => w'.cell? ⟨w3.heap.size, 0, none⟩ = some (.int .u8 (e : Int)) ∧ w'.cell? ⟨w3.heap.size, 1, none⟩ = some (.int .u32 (s : Int))) wy3 := And.intro ((HC.out.keep HSt.out.kept (fun h => h)).cell 0 rfl) ((HC.out.keep HSt.out.kept (fun h => h)).cell 1 rfl)
            clear hk hk' hx9
            go_wp2_with fail
            refine hK.out _ _ hS (fun _ => ?_)
            clear hK K
            refine wpAnyH_ready (rs := [8]) (by kernel_rfl) (by simp) ?_
            refine (AllReadyH.cons (o := _) rfl (fun K hK => ?_) AllReadyH.nil)
            have hc := textOf q102 (textS e s num A false).length d102 (textS e s num A false) wy3 rfl H102.out
            go_simp
            refine hK.out _ _ hS (fun _ => ?_)
            clear hK K hc
            refine wpAnyH_take (i := 14) (v := ?vT512) rfl ?aT512 ?bT512 ?cT512 ?dT512 (Or.inl ⟨?eT512, ?fT512⟩) hS ?gT512
            case fT512 => intro w hSw; (try dsimp only at hSw); go_simp; (try with_reducible rfl)
            case aT512 => kernel_rfl
            case bT512 => kernel_rfl
            case cT512 => kernel_rfl
            case dT512 => exact fun _ _ _ h => h
            case eT512 => rfl
            simp only [Act.put, List.getElem_toArray, List.getElem_cons_zero, List.getElem_cons_succ, List.setIfInBounds_toArray, List.set_cons_zero, List.set_cons_succ]
            refine wpAnyH_take (i := 15) (v := ?vT513) rfl ?aT513 ?bT513 ?cT513 ?dT513 (Or.inl ⟨?eT513, ?fT513⟩) hS ?gT513
            case fT513 => intro w hSw; (try dsimp only at hSw); go_simp; (try with_reducible rfl)
            case aT513 => kernel_rfl
            case bT513 => kernel_rfl
            case cT513 => kernel_rfl
            case dT513 => exact fun _ _ _ h => h
            case eT513 => rfl
            simp only [Act.put, List.getElem_toArray, List.getElem_cons_zero, List.getElem_cons_succ, List.setIfInBounds_toArray, List.set_cons_zero, List.set_cons_succ]
            refine wpAnyH_done (by kernel_rfl) ?_ _
            have hL0 := HL0.out
            have hLz : (L : Int) = 0 := by omega
            have hLy : ((L : Int) == 0) = true := by rw [hLz]; rfl
            have hLx : (L == 0) = true := by rw [hL0]; rfl
            have hLw : decide (L = 0) = true := decide_eq_true hL0
            go_wp2_with fail
            go_ret
            exact ⟨rfl, HK.out.trans HSt.out.kept⟩
        · have hL1 : 0 < L := by omega
          refine (HSl.out _ _ HSt.out.at_ hL1).mono ?_
          rintro e9 w6 ⟨u6, rfl, hg⟩
          obtain ⟨hk6, ho6, F6, hsub6, hst6, hap6⟩ := HSt.out.gives hg
          have HU := Lib.hid (OwnG.given ho6 HSt.out.kept.size hap6)
          obtain ⟨qu, du, rfl, _, _, _, _, _⟩ := ho6.read
          have HHv := Lib.hid (HHv.out.call hk6 hsub6)
          have HSt := Lib.hid hst6
          have HL0 := Lib.hid hL0
          clear hk6 hsub6 hst6 hg ho6 hap6 HSl HSn hL0 hL1
          go_upto_region 33 with (fail)
          go_wp2_with fail
          obtain ⟨wy0, hwx⟩ : ∃ W, W = w6.drew := ⟨_, rfl⟩
          have HSt := Lib.hid (HSt.out.keep HB ((Keeps.refl NoBlock w6).drew))
          have HHv := Lib.hid (HHv.out.keep ((Keeps.refl NoBlock w6).drew))
          have HU := Lib.hid (HU.out.keep ((Keeps.refl NoBlock w6).drew))
          rw [← hwx] at HU
          rw [← hwx] at HSt HHv
          have hS : (fun w' : World => w'.cell? ⟨w3.heap.size, 0, none⟩ = some (.int .u8 (e : Int)) ∧ w'.cell? ⟨w3.heap.size, 1, none⟩ = some (.int .u32 (s : Int))) wy0 := And.intro ((HC.out.keep HSt.out.kept (fun h => h)).cell 0 rfl) ((HC.out.keep HSt.out.kept (fun h => h)).cell 1 rfl)
          refine wp_region_held_drew (S := fun w' : World => w'.cell? ⟨w3.heap.size, 0, none⟩ = some (.int .u8 (e : Int)) ∧ w'.cell? ⟨w3.heap.size, 1, none⟩ = some (.int .u32 (s : Int))) (by kernel_rfl) (by rw [← hwx]; exact hS) (fun _ => ?_)
          rw [← hwx]
          clear hwx
          refine wpAnyH_take (i := 0) (v := ?vT514) rfl ?aT514 ?bT514 ?cT514 ?dT514 (Or.inl ⟨?eT514, ?fT514⟩) hS ?gT514
          case fT514 => intro w hSw; (try dsimp only at hSw); go_simp; (try with_reducible rfl)
          case aT514 => kernel_rfl
          case bT514 => kernel_rfl
          case cT514 => kernel_rfl
          case dT514 => exact fun _ _ _ h => h
          case eT514 => rfl
          simp only [Act.put, List.getElem_toArray, List.getElem_cons_zero, List.setIfInBounds_toArray, List.set_cons_zero, List.set_cons_succ]
          refine wpAnyH_take (i := 3) (v := ?vT515) rfl ?aT515 ?bT515 ?cT515 ?dT515 (Or.inl ⟨?eT515, ?fT515⟩) hS ?gT515
          case fT515 => intro w hSw; (try dsimp only at hSw); go_simp; (try with_reducible rfl)
          case aT515 => kernel_rfl
          case bT515 => kernel_rfl
          case cT515 => kernel_rfl
          case dT515 => exact fun _ _ _ h => h
          case eT515 => rfl
          simp only [Act.put, List.getElem_toArray, List.getElem_cons_zero, List.getElem_cons_succ, List.setIfInBounds_toArray, List.set_cons_zero, List.set_cons_succ]
          refine wpAnyH_ready (rs := [1]) (by kernel_rfl) (by simp) ?_
          refine (AllReadyH.cons (o := _) rfl (fun K hK => ?_) AllReadyH.nil)
          go_simp
          refine (HFrH.out.frames F6 _ e s num A _ HSt.out.at_ HOA.out.room (by have := HLd.out; omega) HOA.out.fine).mono ?_
          rintro e9 wy1 ⟨u9, rfl, hg⟩
          obtain ⟨hk9, ho9, F101, hsub9, hst9, _⟩ := HSt.out.gives hg
          obtain ⟨q101, d101, rfl, _, _, h8, _, _⟩ := ho9.read
          have HHv := Lib.hid (HHv.out.call hk9 hsub9)
          have HU := Lib.hid (HU.out.call hk9 hsub9)
          have HSt := Lib.hid hst9
          have H101 := Lib.hid h8
          have hS : (fun w' : World => w'.cell? ⟨w3.heap.size, 0, none⟩ = some (.int .u8 (e : Int)) ∧ w'.cell? ⟨w3.heap.size, 1, none⟩ = some (.int .u32 (s : Int))) wy1 := And.intro ((HC.out.keep HSt.out.kept (fun h => h)).cell 0 rfl) ((HC.out.keep HSt.out.kept (fun h => h)).cell 1 rfl)
          clear hk9 ho9 hsub9 hst9 h8 hg
          go_wp2_with fail
          refine hK.out _ _ hS (fun _ => ?_)
          clear hK K
          refine wpAnyH_ready (rs := [2]) (by kernel_rfl) (by simp) ?_
          refine (AllReadyH.cons (o := _) rfl (fun K hK => ?_) AllReadyH.nil)
          have hc := textOf q101 (outS e s num A).length d101 (outS e s num A) wy1 rfl H101.out
          go_simp
          refine hK.out _ _ hS (fun _ => ?_)
          clear hK K hc
          refine wpAnyH_take (i := 4) (v := ?vT516) rfl ?aT516 ?bT516 ?cT516 ?dT516 (Or.inl ⟨?eT516, ?fT516⟩) hS ?gT516
          case fT516 => intro w hSw; (try dsimp only at hSw); go_simp; (try with_reducible rfl)
          case aT516 => kernel_rfl
          case bT516 => kernel_rfl
          case cT516 => kernel_rfl
          case dT516 => exact fun _ _ _ h => h
          case eT516 => rfl
          simp only [Act.put, List.getElem_toArray, List.getElem_cons_zero, List.getElem_cons_succ, List.setIfInBounds_toArray, List.set_cons_zero, List.set_cons_succ]
          refine wpAnyH_take (i := 5) (v := ?vT517) rfl ?aT517 ?bT517 ?cT517 ?dT517 (Or.inl ⟨?eT517, ?fT517⟩) hS ?gT517
          case fT517 => intro w hSw; (try dsimp only at hSw); go_simp; (try with_reducible rfl)
          case aT517 => kernel_rfl
          case bT517 => kernel_rfl
          case cT517 => kernel_rfl
          case dT517 => exact fun _ _ _ h => h
          case eT517 => rfl
          simp only [Act.put, List.getElem_toArray, List.getElem_cons_zero, List.getElem_cons_succ, List.setIfInBounds_toArray, List.set_cons_zero, List.set_cons_succ]
          refine wpAnyH_take (i := 6) (v := ?vT518) rfl ?aT518 ?bT518 ?cT518 ?dT518 (Or.inl ⟨?eT518, ?fT518⟩) hS ?gT518
          case fT518 => intro w hSw; (try dsimp only at hSw); go_simp; (try with_reducible rfl)
          case aT518 => kernel_rfl
          case bT518 => kernel_rfl
          case cT518 => kernel_rfl
          case dT518 => exact fun _ _ _ h => h
          case eT518 => rfl
          simp only [Act.put, List.getElem_toArray, List.getElem_cons_zero, List.getElem_cons_succ, List.setIfInBounds_toArray, List.set_cons_zero, List.set_cons_succ]
          refine wpAnyH_take (i := 9) (v := ?vT519) rfl ?aT519 ?bT519 ?cT519 ?dT519 (Or.inl ⟨?eT519, ?fT519⟩) hS ?gT519
          case fT519 => intro w hSw; (try dsimp only at hSw); go_simp; (try with_reducible rfl)
          case aT519 => kernel_rfl
          case bT519 => kernel_rfl
          case cT519 => kernel_rfl
          case dT519 => exact fun _ _ _ h => h
          case eT519 => rfl
          simp only [Act.put, List.getElem_toArray, List.getElem_cons_zero, List.getElem_cons_succ, List.setIfInBounds_toArray, List.set_cons_zero, List.set_cons_succ]
          refine wpAnyH_take (i := 10) (v := ?vT520) rfl ?aT520 ?bT520 ?cT520 ?dT520 (Or.inl ⟨?eT520, ?fT520⟩) hS ?gT520
          case fT520 => intro w hSw; (try dsimp only at hSw); go_simp; (try with_reducible rfl)
          case aT520 => kernel_rfl
          case bT520 => kernel_rfl
          case cT520 => kernel_rfl
          case dT520 => exact fun _ _ _ h => h
          case eT520 => rfl
          simp only [Act.put, List.getElem_toArray, List.getElem_cons_zero, List.getElem_cons_succ, List.setIfInBounds_toArray, List.set_cons_zero, List.set_cons_succ]
          refine wpAnyH_take (i := 11) (v := ?vT521) rfl ?aT521 ?bT521 ?cT521 ?dT521 (Or.inl ⟨?eT521, ?fT521⟩) hS ?gT521
          case fT521 => intro w hSw; (try dsimp only at hSw); go_simp; (try with_reducible rfl)
          case aT521 => kernel_rfl
          case bT521 => kernel_rfl
          case cT521 => kernel_rfl
          case dT521 => exact fun _ _ _ h => h
          case eT521 => rfl
          simp only [Act.put, List.getElem_toArray, List.getElem_cons_zero, List.getElem_cons_succ, List.setIfInBounds_toArray, List.set_cons_zero, List.set_cons_succ]
          refine wpAnyH_take (i := 12) (v := ?vT522) rfl ?aT522 ?bT522 ?cT522 ?dT522 (Or.inl ⟨?eT522, ?fT522⟩) hS ?gT522
          case fT522 => intro w hSw; (try dsimp only at hSw); go_simp; (try with_reducible rfl)
          case aT522 => kernel_rfl
          case bT522 => kernel_rfl
          case cT522 => kernel_rfl
          case dT522 => exact fun _ _ _ h => h
          case eT522 => rfl
          simp only [Act.put, List.getElem_toArray, List.getElem_cons_zero, List.getElem_cons_succ, List.setIfInBounds_toArray, List.set_cons_zero, List.set_cons_succ]
          refine wpAnyH_ready (rs := [7]) (by kernel_rfl) (by simp) ?_
          refine (AllReadyH.cons (o := _) rfl (fun K hK => ?_) AllReadyH.nil)
          go_simp
          refine (HOpH.out.open_ F101 _ e s num A _ HSt.out.at_ HOA.out.room (by have := HLd.out; omega) HOA.out.fine).mono ?_
          rintro e9 wy2 ⟨u9, rfl, hg⟩
          obtain ⟨hk9, ho9, F102, hsub9, hst9, _⟩ := HSt.out.gives hg
          obtain ⟨q102, d102, rfl, _, _, h8, _, _⟩ := ho9.read
          have HHv := Lib.hid (HHv.out.call hk9 hsub9)
          have HU := Lib.hid (HU.out.call hk9 hsub9)
          have HSt := Lib.hid hst9
          have H102 := Lib.hid h8
          have hS : (fun w' : World => w'.cell? ⟨w3.heap.size, 0, none⟩ = some (.int .u8 (e : Int)) ∧ w'.cell? ⟨w3.heap.size, 1, none⟩ = some (.int .u32 (s : Int))) wy2 := And.intro ((HC.out.keep HSt.out.kept (fun h => h)).cell 0 rfl) ((HC.out.keep HSt.out.kept (fun h => h)).cell 1 rfl)
          clear hk9 ho9 hsub9 hst9 h8 hg
          go_wp2_with fail
          refine hK.out _ _ hS (fun _ => ?_)
          clear hK K
          refine wpAnyH_ready (rs := [8, 13]) (by kernel_rfl) (by simp) ?_
          refine (AllReadyH.cons (o := _) rfl (fun K hK => ?_) (AllReadyH.cons (o := _) rfl (fun K hK => ?_) AllReadyH.nil))
          · have hc := textOf q102 (textS e s num A false).length d102 (textS e s num A false) wy2 rfl H102.out
            go_simp
            refine hK.out _ _ hS (fun _ => ?_)
            clear hK K hc
            refine wpAnyH_ready (rs := [13]) (by kernel_rfl) (by simp) ?_
            refine (AllReadyH.cons (o := _) rfl (fun K hK => ?_) AllReadyH.nil)
            have hx9 : RecsAt wy2 qh A := by
              obtain ⟨q', m', d', hv, _, _, _, _, hx, _⟩ := HHv.out.recs HSt.out.kept
              simp only [Value.slice.injEq] at hv
              rw [hv.1]
              exact hx
            go_simp
            refine (HTx.out false _ hx9).mono ?_
            rintro e9 wy3 ⟨rfl, hk⟩
            have hk' : Keeps NoBlock wy2 wy3 := by first | exact hk | exact hk.ofDrew | exact hk.ofDrewN
            have HSt := Lib.hid (HSt.out.keep HB hk')
            have HHv := Lib.hid (HHv.out.keep hk')
            have HU := Lib.hid (HU.out.keep hk')
            have H102 := Lib.hid (H102.out.keep hk' (fun _ _ h => h))
            have hS : (fun w' : World => w'.cell? ⟨w3.heap.size, 0, none⟩ = some (.int .u8 (e : Int)) ∧ w'.cell? ⟨w3.heap.size, 1, none⟩ = some (.int .u32 (s : Int))) wy3 := And.intro ((HC.out.keep HSt.out.kept (fun h => h)).cell 0 rfl) ((HC.out.keep HSt.out.kept (fun h => h)).cell 1 rfl)
            clear hk hk' hx9
            go_wp2_with fail
            refine hK.out _ _ hS (fun _ => ?_)
            clear hK K
            refine wpAnyH_take (i := 14) (v := ?vT523) rfl ?aT523 ?bT523 ?cT523 ?dT523 (Or.inl ⟨?eT523, ?fT523⟩) hS ?gT523
            case fT523 => intro w hSw; (try dsimp only at hSw); go_simp; (try with_reducible rfl)
            case aT523 => kernel_rfl
            case bT523 => kernel_rfl
            case cT523 => kernel_rfl
            case dT523 => exact fun _ _ _ h => h
            case eT523 => rfl
            simp only [Act.put, List.getElem_toArray, List.getElem_cons_zero, List.getElem_cons_succ, List.setIfInBounds_toArray, List.set_cons_zero, List.set_cons_succ]
            refine wpAnyH_take (i := 15) (v := ?vT524) rfl ?aT524 ?bT524 ?cT524 ?dT524 (Or.inl ⟨?eT524, ?fT524⟩) hS ?gT524
            case fT524 => intro w hSw; (try dsimp only at hSw); go_simp; (try with_reducible rfl)
            case aT524 => kernel_rfl
            case bT524 => kernel_rfl
            case cT524 => kernel_rfl
            case dT524 => exact fun _ _ _ h => h
            case eT524 => rfl
            simp only [Act.put, List.getElem_toArray, List.getElem_cons_zero, List.getElem_cons_succ, List.setIfInBounds_toArray, List.set_cons_zero, List.set_cons_succ]
            refine wpAnyH_done (by kernel_rfl) ?_ _
            have hLz : decide (L = 0) = false := decide_eq_false HL0.out
            have hLy : ((L : Int) == 0) = false := by rw [beq_eq_false_iff_ne]; have := HL0.out; omega
            have hLx : (L == 0) = false := by rw [beq_eq_false_iff_ne]; exact HL0.out
            have hLv : ¬ L = 0 := HL0.out
            go_upto_region 37 with (fail)
            go_wp2_with fail
            obtain ⟨wz0, hwx⟩ : ∃ W, W = wy3.drew := ⟨_, rfl⟩
            have HSt := Lib.hid (HSt.out.keep HB ((Keeps.refl NoBlock wy3).drew))
            have HHv := Lib.hid (HHv.out.keep ((Keeps.refl NoBlock wy3).drew))
            have HU := Lib.hid (HU.out.keep ((Keeps.refl NoBlock wy3).drew))
            rw [← hwx] at HSt HHv HU
            have HU8 : Hid (Bytes8 wz0 qu (textS e s num A true)) := Lib.hid (ownr_bytes HU.out rfl)
            have hS : (fun w' : World => w'.cell? ⟨w3.heap.size, 0, none⟩ = some (.int .u8 (e : Int)) ∧ w'.cell? ⟨w3.heap.size, 1, none⟩ = some (.int .u32 (s : Int))) wz0 := And.intro ((HC.out.keep HSt.out.kept (fun h => h)).cell 0 rfl) ((HC.out.keep HSt.out.kept (fun h => h)).cell 1 rfl)
            refine wp_region_held_drew (S := fun w' : World => w'.cell? ⟨w3.heap.size, 0, none⟩ = some (.int .u8 (e : Int)) ∧ w'.cell? ⟨w3.heap.size, 1, none⟩ = some (.int .u32 (s : Int))) (by kernel_rfl) (by rw [← hwx]; exact hS) (fun _ => ?_)
            rw [← hwx]
            clear hwx
            refine wpAnyH_take (i := 0) (v := ?vT2001) rfl ?aT2001 ?bT2001 ?cT2001 ?dT2001 (Or.inl ⟨?eT2001, ?fT2001⟩) hS ?gT2001
            case fT2001 => intro w hSw; (try dsimp only at hSw); go_simp; (try with_reducible rfl)
            case aT2001 => kernel_rfl
            case bT2001 => kernel_rfl
            case cT2001 => kernel_rfl
            case dT2001 => exact fun _ _ _ h => h
            case eT2001 => rfl
            simp only [Act.put, List.getElem_toArray, List.getElem_cons_zero, List.setIfInBounds_toArray, List.set_cons_zero, List.set_cons_succ]
            refine wpAnyH_take (i := 1) (v := ?vT2002) rfl ?aT2002 ?bT2002 ?cT2002 ?dT2002 (Or.inl ⟨?eT2002, ?fT2002⟩) hS ?gT2002
            case fT2002 => intro w hSw; (try dsimp only at hSw); go_simp; (try with_reducible rfl)
            case aT2002 => kernel_rfl
            case bT2002 => kernel_rfl
            case cT2002 => kernel_rfl
            case dT2002 => exact fun _ _ _ h => h
            case eT2002 => rfl
            simp only [Act.put, List.getElem_toArray, List.getElem_cons_zero, List.getElem_cons_succ, List.setIfInBounds_toArray, List.set_cons_zero, List.set_cons_succ]
            refine wpAnyH_take (i := 2) (v := ?vT2003) rfl ?aT2003 ?bT2003 ?cT2003 ?dT2003 (Or.inl ⟨?eT2003, ?fT2003⟩) hS ?gT2003
            case fT2003 => intro w hSw; (try dsimp only at hSw); go_simp; (try with_reducible rfl)
            case aT2003 => kernel_rfl
            case bT2003 => kernel_rfl
            case cT2003 => kernel_rfl
            case dT2003 => exact fun _ _ _ h => h
            case eT2003 => rfl
            simp only [Act.put, List.getElem_toArray, List.getElem_cons_zero, List.getElem_cons_succ, List.setIfInBounds_toArray, List.set_cons_zero, List.set_cons_succ]
            refine wpAnyH_take (i := 3) (v := ?vT2004) rfl ?aT2004 ?bT2004 ?cT2004 ?dT2004 (Or.inl ⟨?eT2004, ?fT2004⟩) hS ?gT2004
            case fT2004 => intro w hSw; (try dsimp only at hSw); go_simp; (try with_reducible rfl)
            case aT2004 => kernel_rfl
            case bT2004 => kernel_rfl
            case cT2004 => kernel_rfl
            case dT2004 => exact fun _ _ _ h => h
            case eT2004 => rfl
            simp only [Act.put, List.getElem_toArray, List.getElem_cons_zero, List.getElem_cons_succ, List.setIfInBounds_toArray, List.set_cons_zero, List.set_cons_succ]
            refine wpAnyH_take (i := 5) (v := ?vT2005) rfl ?aT2005 ?bT2005 ?cT2005 ?dT2005 (Or.inl ⟨?eT2005, ?fT2005⟩) hS ?gT2005
            case fT2005 => intro w hSw; (try dsimp only at hSw); go_simp; (try with_reducible rfl)
            case aT2005 => kernel_rfl
            case bT2005 => kernel_rfl
            case cT2005 => kernel_rfl
            case dT2005 => exact fun _ _ _ h => h
            case eT2005 => rfl
            simp only [Act.put, List.getElem_toArray, List.getElem_cons_zero, List.getElem_cons_succ, List.setIfInBounds_toArray, List.set_cons_zero, List.set_cons_succ]
            refine wpAnyH_take (i := 6) (v := ?vT2006) rfl ?aT2006 ?bT2006 ?cT2006 ?dT2006 (Or.inl ⟨?eT2006, ?fT2006⟩) hS ?gT2006
            case fT2006 => intro w hSw; (try dsimp only at hSw); go_simp; (try with_reducible rfl)
            case aT2006 => kernel_rfl
            case bT2006 => kernel_rfl
            case cT2006 => kernel_rfl
            case dT2006 => exact fun _ _ _ h => h
            case eT2006 => rfl
            simp only [Act.put, List.getElem_toArray, List.getElem_cons_zero, List.getElem_cons_succ, List.setIfInBounds_toArray, List.set_cons_zero, List.set_cons_succ]
            refine wpAnyH_take (i := 7) (v := ?vT2007) rfl ?aT2007 ?bT2007 ?cT2007 ?dT2007 (Or.inl ⟨?eT2007, ?fT2007⟩) hS ?gT2007
            case fT2007 => intro w hSw; (try dsimp only at hSw); go_simp; (try with_reducible rfl)
            case aT2007 => kernel_rfl
            case bT2007 => kernel_rfl
            case cT2007 => kernel_rfl
            case dT2007 => exact fun _ _ _ h => h
            case eT2007 => rfl
            simp only [Act.put, List.getElem_toArray, List.getElem_cons_zero, List.getElem_cons_succ, List.setIfInBounds_toArray, List.set_cons_zero, List.set_cons_succ]
            refine wpAnyH_take (i := 8) (v := ?vT2008) rfl ?aT2008 ?bT2008 ?cT2008 ?dT2008 (Or.inl ⟨?eT2008, ?fT2008⟩) hS ?gT2008
            case fT2008 => intro w hSw; (try dsimp only at hSw); go_simp; (try with_reducible rfl)
            case aT2008 => kernel_rfl
            case bT2008 => kernel_rfl
            case cT2008 => kernel_rfl
            case dT2008 => exact fun _ _ _ h => h
            case eT2008 => rfl
            simp only [Act.put, List.getElem_toArray, List.getElem_cons_zero, List.getElem_cons_succ, List.setIfInBounds_toArray, List.set_cons_zero, List.set_cons_succ]
            refine wpAnyH_ready (rs := [4, 9]) (by kernel_rfl) (by simp) ?_
            refine (AllReadyH.cons (o := _) rfl (fun K hK => ?_) (AllReadyH.cons (o := _) rfl (fun K hK => ?_) AllReadyH.nil))
            · have hc := textOf qu (textS e s num A true).length du (textS e s num A true) wz0 rfl HU8.out
              go_simp
              refine hK.out _ _ hS (fun _ => ?_)
              clear hK K hc
              refine wpAnyH_ready (rs := [9]) (by kernel_rfl) (by simp) ?_
              refine (AllReadyH.cons (o := _) rfl (fun K hK => ?_) AllReadyH.nil)
              have hx9 : RecsAt wz0 qh A := by
                obtain ⟨q', m', d', hv, _, _, _, _, hx, _⟩ := HHv.out.recs HSt.out.kept
                simp only [Value.slice.injEq] at hv
                rw [hv.1]
                exact hx
              go_simp
              refine (HTx.out true _ hx9).mono ?_
              rintro e9 wz1 ⟨rfl, hk⟩
              have hk' : Keeps NoBlock wz0 wz1 := by first | exact hk | exact hk.ofDrew | exact hk.ofDrewN
              have HSt := Lib.hid (HSt.out.keep HB hk')
              have HHv := Lib.hid (HHv.out.keep hk')
              have HU8 := Lib.hid (HU8.out.keep hk' (fun _ _ h => h))
              have hS : (fun w' : World => w'.cell? ⟨w3.heap.size, 0, none⟩ = some (.int .u8 (e : Int)) ∧ w'.cell? ⟨w3.heap.size, 1, none⟩ = some (.int .u32 (s : Int))) wz1 := And.intro ((HC.out.keep HSt.out.kept (fun h => h)).cell 0 rfl) ((HC.out.keep HSt.out.kept (fun h => h)).cell 1 rfl)
              clear hk hk' hx9
              go_wp2_with fail
              refine hK.out _ _ hS (fun _ => ?_)
              clear hK K
              refine wpAnyH_take (i := 10) (v := ?vT2009) rfl ?aT2009 ?bT2009 ?cT2009 ?dT2009 (Or.inl ⟨?eT2009, ?fT2009⟩) hS ?gT2009
              case fT2009 => intro w hSw; (try dsimp only at hSw); go_simp; (try with_reducible rfl)
              case aT2009 => kernel_rfl
              case bT2009 => kernel_rfl
              case cT2009 => kernel_rfl
              case dT2009 => exact fun _ _ _ h => h
              case eT2009 => rfl
              simp only [Act.put, List.getElem_toArray, List.getElem_cons_zero, List.getElem_cons_succ, List.setIfInBounds_toArray, List.set_cons_zero, List.set_cons_succ]
              refine wpAnyH_take (i := 11) (v := ?vT2010) rfl ?aT2010 ?bT2010 ?cT2010 ?dT2010 (Or.inl ⟨?eT2010, ?fT2010⟩) hS ?gT2010
              case fT2010 => intro w hSw; (try dsimp only at hSw); go_simp; (try with_reducible rfl)
              case aT2010 => kernel_rfl
              case bT2010 => kernel_rfl
              case cT2010 => kernel_rfl
              case dT2010 => exact fun _ _ _ h => h
              case eT2010 => rfl
              simp only [Act.put, List.getElem_toArray, List.getElem_cons_zero, List.getElem_cons_succ, List.setIfInBounds_toArray, List.set_cons_zero, List.set_cons_succ]
              refine wpAnyH_take (i := 12) (v := ?vT2011) rfl ?aT2011 ?bT2011 ?cT2011 ?dT2011 (Or.inl ⟨?eT2011, ?fT2011⟩) hS ?gT2011
              case fT2011 => intro w hSw; (try dsimp only at hSw); go_simp; (try with_reducible rfl)
              case aT2011 => kernel_rfl
              case bT2011 => kernel_rfl
              case cT2011 => kernel_rfl
              case dT2011 => exact fun _ _ _ h => h
              case eT2011 => rfl
              simp only [Act.put, List.getElem_toArray, List.getElem_cons_zero, List.getElem_cons_succ, List.setIfInBounds_toArray, List.set_cons_zero, List.set_cons_succ]
              refine wpAnyH_done (by kernel_rfl) ?_ _
              go_wp2_with fail
              go_ret
              exact ⟨rfl, HK.out.trans HSt.out.kept⟩
            · have hx9 : RecsAt wz0 qh A := by
                obtain ⟨q', m', d', hv, _, _, _, _, hx, _⟩ := HHv.out.recs HSt.out.kept
                simp only [Value.slice.injEq] at hv
                rw [hv.1]
                exact hx
              go_simp
              refine (HTx.out true _ hx9).mono ?_
              rintro e9 wz1 ⟨rfl, hk⟩
              have hk' : Keeps NoBlock wz0 wz1 := by first | exact hk | exact hk.ofDrew | exact hk.ofDrewN
              have HSt := Lib.hid (HSt.out.keep HB hk')
              have HHv := Lib.hid (HHv.out.keep hk')
              have HU8 := Lib.hid (HU8.out.keep hk' (fun _ _ h => h))
              have hS : (fun w' : World => w'.cell? ⟨w3.heap.size, 0, none⟩ = some (.int .u8 (e : Int)) ∧ w'.cell? ⟨w3.heap.size, 1, none⟩ = some (.int .u32 (s : Int))) wz1 := And.intro ((HC.out.keep HSt.out.kept (fun h => h)).cell 0 rfl) ((HC.out.keep HSt.out.kept (fun h => h)).cell 1 rfl)
              clear hk hk' hx9
              go_wp2_with fail
              refine hK.out _ _ hS (fun _ => ?_)
              clear hK K
              refine wpAnyH_ready (rs := [4]) (by kernel_rfl) (by simp) ?_
              refine (AllReadyH.cons (o := _) rfl (fun K hK => ?_) AllReadyH.nil)
              have hc := textOf qu (textS e s num A true).length du (textS e s num A true) wz1 rfl HU8.out
              go_simp
              refine hK.out _ _ hS (fun _ => ?_)
              clear hK K hc
              refine wpAnyH_take (i := 10) (v := ?vT2012) rfl ?aT2012 ?bT2012 ?cT2012 ?dT2012 (Or.inl ⟨?eT2012, ?fT2012⟩) hS ?gT2012
              case fT2012 => intro w hSw; (try dsimp only at hSw); go_simp; (try with_reducible rfl)
              case aT2012 => kernel_rfl
              case bT2012 => kernel_rfl
              case cT2012 => kernel_rfl
              case dT2012 => exact fun _ _ _ h => h
              case eT2012 => rfl
              simp only [Act.put, List.getElem_toArray, List.getElem_cons_zero, List.getElem_cons_succ, List.setIfInBounds_toArray, List.set_cons_zero, List.set_cons_succ]
              refine wpAnyH_take (i := 11) (v := ?vT2013) rfl ?aT2013 ?bT2013 ?cT2013 ?dT2013 (Or.inl ⟨?eT2013, ?fT2013⟩) hS ?gT2013
              case fT2013 => intro w hSw; (try dsimp only at hSw); go_simp; (try with_reducible rfl)
              case aT2013 => kernel_rfl
              case bT2013 => kernel_rfl
              case cT2013 => kernel_rfl
              case dT2013 => exact fun _ _ _ h => h
              case eT2013 => rfl
              simp only [Act.put, List.getElem_toArray, List.getElem_cons_zero, List.getElem_cons_succ, List.setIfInBounds_toArray, List.set_cons_zero, List.set_cons_succ]
              refine wpAnyH_take (i := 12) (v := ?vT2014) rfl ?aT2014 ?bT2014 ?cT2014 ?dT2014 (Or.inl ⟨?eT2014, ?fT2014⟩) hS ?gT2014
              case fT2014 => intro w hSw; (try dsimp only at hSw); go_simp; (try with_reducible rfl)
              case aT2014 => kernel_rfl
              case bT2014 => kernel_rfl
              case cT2014 => kernel_rfl
              case dT2014 => exact fun _ _ _ h => h
              case eT2014 => rfl
              simp only [Act.put, List.getElem_toArray, List.getElem_cons_zero, List.getElem_cons_succ, List.setIfInBounds_toArray, List.set_cons_zero, List.set_cons_succ]
              refine wpAnyH_done (by kernel_rfl) ?_ _
              go_wp2_with fail
              go_ret
              exact ⟨rfl, HK.out.trans HSt.out.kept⟩
          · have hx9 : RecsAt wy2 qh A := by
              obtain ⟨q', m', d', hv, _, _, _, _, hx, _⟩ := HHv.out.recs HSt.out.kept
              simp only [Value.slice.injEq] at hv
              rw [hv.1]
              exact hx
            go_simp
            refine (HTx.out false _ hx9).mono ?_
            rintro e9 wy3 ⟨rfl, hk⟩
            have hk' : Keeps NoBlock wy2 wy3 := by first | exact hk | exact hk.ofDrew | exact hk.ofDrewN
            have HSt := Lib.hid (HSt.out.keep HB hk')
            have HHv := Lib.hid (HHv.out.keep hk')
            have HU := Lib.hid (HU.out.keep hk')
            have H102 := Lib.hid (H102.out.keep hk' (fun _ _ h => h))
            have hS : (fun w' : World => w'.cell? ⟨w3.heap.size, 0, none⟩ = some (.int .u8 (e : Int)) ∧ w'.cell? ⟨w3.heap.size, 1, none⟩ = some (.int .u32 (s : Int))) wy3 := And.intro ((HC.out.keep HSt.out.kept (fun h => h)).cell 0 rfl) ((HC.out.keep HSt.out.kept (fun h => h)).cell 1 rfl)
            clear hk hk' hx9
            go_wp2_with fail
            refine hK.out _ _ hS (fun _ => ?_)
            clear hK K
            refine wpAnyH_ready (rs := [8]) (by kernel_rfl) (by simp) ?_
            refine (AllReadyH.cons (o := _) rfl (fun K hK => ?_) AllReadyH.nil)
            have hc := textOf q102 (textS e s num A false).length d102 (textS e s num A false) wy3 rfl H102.out
            go_simp
            refine hK.out _ _ hS (fun _ => ?_)
            clear hK K hc
            refine wpAnyH_take (i := 14) (v := ?vT525) rfl ?aT525 ?bT525 ?cT525 ?dT525 (Or.inl ⟨?eT525, ?fT525⟩) hS ?gT525
            case fT525 => intro w hSw; (try dsimp only at hSw); go_simp; (try with_reducible rfl)
            case aT525 => kernel_rfl
            case bT525 => kernel_rfl
            case cT525 => kernel_rfl
            case dT525 => exact fun _ _ _ h => h
            case eT525 => rfl
            simp only [Act.put, List.getElem_toArray, List.getElem_cons_zero, List.getElem_cons_succ, List.setIfInBounds_toArray, List.set_cons_zero, List.set_cons_succ]
            refine wpAnyH_take (i := 15) (v := ?vT526) rfl ?aT526 ?bT526 ?cT526 ?dT526 (Or.inl ⟨?eT526, ?fT526⟩) hS ?gT526
            case fT526 => intro w hSw; (try dsimp only at hSw); go_simp; (try with_reducible rfl)
            case aT526 => kernel_rfl
            case bT526 => kernel_rfl
            case cT526 => kernel_rfl
            case dT526 => exact fun _ _ _ h => h
            case eT526 => rfl
            simp only [Act.put, List.getElem_toArray, List.getElem_cons_zero, List.getElem_cons_succ, List.setIfInBounds_toArray, List.set_cons_zero, List.set_cons_succ]
            refine wpAnyH_done (by kernel_rfl) ?_ _
            have hLz : decide (L = 0) = false := decide_eq_false HL0.out
            have hLy : ((L : Int) == 0) = false := by rw [beq_eq_false_iff_ne]; have := HL0.out; omega
            have hLx : (L == 0) = false := by rw [beq_eq_false_iff_ne]; exact HL0.out
            have hLv : ¬ L = 0 := HL0.out
            go_upto_region 37 with (fail)
            go_wp2_with fail
            obtain ⟨wz0, hwx⟩ : ∃ W, W = wy3.drew := ⟨_, rfl⟩
            have HSt := Lib.hid (HSt.out.keep HB ((Keeps.refl NoBlock wy3).drew))
            have HHv := Lib.hid (HHv.out.keep ((Keeps.refl NoBlock wy3).drew))
            have HU := Lib.hid (HU.out.keep ((Keeps.refl NoBlock wy3).drew))
            rw [← hwx] at HSt HHv HU
            have HU8 : Hid (Bytes8 wz0 qu (textS e s num A true)) := Lib.hid (ownr_bytes HU.out rfl)
            have hS : (fun w' : World => w'.cell? ⟨w3.heap.size, 0, none⟩ = some (.int .u8 (e : Int)) ∧ w'.cell? ⟨w3.heap.size, 1, none⟩ = some (.int .u32 (s : Int))) wz0 := And.intro ((HC.out.keep HSt.out.kept (fun h => h)).cell 0 rfl) ((HC.out.keep HSt.out.kept (fun h => h)).cell 1 rfl)
            refine wp_region_held_drew (S := fun w' : World => w'.cell? ⟨w3.heap.size, 0, none⟩ = some (.int .u8 (e : Int)) ∧ w'.cell? ⟨w3.heap.size, 1, none⟩ = some (.int .u32 (s : Int))) (by kernel_rfl) (by rw [← hwx]; exact hS) (fun _ => ?_)
            rw [← hwx]
            clear hwx
            refine wpAnyH_take (i := 0) (v := ?vT2015) rfl ?aT2015 ?bT2015 ?cT2015 ?dT2015 (Or.inl ⟨?eT2015, ?fT2015⟩) hS ?gT2015
            case fT2015 => intro w hSw; (try dsimp only at hSw); go_simp; (try with_reducible rfl)
            case aT2015 => kernel_rfl
            case bT2015 => kernel_rfl
            case cT2015 => kernel_rfl
            case dT2015 => exact fun _ _ _ h => h
            case eT2015 => rfl
            simp only [Act.put, List.getElem_toArray, List.getElem_cons_zero, List.setIfInBounds_toArray, List.set_cons_zero, List.set_cons_succ]
            refine wpAnyH_take (i := 1) (v := ?vT2016) rfl ?aT2016 ?bT2016 ?cT2016 ?dT2016 (Or.inl ⟨?eT2016, ?fT2016⟩) hS ?gT2016
            case fT2016 => intro w hSw; (try dsimp only at hSw); go_simp; (try with_reducible rfl)
            case aT2016 => kernel_rfl
            case bT2016 => kernel_rfl
            case cT2016 => kernel_rfl
            case dT2016 => exact fun _ _ _ h => h
            case eT2016 => rfl
            simp only [Act.put, List.getElem_toArray, List.getElem_cons_zero, List.getElem_cons_succ, List.setIfInBounds_toArray, List.set_cons_zero, List.set_cons_succ]
            refine wpAnyH_take (i := 2) (v := ?vT2017) rfl ?aT2017 ?bT2017 ?cT2017 ?dT2017 (Or.inl ⟨?eT2017, ?fT2017⟩) hS ?gT2017
            case fT2017 => intro w hSw; (try dsimp only at hSw); go_simp; (try with_reducible rfl)
            case aT2017 => kernel_rfl
            case bT2017 => kernel_rfl
            case cT2017 => kernel_rfl
            case dT2017 => exact fun _ _ _ h => h
            case eT2017 => rfl
            simp only [Act.put, List.getElem_toArray, List.getElem_cons_zero, List.getElem_cons_succ, List.setIfInBounds_toArray, List.set_cons_zero, List.set_cons_succ]
            refine wpAnyH_take (i := 3) (v := ?vT2018) rfl ?aT2018 ?bT2018 ?cT2018 ?dT2018 (Or.inl ⟨?eT2018, ?fT2018⟩) hS ?gT2018
            case fT2018 => intro w hSw; (try dsimp only at hSw); go_simp; (try with_reducible rfl)
            case aT2018 => kernel_rfl
            case bT2018 => kernel_rfl
            case cT2018 => kernel_rfl
            case dT2018 => exact fun _ _ _ h => h
            case eT2018 => rfl
            simp only [Act.put, List.getElem_toArray, List.getElem_cons_zero, List.getElem_cons_succ, List.setIfInBounds_toArray, List.set_cons_zero, List.set_cons_succ]
            refine wpAnyH_take (i := 5) (v := ?vT2019) rfl ?aT2019 ?bT2019 ?cT2019 ?dT2019 (Or.inl ⟨?eT2019, ?fT2019⟩) hS ?gT2019
            case fT2019 => intro w hSw; (try dsimp only at hSw); go_simp; (try with_reducible rfl)
            case aT2019 => kernel_rfl
            case bT2019 => kernel_rfl
            case cT2019 => kernel_rfl
            case dT2019 => exact fun _ _ _ h => h
            case eT2019 => rfl
            simp only [Act.put, List.getElem_toArray, List.getElem_cons_zero, List.getElem_cons_succ, List.setIfInBounds_toArray, List.set_cons_zero, List.set_cons_succ]
            refine wpAnyH_take (i := 6) (v := ?vT2020) rfl ?aT2020 ?bT2020 ?cT2020 ?dT2020 (Or.inl ⟨?eT2020, ?fT2020⟩) hS ?gT2020
            case fT2020 => intro w hSw; (try dsimp only at hSw); go_simp; (try with_reducible rfl)
            case aT2020 => kernel_rfl
            case bT2020 => kernel_rfl
            case cT2020 => kernel_rfl
            case dT2020 => exact fun _ _ _ h => h
            case eT2020 => rfl
            simp only [Act.put, List.getElem_toArray, List.getElem_cons_zero, List.getElem_cons_succ, List.setIfInBounds_toArray, List.set_cons_zero, List.set_cons_succ]
            refine wpAnyH_take (i := 7) (v := ?vT2021) rfl ?aT2021 ?bT2021 ?cT2021 ?dT2021 (Or.inl ⟨?eT2021, ?fT2021⟩) hS ?gT2021
            case fT2021 => intro w hSw; (try dsimp only at hSw); go_simp; (try with_reducible rfl)
            case aT2021 => kernel_rfl
            case bT2021 => kernel_rfl
            case cT2021 => kernel_rfl
            case dT2021 => exact fun _ _ _ h => h
            case eT2021 => rfl
            simp only [Act.put, List.getElem_toArray, List.getElem_cons_zero, List.getElem_cons_succ, List.setIfInBounds_toArray, List.set_cons_zero, List.set_cons_succ]
            refine wpAnyH_take (i := 8) (v := ?vT2022) rfl ?aT2022 ?bT2022 ?cT2022 ?dT2022 (Or.inl ⟨?eT2022, ?fT2022⟩) hS ?gT2022
            case fT2022 => intro w hSw; (try dsimp only at hSw); go_simp; (try with_reducible rfl)
            case aT2022 => kernel_rfl
            case bT2022 => kernel_rfl
            case cT2022 => kernel_rfl
            case dT2022 => exact fun _ _ _ h => h
            case eT2022 => rfl
            simp only [Act.put, List.getElem_toArray, List.getElem_cons_zero, List.getElem_cons_succ, List.setIfInBounds_toArray, List.set_cons_zero, List.set_cons_succ]
            refine wpAnyH_ready (rs := [4, 9]) (by kernel_rfl) (by simp) ?_
            refine (AllReadyH.cons (o := _) rfl (fun K hK => ?_) (AllReadyH.cons (o := _) rfl (fun K hK => ?_) AllReadyH.nil))
            · have hc := textOf qu (textS e s num A true).length du (textS e s num A true) wz0 rfl HU8.out
              go_simp
              refine hK.out _ _ hS (fun _ => ?_)
              clear hK K hc
              refine wpAnyH_ready (rs := [9]) (by kernel_rfl) (by simp) ?_
              refine (AllReadyH.cons (o := _) rfl (fun K hK => ?_) AllReadyH.nil)
              have hx9 : RecsAt wz0 qh A := by
                obtain ⟨q', m', d', hv, _, _, _, _, hx, _⟩ := HHv.out.recs HSt.out.kept
                simp only [Value.slice.injEq] at hv
                rw [hv.1]
                exact hx
              go_simp
              refine (HTx.out true _ hx9).mono ?_
              rintro e9 wz1 ⟨rfl, hk⟩
              have hk' : Keeps NoBlock wz0 wz1 := by first | exact hk | exact hk.ofDrew | exact hk.ofDrewN
              have HSt := Lib.hid (HSt.out.keep HB hk')
              have HHv := Lib.hid (HHv.out.keep hk')
              have HU8 := Lib.hid (HU8.out.keep hk' (fun _ _ h => h))
              have hS : (fun w' : World => w'.cell? ⟨w3.heap.size, 0, none⟩ = some (.int .u8 (e : Int)) ∧ w'.cell? ⟨w3.heap.size, 1, none⟩ = some (.int .u32 (s : Int))) wz1 := And.intro ((HC.out.keep HSt.out.kept (fun h => h)).cell 0 rfl) ((HC.out.keep HSt.out.kept (fun h => h)).cell 1 rfl)
              clear hk hk' hx9
              go_wp2_with fail
              refine hK.out _ _ hS (fun _ => ?_)
              clear hK K
              refine wpAnyH_take (i := 10) (v := ?vT2023) rfl ?aT2023 ?bT2023 ?cT2023 ?dT2023 (Or.inl ⟨?eT2023, ?fT2023⟩) hS ?gT2023
              case fT2023 => intro w hSw; (try dsimp only at hSw); go_simp; (try with_reducible rfl)
              case aT2023 => kernel_rfl
              case bT2023 => kernel_rfl
              case cT2023 => kernel_rfl
              case dT2023 => exact fun _ _ _ h => h
              case eT2023 => rfl
              simp only [Act.put, List.getElem_toArray, List.getElem_cons_zero, List.getElem_cons_succ, List.setIfInBounds_toArray, List.set_cons_zero, List.set_cons_succ]
              refine wpAnyH_take (i := 11) (v := ?vT2024) rfl ?aT2024 ?bT2024 ?cT2024 ?dT2024 (Or.inl ⟨?eT2024, ?fT2024⟩) hS ?gT2024
              case fT2024 => intro w hSw; (try dsimp only at hSw); go_simp; (try with_reducible rfl)
              case aT2024 => kernel_rfl
              case bT2024 => kernel_rfl
              case cT2024 => kernel_rfl
              case dT2024 => exact fun _ _ _ h => h
              case eT2024 => rfl
              simp only [Act.put, List.getElem_toArray, List.getElem_cons_zero, List.getElem_cons_succ, List.setIfInBounds_toArray, List.set_cons_zero, List.set_cons_succ]
              refine wpAnyH_take (i := 12) (v := ?vT2025) rfl ?aT2025 ?bT2025 ?cT2025 ?dT2025 (Or.inl ⟨?eT2025, ?fT2025⟩) hS ?gT2025
              case fT2025 => intro w hSw; (try dsimp only at hSw); go_simp; (try with_reducible rfl)
              case aT2025 => kernel_rfl
              case bT2025 => kernel_rfl
              case cT2025 => kernel_rfl
              case dT2025 => exact fun _ _ _ h => h
              case eT2025 => rfl
              simp only [Act.put, List.getElem_toArray, List.getElem_cons_zero, List.getElem_cons_succ, List.setIfInBounds_toArray, List.set_cons_zero, List.set_cons_succ]
              refine wpAnyH_done (by kernel_rfl) ?_ _
              go_wp2_with fail
              go_ret
              exact ⟨rfl, HK.out.trans HSt.out.kept⟩
            · have hx9 : RecsAt wz0 qh A := by
                obtain ⟨q', m', d', hv, _, _, _, _, hx, _⟩ := HHv.out.recs HSt.out.kept
                simp only [Value.slice.injEq] at hv
                rw [hv.1]
                exact hx
              go_simp
              refine (HTx.out true _ hx9).mono ?_
              rintro e9 wz1 ⟨rfl, hk⟩
              have hk' : Keeps NoBlock wz0 wz1 := by first | exact hk | exact hk.ofDrew | exact hk.ofDrewN
              have HSt := Lib.hid (HSt.out.keep HB hk')
              have HHv := Lib.hid (HHv.out.keep hk')
              have HU8 := Lib.hid (HU8.out.keep hk' (fun _ _ h => h))
              have hS : (fun w' : World => w'.cell? ⟨w3.heap.size, 0, none⟩ = some (.int .u8 (e : Int)) ∧ w'.cell? ⟨w3.heap.size, 1, none⟩ = some (.int .u32 (s : Int))) wz1 := And.intro ((HC.out.keep HSt.out.kept (fun h => h)).cell 0 rfl) ((HC.out.keep HSt.out.kept (fun h => h)).cell 1 rfl)
              clear hk hk' hx9
              go_wp2_with fail
              refine hK.out _ _ hS (fun _ => ?_)
              clear hK K
              refine wpAnyH_ready (rs := [4]) (by kernel_rfl) (by simp) ?_
              refine (AllReadyH.cons (o := _) rfl (fun K hK => ?_) AllReadyH.nil)
              have hc := textOf qu (textS e s num A true).length du (textS e s num A true) wz1 rfl HU8.out
              go_simp
              refine hK.out _ _ hS (fun _ => ?_)
              clear hK K hc
              refine wpAnyH_take (i := 10) (v := ?vT2026) rfl ?aT2026 ?bT2026 ?cT2026 ?dT2026 (Or.inl ⟨?eT2026, ?fT2026⟩) hS ?gT2026
              case fT2026 => intro w hSw; (try dsimp only at hSw); go_simp; (try with_reducible rfl)
              case aT2026 => kernel_rfl
              case bT2026 => kernel_rfl
              case cT2026 => kernel_rfl
              case dT2026 => exact fun _ _ _ h => h
              case eT2026 => rfl
              simp only [Act.put, List.getElem_toArray, List.getElem_cons_zero, List.getElem_cons_succ, List.setIfInBounds_toArray, List.set_cons_zero, List.set_cons_succ]
              refine wpAnyH_take (i := 11) (v := ?vT2027) rfl ?aT2027 ?bT2027 ?cT2027 ?dT2027 (Or.inl ⟨?eT2027, ?fT2027⟩) hS ?gT2027
              case fT2027 => intro w hSw; (try dsimp only at hSw); go_simp; (try with_reducible rfl)
              case aT2027 => kernel_rfl
              case bT2027 => kernel_rfl
              case cT2027 => kernel_rfl
              case dT2027 => exact fun _ _ _ h => h
              case eT2027 => rfl
              simp only [Act.put, List.getElem_toArray, List.getElem_cons_zero, List.getElem_cons_succ, List.setIfInBounds_toArray, List.set_cons_zero, List.set_cons_succ]
              refine wpAnyH_take (i := 12) (v := ?vT2028) rfl ?aT2028 ?bT2028 ?cT2028 ?dT2028 (Or.inl ⟨?eT2028, ?fT2028⟩) hS ?gT2028
              case fT2028 => intro w hSw; (try dsimp only at hSw); go_simp; (try with_reducible rfl)
              case aT2028 => kernel_rfl
              case bT2028 => kernel_rfl
              case cT2028 => kernel_rfl
              case dT2028 => exact fun _ _ _ h => h
              case eT2028 => rfl
              simp only [Act.put, List.getElem_toArray, List.getElem_cons_zero, List.getElem_cons_succ, List.setIfInBounds_toArray, List.set_cons_zero, List.set_cons_succ]
              refine wpAnyH_done (by kernel_rfl) ?_ _
              go_wp2_with fail
              go_ret
              exact ⟨rfl, HK.out.trans HSt.out.kept⟩
    -- LAST

theorem segbuilds_walk {At : BAt} (HB : SgBuild At) (HNw : SgNewOk At) (HAd : SgAddOk At) (HRm : SgRoomOk At) (HFr : SgFramesOk At) (HOp : SgOpenOk At) (HSe : SgSealOk At) (k num : Nat) (p : Option Addr) (n c : Nat) (l : List Rec) (w : World) (hk : k < 256) (hnum : num < 4294967296) (hn : n = l.length) (hc : n ≤ c) (hc' : c ≤ 9223372036854775807) (hf : ∀ r ∈ l, r.Fine) (hb : ∀ r ∈ l, r.key.length ≤ 9223372036854775807 ∧ r.val.length ≤ 9223372036854775807) (hl : RecsAt w p l) :
    Calls Tryz.prog 3 #[.int .u8 (k : Int), .int .u32 (num : Int), .slice p n c] w fun e w' => e = .returned (.bool true) ∧ Keeps NoBlock w w' := by
  by_cases hlt : fewR l 60 5000 = true
  · by_cases hm : mayHead (smallE k) (smallS k) num = true
    · exact segbuilds_may HB HNw HAd HRm HFr HOp HSe k num p n c l w hk hnum hn hc hc' hf hb hl hlt hm
    · exact segbuilds_not HB HNw HOp k num p n c l w hk hnum hn hc hc' hb hl hlt (by simpa using hm)
  · exact segbuilds_many HB HNw HOp k num p n c l w hn hc hc' hb hl (by simpa using hlt)
end Go.Proofs.YtlejobomjgccnaaGreat

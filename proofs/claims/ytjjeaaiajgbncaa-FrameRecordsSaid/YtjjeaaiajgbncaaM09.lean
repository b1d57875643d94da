/-
  FrGetH; NewBytes; FrLaws; FrOpWalk; FrSeWalk; RecRow.
-/
import Derived.Deep.RegionHeld3
import Derived.Test.YtjjeaaiajgbncaaM02
import Derived.Test.YtjjeaaiajgbncaaM05
import Derived.Test.YtjjeaaiajgbncaaM06
import Derived.Test.YtjjeaaiajgbncaaM07
import Derived.Test.YtjjeaaiajgbncaaM08
namespace Go.Proofs.Ytjjeaaiajgbncaa
open Go.RowKit

set_option maxHeartbeats 8000000 in
set_option maxRecDepth 10000 in
theorem gethead9_good (ys T : List Int) (hcase : (s1 T 0).E = 0 ∧ (s1 T 0).v = 1 ∧ (s1 (s1 T 0).X (s1 T 0).E).E = 0 ∧ (s1 (s1 T 0).X (s1 T 0).E).v = 2) (hopen : openN ys = (0, T)) (ho : Octets ys) (hl : ys.length ≤ 10000000) (w : World) :
    Calls Try.prog 24 #[.string (strOfNums ys)] w fun e w' => e = .returned (headOut (stepsH T)) ∧ Keeps NoBlock w w' := by
  have HO := Lib.hid (fun w => open9_ref ys ho hl w)
  obtain ⟨hb1, hb2⟩ := open_bound ho
  unfold openOut at HO
  rw [hopen] at HO hb1 hb2
  simp only at HO hb1 hb2
  have hTl : T.length ≤ 10000000 := by omega
  clear hb2 hopen
  have G1 := Lib.hid (fun w => get1_all T 0 0 (by omega) (by omega) hb1 w)
  unfold get1Out at G1
  have hB := step_room (X := T) (A := 0) (d1_le T 0) (by omega) (by omega)
  have hbv1 := b1_bound hb1 0
  have ho1 : Octets (T.drop (d1 T 0)) := hb1.drop _
  obtain ⟨X1, hX1⟩ : ∃ X, X = T.drop (d1 T 0) := ⟨_, rfl⟩
  obtain ⟨A1, hA1⟩ : ∃ A, A = 0 + (d1 T 0 : Int) := ⟨_, rfl⟩
  obtain ⟨E1, hE1⟩ : ∃ E, E = f1 T 0 := ⟨_, rfl⟩
  obtain ⟨v1, hv1⟩ : ∃ v, v = b1 T 0 := ⟨_, rfl⟩
  rw [← hX1, ← hA1, ← hE1, ← hv1] at G1
  rw [← hX1, ← hA1] at hB
  rw [← hX1] at ho1
  rw [← hv1] at hbv1
  obtain ⟨hB1, hC1, hD1⟩ := hB
  have G2 := Lib.hid (fun w => get1_all X1 A1 E1 (by omega) (by omega) ho1 w)
  unfold get1Out at G2
  have hB := step_room (X := X1) (A := A1) (d1_le X1 E1) (by omega) (by omega)
  have hbv2 := b1_bound ho1 E1
  have ho2 : Octets (X1.drop (d1 X1 E1)) := ho1.drop _
  obtain ⟨X2, hX2⟩ : ∃ X, X = X1.drop (d1 X1 E1) := ⟨_, rfl⟩
  obtain ⟨A2, hA2⟩ : ∃ A, A = A1 + (d1 X1 E1 : Int) := ⟨_, rfl⟩
  obtain ⟨E2, hE2⟩ : ∃ E, E = f1 X1 E1 := ⟨_, rfl⟩
  obtain ⟨v2, hv2⟩ : ∃ v, v = b1 X1 E1 := ⟨_, rfl⟩
  rw [← hX2, ← hA2, ← hE2, ← hv2] at G2
  rw [← hX2, ← hA2] at hB
  rw [← hX2] at ho2
  rw [← hv2] at hbv2
  obtain ⟨hB2, hC2, hD2⟩ := hB
  have G3 := Lib.hid (fun w => get1_all X2 A2 E2 (by omega) (by omega) ho2 w)
  unfold get1Out at G3
  have hB := step_room (X := X2) (A := A2) (d1_le X2 E2) (by omega) (by omega)
  have hbv3 := b1_bound ho2 E2
  have ho3 : Octets (X2.drop (d1 X2 E2)) := ho2.drop _
  obtain ⟨X3, hX3⟩ : ∃ X, X = X2.drop (d1 X2 E2) := ⟨_, rfl⟩
  obtain ⟨A3, hA3⟩ : ∃ A, A = A2 + (d1 X2 E2 : Int) := ⟨_, rfl⟩
  obtain ⟨E3, hE3⟩ : ∃ E, E = f1 X2 E2 := ⟨_, rfl⟩
  obtain ⟨v3, hv3⟩ : ∃ v, v = b1 X2 E2 := ⟨_, rfl⟩
  rw [← hX3, ← hA3, ← hE3, ← hv3] at G3
  rw [← hX3, ← hA3] at hB
  rw [← hX3] at ho3
  rw [← hv3] at hbv3
  obtain ⟨hB3, hC3, hD3⟩ := hB
  have G4 := Lib.hid (fun w => getv_all X3 A3 E3 (by omega) (by omega) ho3 w)
  unfold getvOut at G4
  have hB := step_room (X := X3) (A := A3) (dv_le X3 E3) (by omega) (by omega)
  have hbv4 := bv_bound ho3 E3
  have ho4 : Octets (X3.drop (dv X3 E3)) := ho3.drop _
  obtain ⟨X4, hX4⟩ : ∃ X, X = X3.drop (dv X3 E3) := ⟨_, rfl⟩
  obtain ⟨A4, hA4⟩ : ∃ A, A = A3 + (dv X3 E3 : Int) := ⟨_, rfl⟩
  obtain ⟨E4, hE4⟩ : ∃ E, E = fv X3 E3 := ⟨_, rfl⟩
  obtain ⟨v4, hv4⟩ : ∃ v, v = bv X3 E3 := ⟨_, rfl⟩
  rw [← hX4, ← hA4, ← hE4, ← hv4] at G4
  rw [← hX4, ← hA4] at hB
  rw [← hX4] at ho4
  rw [← hv4] at hbv4
  obtain ⟨hB4, hC4, hD4⟩ := hB
  have G5 := Lib.hid (fun w => getv_all X4 A4 E4 (by omega) (by omega) ho4 w)
  unfold getvOut at G5
  have hB := step_room (X := X4) (A := A4) (dv_le X4 E4) (by omega) (by omega)
  have hbv5 := bv_bound ho4 E4
  have ho5 : Octets (X4.drop (dv X4 E4)) := ho4.drop _
  obtain ⟨X5, hX5⟩ : ∃ X, X = X4.drop (dv X4 E4) := ⟨_, rfl⟩
  obtain ⟨A5, hA5⟩ : ∃ A, A = A4 + (dv X4 E4 : Int) := ⟨_, rfl⟩
  obtain ⟨E5, hE5⟩ : ∃ E, E = fv X4 E4 := ⟨_, rfl⟩
  obtain ⟨v5, hv5⟩ : ∃ v, v = bv X4 E4 := ⟨_, rfl⟩
  rw [← hX5, ← hA5, ← hE5, ← hv5] at G5
  rw [← hX5, ← hA5] at hB
  rw [← hX5] at ho5
  rw [← hv5] at hbv5
  obtain ⟨hB5, hC5, hD5⟩ := hB
  have hcase2 : E1 = 0 ∧ v1 = 1 ∧ E2 = 0 ∧ v2 = 2 := by
    subst hv2 hE2 hA2 hX2 hv1 hE1 hA1 hX1
    exact hcase
  have HCase := Lib.hid hcase2
  clear hcase hcase2
  have G6 := Lib.hid (fun w => end_ref X5 A5 E5 w)
  obtain ⟨z, hz⟩ : ∃ z, z = endE X5 E5 := ⟨_, rfl⟩
  rw [← hz] at G6
  have hfin : stepsH T = if E1 = 0 ∧ v1 ≠ 1 then (4, 0, 0, 0) else if E2 = 0 ∧ v2 ≠ 2 then (4, 0, 0, 0) else if z ≠ 0 then (z, 0, 0, 0) else lastH v3 v4 v5 := by
    subst hz hv5 hE5 hA5 hX5 hv4 hE4 hA4 hX4 hv3 hE3 hA3 hX3 hv2 hE2 hA2 hX2 hv1 hE1 hA1 hX1
    rfl
  have hst1 : E1 ≠ 0 → E2 ≠ 0 := fun h => by rw [hE2]; unfold f1; rw [if_neg h]; exact h
  have hst2 : E2 ≠ 0 → z ≠ 0 := fun h => by
    have h3 : E3 = E2 := by rw [hE3]; exact if_neg h
    have h4 : E4 = E2 := by rw [hE4, h3]; exact if_neg h
    have h5 : E5 = E2 := by rw [hE5, h4]; exact if_neg h
    rw [hz, h5, endE_bad h]
    exact h
  clear hz hv5 hE5 hA5 hX5 hv4 hE4 hA4 hX4 hv3 hE3 hA3 hX3 hv2 hE2 hA2 hX2 hv1 hE1 hA1 hX1 hTl hb1 ho1 ho2 ho3 ho4 ho5 hB1 hB2 hB3 hB4 hB5 hC1 hC2 hC3 hC4 hC5 hD1 hD2 hD3 hD4 hD5 ho hl
  have HST1 := Lib.hid hst1; have HST2 := Lib.hid hst2; have HF := Lib.hid hfin
  have HB3 := Lib.hid hbv3; have HB4 := Lib.hid hbv4; have HB5 := Lib.hid hbv5
  clear hst1 hst2 hfin hbv1 hbv2 hbv3 hbv4 hbv5
  unfold rdr at G1 G2 G3 G4 G5 G6
  go_enter Try.func24, Try.ntmps24
  go_wp2_with fail
  refine (HO.out _).mono ?_
  rintro e w1 ⟨rfl, hk⟩
  have hR : Whole w1 w.heap.size 48 #[.int .u8 0, .int .u32 0] := ((Whole.new w _ _).alloc _).keep hk (fun h => h)
  have hN : Whole w1 (w.heap.size + 1) 48 #[.int .u8 0, .int .u32 0] := (Whole.newAt _ _ _ _ (by simp)).keep hk (fun h => h)
  have HK := Lib.hid ((((Keeps.refl NoBlock w).alloc _).alloc _).trans hk)
  have HR := Lib.hid hR; have HN := Lib.hid hN
  clear hk hR hN
  go_wp2_with fail
  refine (G1.out _).mono ?_
  rintro e w2 ⟨rfl, hk⟩
  have hR := HR.out.keep hk (fun h => h)
  have hN := HN.out.keep hk (fun h => h)
  have hK := HK.out.trans hk
  obtain ⟨W, hW⟩ : ∃ W, W = w2.alloc (.cells #[.string (strOfNums X1), .int .i64 A1, .int .i64 E1] 79) := ⟨_, rfl⟩
  have HR : Hid (Whole W w.heap.size 48 #[.int .u8 0, .int .u32 0]) := Lib.hid (by rw [hW]; exact hR.alloc _)
  have HN : Hid (Whole W (w.heap.size + 1) 48 #[.int .u8 0, .int .u32 0]) := Lib.hid (by rw [hW]; exact hN.alloc _)
  have HD : Hid (Whole W w2.heap.size 79 #[.string (strOfNums X1), .int .i64 A1, .int .i64 E1]) := Lib.hid (by rw [hW]; exact Whole.new _ _ _)
  have HK : Hid (Keeps NoBlock w W) := Lib.hid (by rw [hW]; exact hK.alloc _)
  have hlt := hN.lt
  obtain ⟨D, hD⟩ : ∃ D, D = w2.heap.size := ⟨_, rfl⟩
  rw [← hD] at HD hlt
  clear hk hR hN hK
  go_upto_region 6 with (fail)
  rw [← hW, ← hD]
  clear hW hD
  have d0 := HD.out.cell 0 rfl
  have d1 := HD.out.cell 1 rfl
  have d2 := HD.out.cell 2 rfl
  have e0 := HD.out.free 0
  have e1 := HD.out.free 1
  have e2 := HD.out.free 2
  simp only [List.getElem_toArray, List.getElem_cons_zero, List.getElem_cons_succ] at d0 d1 d2
  obtain ⟨h1, g1, h2, g2⟩ := HCase.out
  have hz1 : (E1 == 0) = true := by rw [h1]; rfl
  have hg1 : (v1 != 1) = false := by rw [g1]; rfl
  have hz2 : (E2 == 0) = true := by rw [h2]; rfl
  have hg2 : (v2 != 2) = false := by rw [g2]; rfl
  have H1 := Lib.hid h1; have H1g := Lib.hid g1; have H2 := Lib.hid h2; have H2g := Lib.hid g2
  clear h1 g1 h2 g2
  go_wp2_with fail
  refine (G2.out _).mono ?_
  rintro e u2 ⟨rfl, hk⟩
  have HR := Lib.hid ((HR.out.keep hk (fun h => h)).other3 (h := D) (by omega) (.string (strOfNums X2)) (.int .i64 A2) (.int .i64 E2))
  have HN := Lib.hid ((HN.out.keep hk (fun h => h)).other3 (h := D) (by omega) (.string (strOfNums X2)) (.int .i64 A2) (.int .i64 E2))
  have HK := Lib.hid ((HK.out.trans hk).set3 (g := D) (by omega) (.string (strOfNums X2)) (.int .i64 A2) (.int .i64 E2))
  have hD2 := HD.out.keep hk (fun h => h)
  have HD := Lib.hid (hD2.set3 (.string (strOfNums X2)) (.int .i64 A2) (.int .i64 E2))
  clear d0 d1 d2 e0 e1 e2
  have d0 := hD2.cell 0 rfl
  have d1 := hD2.cell 1 rfl
  have d2 := hD2.cell 2 rfl
  have e0 := hD2.free 0
  have e1 := hD2.free 1
  have e2 := hD2.free 2
  simp only [List.getElem_toArray, List.getElem_cons_zero, List.getElem_cons_succ] at d0 d1 d2
  clear hk hD2
  go_upto_region 9 with (fail)
  obtain ⟨Y2, hY⟩ : ∃ Y, Y = ((u2.setCell ⟨D, 0, none⟩ (.string (strOfNums X2))).setCell ⟨D, 1, none⟩ (.int .i64 A2)).setCell ⟨D, 2, none⟩ (.int .i64 E2) := ⟨_, rfl⟩
  rw [← hY] at HR HN HK HD ⊢
  clear hY
  clear d0 d1 d2 e0 e1 e2
  have d0 := HD.out.cell 0 rfl
  have d1 := HD.out.cell 1 rfl
  have d2 := HD.out.cell 2 rfl
  have e0 := HD.out.free 0
  have e1 := HD.out.free 1
  have e2 := HD.out.free 2
  simp only [List.getElem_toArray, List.getElem_cons_zero, List.getElem_cons_succ] at d0 d1 d2
  go_wp2_with fail
  refine (G3.out _).mono ?_
  rintro e u3 ⟨rfl, hk⟩
  have HR := Lib.hid ((HR.out.keep hk (fun h => h)).other3 (h := D) (by omega) (.string (strOfNums X3)) (.int .i64 A3) (.int .i64 E3))
  have HN := Lib.hid ((HN.out.keep hk (fun h => h)).other3 (h := D) (by omega) (.string (strOfNums X3)) (.int .i64 A3) (.int .i64 E3))
  have HK := Lib.hid ((HK.out.trans hk).set3 (g := D) (by omega) (.string (strOfNums X3)) (.int .i64 A3) (.int .i64 E3))
  have hD2 := HD.out.keep hk (fun h => h)
  have HD := Lib.hid (hD2.set3 (.string (strOfNums X3)) (.int .i64 A3) (.int .i64 E3))
  clear d0 d1 d2 e0 e1 e2
  have d0 := hD2.cell 0 rfl
  have d1 := hD2.cell 1 rfl
  have d2 := hD2.cell 2 rfl
  have e0 := hD2.free 0
  have e1 := hD2.free 1
  have e2 := hD2.free 2
  simp only [List.getElem_toArray, List.getElem_cons_zero, List.getElem_cons_succ] at d0 d1 d2
  clear hk hD2
  go_upto_region 12 with (fail)
  obtain ⟨Y3, hY⟩ : ∃ Y, Y = ((u3.setCell ⟨D, 0, none⟩ (.string (strOfNums X3))).setCell ⟨D, 1, none⟩ (.int .i64 A3)).setCell ⟨D, 2, none⟩ (.int .i64 E3) := ⟨_, rfl⟩
  rw [← hY] at HR HN HK HD ⊢
  clear hY
  clear d0 d1 d2 e0 e1 e2
  have d0 := HD.out.cell 0 rfl
  have d1 := HD.out.cell 1 rfl
  have d2 := HD.out.cell 2 rfl
  have e0 := HD.out.free 0
  have e1 := HD.out.free 1
  have e2 := HD.out.free 2
  simp only [List.getElem_toArray, List.getElem_cons_zero, List.getElem_cons_succ] at d0 d1 d2
  go_wp2_with fail
  refine (G4.out _).mono ?_
  rintro e u4 ⟨rfl, hk⟩
  have HR := Lib.hid ((HR.out.keep hk (fun h => h)).other3 (h := D) (by omega) (.string (strOfNums X4)) (.int .i64 A4) (.int .i64 E4))
  have HN := Lib.hid ((HN.out.keep hk (fun h => h)).other3 (h := D) (by omega) (.string (strOfNums X4)) (.int .i64 A4) (.int .i64 E4))
  have HK := Lib.hid ((HK.out.trans hk).set3 (g := D) (by omega) (.string (strOfNums X4)) (.int .i64 A4) (.int .i64 E4))
  have hD2 := HD.out.keep hk (fun h => h)
  have HD := Lib.hid (hD2.set3 (.string (strOfNums X4)) (.int .i64 A4) (.int .i64 E4))
  clear d0 d1 d2 e0 e1 e2
  have d0 := hD2.cell 0 rfl
  have d1 := hD2.cell 1 rfl
  have d2 := hD2.cell 2 rfl
  have e0 := hD2.free 0
  have e1 := hD2.free 1
  have e2 := hD2.free 2
  simp only [List.getElem_toArray, List.getElem_cons_zero, List.getElem_cons_succ] at d0 d1 d2
  clear hk hD2
  go_upto_region 13 with (fail)
  obtain ⟨Y4, hY⟩ : ∃ Y, Y = ((u4.setCell ⟨D, 0, none⟩ (.string (strOfNums X4))).setCell ⟨D, 1, none⟩ (.int .i64 A4)).setCell ⟨D, 2, none⟩ (.int .i64 E4) := ⟨_, rfl⟩
  rw [← hY] at HR HN HK HD ⊢
  clear hY
  clear d0 d1 d2 e0 e1 e2
  have d0 := HD.out.cell 0 rfl
  have d1 := HD.out.cell 1 rfl
  have d2 := HD.out.cell 2 rfl
  have e0 := HD.out.free 0
  have e1 := HD.out.free 1
  have e2 := HD.out.free 2
  simp only [List.getElem_toArray, List.getElem_cons_zero, List.getElem_cons_succ] at d0 d1 d2
  go_wp2_with fail
  refine (G5.out _).mono ?_
  rintro e u5 ⟨rfl, hk⟩
  have HR := Lib.hid ((HR.out.keep hk (fun h => h)).other3 (h := D) (by omega) (.string (strOfNums X5)) (.int .i64 A5) (.int .i64 E5))
  have HN := Lib.hid ((HN.out.keep hk (fun h => h)).other3 (h := D) (by omega) (.string (strOfNums X5)) (.int .i64 A5) (.int .i64 E5))
  have HK := Lib.hid ((HK.out.trans hk).set3 (g := D) (by omega) (.string (strOfNums X5)) (.int .i64 A5) (.int .i64 E5))
  have hD2 := HD.out.keep hk (fun h => h)
  have HD := Lib.hid (hD2.set3 (.string (strOfNums X5)) (.int .i64 A5) (.int .i64 E5))
  clear d0 d1 d2 e0 e1 e2
  have d0 := hD2.cell 0 rfl
  have d1 := hD2.cell 1 rfl
  have d2 := hD2.cell 2 rfl
  have e0 := hD2.free 0
  have e1 := hD2.free 1
  have e2 := hD2.free 2
  simp only [List.getElem_toArray, List.getElem_cons_zero, List.getElem_cons_succ] at d0 d1 d2
  clear hk hD2
  go_upto_region 14 with (fail)
  obtain ⟨Y5, hY⟩ : ∃ Y, Y = ((u5.setCell ⟨D, 0, none⟩ (.string (strOfNums X5))).setCell ⟨D, 1, none⟩ (.int .i64 A5)).setCell ⟨D, 2, none⟩ (.int .i64 E5) := ⟨_, rfl⟩
  rw [← hY] at HR HN HK HD ⊢
  clear hY
  clear d0 d1 d2 e0 e1 e2
  have d0 := HD.out.cell 0 rfl
  have d1 := HD.out.cell 1 rfl
  have d2 := HD.out.cell 2 rfl
  have e0 := HD.out.free 0
  have e1 := HD.out.free 1
  have e2 := HD.out.free 2
  simp only [List.getElem_toArray, List.getElem_cons_zero, List.getElem_cons_succ] at d0 d1 d2
  go_wp2_with fail
  refine (G6.out _).mono ?_
  rintro e u6 ⟨rfl, hk⟩
  have HR := Lib.hid ((HR.out.keep hk (fun h => h)).other3 (h := D) (by omega) (.string (strOfNums X5)) (.int .i64 A5) (.int .i64 z))
  have HN := Lib.hid ((HN.out.keep hk (fun h => h)).other3 (h := D) (by omega) (.string (strOfNums X5)) (.int .i64 A5) (.int .i64 z))
  have HK := Lib.hid ((HK.out.trans hk).set3 (g := D) (by omega) (.string (strOfNums X5)) (.int .i64 A5) (.int .i64 z))
  have hD2 := HD.out.keep hk (fun h => h)
  have HD := Lib.hid (hD2.set3 (.string (strOfNums X5)) (.int .i64 A5) (.int .i64 z))
  clear d0 d1 d2 e0 e1 e2
  have d0 := hD2.cell 0 rfl
  have d1 := hD2.cell 1 rfl
  have d2 := hD2.cell 2 rfl
  have e0 := hD2.free 0
  have e1 := hD2.free 1
  have e2 := hD2.free 2
  simp only [List.getElem_toArray, List.getElem_cons_zero, List.getElem_cons_succ] at d0 d1 d2
  clear hk hD2
  go_upto_region 15 with (fail)
  obtain ⟨Y6, hY⟩ : ∃ Y, Y = ((u6.setCell ⟨D, 0, none⟩ (.string (strOfNums X5))).setCell ⟨D, 1, none⟩ (.int .i64 A5)).setCell ⟨D, 2, none⟩ (.int .i64 z) := ⟨_, rfl⟩
  rw [← hY] at HR HN HK HD ⊢
  clear hY
  clear d0 d1 d2 e0 e1 e2
  have d0 := HD.out.cell 0 rfl
  have d1 := HD.out.cell 1 rfl
  have d2 := HD.out.cell 2 rfl
  have e0 := HD.out.free 0
  have e1 := HD.out.free 1
  have e2 := HD.out.free 2
  simp only [List.getElem_toArray, List.getElem_cons_zero, List.getElem_cons_succ] at d0 d1 d2
  by_cases hz : z = 0
  · have hz0 : (z != 0) = false := by rw [hz]; rfl
    have HZ := Lib.hid hz
    clear hz
    have hw8 : IntKind.u8.wrap v3 = v3 := by have := HB3.out; rw [IntKind.wrap_u8']; omega
    have HL := Lib.hid (show stepsH T = lastH v3 v4 v5 by rw [HF.out, if_neg (fun h => h.2 H1g.out), if_neg (fun h => h.2 H2g.out), if_neg (fun h => h HZ.out)])
    by_cases h4 : v4 ≤ 4294967295
    · have hd4 : decide (4294967295 < v4) = false := decide_eq_false (by omega)
      have hw32 : IntKind.u32.wrap v4 = v4 := by have := HB4.out; rw [IntKind.wrap_u32']; omega
      go_upto_region 18 with (fail)
      obtain ⟨Y7, hY⟩ : ∃ Y, Y = Y6.alloc (.cells #[.int .u8 v3, .int .u32 v4] 48) := ⟨_, rfl⟩
      rw [← hY]
      have HR : Hid (Whole Y7 _ _ _) := Lib.hid (by rw [hY]; exact HR.out.alloc _)
      have HN : Hid (Whole Y7 _ _ _) := Lib.hid (by rw [hY]; exact HN.out.alloc _)
      have HC : Hid (Whole Y7 Y6.heap.size 48 #[.int .u8 v3, .int .u32 v4]) := Lib.hid (by rw [hY]; exact Whole.new _ _ _)
      have HK : Hid (Keeps NoBlock w Y7) := Lib.hid (by rw [hY]; exact HK.out.alloc _)
      clear hY
      clear d0 d1 d2 e0 e1 e2
      have c0 := HR.out.cell 0 rfl
      have c1 := HR.out.cell 1 rfl
      have q0 := HR.out.free 0
      have q1 := HR.out.free 1
      have n0 := HN.out.cell 0 rfl
      have n1 := HN.out.cell 1 rfl
      simp only [List.getElem_toArray, List.getElem_cons_zero, List.getElem_cons_succ] at c0 c1 n0 n1
      have m0 := HC.out.cell 0 rfl
      have m1 := HC.out.cell 1 rfl
      simp only [List.getElem_toArray, List.getElem_cons_zero, List.getElem_cons_succ] at m0 m1
      by_cases h5 : v5 ≤ 4294967295
      · have hd5 : decide (4294967295 < v5) = false := decide_eq_false (by omega)
        obtain ⟨a, rfl⟩ := Int.eq_ofNat_of_zero_le HB3.out.1
        obtain ⟨b, rfl⟩ := Int.eq_ofNat_of_zero_le HB4.out.1
        obtain ⟨c, rfl⟩ := Int.eq_ofNat_of_zero_le HB5.out.1
        have HM := Lib.hid (fun w => may9_ref a b c (by omega) w)
        unfold confV at HM
        have hlast : lastH (a : Int) (b : Int) (c : Int) = if mayHead a b c = true then (0, a, b, c) else (1, 0, 0, 0) := by
          unfold lastH
          simp only [Int.toNat_natCast]
          by_cases hm : mayHead a b c = true
          · rw [if_pos ⟨h4, h5, hm⟩, if_pos hm]
          · rw [if_neg (fun h => hm h.2.2), if_neg hm]
        have HLa := Lib.hid (HL.out.trans hlast)
        clear h4 h5 hlast
        obtain ⟨m, hm⟩ : ∃ m, m = mayHead a b c := ⟨_, rfl⟩
        rw [← hm] at HM HLa
        clear hm
        cases m
        · have HO1 := Lib.hid (HLa.out.trans (if_neg (by simp)))
          clear HLa
          go_wp2_with fail
          refine (HM.out _).mono ?_
          rintro e u7 ⟨rfl, hk⟩
          have hR := HR.out.keep hk (fun h => h)
          have hN := HN.out.keep hk (fun h => h)
          have hC := HC.out.keep hk (fun h => h)
          have HK := Lib.hid (HK.out.trans hk)
          clear c0 c1 q0 q1 n0 n1 m0 m1 hk
          have c0 := hR.cell 0 rfl
          have c1 := hR.cell 1 rfl
          have q0 := hR.free 0
          have q1 := hR.free 1
          have n0 := hN.cell 0 rfl
          have n1 := hN.cell 1 rfl
          have m0 := hC.cell 0 rfl
          have m1 := hC.cell 1 rfl
          simp only [List.getElem_toArray, List.getElem_cons_zero, List.getElem_cons_succ] at c0 c1 n0 n1 m0 m1
          clear hR hN hC
          go_wp2_with fail
          rw [HO1.out]
          exact bodyPost_ret (v := headOut (1, 0, 0, 0)) (by simp [results, Try.results24, go_sem, headOut, confV, c0, c1]) rfl ⟨rfl, ((HK.out.setNew (g := w.heap.size) (Nat.le_refl _) 0 _).setNew (g := w.heap.size) (Nat.le_refl _) 1 _)⟩
        · have HO1 := Lib.hid (HLa.out.trans (if_pos rfl))
          clear HLa
          go_wp2_with fail
          refine (HM.out _).mono ?_
          rintro e u7 ⟨rfl, hk⟩
          have hR := HR.out.keep hk (fun h => h)
          have hN := HN.out.keep hk (fun h => h)
          have hC := HC.out.keep hk (fun h => h)
          have HK := Lib.hid (HK.out.trans hk)
          clear c0 c1 q0 q1 n0 n1 m0 m1 hk
          have c0 := hR.cell 0 rfl
          have c1 := hR.cell 1 rfl
          have q0 := hR.free 0
          have q1 := hR.free 1
          have n0 := hN.cell 0 rfl
          have n1 := hN.cell 1 rfl
          have m0 := hC.cell 0 rfl
          have m1 := hC.cell 1 rfl
          simp only [List.getElem_toArray, List.getElem_cons_zero, List.getElem_cons_succ] at c0 c1 n0 n1 m0 m1
          clear hR hN hC
          go_wp2_with fail
          rw [HO1.out]
          exact bodyPost_ret (v := headOut (0, a, b, c)) (by simp [results, Try.results24, go_sem, headOut, confV, c0, c1]) rfl ⟨rfl, ((HK.out.setNew (g := w.heap.size) (Nat.le_refl _) 0 _).setNew (g := w.heap.size) (Nat.le_refl _) 1 _)⟩
      · have hd5 : decide (4294967295 < v5) = true := decide_eq_true (by omega)
        have HO1 := Lib.hid (show stepsH T = (1, 0, 0, 0) by rw [HL.out]; exact if_neg (fun h => h5 h.2.1))
        clear h4 h5
        go_wp2_with fail
        rw [HO1.out]
        exact bodyPost_ret (v := headOut (1, 0, 0, 0)) (by simp [results, Try.results24, go_sem, headOut, confV, c0, c1]) rfl ⟨rfl, ((HK.out.setNew (g := w.heap.size) (Nat.le_refl _) 0 _).setNew (g := w.heap.size) (Nat.le_refl _) 1 _)⟩
    · have hd4 : decide (4294967295 < v4) = true := decide_eq_true (by omega)
      obtain ⟨x, hw32⟩ : ∃ x, IntKind.u32.wrap v4 = x := ⟨_, rfl⟩
      go_upto_region 18 with (fail)
      obtain ⟨Y7, hY⟩ : ∃ Y, Y = Y6.alloc (.cells #[.int .u8 v3, .int .u32 x] 48) := ⟨_, rfl⟩
      rw [← hY]
      have HR : Hid (Whole Y7 _ _ _) := Lib.hid (by rw [hY]; exact HR.out.alloc _)
      have HN : Hid (Whole Y7 _ _ _) := Lib.hid (by rw [hY]; exact HN.out.alloc _)
      have HC : Hid (Whole Y7 Y6.heap.size 48 #[.int .u8 v3, .int .u32 x]) := Lib.hid (by rw [hY]; exact Whole.new _ _ _)
      have HK : Hid (Keeps NoBlock w Y7) := Lib.hid (by rw [hY]; exact HK.out.alloc _)
      clear hY
      clear d0 d1 d2 e0 e1 e2
      have c0 := HR.out.cell 0 rfl
      have c1 := HR.out.cell 1 rfl
      have q0 := HR.out.free 0
      have q1 := HR.out.free 1
      have n0 := HN.out.cell 0 rfl
      have n1 := HN.out.cell 1 rfl
      simp only [List.getElem_toArray, List.getElem_cons_zero, List.getElem_cons_succ] at c0 c1 n0 n1
      have m0 := HC.out.cell 0 rfl
      have m1 := HC.out.cell 1 rfl
      simp only [List.getElem_toArray, List.getElem_cons_zero, List.getElem_cons_succ] at m0 m1
      have HO1 := Lib.hid (show stepsH T = (1, 0, 0, 0) by rw [HL.out]; exact if_neg (fun h => h4 h.1))
      clear h4
      go_wp2_with fail
      rw [HO1.out]
      exact bodyPost_ret (v := headOut (1, 0, 0, 0)) (by simp [results, Try.results24, go_sem, headOut, confV, c0, c1]) rfl ⟨rfl, ((HK.out.setNew (g := w.heap.size) (Nat.le_refl _) 0 _).setNew (g := w.heap.size) (Nat.le_refl _) 1 _)⟩
  · have HZ := Lib.hid hz
    have hzt : (z != 0) = true := by rw [bne_iff_ne]; exact HZ.out
    have HFz := Lib.hid (show stepsH T = (z, 0, 0, 0) by rw [HF.out, if_neg (fun h => h.2 H1g.out), if_neg (fun h => h.2 H2g.out), if_pos HZ.out])
    have c0 := HR.out.cell 0 rfl
    have c1 := HR.out.cell 1 rfl
    have q0 := HR.out.free 0
    have q1 := HR.out.free 1
    have n0 := HN.out.cell 0 rfl
    have n1 := HN.out.cell 1 rfl
    simp only [List.getElem_toArray, List.getElem_cons_zero, List.getElem_cons_succ] at c0 c1 n0 n1
    go_wp2_with fail
    have s0 : Y6.drew.cell? ⟨D, 2, none⟩ = some (.int .i64 z) := d2
    have s1 : Y6.drew.cell? ⟨w.heap.size + 1, 0, none⟩ = some (.int .u8 0) := n0
    have s2 : Y6.drew.cell? ⟨w.heap.size + 1, 1, none⟩ = some (.int .u32 0) := n1
    have s3 : Y6.drew.frozen? ⟨w.heap.size, 0, none⟩ = false := q0
    have s4 : Y6.drew.frozen? ⟨w.heap.size, 1, none⟩ = false := q1
    have s5 : Y6.drew.cell? ⟨w.heap.size, 0, none⟩ = some (.int .u8 0) := c0
    have s6 : Y6.drew.cell? ⟨w.heap.size, 1, none⟩ = some (.int .u32 0) := c1
    go_region
    all_goals
      go_wp2_with fail
      rw [HFz.out]
      exact bodyPost_ret (v := headOut (z, 0, 0, 0)) (by simp [results, Try.results24, go_sem, headOut, confV, c0, c1]) rfl ⟨rfl, by first | exact ((HK.out.setNew (g := w.heap.size) (Nat.le_refl _) 0 _).setNew (g := w.heap.size) (Nat.le_refl _) 1 _).drew | exact ((HK.out.drew.setNew (g := w.heap.size) (Nat.le_refl _) 0 _).setNew (g := w.heap.size) (Nat.le_refl _) 1 _) | exact ((HK.out.setNew (g := w.heap.size) (Nat.le_refl _) 0 _).setNew (g := w.heap.size) (Nat.le_refl _) 1 _)⟩
end Go.Proofs.Ytjjeaaiajgbncaa

namespace Go.Proofs.Ytjjeaaiajgbncaa
open Go.RowKit

/-- New bytes are answered. -/
def NewBytes (w : World) (ys : List Int) (v : Value) (w' : World) : Prop :=
  ∃ (q : Option Addr) (m d : Nat), v = .slice q m d ∧ m = ys.length ∧ m ≤ d ∧ d ≤ 9223372036854775807 ∧ (q = none → m = 0 ∧ d = 0) ∧ Bytes8 w' q ys ∧ Keeps NoBlock w w'
theorem NewBytes.ofNil (w w' : World) (h : Keeps NoBlock w w') : NewBytes w [] (.slice none 0 0) w' :=
  ⟨none, 0, 0, rfl, rfl, Nat.le_refl _, by decide, fun _ => ⟨rfl, rfl⟩, Bytes8.nil _ _, h⟩
end Go.Proofs.Ytjjeaaiajgbncaa

namespace Go.Proofs.Ytjjeaaiajgbncaa
open Go.RowKit

set_option maxHeartbeats 800000 in
set_option maxRecDepth 10000 in
theorem gethead9_shut (ys : List Int) (ho : Octets ys) (hl : ys.length ≤ 10000000) (h0 : (openN ys).1 ≠ 0) (w : World) :
    Calls Try.prog 24 #[.string (strOfNums ys)] w fun e w' => e = .returned (headOut ((openN ys).1, 0, 0, 0)) ∧ Keeps NoBlock w w' := by
  have HO := Lib.hid (fun w => open9_ref ys ho hl w)
  unfold openOut at HO
  obtain ⟨y, hy⟩ : ∃ y, y = (openN ys).1 := ⟨_, rfl⟩
  rw [← hy] at HO h0 ⊢
  have hne : (y != 0) = true := by rw [bne_iff_ne]; exact h0
  clear hy h0 ho hl
  go_enter Try.func24, Try.ntmps24
  go_wp2_with fail
  refine (HO.out _).mono ?_
  rintro e w1 ⟨rfl, hk⟩
  have hR : Whole w1 w.heap.size 48 #[.int .u8 0, .int .u32 0] := ((Whole.new w _ _).alloc _).keep hk (fun h => h)
  have hN : Whole w1 (w.heap.size + 1) 48 #[.int .u8 0, .int .u32 0] := (Whole.newAt _ _ _ _ (by simp)).keep hk (fun h => h)
  have HK := Lib.hid ((((Keeps.refl NoBlock w).alloc _).alloc _).trans hk)
  have c0 := hR.cell 0 rfl
  have c1 := hR.cell 1 rfl
  have q0 := hR.free 0
  have q1 := hR.free 1
  have n0 := hN.cell 0 rfl
  have n1 := hN.cell 1 rfl
  simp only [List.getElem_toArray, List.getElem_cons_zero, List.getElem_cons_succ] at c0 c1 n0 n1
  clear hk hR hN
  go_wp2_with fail
  exact bodyPost_ret (v := headOut (y, 0, 0, 0)) (by simp [results, Try.results24, go_sem, headOut, confV, c0, c1]) rfl ⟨rfl, ((HK.out.setNew (g := w.heap.size) (Nat.le_refl _) 0 _).setNew (g := w.heap.size) (Nat.le_refl _) 1 _)⟩
theorem gethead9_ref (ys : List Int) (ho : Octets ys) (hl : ys.length ≤ 10000000) (w : World) :
    Calls Try.prog 24 #[.string (strOfNums ys)] w fun e w' => e = .returned (headOut (getH ys)) ∧ Keeps NoBlock w w' := by
  unfold getH
  by_cases h0 : (openN ys).1 ≠ 0
  · rw [if_pos h0]
    exact gethead9_shut ys ho hl h0 w
  · rw [if_neg h0]
    have h1 : (openN ys).1 = 0 := by simpa using h0
    have ht := (open_bound ho).1
    rw [← stepsH_read _ ht]
    by_cases hc : (s1 (openN ys).2 0).E = 0 ∧ (s1 (openN ys).2 0).v = 1 ∧ (s1 (s1 (openN ys).2 0).X (s1 (openN ys).2 0).E).E = 0 ∧ (s1 (s1 (openN ys).2 0).X (s1 (openN ys).2 0).E).v = 2
    · exact gethead9_good ys _ hc (Prod.ext h1 rfl) ho hl w
    · exact gethead9_bad ys _ hc (Prod.ext h1 rfl) ho hl w

/-- A record of no more bytes than frames are made of here. -/
structure Rec.Little (r : Rec) : Prop where
  fine : r.Fine
  key : r.key.length ≤ 100000
  val : r.val.length ≤ 100000
/-- The contracts of Seal, Open, Size, PutRecord, GetRecord, PutHead, GetHead. -/
structure FrameOk : Prop where
  shut : ∀ (p : Option Addr) (N c : Nat) (xs : List Int) (w : World), In8 w p N c xs → N ≤ 500000 →
    Calls Try.prog 9 #[.slice p N c] w fun e w' => ∃ v, e = .returned v ∧ NewBytes w (sealN xs) v w'
  open_ : ∀ (p : Option Addr) (N c : Nat) (ys : List Int) (w : World), In8 w p N c ys → N ≤ 500000 →
    Calls Try.prog 12 #[.slice p N c] w fun e w' => ∃ v, e = .returned (.tuple #[v, .int .i64 (openN ys).1]) ∧ NewBytes w (openN ys).2 v w'
  size : ∀ (z : Int) (w : World), -500000 ≤ z → z ≤ 500000 → Calls Try.prog 11 #[.int .i64 z] w fun e w' => e = .returned (.int .i64 ((sizeN z.toNat : Nat) : Int)) ∧ Keeps NoBlock w w'
  putrec : ∀ (r : Rec) (w : World), r.Little → Calls Try.prog 15 #[recV r] w fun e w' => ∃ v, e = .returned (.tuple #[v, .int .i64 (checkR r)]) ∧ NewBytes w (putR r) v w'
  getrec : ∀ (p : Option Addr) (N c : Nat) (ys : List Int) (w : World), In8 w p N c ys → N ≤ 500000 →
    Calls Try.prog 17 #[.slice p N c] w fun e w' => e = .returned (.tuple #[recV (getR ys).2, .int .i64 (getR ys).1]) ∧ Keeps NoBlock w w'
  puthead : ∀ (x s n : Nat) (w : World), x < 256 → s < 4294967296 → n < 4294967296 → Calls Try.prog 20 #[confV x s, .int .u32 (n : Int)] w fun e w' => ∃ v, e = .returned (.tuple #[v, .int .i64 (if mayHead x s n = true then 0 else 1)]) ∧ NewBytes w (putH x s n) v w'
  gethead : ∀ (p : Option Addr) (N c : Nat) (ys : List Int) (w : World), In8 w p N c ys → N ≤ 500000 →
    Calls Try.prog 22 #[.slice p N c] w fun e w' => e = .returned (.tuple #[confV (getH ys).2.1 (getH ys).2.2.1, .int .u32 ((getH ys).2.2.2 : Int), .int .i64 (getH ys).1]) ∧ Keeps NoBlock w w'

theorem seal_nil : (sealN []).length = 10 ∧ (sealN []).getD 0 0 = 9 ∧ (sealN []).getD 9 0 = 0 := by decide +kernel

set_option maxHeartbeats 1600000 in
set_option maxRecDepth 10000 in
theorem lives9_true (H : FrameOk) (w : World) : Calls Try.prog 8 #[] w fun e w' => e = .returned (.bool true) ∧ Keeps NoBlock w w' := by
  have H0 := Lib.hid (fun w => H.shut none 0 0 [] w (In8.nil w) (by decide))
  obtain ⟨hl, ha, hb⟩ := seal_nil
  obtain ⟨F, hF⟩ : ∃ F, F = sealN [] := ⟨_, rfl⟩
  rw [← hF] at H0 hl ha hb
  have HL := Lib.hid hl; have HA := Lib.hid ha; have HB := Lib.hid hb
  clear H hF hl ha hb
  go_enter Try.func8, Try.ntmps8
  go_wp2_with fail
  refine (H0.out _).mono ?_
  rintro e w1 ⟨v, rfl, q, m, d, rfl, hm, hmd, hd, hq, hb8, hk⟩
  have hm10 : m = 10 := by rw [hm, HL.out]
  subst hm10
  have HK := Lib.hid hk
  obtain ⟨a, rfl, hcell⟩ := hb8 (by rw [HL.out]; decide)
  have c0 := hcell 0 (by rw [HL.out]; decide)
  have c9 := hcell 9 (by rw [HL.out]; decide)
  rw [HA.out, show a.add 0 = a by cases a; rfl] at c0
  rw [HB.out, show a.add 9 = ⟨a.block, a.off + 9, none⟩ from rfl] at c9
  clear hk hm hq hcell
  go_wp2_with fail
  go_ret
  exact ⟨rfl, HK.out⟩
end Go.Proofs.Ytjjeaaiajgbncaa

namespace Go.Proofs.Ytjjeaaiajgbncaa
open Go.RowKit

theorem bytes_self (xs : List Int) : ((strOfNums xs).toList == (strOfNums xs).toList) = true := by simp

set_option maxHeartbeats 4000000 in
set_option maxRecDepth 10000 in
theorem fropens_walk (H : FrameOk) (p : Option Addr) (N c : Nat) (ys : List Int) (w : World) (hin : In8 w p N c ys) :
    Calls Try.prog 4 #[.slice p N c] w fun e w' => e = .returned (.bool true) ∧ Keeps NoBlock w w' := by
  have HLv := Lib.hid (fun w => lives9_true H w)
  obtain ⟨hx, hN, hc, hn0, ho, hb⟩ := hin
  by_cases hg : N ≤ 600
  · have HOp := Lib.hid (fun w hb8 => H.open_ p N c ys w ⟨hx, hN, hc, hn0, ho, hb8⟩ (by omega))
    have HRf := Lib.hid (fun w => open9_ref ys ho (by omega) w)
    have hbd := open_bound ho
    have honly : (openN ys).1 = 0 → sealN (openN ys).2 = ys ++ [0] := fun h => by
      have := (open_only ho (show openN ys = (0, (openN ys).2) from Prod.ext h rfl)).1
      unfold sealN
      rw [← this]
    have HX := Lib.hid hx
    have HB0 := Lib.hid hb
    have HN0 := Lib.hid hn0
    have hgd : decide ((600 : Int) < (N : Int)) = false := decide_eq_false (by omega)
    unfold openOut at HRf
    obtain ⟨z, hz⟩ : ∃ z, z = (openN ys).1 := ⟨_, rfl⟩
    obtain ⟨T, hT⟩ : ∃ T, T = (openN ys).2 := ⟨_, rfl⟩
    rw [← hz] at HOp HRf honly
    rw [← hT] at HOp HRf hbd honly
    have HSl := Lib.hid (fun q m d w hi hm => H.shut q m d T w hi hm)
    obtain ⟨F, hF⟩ : ∃ F, F = sealN T := ⟨_, rfl⟩
    rw [← hF] at HSl honly
    have HBo := Lib.hid hbd.1
    have HBl := Lib.hid (show T.length ≤ 600 by have := hbd.2; omega)
    have HOn := Lib.hid honly
    clear H ho hx hb hn0 hz hT hF hbd honly
    go_enter Try.func4, Try.ntmps4
    go_wp2_with fail
    refine (HLv.out _).mono ?_
    rintro e w1 ⟨rfl, hk⟩
    have HK := Lib.hid hk
    have HBc := Lib.hid (HB0.out.keep hk (fun _ _ h => h))
    clear hk
    go_wp2_with fail
    refine (HOp.out _ HBc.out).mono ?_
    rintro e w2 ⟨v, rfl, q, m, d, rfl, hm, hmd, hd, hq, hb8, hk⟩
    have HM := Lib.hid hm
    have HQ := Lib.hid hq
    have HK := Lib.hid (HK.out.trans hk)
    have HBc := Lib.hid (HBc.out.keep hk (fun _ _ h => h))
    have HBy := Lib.hid hb8
    clear hk hm hb8 hq
    have t1 := textOf p N c ys w2 HX.out HBc.out
    go_wp2_with fail
    refine (HRf.out _).mono ?_
    rintro e w4 ⟨rfl, hk⟩
    have HK := Lib.hid (HK.out.trans hk)
    have HBc := Lib.hid (HBc.out.keep hk (fun _ _ h => h))
    have HBy := Lib.hid (HBy.out.keep hk (fun _ _ h => h))
    clear hk t1
    have t2 := textOf q m d T w4 HM.out HBy.out
    by_cases h0 : z = 0
    · subst h0
      have HFy := Lib.hid (HOn.out rfl)
      have a1 : strOfNums ys ++ (⟨#[0]⟩ : ByteArray) = strOfNums F := by rw [HFy.out]; exact str_append ys [0]
      have z1 := str_size ys
      have z2 : (⟨#[0]⟩ : ByteArray).size = 1 := rfl
      have hyl : ys.length ≤ 600 := by have := HX.out; omega
      have r1 : ¬ 9223372036854775807 < ys.length + 1 := by omega
      have sN := textOf p N c ys w4.drew HX.out HBc.out
      go_wp2_with fail
      refine wp_region_held_drew (S := fun w' => (convert 22 9 (.slice p N c)).run Try.prog w' = .ok (.string (strOfNums ys)) w') (by kernel_rfl) sN (fun hHeld => ?_)
      refine wpAnyH_take (i := 0) (v := ?vT1) rfl ?aT1 ?bT1 ?cT1 ?dT1 (Or.inl ⟨?eT1, ?fT1⟩) hHeld ?gT1
      case fT1 => intro w hSw; (try dsimp only at hSw); go_simp; (try with_reducible rfl)
      case aT1 => kernel_rfl
      case bT1 => kernel_rfl
      case cT1 => kernel_rfl
      case dT1 => exact fun _ _ _ h => h
      case eT1 => rfl
      simp only [Act.put, List.getElem_toArray, List.getElem_cons_zero, List.setIfInBounds_toArray, List.set_cons_zero, List.set_cons_succ]
      refine wpAnyH_take (i := 1) (v := ?vT2) rfl ?aT2 ?bT2 ?cT2 ?dT2 (Or.inl ⟨?eT2, ?fT2⟩) hHeld ?gT2
      case fT2 => intro w hSw; (try dsimp only at hSw); go_simp; (try with_reducible rfl)
      case aT2 => kernel_rfl
      case bT2 => kernel_rfl
      case cT2 => kernel_rfl
      case dT2 => exact fun _ _ _ h => h
      case eT2 => rfl
      simp only [Act.put, List.getElem_toArray, List.getElem_cons_zero, List.getElem_cons_succ, List.setIfInBounds_toArray, List.set_cons_zero, List.set_cons_succ]
      refine wpAnyH_take (i := 2) (v := ?vT3) rfl ?aT3 ?bT3 ?cT3 ?dT3 (Or.inl ⟨?eT3, ?fT3⟩) hHeld ?gT3
      case fT3 => intro w hSw; (try dsimp only at hSw); go_simp; (try with_reducible rfl)
      case aT3 => kernel_rfl
      case bT3 => kernel_rfl
      case cT3 => kernel_rfl
      case dT3 => exact fun _ _ _ h => h
      case eT3 => rfl
      simp only [Act.put, List.getElem_toArray, List.getElem_cons_zero, List.getElem_cons_succ, List.setIfInBounds_toArray, List.set_cons_zero, List.set_cons_succ]
      refine wpAnyH_take (i := 3) (v := ?vT4) rfl ?aT4 ?bT4 ?cT4 ?dT4 (Or.inl ⟨?eT4, ?fT4⟩) hHeld ?gT4
      case fT4 => intro w hSw; (try dsimp only at hSw); go_simp; (try with_reducible rfl)
      case aT4 => kernel_rfl
      case bT4 => kernel_rfl
      case cT4 => kernel_rfl
      case dT4 => exact fun _ _ _ h => h
      case eT4 => rfl
      simp only [Act.put, List.getElem_toArray, List.getElem_cons_zero, List.getElem_cons_succ, List.setIfInBounds_toArray, List.set_cons_zero, List.set_cons_succ]
      refine wpAnyH_take (i := 6) (v := ?vT5) rfl ?aT5 ?bT5 ?cT5 ?dT5 (Or.inl ⟨?eT5, ?fT5⟩) hHeld ?gT5
      case fT5 => intro w hSw; (try dsimp only at hSw); go_simp; (try with_reducible rfl)
      case aT5 => kernel_rfl
      case bT5 => kernel_rfl
      case cT5 => kernel_rfl
      case dT5 => exact fun _ _ _ h => h
      case eT5 => rfl
      simp only [Act.put, List.getElem_toArray, List.getElem_cons_zero, List.getElem_cons_succ, List.setIfInBounds_toArray, List.set_cons_zero, List.set_cons_succ]
      refine wpAnyH_take (i := 7) (v := ?vT6) rfl ?aT6 ?bT6 ?cT6 ?dT6 (Or.inl ⟨?eT6, ?fT6⟩) hHeld ?gT6
      case fT6 => intro w hSw; (try dsimp only at hSw); go_simp; (try with_reducible rfl)
      case aT6 => kernel_rfl
      case bT6 => kernel_rfl
      case cT6 => kernel_rfl
      case dT6 => exact fun _ _ _ h => h
      case eT6 => rfl
      simp only [Act.put, List.getElem_toArray, List.getElem_cons_zero, List.getElem_cons_succ, List.setIfInBounds_toArray, List.set_cons_zero, List.set_cons_succ]
      refine wpAnyH_take (i := 8) (v := ?vT7) rfl ?aT7 ?bT7 ?cT7 ?dT7 (Or.inl ⟨?eT7, ?fT7⟩) hHeld ?gT7
      case fT7 => intro w hSw; (try dsimp only at hSw); go_simp; (try with_reducible rfl)
      case aT7 => kernel_rfl
      case bT7 => kernel_rfl
      case cT7 => kernel_rfl
      case dT7 => exact fun _ _ _ h => h
      case eT7 => rfl
      simp only [Act.put, List.getElem_toArray, List.getElem_cons_zero, List.getElem_cons_succ, List.setIfInBounds_toArray, List.set_cons_zero, List.set_cons_succ]
      refine wpAnyH_ready (rs := [4]) (by kernel_rfl) (by simp) ?_
      refine (AllReadyH.cons (o := _) rfl (fun K hK => ?_) AllReadyH.nil)
      go_simp
      refine (HSl.out q m d _ (by exact ⟨HM.out, hmd, hd, HQ.out, HBo.out, HBy.out⟩) (by have := HM.out; have := HBl.out; omega)).mono ?_
      rintro e w5 ⟨v, rfl, q5, m5, d5, rfl, hm5, _, _, _, hb5, hk5⟩
      have hk5' : Keeps NoBlock w4 w5 := by first | exact hk5 | exact hk5.ofDrew | exact hk5.ofDrewN
      have HK := Lib.hid (HK.out.trans hk5')
      have hS : ((fun w' => (convert 22 9 (.slice p N c)).run Try.prog w' = .ok (.string (strOfNums ys)) w') w5) ∧ ((fun w' => (convert 22 9 (.slice q5 m5 d5)).run Try.prog w' = .ok (.string (strOfNums F)) w') w5) := And.intro (textOf p N c ys w5 HX.out (HBc.out.keep hk5' (fun _ _ h => h))) (textOf q5 m5 d5 F w5 hm5 hb5)
      clear hk5 hk5' hb5 hm5
      go_wp2_with fail
      refine hK.out _ _ hS.1 (fun _ => ?_)
      clear hK K
      refine wpAnyH_swap (S' := fun w' => ((convert 22 9 (.slice p N c)).run Try.prog w' = .ok (.string (strOfNums ys)) w') ∧ (convert 22 9 (.slice q5 m5 d5)).run Try.prog w' = .ok (.string (strOfNums F)) w') (fun _ h => h.1) _ _ _ _ ?_
      refine wpAnyH_take (i := 5) (v := ?vT8) rfl ?aT8 ?bT8 ?cT8 ?dT8 (Or.inl ⟨?eT8, ?fT8⟩) hS ?gT8
      case fT8 => intro w hSw; (try dsimp only at hSw); go_simp; (try with_reducible rfl)
      case aT8 => kernel_rfl
      case bT8 => kernel_rfl
      case cT8 => kernel_rfl
      case dT8 => exact fun _ _ _ h => h
      case eT8 => rfl
      simp only [Act.put, List.getElem_toArray, List.getElem_cons_zero, List.getElem_cons_succ, List.setIfInBounds_toArray, List.set_cons_zero, List.set_cons_succ]
      refine wpAnyH_take (i := 9) (v := ?vT9) rfl ?aT9 ?bT9 ?cT9 ?dT9 (Or.inl ⟨?eT9, ?fT9⟩) hS ?gT9
      case fT9 => intro w hSw; (try dsimp only at hSw); go_simp; (try with_reducible rfl)
      case aT9 => kernel_rfl
      case bT9 => kernel_rfl
      case cT9 => kernel_rfl
      case dT9 => exact fun _ _ _ h => h
      case eT9 => rfl
      simp only [Act.put, List.getElem_toArray, List.getElem_cons_zero, List.getElem_cons_succ, List.setIfInBounds_toArray, List.set_cons_zero, List.set_cons_succ]
      refine wpAnyH_take (i := 10) (v := ?vT10) rfl ?aT10 ?bT10 ?cT10 ?dT10 (Or.inl ⟨?eT10, ?fT10⟩) hS ?gT10
      case fT10 => intro w hSw; (try dsimp only at hSw); go_simp; (try with_reducible rfl)
      case aT10 => kernel_rfl
      case bT10 => kernel_rfl
      case cT10 => kernel_rfl
      case dT10 => exact fun _ _ _ h => h
      case eT10 => rfl
      simp only [Act.put, List.getElem_toArray, List.getElem_cons_zero, List.getElem_cons_succ, List.setIfInBounds_toArray, List.set_cons_zero, List.set_cons_succ]
      refine wpAnyH_take (i := 11) (v := ?vT11) rfl ?aT11 ?bT11 ?cT11 ?dT11 (Or.inl ⟨?eT11, ?fT11⟩) hS ?gT11
      case fT11 => intro w hSw; (try dsimp only at hSw); go_simp; (try with_reducible rfl)
      case aT11 => kernel_rfl
      case bT11 => kernel_rfl
      case cT11 => kernel_rfl
      case dT11 => exact fun _ _ _ h => h
      case eT11 => rfl
      simp only [Act.put, List.getElem_toArray, List.getElem_cons_zero, List.getElem_cons_succ, List.setIfInBounds_toArray, List.set_cons_zero, List.set_cons_succ]
      refine wpAnyH_done (by kernel_rfl) ?_ _
      go_wp2_with fail
      go_ret
      exact ⟨rfl, HK.out⟩
    · have hne : (z != 0) = true := by rw [bne_iff_ne]; exact h0
      clear h0
      go_wp2_with fail
      go_quiet (fail)
      go_wp2_with fail
      go_ret
      exact ⟨rfl, by first | exact HK.out.drewN _ | exact HK.out⟩
  · have hgd : decide ((600 : Int) < (N : Int)) = true := decide_eq_true (by omega)
    clear H
    go_enter Try.func4, Try.ntmps4
    go_wp2_with fail
    refine (HLv.out _).mono ?_
    rintro e w1 ⟨rfl, hk⟩
    have HK := Lib.hid hk
    clear hk
    go_wp2_with fail
    refine (HLv.out _).mono ?_
    rintro e w2 ⟨rfl, hk⟩
    have HK := Lib.hid (HK.out.trans hk)
    clear hk
    go_wp2_with fail
    go_ret
    exact ⟨rfl, HK.out⟩
end Go.Proofs.Ytjjeaaiajgbncaa

namespace Go.Proofs.Ytjjeaaiajgbncaa
open Go.RowKit

set_option maxHeartbeats 8000000 in
set_option maxRecDepth 10000 in
theorem frseals_small (H : FrameOk) (p : Option Addr) (N c : Nat) (xs : List Int) (w : World) (hin : In8 w p N c xs) (hg : N ≤ 600) :
    Calls Try.prog 3 #[.slice p N c] w fun e w' => e = .returned (.bool true) ∧ Keeps NoBlock w w' := by
  obtain ⟨i0, hi, hz0, hz1, hz2⟩ := info_parts infoByte
  obtain ⟨hx, hN, hc, hn0, ho, hb⟩ := hin
  have HLv := Lib.hid (fun w => lives9_true H w)
  have HSl := Lib.hid (fun q d w (h1 : N ≤ d) (h2 : d ≤ 9223372036854775807) (h3 : q = none → N = 0 ∧ d = 0) hb8 => H.shut q N d xs w ⟨hx, h1, h2, h3, ho, hb8⟩ (by omega))
  have HRf := Lib.hid (fun w => seal9_ref xs ho (by omega) w)
  have HZn := Lib.hid (fun w => H.size (N : Int) w (by omega) (by omega))
  have HZ0 := Lib.hid (fun w => H.size 0 w (by decide) (by decide))
  have HZm := Lib.hid (fun w => H.size (-1) w (by decide) (by decide))
  rw [show ((N : Int)).toNat = N from rfl] at HZn
  rw [show (0 : Int).toNat = 0 from rfl] at HZ0
  rw [show (-1 : Int).toNat = 0 from rfl] at HZm
  have hcl := (chunk_solid ho).octets
  have HOp := Lib.hid (fun q m d w hi hm => H.open_ q m d (chunkN xs) w hi hm)
  rw [open_chunk ho] at HOp
  simp only at HOp
  have HNg := Lib.hid (fun i (hi : i < (sealN xs).length) => seal_nought ho hi)
  obtain ⟨hlen, hmost⟩ := seal_length xs
  have hpos := chunk_pos xs
  have hsz : sizeN N ≤ 2000 := by unfold sizeN mostOf; split <;> omega
  rw [← hx] at hmost
  have hFC : sealN xs = chunkN xs ++ [0] := rfl
  obtain ⟨C, hC⟩ : ∃ C, C = chunkN xs := ⟨_, rfl⟩
  rw [← hC] at hcl HOp hlen hpos hFC
  obtain ⟨F, hF⟩ : ∃ F, F = sealN xs := ⟨_, rfl⟩
  rw [← hF] at HSl HRf HNg hlen hmost hFC
  obtain ⟨z, hz⟩ : ∃ z, z = sizeN N := ⟨_, rfl⟩
  rw [← hz] at HZn hmost hsz
  obtain ⟨y, hy⟩ : ∃ y, y = sizeN 0 := ⟨_, rfl⟩
  rw [← hy] at HZ0 HZm
  have HCl := Lib.hid hcl
  have HLen := Lib.hid hlen
  have HFC := Lib.hid hFC
  have HX := Lib.hid hx
  have HB0 := Lib.hid hb
  have HN0 := Lib.hid hn0
  have hgd : decide ((600 : Int) < (N : Int)) = false := decide_eq_false (by omega)
  clear H ho hx hb hn0 hC hF hz hy hcl hlen hFC
  go_enter Try.func3, Try.ntmps3
  go_wp2_with fail
  refine (HLv.out _).mono ?_
  rintro e w1 ⟨rfl, hk⟩
  have HK1 := Lib.hid hk
  have HB1 := Lib.hid (HB0.out.keep hk (fun _ _ h => h))
  clear hk
  go_upto_region 3 with (fail)
  go_cut [3] (fun s3 wx => Copied w1 N xs s3 wx)
  case first =>
    cases p with
    | none =>
      obtain ⟨rfl, rfl⟩ := HN0.out rfl
      go_wp2_with (at_builtin; refine wpList_append_own_none rfl _ _ 22 rfl w1.heap.size 5 i0 1 Try.underlying22 hi _ _ _ rfl (World.ownsRow_made w1 #[] 0 (Nat.le_refl _) (Nat.zero_le _) rfl) rfl ?_)
      go_meet
      case rel =>
        have hxs : xs = [] := List.length_eq_zero_iff.1 HX.out.symm
        subst hxs
        exact ⟨World.ownsRow_made w1 #[] 0 (Nat.le_refl _) (Nat.zero_le _) rfl, (Below.refl _ w1).alloc (Nat.le_refl _) _⟩
    | some a =>
      go_wp2_with (at_builtin; refine wpList_append_own _ rfl _ _ 22 rfl w1.heap.size 5 i0 (.int .u8 0) 1 1 Try.underlying22 hi hz0 hz1 hz2 rfl (by decide) _ _ _ rfl (World.ownsRow_made w1 #[] 0 (Nat.le_refl _) (Nat.zero_le _) rfl) a N c (xs.map (Value.int .u8)) rfl ?qc1 ?qc2 ?qc3 ?qc4 ?qc5 ?qc6 ?_)
      case qc1 => have := HX.out; simp; omega
      case qc2 =>
        intro j u hj
        have hjn : j < xs.length := by
          have := (List.getElem?_eq_some_iff.1 hj).1
          simpa using this
        obtain ⟨a', ha', hcell⟩ := HB1.out (by omega)
        obtain rfl := Option.some.inj ha'
        refine Lib.cell?_alloc_some _ ?_
        rw [hcell j hjn]
        have e : (xs.map (Value.int .u8))[j]? = some (Value.int .u8 (xs.getD j 0)) := by simp [List.getElem?_eq_getElem hjn]
        rw [e] at hj
        exact hj
      case qc3 => intro u hu; obtain ⟨x, _, rfl⟩ := List.mem_map.1 hu; rfl
      case qc4 => unfold maxLen; omega
      case qc5 => omega
      case qc6 => simp
      intro v' wg hown hgrow hnil
      have hbel : Below w1.heap.size w1 wg := ((Below.refl _ w1).alloc (Nat.le_refl _) _).grown hgrow (by simp) (by intro k hk; simp [Value.ownBlock] at hk; omega)
      have HC := Lib.hid (show Copied w1 N xs v' wg from ⟨by simpa using hown, hbel⟩)
      clear hown hgrow hnil hbel
      go_wp2_with fail
      go_meet
      case rel => exact HC.out
  case rest =>
    obtain ⟨q, d, rfl, hd, hd', hq, hq0⟩ := hcut.read2 HX.out
    have hkc := Keeps.ofBelow (S := NoBlock) hcut.2
    have HK9 := Lib.hid (HK1.out.trans hkc)
    have HBp := Lib.hid (HB1.out.keep hkc (fun _ _ h => h))
    have HBq := Lib.hid hq
    have HQ0 := Lib.hid hq0
    clear hcut hkc hq hq0 HB1 HK1 HB0
    go_wp2_with fail
    refine (HSl.out q d _ hd hd' HQ0.out HBq.out).mono ?_
    rintro e wl ⟨v, rfl, qf, L, df, rfl, hLF, hLd, hdf, hqf, hbf, hk⟩
    have HK9 := Lib.hid (HK9.out.trans hk)
    have HBp := Lib.hid (HBp.out.keep hk (fun _ _ h => h))
    have HBq := Lib.hid (HBq.out.keep hk (fun _ _ h => h))
    have HBf := Lib.hid hbf
    have HLF := Lib.hid hLF
    have hLz : L ≤ z := by rw [hLF]; exact hmost
    have hL1 : 1 < L := by rw [hLF, HLen.out]; omega
    have hgz : decide ((z : Int) < (L : Int)) = false := decide_eq_false (by omega)
    have hgz2 : decide (z < L) = false := decide_eq_false (by omega)
    clear hk hbf hLF hmost
    have sN := And.intro (textOf p N c xs wl HX.out HBp.out) (And.intro (textOf q N d xs wl HX.out HBq.out) (textOf qf L df F wl HLF.out HBf.out))
    have s0 := And.intro (textOf p N c xs wl.drew HX.out HBp.out) (And.intro (textOf q N d xs wl.drew HX.out HBq.out) (textOf qf L df F wl.drew HLF.out HBf.out))
    go_wp2_with fail
    go_region_held3 (fun w' => (convert 22 9 (.slice p N c)).run Try.prog w' = .ok (.string (strOfNums xs)) w' ∧ (convert 22 9 (.slice q N d)).run Try.prog w' = .ok (.string (strOfNums xs)) w' ∧ (convert 22 9 (.slice qf L df)).run Try.prog w' = .ok (.string (strOfNums F)) w')
      (first | exact s5 | exact s0 | exact sN)
      (first | (go_at_call 10; refine (HRf.out _).mono ?_; rintro e w5 ⟨rfl, hk⟩; have hk' : Keeps NoBlock wl w5 := (by first | exact hk | exact hk.ofDrew | exact hk.ofDrewN); have HK9 := Lib.hid (HK9.out.trans hk'); have HBp := Lib.hid (HBp.out.keep hk' (fun _ _ h => h)); have HBq := Lib.hid (HBq.out.keep hk' (fun _ _ h => h)); have HBf := Lib.hid (HBf.out.keep hk' (fun _ _ h => h)); have s5 := And.intro (textOf p N c xs w5 HX.out HBp.out) (And.intro (textOf q N d xs w5 HX.out HBq.out) (textOf qf L df F w5 HLF.out HBf.out)); clear hk hk'; obtain ⟨wl, rfl⟩ : ∃ x, x = w5 := ⟨_, rfl⟩) | (go_at_call 11; refine (HZn.out _).mono ?_; rintro e w5 ⟨rfl, hk⟩; have hk' : Keeps NoBlock wl w5 := (by first | exact hk | exact hk.ofDrew | exact hk.ofDrewN); have HK9 := Lib.hid (HK9.out.trans hk'); have HBp := Lib.hid (HBp.out.keep hk' (fun _ _ h => h)); have HBq := Lib.hid (HBq.out.keep hk' (fun _ _ h => h)); have HBf := Lib.hid (HBf.out.keep hk' (fun _ _ h => h)); have s5 := And.intro (textOf p N c xs w5 HX.out HBp.out) (And.intro (textOf q N d xs w5 HX.out HBq.out) (textOf qf L df F w5 HLF.out HBf.out)); clear hk hk'; obtain ⟨wl, rfl⟩ : ∃ x, x = w5 := ⟨_, rfl⟩))
    go_wp2_with fail
    obtain ⟨M, hM⟩ : ∃ M, M = C.length := ⟨_, rfl⟩
    have hML : L = M + 1 := by rw [HLF.out, HLen.out, hM]
    have hsub : (L : Int) - 1 = (M : Int) := by omega
    obtain ⟨a, rfl, hcell⟩ := HBf.out (by have := HLF.out; omega)
    have HCell := Lib.hid hcell
    have HM := Lib.hid hM
    have HML := Lib.hid hML
    clear hcell hM s0 sN hML
    go_loop [45] (fun i => ∃ k : Nat, k ≤ L ∧ i = .int .i64 k) (fun i => L - (intOf i).toNat)
    case atStart => exact ⟨0, Nat.zero_le _, rfl⟩
    case round =>
      obtain ⟨k, hk, rfl⟩ := hrel
      by_cases hlt : k < L
      · have hd1 : decide (k < L) = true := decide_eq_true hlt
        have c1 := HCell.out k (by have := HLF.out; omega)
        have hng := (HNg.out k (by have := HLF.out; omega)).1
        rw [← HLF.out] at hng
        obtain ⟨x, hx⟩ : ∃ x, x = F.getD k 0 := ⟨_, rfl⟩
        rw [← hx] at c1 hng
        clear hx
        by_cases hkM : k = M
        · have hx0 : (x == 0) = true := by rw [hng]; exact decide_eq_true (by have := HML.out; omega)
          have he : ((k : Int) == (M : Int)) = true := by rw [hkM]; simp
          have HkM := Lib.hid hkM
          clear hng hkM
          go_wp2_with fail
          go_round
          case rel => exact ⟨k + 1, by omega, by go_num⟩
          case measure => simp [intOf]; omega
        · have hx0 : (x == 0) = false := by rw [hng]; exact decide_eq_false (by have := HML.out; omega)
          have he : ((k : Int) == (M : Int)) = false := beq_eq_false_iff_ne.2 (by omega)
          have HkM := Lib.hid hkM
          clear hng hkM
          go_wp2_with fail
          go_round
          case rel => exact ⟨k + 1, by omega, by go_num⟩
          case measure => simp [intOf]; omega
      · have hd1 : decide (k < L) = false := decide_eq_false hlt
        have hMd : M ≤ df := by have := HML.out; omega
        have hML2 : M ≤ L := by have := HML.out; omega
        have hM0 : M ≤ 2000 := by have := HML.out; omega
        clear hk hlt
        go_wp2_with fail
        refine (HOp.out (some a) M df _ (by exact ⟨HM.out, hMd, hdf, fun h => by simp at h, HCl.out, Bytes8.left (ys := [0]) (by rw [← HFC.out]; exact HBf.out)⟩) (by omega)).mono ?_
        rintro e w6 ⟨v, rfl, q6, m6, d6, rfl, hm6, _, _, _, hb6, hk⟩
        have HK9 := Lib.hid (HK9.out.trans hk)
        have HBp := Lib.hid (HBp.out.keep hk (fun _ _ h => h))
        have t1 := textOf p N c xs w6 HX.out HBp.out
        have t2 := textOf q6 m6 d6 xs w6 hm6 hb6
        clear hk hm6 hb6
        go_wp2_with fail
        refine (HZm.out _).mono ?_
        rintro e w7 ⟨rfl, hk⟩
        have HK9 := Lib.hid (HK9.out.trans hk)
        clear hk t1 t2
        go_wp2_with fail
        refine (HZ0.out _).mono ?_
        rintro e w8 ⟨rfl, hk⟩
        have HK9 := Lib.hid (HK9.out.trans hk)
        clear hk
        go_wp2_with fail
        go_ret
        exact ⟨rfl, HK9.out⟩

theorem frseals_walk (H : FrameOk) (p : Option Addr) (N c : Nat) (xs : List Int) (w : World) (hin : In8 w p N c xs) :
    Calls Try.prog 3 #[.slice p N c] w fun e w' => e = .returned (.bool true) ∧ Keeps NoBlock w w' := by
  by_cases hg : N ≤ 600
  · exact frseals_small H p N c xs w hin hg
  · have HLv := Lib.hid (fun w => lives9_true H w)
    obtain ⟨_, _, hc, _, _, _⟩ := hin
    have hgd : decide ((600 : Int) < (N : Int)) = true := decide_eq_true (by omega)
    clear H
    go_enter Try.func3, Try.ntmps3
    go_wp2_with fail
    refine (HLv.out _).mono ?_
    rintro e w1 ⟨rfl, hk⟩
    have HK := Lib.hid hk
    clear hk
    go_wp2_with fail
    refine (HLv.out _).mono ?_
    rintro e w2 ⟨rfl, hk⟩
    have HK := Lib.hid (HK.out.trans hk)
    clear hk
    go_wp2_with fail
    go_ret
    exact ⟨rfl, HK.out⟩
end Go.Proofs.Ytjjeaaiajgbncaa

namespace Go.Proofs.Ytjjeaaiajgbncaa
open Go.RowKit

/-- A row of records that can be read. -/
def RecsAt (w : World) (p : Option Addr) (l : List Rec) : Prop :=
  ∀ i, i < l.length → ∃ a : Addr, p = some a ∧ w.cell? (a.add (i * 4)) = some (.bool (l.getD i Rec.none).del) ∧ w.cell? ⟨(a.add (i * 4)).block, (a.add (i * 4)).off + 1, none⟩ = some (.int .u64 ((l.getD i Rec.none).seq : Int)) ∧
    w.cell? ⟨(a.add (i * 4)).block, (a.add (i * 4)).off + 2, none⟩ = some (.string (strOfNums (l.getD i Rec.none).key)) ∧ w.cell? ⟨(a.add (i * 4)).block, (a.add (i * 4)).off + 3, none⟩ = some (.string (strOfNums (l.getD i Rec.none).val))
theorem RecsAt.keep {w w' : World} {p : Option Addr} {l : List Rec} (h : RecsAt w p l) {S : Nat → Prop} (hk : Keeps S w w') (hs : ∀ k, k < w.heap.size → ¬ S k) : RecsAt w' p l := fun i hi => by
  obtain ⟨a, rfl, c0, c1, c2, c3⟩ := h i hi
  exact ⟨a, rfl, hk.cell c0 (hs _ (ltOfCell c0)), hk.cell c1 (hs _ (ltOfCell c1)), hk.cell c2 (hs _ (ltOfCell c2)), hk.cell c3 (hs _ (ltOfCell c3))⟩

def littleR (bytes : Nat) (r : Rec) : Bool := decide (r.key.length ≤ bytes) && decide (r.val.length ≤ bytes)
def fewR (l : List Rec) (most bytes : Nat) : Bool := l.all (littleR bytes) && decide (l.length ≤ most)

theorem all_take_succ {l : List Rec} {b j : Nat} (hj : j < l.length) : (l.take (j + 1)).all (littleR b) = ((l.take j).all (littleR b) && littleR b (l.getD j Rec.none)) := by
  rw [List.take_succ_eq_append_getElem hj, List.all_append]
  simp [hj]

set_option maxHeartbeats 2000000 in
set_option maxRecDepth 10000 in
theorem few_any (p : Option Addr) (n c : Nat) (l : List Rec) (most bytes : Nat) (zm zb : Int) (hzm : zm = (most : Int)) (hzb : zb = (bytes : Int)) (hn : n = l.length) (hn9 : n ≤ 9223372036854775807) (hs : ∀ r ∈ l, r.key.length ≤ 9223372036854775807 ∧ r.val.length ≤ 9223372036854775807) (w : World) (hl : RecsAt w p l) :
    Calls Try.prog 14 #[.slice p n c, .int .i64 zm, .int .i64 zb] w fun e w' => e = .returned (.bool (fewR l most bytes)) ∧ Keeps NoBlock w w' := by
  subst hzm
  subst hzb
  have HL := Lib.hid hl
  have HN := Lib.hid hn
  have HS := Lib.hid hs
  clear hl hn hs
  go_enter Try.func14, Try.ntmps14
  go_wp2_with fail
  go_loopw [11] (fun i wr => ∃ j : Nat, j ≤ n ∧ i = .int .i64 (j : Int) ∧ (l.take j).all (littleR bytes) = true ∧ Keeps NoBlock w wr) (fun i _ => n - (intOf i).toNat)
  case atStart => exact ⟨0, Nat.zero_le _, rfl, by simp, Keeps.refl _ _⟩
  case round =>
    obtain ⟨j, hj, rfl, hall, hk⟩ := hrel
    have HK := Lib.hid hk
    have HA := Lib.hid hall
    clear hk hall
    by_cases hlt : j < n
    · have hdj : decide ((j : Int) < (n : Int)) = true := decide_eq_true (by omega)
      have hjl : j < l.length := by rw [← HN.out]; exact hlt
      obtain ⟨a, rfl, c0, c1, c2, c3⟩ := (HL.out.keep HK.out (fun _ _ h => h)) j hjl
      have hmem : l.getD j Rec.none ∈ l := by simp [hjl]
      have hsr := HS.out _ hmem
      have HT := Lib.hid (all_take_succ (b := bytes) hjl)
      obtain ⟨r, hr⟩ : ∃ r, r = l.getD j Rec.none := ⟨_, rfl⟩
      rw [← hr] at c0 c1 c2 c3 hsr HT
      have hk1 := str_size r.key
      have hv1 := str_size r.val
      have hbad : littleR bytes r = false → fewR l most bytes = false := fun h => by
        unfold fewR
        have : l.all (littleR bytes) = false := by
          rw [Bool.eq_false_iff]
          intro ha
          have := List.all_eq_true.1 ha r (by rw [hr]; exact hmem)
          rw [h] at this
          cases this
        rw [this]
        rfl
      have HBd := Lib.hid hbad
      clear hr hmem hjl hbad
      by_cases k1 : bytes < r.key.length
      · have dk : decide (bytes < r.key.length) = true := decide_eq_true k1
        have dk2 : decide ((bytes : Int) < (r.key.length : Int)) = true := decide_eq_true (by omega)
        have e := HBd.out (by unfold littleR; rw [decide_eq_false (by omega)]; rfl)
        have HE := Lib.hid e
        clear e
        go_wp2_with fail
        go_ret
        rw [HE.out]
        exact ⟨rfl, HK.out.alloc _⟩
      · have dk : decide (bytes < r.key.length) = false := decide_eq_false k1
        have dk2 : decide ((bytes : Int) < (r.key.length : Int)) = false := decide_eq_false (by omega)
        by_cases k2 : bytes < r.val.length
        · have dv : decide (bytes < r.val.length) = true := decide_eq_true k2
          have dv2 : decide ((bytes : Int) < (r.val.length : Int)) = true := decide_eq_true (by omega)
          have e := HBd.out (by unfold littleR; rw [Bool.and_comm, decide_eq_false (show ¬ r.val.length ≤ bytes by omega)]; rfl)
          have HE := Lib.hid e
          clear e
          go_wp2_with fail
          go_ret
          rw [HE.out]
          exact ⟨rfl, HK.out.alloc _⟩
        · have dv : decide (bytes < r.val.length) = false := decide_eq_false k2
          have dv2 : decide ((bytes : Int) < (r.val.length : Int)) = false := decide_eq_false (by omega)
          have hgood : littleR bytes r = true := by unfold littleR; rw [decide_eq_true (show r.key.length ≤ bytes by omega), decide_eq_true (show r.val.length ≤ bytes by omega)]; rfl
          have HG := Lib.hid hgood
          clear hgood
          go_wp2_with fail
          exact ⟨⟨j + 1, by omega, by go_num, by rw [HT.out, HA.out, HG.out]; rfl, HK.out.alloc _⟩, by simp [intOf]; omega⟩
    · have hdj : decide ((j : Int) < (n : Int)) = false := decide_eq_false (by omega)
      have hall : l.all (littleR bytes) = true := by
        have := HA.out
        rwa [List.take_of_length_le (by rw [← HN.out]; omega)] at this
      have hres : fewR l most bytes = decide ((n : Int) ≤ (most : Int)) := by
        unfold fewR
        rw [hall, Bool.true_and, ← HN.out]
        by_cases h : n ≤ most
        · rw [decide_eq_true h, decide_eq_true (by omega)]
        · rw [decide_eq_false h, decide_eq_false (by omega)]
      have HR := Lib.hid hres
      clear hall hres
      go_wp2_with fail
      go_ret
      rw [HR.out]
      exact ⟨by simp, HK.out⟩
end Go.Proofs.Ytjjeaaiajgbncaa

/-
  RecRef5; FrRef; FrRef2; Swap.
-/
import Derived.Deep.RegionWith
import Derived.Deep.RegionHeld3
import Derived.BigQuiet
import Derived.Test.YtlejobomjgccnaaGreatM02
import Derived.Test.YtlejobomjgccnaaGreatM03
import Derived.Test.YtlejobomjgccnaaGreatM07
import Derived.Test.YtlejobomjgccnaaGreatM11
import Derived.Test.YtlejobomjgccnaaGreatM12
namespace Go.Proofs.YtlejobomjgccnaaGreat
open Go.RowKit

theorem Keeps.set4 {S : Nat → Prop} {a b : World} (h : Keeps S a b) {g : Nat} (hg : a.heap.size ≤ g) (x y z u : Value) : Keeps S a ((((b.setCell ⟨g, 0, none⟩ x).setCell ⟨g, 1, none⟩ y).setCell ⟨g, 2, none⟩ z).setCell ⟨g, 3, none⟩ u) :=
  (((h.setNew hg 0 x).setNew hg 1 y).setNew hg 2 z).setNew hg 3 u

set_option maxHeartbeats 4000000 in
set_option maxRecDepth 10000 in
theorem read7_kind (del : Bool) (k : Int) (hk : k = if del then 3 else 2) (xs : List Int) (ho : Octets xs) (hl : xs.length ≤ 10000000) (w : World) :
    Calls Tryz.prog 80 #[.string (strOfNums (k :: xs))] w fun e w' => e = .returned (readOut7 (steps7 del xs)) ∧ Keeps NoBlock w w' := by
  have hok : Octets (k :: xs) := fun b hb => by
    rcases List.mem_cons.1 hb with rfl | h
    · rw [hk]; cases del <;> simp
    · exact ho b h
  have hsz : (strOfNums (k :: xs)).size = xs.length + 1 := str_size (k :: xs)
  have hpos : 0 < (strOfNums (k :: xs)).size := by rw [hsz]; omega
  have hsg := str_get (k :: xs) hok 0 hpos
  rw [show (k :: xs).getD 0 0 = k from rfl] at hsg
  have hem : (strOfNums (k :: xs)).toList.isEmpty = false := str_isnone _
  have hex : (strOfNums (k :: xs)).extract 1 (xs.length + 1) = strOfNums xs := by
    have := str_drop (k :: xs) 1
    rw [hsz] at this
    exact this
  have HG := Lib.hid (fun w => get_ref xs 0 (by omega) (by omega) ho w)
  have hoz := ho.drop (vget xs).n
  have hln : (vget xs).n ≤ xs.length := vread_n 10 true xs
  have hlz : (xs.drop (vget xs).n).length = xs.length - (vget xs).n := List.length_drop
  have HK := Lib.hid (fun w => gettext_all (xs.drop (vget xs).n) ((vget xs).n : Int) (vget xs).e 1 4096 1 4096 rfl rfl (by decide) (by decide) (by decide) (by omega) (by omega) hoz w)
  have hok2 : Octets (key7 xs).X := gtS_octets hoz
  have hrm := gtS_room (X := xs.drop (vget xs).n) (A := ((vget xs).n : Int)) (E := (vget xs).e) (l := 1) (m := 4096) (B := 10000000) (by omega) (by omega)
  have HV := Lib.hid (fun w => gettext_all (key7 xs).X (key7 xs).A (key7 xs).E 0 1048576 0 1048576 rfl rfl (by decide) (by decide) (by decide) (by have := hrm.2.2; show (gtS _ _ _ 1 4096).X.length ≤ _; omega) (by have := hrm.1; have := hrm.2.1; show 0 ≤ (gtS _ _ _ 1 4096).A ∧ (gtS _ _ _ 1 4096).A + _ ≤ _; exact ⟨hrm.1, Int.le_trans hrm.2.1 (by decide)⟩) hok2 w)
  have HE := Lib.hid (fun w => end_ref (val7 del (key7 xs)).X (val7 del (key7 xs)).A (val7 del (key7 xs)).E w)
  rw [show gtS (xs.drop (vget xs).n) ((vget xs).n : Int) (vget xs).e 1 4096 = key7 xs from rfl] at HK
  have hv1 : del = false → gtS (key7 xs).X (key7 xs).A (key7 xs).E 0 1048576 = val7 del (key7 xs) := fun h => by subst h; rfl
  have hv2 : del = true → val7 del (key7 xs) = gone7 (key7 xs) := fun h => by subst h; rfl
  have hseq : (if (vget xs).e = 0 then (vget xs).x else 0) = ((seq7 xs : Nat) : Int) := by
    unfold seq7
    split
    · rename_i h
      have hb := vread_bound 9 true xs ho h
      have : 0 ≤ (vget xs).x := hb.1
      omega
    · rfl
  unfold refOut at HG
  rw [hseq, Int.zero_add] at HG
  unfold steps7 readOut7 fin7
  obtain ⟨s, hs⟩ : ∃ s, s = seq7 xs := ⟨_, rfl⟩
  obtain ⟨K, hK⟩ : ∃ K, K = key7 xs := ⟨_, rfl⟩
  rw [← hs] at HG ⊢
  rw [← hK] at HK HV HE hv1 hv2 ⊢
  obtain ⟨V, hV⟩ : ∃ V, V = val7 del K := ⟨_, rfl⟩
  rw [← hV] at HE hv1 hv2 ⊢
  obtain ⟨Z, hZ⟩ : ∃ Z, Z = xs.drop (vget xs).n := ⟨_, rfl⟩
  rw [← hZ] at HG HK
  obtain ⟨z, hz⟩ : ∃ z, z = endE V.X V.E := ⟨_, rfl⟩
  rw [← hz] at HE ⊢
  obtain ⟨g, hg⟩ : ∃ g, g = vget xs := ⟨_, rfl⟩
  rw [← hg] at HG HK
  obtain ⟨KX, KA, KE, KT⟩ := K
  obtain ⟨VX, VA, VE, VT⟩ := V
  obtain ⟨ge, gn, gx⟩ := g
  unfold gone7 at hv2
  simp only at HG HK HV HE hv1 hv2 ⊢
  obtain ⟨L, hL⟩ : ∃ L, L = xs.length := ⟨_, rfl⟩
  rw [← hL] at hsz hl
  rw [← hL] at hex
  clear hL hg hz hZ hV hK hs hrm hok2 hoz hln hlz hseq hok ho
  unfold rdr at *
  cases del with
  | true =>
    obtain rfl : k = 3 := hk
    clear HV hv1
    obtain ⟨rfl, rfl, rfl, rfl⟩ : VX = KX ∧ VA = KA ∧ VE = KE ∧ VT = [] := by
      have := hv2 rfl
      simpa using this
    clear hv2
    by_cases hz : z = 0
    · subst hz
      rw [if_pos rfl]
      simp only
      go_enter Tryz.func80, Tryz.ntmps80
      go_wp2_with fail
      refine (HG.out _).mono ?_
      rintro e w1 ⟨rfl, hk⟩
      have hR1 : Whole w1 w.heap.size 39 #[.bool false, .int .u64 0, .string ⟨#[]⟩, .string ⟨#[]⟩] := ((Whole.new w _ _).alloc _).keep hk (fun h => h)
      have hX1 : Whole w1 (w.heap.size + 1) 39 #[.bool true, .int .u64 0, .string ⟨#[]⟩, .string ⟨#[]⟩] := (Whole.newAt _ _ _ _ (by simp)).keep hk (fun h => h)
      have hK1 : Keeps NoBlock w w1 := (((Keeps.refl NoBlock w).alloc _).alloc _).trans hk
      obtain ⟨W, hW⟩ : ∃ W, W = w1.alloc (.cells #[.string (strOfNums Z), .int .i64 (gn : Int), .int .i64 ge] 156) := ⟨_, rfl⟩
      have hRW : Whole W w.heap.size 39 #[.bool false, .int .u64 0, .string ⟨#[]⟩, .string ⟨#[]⟩] := by rw [hW]; exact hR1.alloc _
      have hXW : Whole W (w.heap.size + 1) 39 #[.bool true, .int .u64 0, .string ⟨#[]⟩, .string ⟨#[]⟩] := by rw [hW]; exact hX1.alloc _
      have hDW : Whole W w1.heap.size 156 #[.string (strOfNums Z), .int .i64 (gn : Int), .int .i64 ge] := by rw [hW]; exact Whole.new _ _ _
      have hKW : Keeps NoBlock w W := by rw [hW]; exact hK1.alloc _
      have hlt1 := hX1.lt
      obtain ⟨D, hD⟩ : ∃ D, D = w1.heap.size := ⟨_, rfl⟩
      rw [← hD] at hDW hlt1
      have HR := Lib.hid hRW
      have HX := Lib.hid hXW
      have HD := Lib.hid hDW
      have HKp := Lib.hid hKW
      have d0 := hDW.cell 0 rfl
      have d1 := hDW.cell 1 rfl
      have d2 := hDW.cell 2 rfl
      have e0 := hDW.free 0
      have e1 := hDW.free 1
      have e2 := hDW.free 2
      simp only [List.getElem_toArray, List.getElem_cons_zero, List.getElem_cons_succ] at d0 d1 d2
      clear hk hR1 hX1 hK1 hRW hXW hDW hKW
      go_upto_region 7 with (fail)
      rw [← hW, ← hD]
      clear hW hD
      go_wp2_with fail
      refine (HK.out _).mono ?_
      rintro e w2 ⟨rfl, hk⟩
      have HR := Lib.hid ((HR.out.keep hk (fun h => h)).other3 (h := D) (by omega) (.string (strOfNums VX)) (.int .i64 VA) (.int .i64 VE))
      have HX := Lib.hid ((HX.out.keep hk (fun h => h)).other3 (h := D) (by omega) (.string (strOfNums VX)) (.int .i64 VA) (.int .i64 VE))
      have HKp := Lib.hid ((HKp.out.trans hk).set3 (g := D) (by omega) (.string (strOfNums VX)) (.int .i64 VA) (.int .i64 VE))
      have hD2 := HD.out.keep hk (fun h => h)
      have HD := Lib.hid (hD2.set3 (.string (strOfNums VX)) (.int .i64 VA) (.int .i64 VE))
      clear d0 d1 d2 e0 e1 e2
      have d0 := hD2.cell 0 rfl
      have d1 := hD2.cell 1 rfl
      have d2 := hD2.cell 2 rfl
      have e0 := hD2.free 0
      have e1 := hD2.free 1
      have e2 := hD2.free 2
      simp only [List.getElem_toArray, List.getElem_cons_zero, List.getElem_cons_succ] at d0 d1 d2
      clear hk hD2
      go_upto_region 8 with (fail)
      obtain ⟨Y2, hY2⟩ : ∃ Y, Y = ((w2.setCell ⟨D, 0, none⟩ (.string (strOfNums VX))).setCell ⟨D, 1, none⟩ (.int .i64 VA)).setCell ⟨D, 2, none⟩ (.int .i64 VE) := ⟨_, rfl⟩
      rw [← hY2] at HR HX HKp HD ⊢
      clear hY2 d0 d1 d2 e0 e1 e2
      have d0 := HD.out.cell 0 rfl
      have d1 := HD.out.cell 1 rfl
      have d2 := HD.out.cell 2 rfl
      have e0 := HD.out.free 0
      have e1 := HD.out.free 1
      have e2 := HD.out.free 2
      have x0 := HX.out.cell 0 rfl
      simp only [List.getElem_toArray, List.getElem_cons_zero, List.getElem_cons_succ] at d0 d1 d2 x0
      go_wp2_with fail
      refine (HE.out _).mono ?_
      rintro e w3 ⟨rfl, hk⟩
      have HR := Lib.hid ((HR.out.keep hk (fun h => h)).other3 (h := D) (by omega) (.string (strOfNums VX)) (.int .i64 VA) (.int .i64 0))
      have HX := Lib.hid ((HX.out.keep hk (fun h => h)).other3 (h := D) (by omega) (.string (strOfNums VX)) (.int .i64 VA) (.int .i64 0))
      have HKp := Lib.hid ((HKp.out.trans hk).set3 (g := D) (by omega) (.string (strOfNums VX)) (.int .i64 VA) (.int .i64 0))
      have hD2 := HD.out.keep hk (fun h => h)
      have HD := Lib.hid (hD2.set3 (.string (strOfNums VX)) (.int .i64 VA) (.int .i64 0))
      clear d0 d1 d2 e0 e1 e2
      have d0 := hD2.cell 0 rfl
      have d1 := hD2.cell 1 rfl
      have d2 := hD2.cell 2 rfl
      have e0 := hD2.free 0
      have e1 := hD2.free 1
      have e2 := hD2.free 2
      simp only [List.getElem_toArray, List.getElem_cons_zero, List.getElem_cons_succ] at d0 d1 d2
      clear hk hD2
      go_upto_region 12 with (fail)
      obtain ⟨Y3, hY3⟩ : ∃ Y, Y = ((w3.setCell ⟨D, 0, none⟩ (.string (strOfNums VX))).setCell ⟨D, 1, none⟩ (.int .i64 VA)).setCell ⟨D, 2, none⟩ (.int .i64 0) := ⟨_, rfl⟩
      rw [← hY3] at HR HX HKp HD ⊢
      clear hY3 d0 d1 d2 e0 e1 e2
      have d0 := HD.out.cell 0 rfl
      have d1 := HD.out.cell 1 rfl
      have d2 := HD.out.cell 2 rfl
      have e0 := HD.out.free 0
      have e1 := HD.out.free 1
      have e2 := HD.out.free 2
      have x0 := HX.out.cell 0 rfl
      simp only [List.getElem_toArray, List.getElem_cons_zero, List.getElem_cons_succ] at d0 d1 d2 x0
      have q0 := HR.out.free 0
      have q1 := HR.out.free 1
      have q2 := HR.out.free 2
      have q3 := HR.out.free 3
      have o0 := HR.out.cell 0 rfl
      have o1 := HR.out.cell 1 rfl
      have o2 := HR.out.cell 2 rfl
      have o3 := HR.out.cell 3 rfl
      clear x0
      have x0 := HX.out.cell 0 rfl
      have x1 := HX.out.cell 1 rfl
      have x2 := HX.out.cell 2 rfl
      have x3 := HX.out.cell 3 rfl
      have y0 := HX.out.free 0
      have y1 := HX.out.free 1
      have y2 := HX.out.free 2
      have y3 := HX.out.free 3
      simp only [List.getElem_toArray, List.getElem_cons_zero, List.getElem_cons_succ] at o0 o1 o2 o3 x0 x1 x2 x3
      go_wp2_with fail
      exact bodyPost_ret (v := .tuple #[recV ⟨true, s, KT, []⟩, .int .i64 0]) (by simp [results, Tryz.results80, go_sem, recV, o0, o1, o2, o3]; rfl) rfl ⟨rfl, Keeps.set4 (((HKp.out.setNew (by omega) 1 _).setNew (by omega) 2 _).setNew (by omega) 3 _) (Nat.le_refl _) _ _ _ _⟩
    · rw [if_neg hz]
      simp only
      have hzb : (z != 0) = true := by simpa using hz
      have hzc : decide (z = 0) = false := decide_eq_false hz
      go_enter Tryz.func80, Tryz.ntmps80
      go_wp2_with fail
      refine (HG.out _).mono ?_
      rintro e w1 ⟨rfl, hk⟩
      have hR1 : Whole w1 w.heap.size 39 #[.bool false, .int .u64 0, .string ⟨#[]⟩, .string ⟨#[]⟩] := ((Whole.new w _ _).alloc _).keep hk (fun h => h)
      have hX1 : Whole w1 (w.heap.size + 1) 39 #[.bool true, .int .u64 0, .string ⟨#[]⟩, .string ⟨#[]⟩] := (Whole.newAt _ _ _ _ (by simp)).keep hk (fun h => h)
      have hK1 : Keeps NoBlock w w1 := (((Keeps.refl NoBlock w).alloc _).alloc _).trans hk
      obtain ⟨W, hW⟩ : ∃ W, W = w1.alloc (.cells #[.string (strOfNums Z), .int .i64 (gn : Int), .int .i64 ge] 156) := ⟨_, rfl⟩
      have hRW : Whole W w.heap.size 39 #[.bool false, .int .u64 0, .string ⟨#[]⟩, .string ⟨#[]⟩] := by rw [hW]; exact hR1.alloc _
      have hXW : Whole W (w.heap.size + 1) 39 #[.bool true, .int .u64 0, .string ⟨#[]⟩, .string ⟨#[]⟩] := by rw [hW]; exact hX1.alloc _
      have hDW : Whole W w1.heap.size 156 #[.string (strOfNums Z), .int .i64 (gn : Int), .int .i64 ge] := by rw [hW]; exact Whole.new _ _ _
      have hKW : Keeps NoBlock w W := by rw [hW]; exact hK1.alloc _
      have hlt1 := hX1.lt
      obtain ⟨D, hD⟩ : ∃ D, D = w1.heap.size := ⟨_, rfl⟩
      rw [← hD] at hDW hlt1
      have HR := Lib.hid hRW
      have HX := Lib.hid hXW
      have HD := Lib.hid hDW
      have HKp := Lib.hid hKW
      have d0 := hDW.cell 0 rfl
      have d1 := hDW.cell 1 rfl
      have d2 := hDW.cell 2 rfl
      have e0 := hDW.free 0
      have e1 := hDW.free 1
      have e2 := hDW.free 2
      simp only [List.getElem_toArray, List.getElem_cons_zero, List.getElem_cons_succ] at d0 d1 d2
      clear hk hR1 hX1 hK1 hRW hXW hDW hKW
      go_upto_region 7 with (fail)
      rw [← hW, ← hD]
      clear hW hD
      go_wp2_with fail
      refine (HK.out _).mono ?_
      rintro e w2 ⟨rfl, hk⟩
      have HR := Lib.hid ((HR.out.keep hk (fun h => h)).other3 (h := D) (by omega) (.string (strOfNums VX)) (.int .i64 VA) (.int .i64 VE))
      have HX := Lib.hid ((HX.out.keep hk (fun h => h)).other3 (h := D) (by omega) (.string (strOfNums VX)) (.int .i64 VA) (.int .i64 VE))
      have HKp := Lib.hid ((HKp.out.trans hk).set3 (g := D) (by omega) (.string (strOfNums VX)) (.int .i64 VA) (.int .i64 VE))
      have hD2 := HD.out.keep hk (fun h => h)
      have HD := Lib.hid (hD2.set3 (.string (strOfNums VX)) (.int .i64 VA) (.int .i64 VE))
      clear d0 d1 d2 e0 e1 e2
      have d0 := hD2.cell 0 rfl
      have d1 := hD2.cell 1 rfl
      have d2 := hD2.cell 2 rfl
      have e0 := hD2.free 0
      have e1 := hD2.free 1
      have e2 := hD2.free 2
      simp only [List.getElem_toArray, List.getElem_cons_zero, List.getElem_cons_succ] at d0 d1 d2
      clear hk hD2
      go_upto_region 8 with (fail)
      obtain ⟨Y2, hY2⟩ : ∃ Y, Y = ((w2.setCell ⟨D, 0, none⟩ (.string (strOfNums VX))).setCell ⟨D, 1, none⟩ (.int .i64 VA)).setCell ⟨D, 2, none⟩ (.int .i64 VE) := ⟨_, rfl⟩
      rw [← hY2] at HR HX HKp HD ⊢
      clear hY2 d0 d1 d2 e0 e1 e2
      have d0 := HD.out.cell 0 rfl
      have d1 := HD.out.cell 1 rfl
      have d2 := HD.out.cell 2 rfl
      have e0 := HD.out.free 0
      have e1 := HD.out.free 1
      have e2 := HD.out.free 2
      have x0 := HX.out.cell 0 rfl
      simp only [List.getElem_toArray, List.getElem_cons_zero, List.getElem_cons_succ] at d0 d1 d2 x0
      go_wp2_with fail
      refine (HE.out _).mono ?_
      rintro e w3 ⟨rfl, hk⟩
      have HR := Lib.hid ((HR.out.keep hk (fun h => h)).other3 (h := D) (by omega) (.string (strOfNums VX)) (.int .i64 VA) (.int .i64 z))
      have HX := Lib.hid ((HX.out.keep hk (fun h => h)).other3 (h := D) (by omega) (.string (strOfNums VX)) (.int .i64 VA) (.int .i64 z))
      have HKp := Lib.hid ((HKp.out.trans hk).set3 (g := D) (by omega) (.string (strOfNums VX)) (.int .i64 VA) (.int .i64 z))
      have hD2 := HD.out.keep hk (fun h => h)
      have HD := Lib.hid (hD2.set3 (.string (strOfNums VX)) (.int .i64 VA) (.int .i64 z))
      clear d0 d1 d2 e0 e1 e2
      have d0 := hD2.cell 0 rfl
      have d1 := hD2.cell 1 rfl
      have d2 := hD2.cell 2 rfl
      have e0 := hD2.free 0
      have e1 := hD2.free 1
      have e2 := hD2.free 2
      simp only [List.getElem_toArray, List.getElem_cons_zero, List.getElem_cons_succ] at d0 d1 d2
      clear hk hD2
      go_upto_region 12 with (fail)
      obtain ⟨Y3, hY3⟩ : ∃ Y, Y = ((w3.setCell ⟨D, 0, none⟩ (.string (strOfNums VX))).setCell ⟨D, 1, none⟩ (.int .i64 VA)).setCell ⟨D, 2, none⟩ (.int .i64 z) := ⟨_, rfl⟩
      rw [← hY3] at HR HX HKp HD ⊢
      clear hY3 d0 d1 d2 e0 e1 e2
      have d0 := HD.out.cell 0 rfl
      have d1 := HD.out.cell 1 rfl
      have d2 := HD.out.cell 2 rfl
      have e0 := HD.out.free 0
      have e1 := HD.out.free 1
      have e2 := HD.out.free 2
      have x0 := HX.out.cell 0 rfl
      simp only [List.getElem_toArray, List.getElem_cons_zero, List.getElem_cons_succ] at d0 d1 d2 x0
      have q0 := HR.out.free 0
      have q1 := HR.out.free 1
      have q2 := HR.out.free 2
      have q3 := HR.out.free 3
      have o0 := HR.out.cell 0 rfl
      have o1 := HR.out.cell 1 rfl
      have o2 := HR.out.cell 2 rfl
      have o3 := HR.out.cell 3 rfl
      clear x0
      have x0 := HX.out.cell 0 rfl
      have x1 := HX.out.cell 1 rfl
      have x2 := HX.out.cell 2 rfl
      have x3 := HX.out.cell 3 rfl
      have y0 := HX.out.free 0
      have y1 := HX.out.free 1
      have y2 := HX.out.free 2
      have y3 := HX.out.free 3
      simp only [List.getElem_toArray, List.getElem_cons_zero, List.getElem_cons_succ] at o0 o1 o2 o3 x0 x1 x2 x3
      go_wp2_with fail
      have s0 : Y3.drew.cell? ⟨D, 2, none⟩ = some (.int .i64 z) := d2
      go_region
      go_wp2_with fail
      exact bodyPost_ret (v := .tuple #[recV Rec.none, .int .i64 z]) (by simp [results, Tryz.results80, go_sem, recV, Rec.none, o0, o1, o2, o3]; rfl) rfl ⟨rfl, (HKp.out.set4 (Nat.le_refl _) _ _ _ _).drew⟩
  | false =>
    obtain rfl : k = 2 := hk
    clear hv2
    rw [hv1 rfl] at HV
    clear hv1
    by_cases hz : z = 0
    · subst hz
      rw [if_pos rfl]
      simp only
      go_enter Tryz.func80, Tryz.ntmps80
      go_wp2_with fail
      refine (HG.out _).mono ?_
      rintro e w1 ⟨rfl, hk⟩
      have hR1 : Whole w1 w.heap.size 39 #[.bool false, .int .u64 0, .string ⟨#[]⟩, .string ⟨#[]⟩] := ((Whole.new w _ _).alloc _).keep hk (fun h => h)
      have hX1 : Whole w1 (w.heap.size + 1) 39 #[.bool false, .int .u64 0, .string ⟨#[]⟩, .string ⟨#[]⟩] := (Whole.newAt _ _ _ _ (by simp)).keep hk (fun h => h)
      have hK1 : Keeps NoBlock w w1 := (((Keeps.refl NoBlock w).alloc _).alloc _).trans hk
      obtain ⟨W, hW⟩ : ∃ W, W = w1.alloc (.cells #[.string (strOfNums Z), .int .i64 (gn : Int), .int .i64 ge] 156) := ⟨_, rfl⟩
      have hRW : Whole W w.heap.size 39 #[.bool false, .int .u64 0, .string ⟨#[]⟩, .string ⟨#[]⟩] := by rw [hW]; exact hR1.alloc _
      have hXW : Whole W (w.heap.size + 1) 39 #[.bool false, .int .u64 0, .string ⟨#[]⟩, .string ⟨#[]⟩] := by rw [hW]; exact hX1.alloc _
      have hDW : Whole W w1.heap.size 156 #[.string (strOfNums Z), .int .i64 (gn : Int), .int .i64 ge] := by rw [hW]; exact Whole.new _ _ _
      have hKW : Keeps NoBlock w W := by rw [hW]; exact hK1.alloc _
      have hlt1 := hX1.lt
      obtain ⟨D, hD⟩ : ∃ D, D = w1.heap.size := ⟨_, rfl⟩
      rw [← hD] at hDW hlt1
      have HR := Lib.hid hRW
      have HX := Lib.hid hXW
      have HD := Lib.hid hDW
      have HKp := Lib.hid hKW
      have d0 := hDW.cell 0 rfl
      have d1 := hDW.cell 1 rfl
      have d2 := hDW.cell 2 rfl
      have e0 := hDW.free 0
      have e1 := hDW.free 1
      have e2 := hDW.free 2
      simp only [List.getElem_toArray, List.getElem_cons_zero, List.getElem_cons_succ] at d0 d1 d2
      clear hk hR1 hX1 hK1 hRW hXW hDW hKW
      go_upto_region 7 with (fail)
      rw [← hW, ← hD]
      clear hW hD
      go_wp2_with fail
      refine (HK.out _).mono ?_
      rintro e w2 ⟨rfl, hk⟩
      have HR := Lib.hid ((HR.out.keep hk (fun h => h)).other3 (h := D) (by omega) (.string (strOfNums KX)) (.int .i64 KA) (.int .i64 KE))
      have HX := Lib.hid ((HX.out.keep hk (fun h => h)).other3 (h := D) (by omega) (.string (strOfNums KX)) (.int .i64 KA) (.int .i64 KE))
      have HKp := Lib.hid ((HKp.out.trans hk).set3 (g := D) (by omega) (.string (strOfNums KX)) (.int .i64 KA) (.int .i64 KE))
      have hD2 := HD.out.keep hk (fun h => h)
      have HD := Lib.hid (hD2.set3 (.string (strOfNums KX)) (.int .i64 KA) (.int .i64 KE))
      clear d0 d1 d2 e0 e1 e2
      have d0 := hD2.cell 0 rfl
      have d1 := hD2.cell 1 rfl
      have d2 := hD2.cell 2 rfl
      have e0 := hD2.free 0
      have e1 := hD2.free 1
      have e2 := hD2.free 2
      simp only [List.getElem_toArray, List.getElem_cons_zero, List.getElem_cons_succ] at d0 d1 d2
      clear hk hD2
      go_upto_region 8 with (fail)
      obtain ⟨Y2, hY2⟩ : ∃ Y, Y = ((w2.setCell ⟨D, 0, none⟩ (.string (strOfNums KX))).setCell ⟨D, 1, none⟩ (.int .i64 KA)).setCell ⟨D, 2, none⟩ (.int .i64 KE) := ⟨_, rfl⟩
      rw [← hY2] at HR HX HKp HD ⊢
      clear hY2 d0 d1 d2 e0 e1 e2
      have d0 := HD.out.cell 0 rfl
      have d1 := HD.out.cell 1 rfl
      have d2 := HD.out.cell 2 rfl
      have e0 := HD.out.free 0
      have e1 := HD.out.free 1
      have e2 := HD.out.free 2
      have x0 := HX.out.cell 0 rfl
      simp only [List.getElem_toArray, List.getElem_cons_zero, List.getElem_cons_succ] at d0 d1 d2 x0
      go_wp2_with fail
      clear x0
      refine (HV.out _).mono ?_
      rintro e w4 ⟨rfl, hk⟩
      have HR := Lib.hid ((HR.out.keep hk (fun h => h)).other3 (h := D) (by omega) (.string (strOfNums VX)) (.int .i64 VA) (.int .i64 VE))
      have HX := Lib.hid ((HX.out.keep hk (fun h => h)).other3 (h := D) (by omega) (.string (strOfNums VX)) (.int .i64 VA) (.int .i64 VE))
      have HKp := Lib.hid ((HKp.out.trans hk).set3 (g := D) (by omega) (.string (strOfNums VX)) (.int .i64 VA) (.int .i64 VE))
      have hD2 := HD.out.keep hk (fun h => h)
      have HD := Lib.hid (hD2.set3 (.string (strOfNums VX)) (.int .i64 VA) (.int .i64 VE))
      clear d0 d1 d2 e0 e1 e2
      have d0 := hD2.cell 0 rfl
      have d1 := hD2.cell 1 rfl
      have d2 := hD2.cell 2 rfl
      have e0 := hD2.free 0
      have e1 := hD2.free 1
      have e2 := hD2.free 2
      simp only [List.getElem_toArray, List.getElem_cons_zero, List.getElem_cons_succ] at d0 d1 d2
      clear hk hD2
      go_upto_region 11 with (fail)
      obtain ⟨Y4, hY4⟩ : ∃ Y, Y = ((w4.setCell ⟨D, 0, none⟩ (.string (strOfNums VX))).setCell ⟨D, 1, none⟩ (.int .i64 VA)).setCell ⟨D, 2, none⟩ (.int .i64 VE) := ⟨_, rfl⟩
      rw [← hY4] at HR HX HKp HD ⊢
      clear hY4 d0 d1 d2 e0 e1 e2
      have d0 := HD.out.cell 0 rfl
      have d1 := HD.out.cell 1 rfl
      have d2 := HD.out.cell 2 rfl
      have e0 := HD.out.free 0
      have e1 := HD.out.free 1
      have e2 := HD.out.free 2
      have x0 := HX.out.cell 0 rfl
      simp only [List.getElem_toArray, List.getElem_cons_zero, List.getElem_cons_succ] at d0 d1 d2 x0
      go_wp2_with fail
      refine (HE.out _).mono ?_
      rintro e w3 ⟨rfl, hk⟩
      have HR := Lib.hid ((HR.out.keep hk (fun h => h)).other3 (h := D) (by omega) (.string (strOfNums VX)) (.int .i64 VA) (.int .i64 0))
      have HX := Lib.hid ((HX.out.keep hk (fun h => h)).other3 (h := D) (by omega) (.string (strOfNums VX)) (.int .i64 VA) (.int .i64 0))
      have HKp := Lib.hid ((HKp.out.trans hk).set3 (g := D) (by omega) (.string (strOfNums VX)) (.int .i64 VA) (.int .i64 0))
      have hD2 := HD.out.keep hk (fun h => h)
      have HD := Lib.hid (hD2.set3 (.string (strOfNums VX)) (.int .i64 VA) (.int .i64 0))
      clear d0 d1 d2 e0 e1 e2
      have d0 := hD2.cell 0 rfl
      have d1 := hD2.cell 1 rfl
      have d2 := hD2.cell 2 rfl
      have e0 := hD2.free 0
      have e1 := hD2.free 1
      have e2 := hD2.free 2
      simp only [List.getElem_toArray, List.getElem_cons_zero, List.getElem_cons_succ] at d0 d1 d2
      clear hk hD2
      go_upto_region 12 with (fail)
      obtain ⟨Y3, hY3⟩ : ∃ Y, Y = ((w3.setCell ⟨D, 0, none⟩ (.string (strOfNums VX))).setCell ⟨D, 1, none⟩ (.int .i64 VA)).setCell ⟨D, 2, none⟩ (.int .i64 0) := ⟨_, rfl⟩
      rw [← hY3] at HR HX HKp HD ⊢
      clear hY3 d0 d1 d2 e0 e1 e2
      have d0 := HD.out.cell 0 rfl
      have d1 := HD.out.cell 1 rfl
      have d2 := HD.out.cell 2 rfl
      have e0 := HD.out.free 0
      have e1 := HD.out.free 1
      have e2 := HD.out.free 2
      have x0 := HX.out.cell 0 rfl
      simp only [List.getElem_toArray, List.getElem_cons_zero, List.getElem_cons_succ] at d0 d1 d2 x0
      have q0 := HR.out.free 0
      have q1 := HR.out.free 1
      have q2 := HR.out.free 2
      have q3 := HR.out.free 3
      have o0 := HR.out.cell 0 rfl
      have o1 := HR.out.cell 1 rfl
      have o2 := HR.out.cell 2 rfl
      have o3 := HR.out.cell 3 rfl
      clear x0
      have x0 := HX.out.cell 0 rfl
      have x1 := HX.out.cell 1 rfl
      have x2 := HX.out.cell 2 rfl
      have x3 := HX.out.cell 3 rfl
      have y0 := HX.out.free 0
      have y1 := HX.out.free 1
      have y2 := HX.out.free 2
      have y3 := HX.out.free 3
      simp only [List.getElem_toArray, List.getElem_cons_zero, List.getElem_cons_succ] at o0 o1 o2 o3 x0 x1 x2 x3
      go_wp2_with fail
      exact bodyPost_ret (v := .tuple #[recV ⟨false, s, KT, VT⟩, .int .i64 0]) (by simp [results, Tryz.results80, go_sem, recV, o0, o1, o2, o3]) rfl ⟨rfl, Keeps.set4 (((HKp.out.setNew (by omega) 1 _).setNew (by omega) 2 _).setNew (by omega) 3 _) (Nat.le_refl _) _ _ _ _⟩
    · rw [if_neg hz]
      simp only
      have hzb : (z != 0) = true := by simpa using hz
      have hzc : decide (z = 0) = false := decide_eq_false hz
      go_enter Tryz.func80, Tryz.ntmps80
      go_wp2_with fail
      refine (HG.out _).mono ?_
      rintro e w1 ⟨rfl, hk⟩
      have hR1 : Whole w1 w.heap.size 39 #[.bool false, .int .u64 0, .string ⟨#[]⟩, .string ⟨#[]⟩] := ((Whole.new w _ _).alloc _).keep hk (fun h => h)
      have hX1 : Whole w1 (w.heap.size + 1) 39 #[.bool false, .int .u64 0, .string ⟨#[]⟩, .string ⟨#[]⟩] := (Whole.newAt _ _ _ _ (by simp)).keep hk (fun h => h)
      have hK1 : Keeps NoBlock w w1 := (((Keeps.refl NoBlock w).alloc _).alloc _).trans hk
      obtain ⟨W, hW⟩ : ∃ W, W = w1.alloc (.cells #[.string (strOfNums Z), .int .i64 (gn : Int), .int .i64 ge] 156) := ⟨_, rfl⟩
      have hRW : Whole W w.heap.size 39 #[.bool false, .int .u64 0, .string ⟨#[]⟩, .string ⟨#[]⟩] := by rw [hW]; exact hR1.alloc _
      have hXW : Whole W (w.heap.size + 1) 39 #[.bool false, .int .u64 0, .string ⟨#[]⟩, .string ⟨#[]⟩] := by rw [hW]; exact hX1.alloc _
      have hDW : Whole W w1.heap.size 156 #[.string (strOfNums Z), .int .i64 (gn : Int), .int .i64 ge] := by rw [hW]; exact Whole.new _ _ _
      have hKW : Keeps NoBlock w W := by rw [hW]; exact hK1.alloc _
      have hlt1 := hX1.lt
      obtain ⟨D, hD⟩ : ∃ D, D = w1.heap.size := ⟨_, rfl⟩
      rw [← hD] at hDW hlt1
      have HR := Lib.hid hRW
      have HX := Lib.hid hXW
      have HD := Lib.hid hDW
      have HKp := Lib.hid hKW
      have d0 := hDW.cell 0 rfl
      have d1 := hDW.cell 1 rfl
      have d2 := hDW.cell 2 rfl
      have e0 := hDW.free 0
      have e1 := hDW.free 1
      have e2 := hDW.free 2
      simp only [List.getElem_toArray, List.getElem_cons_zero, List.getElem_cons_succ] at d0 d1 d2
      clear hk hR1 hX1 hK1 hRW hXW hDW hKW
      go_upto_region 7 with (fail)
      rw [← hW, ← hD]
      clear hW hD
      go_wp2_with fail
      refine (HK.out _).mono ?_
      rintro e w2 ⟨rfl, hk⟩
      have HR := Lib.hid ((HR.out.keep hk (fun h => h)).other3 (h := D) (by omega) (.string (strOfNums KX)) (.int .i64 KA) (.int .i64 KE))
      have HX := Lib.hid ((HX.out.keep hk (fun h => h)).other3 (h := D) (by omega) (.string (strOfNums KX)) (.int .i64 KA) (.int .i64 KE))
      have HKp := Lib.hid ((HKp.out.trans hk).set3 (g := D) (by omega) (.string (strOfNums KX)) (.int .i64 KA) (.int .i64 KE))
      have hD2 := HD.out.keep hk (fun h => h)
      have HD := Lib.hid (hD2.set3 (.string (strOfNums KX)) (.int .i64 KA) (.int .i64 KE))
      clear d0 d1 d2 e0 e1 e2
      have d0 := hD2.cell 0 rfl
      have d1 := hD2.cell 1 rfl
      have d2 := hD2.cell 2 rfl
      have e0 := hD2.free 0
      have e1 := hD2.free 1
      have e2 := hD2.free 2
      simp only [List.getElem_toArray, List.getElem_cons_zero, List.getElem_cons_succ] at d0 d1 d2
      clear hk hD2
      go_upto_region 8 with (fail)
      obtain ⟨Y2, hY2⟩ : ∃ Y, Y = ((w2.setCell ⟨D, 0, none⟩ (.string (strOfNums KX))).setCell ⟨D, 1, none⟩ (.int .i64 KA)).setCell ⟨D, 2, none⟩ (.int .i64 KE) := ⟨_, rfl⟩
      rw [← hY2] at HR HX HKp HD ⊢
      clear hY2 d0 d1 d2 e0 e1 e2
      have d0 := HD.out.cell 0 rfl
      have d1 := HD.out.cell 1 rfl
      have d2 := HD.out.cell 2 rfl
      have e0 := HD.out.free 0
      have e1 := HD.out.free 1
      have e2 := HD.out.free 2
      have x0 := HX.out.cell 0 rfl
      simp only [List.getElem_toArray, List.getElem_cons_zero, List.getElem_cons_succ] at d0 d1 d2 x0
      go_wp2_with fail
      clear x0
      refine (HV.out _).mono ?_
      rintro e w4 ⟨rfl, hk⟩
      have HR := Lib.hid ((HR.out.keep hk (fun h => h)).other3 (h := D) (by omega) (.string (strOfNums VX)) (.int .i64 VA) (.int .i64 VE))
      have HX := Lib.hid ((HX.out.keep hk (fun h => h)).other3 (h := D) (by omega) (.string (strOfNums VX)) (.int .i64 VA) (.int .i64 VE))
      have HKp := Lib.hid ((HKp.out.trans hk).set3 (g := D) (by omega) (.string (strOfNums VX)) (.int .i64 VA) (.int .i64 VE))
      have hD2 := HD.out.keep hk (fun h => h)
      have HD := Lib.hid (hD2.set3 (.string (strOfNums VX)) (.int .i64 VA) (.int .i64 VE))
      clear d0 d1 d2 e0 e1 e2
      have d0 := hD2.cell 0 rfl
      have d1 := hD2.cell 1 rfl
      have d2 := hD2.cell 2 rfl
      have e0 := hD2.free 0
      have e1 := hD2.free 1
      have e2 := hD2.free 2
      simp only [List.getElem_toArray, List.getElem_cons_zero, List.getElem_cons_succ] at d0 d1 d2
      clear hk hD2
      go_upto_region 11 with (fail)
      obtain ⟨Y4, hY4⟩ : ∃ Y, Y = ((w4.setCell ⟨D, 0, none⟩ (.string (strOfNums VX))).setCell ⟨D, 1, none⟩ (.int .i64 VA)).setCell ⟨D, 2, none⟩ (.int .i64 VE) := ⟨_, rfl⟩
      rw [← hY4] at HR HX HKp HD ⊢
      clear hY4 d0 d1 d2 e0 e1 e2
      have d0 := HD.out.cell 0 rfl
      have d1 := HD.out.cell 1 rfl
      have d2 := HD.out.cell 2 rfl
      have e0 := HD.out.free 0
      have e1 := HD.out.free 1
      have e2 := HD.out.free 2
      have x0 := HX.out.cell 0 rfl
      simp only [List.getElem_toArray, List.getElem_cons_zero, List.getElem_cons_succ] at d0 d1 d2 x0
      go_wp2_with fail
      refine (HE.out _).mono ?_
      rintro e w3 ⟨rfl, hk⟩
      have HR := Lib.hid ((HR.out.keep hk (fun h => h)).other3 (h := D) (by omega) (.string (strOfNums VX)) (.int .i64 VA) (.int .i64 z))
      have HX := Lib.hid ((HX.out.keep hk (fun h => h)).other3 (h := D) (by omega) (.string (strOfNums VX)) (.int .i64 VA) (.int .i64 z))
      have HKp := Lib.hid ((HKp.out.trans hk).set3 (g := D) (by omega) (.string (strOfNums VX)) (.int .i64 VA) (.int .i64 z))
      have hD2 := HD.out.keep hk (fun h => h)
      have HD := Lib.hid (hD2.set3 (.string (strOfNums VX)) (.int .i64 VA) (.int .i64 z))
      clear d0 d1 d2 e0 e1 e2
      have d0 := hD2.cell 0 rfl
      have d1 := hD2.cell 1 rfl
      have d2 := hD2.cell 2 rfl
      have e0 := hD2.free 0
      have e1 := hD2.free 1
      have e2 := hD2.free 2
      simp only [List.getElem_toArray, List.getElem_cons_zero, List.getElem_cons_succ] at d0 d1 d2
      clear hk hD2
      go_upto_region 12 with (fail)
      obtain ⟨Y3, hY3⟩ : ∃ Y, Y = ((w3.setCell ⟨D, 0, none⟩ (.string (strOfNums VX))).setCell ⟨D, 1, none⟩ (.int .i64 VA)).setCell ⟨D, 2, none⟩ (.int .i64 z) := ⟨_, rfl⟩
      rw [← hY3] at HR HX HKp HD ⊢
      clear hY3 d0 d1 d2 e0 e1 e2
      have d0 := HD.out.cell 0 rfl
      have d1 := HD.out.cell 1 rfl
      have d2 := HD.out.cell 2 rfl
      have e0 := HD.out.free 0
      have e1 := HD.out.free 1
      have e2 := HD.out.free 2
      have x0 := HX.out.cell 0 rfl
      simp only [List.getElem_toArray, List.getElem_cons_zero, List.getElem_cons_succ] at d0 d1 d2 x0
      have q0 := HR.out.free 0
      have q1 := HR.out.free 1
      have q2 := HR.out.free 2
      have q3 := HR.out.free 3
      have o0 := HR.out.cell 0 rfl
      have o1 := HR.out.cell 1 rfl
      have o2 := HR.out.cell 2 rfl
      have o3 := HR.out.cell 3 rfl
      clear x0
      have x0 := HX.out.cell 0 rfl
      have x1 := HX.out.cell 1 rfl
      have x2 := HX.out.cell 2 rfl
      have x3 := HX.out.cell 3 rfl
      have y0 := HX.out.free 0
      have y1 := HX.out.free 1
      have y2 := HX.out.free 2
      have y3 := HX.out.free 3
      simp only [List.getElem_toArray, List.getElem_cons_zero, List.getElem_cons_succ] at o0 o1 o2 o3 x0 x1 x2 x3
      go_wp2_with fail
      have s0 : Y3.drew.cell? ⟨D, 2, none⟩ = some (.int .i64 z) := d2
      go_region
      go_wp2_with fail
      exact bodyPost_ret (v := .tuple #[recV Rec.none, .int .i64 z]) (by simp [results, Tryz.results80, go_sem, recV, Rec.none, o0, o1, o2, o3]; rfl) rfl ⟨rfl, (HKp.out.set4 (Nat.le_refl _) _ _ _ _).drew⟩

set_option maxHeartbeats 2000000 in
set_option maxRecDepth 10000 in
theorem read7_ref (xs : List Int) (ho : Octets xs) (hl : xs.length ≤ 10000000) (w : World) :
    Calls Tryz.prog 80 #[.string (strOfNums xs)] w fun e w' => e = .returned (readOut7 (readR xs)) ∧ Keeps NoBlock w w' := by
  cases xs with
  | nil =>
    have hem : (strOfNums []).toList.isEmpty = true := str_isnone []
    have hr : readR [] = (2, Rec.none) := rfl
    rw [hr]
    go_enter Tryz.func80, Tryz.ntmps80
    go_wp2_with fail
    exact bodyPost_ret (v := .tuple #[recV Rec.none, .int .i64 2]) (by simp [results, Tryz.results80, go_sem, recV, Rec.none]; rfl) rfl ⟨rfl, (Keeps.refl _ _).alloc _⟩
  | cons k xs =>
    have hox : Octets xs := fun b hb => ho b (List.mem_cons_of_mem _ hb)
    have hlx : xs.length ≤ 10000000 := by rw [List.length_cons] at hl; omega
    rw [show readR (k :: xs) = readKind k xs from rfl]
    by_cases h3 : k = 3
    · rw [h3, show (3 : Int) = if true = true then 3 else 2 from rfl, ← steps7_read]
      exact read7_kind true 3 rfl xs hox hlx w
    · by_cases h2 : k = 2
      · rw [h2, show (2 : Int) = if false = true then 3 else 2 from rfl, ← steps7_read]
        exact read7_kind false 2 rfl xs hox hlx w
      · have hr : readKind k xs = (4, Rec.none) := by unfold readKind; rw [if_pos ⟨h2, h3⟩]
        rw [hr]
        have hsz : (strOfNums (k :: xs)).size = xs.length + 1 := str_size (k :: xs)
        have hpos : 0 < (strOfNums (k :: xs)).size := by rw [hsz]; omega
        have hsg := str_get (k :: xs) ho 0 hpos
        rw [show (k :: xs).getD 0 0 = k from rfl] at hsg
        have hem : (strOfNums (k :: xs)).toList.isEmpty = false := str_isnone _
        have b2 : (k != 2) = true := by simpa using h2
        have b3 : (k != 3) = true := by simpa using h3
        clear hr ho hl hox hlx
        go_enter Tryz.func80, Tryz.ntmps80
        go_wp2_with fail
        exact bodyPost_ret (v := .tuple #[recV Rec.none, .int .i64 4]) (by simp [results, Tryz.results80, go_sem, recV, Rec.none]; rfl) rfl ⟨rfl, (Keeps.refl _ _).alloc _⟩
end Go.Proofs.YtlejobomjgccnaaGreat

namespace Go.Proofs.YtlejobomjgccnaaGreat
open Go.RowKit

theorem u64_zero : U64 0 := by constructor <;> decide

set_option maxHeartbeats 800000 in
set_option maxRecDepth 10000 in
theorem seal9_ref (xs : List Int) (ho : Octets xs) (hl : xs.length ≤ 10000000) (w : World) :
    Calls Tryz.prog 33 #[.string (strOfNums xs)] w fun e w' => e = .returned (.string (strOfNums (sealN xs))) ∧ Keeps NoBlock w w' := by
  have HS := Lib.hid (fun w => wsum_ref 0 xs u64_zero ho (by omega) w)
  have hu := wxxh_u64 0 xs
  have HN := Lib.hid (fun w => num_any (wxxh 0 xs) 8 8 rfl (by decide) hu.1 hu.2 w)
  have hol : (xs ++ sumB xs).length ≤ 140737488355328 := by rw [List.length_append, sumB_length]; omega
  have HT := Lib.hid (fun w => stuff_ref (xs ++ sumB xs) (ho.app (sumB_octets xs)) hol w)
  have a1 := str_append xs (sumB xs)
  have z1 := str_size xs
  have z2 := str_size (sumB xs)
  rw [sumB_length] at z2
  have a2 : strOfNums (chunkN xs) ++ (⟨#[0]⟩ : ByteArray) = strOfNums (sealN xs) := str_append (chunkN xs) [0]
  have z3 := str_size (chunkN xs)
  have hmost := (seal_length xs).2
  have hlen := (seal_length xs).1
  have z4 : (⟨#[0]⟩ : ByteArray).size = 1 := rfl
  have hcl : (chunkN xs).length ≤ 100000000 := by
    unfold sizeN mostOf at hmost
    rw [if_neg (by omega)] at hmost
    omega
  rw [show stuff (xs ++ sumB xs) = chunkN xs from rfl] at HT
  rw [show digits (wxxh 0 xs) 8 = sumB xs from rfl] at HN
  obtain ⟨x, hx⟩ : ∃ x, x = wxxh 0 xs := ⟨_, rfl⟩
  rw [← hx] at HS HN
  obtain ⟨B, hB⟩ : ∃ B, B = sumB xs := ⟨_, rfl⟩
  rw [← hB] at HN HT a1 z2
  obtain ⟨C, hC⟩ : ∃ C, C = chunkN xs := ⟨_, rfl⟩
  rw [← hC] at HT a2 z3 hcl
  obtain ⟨F, hF⟩ : ∃ F, F = sealN xs := ⟨_, rfl⟩
  rw [← hF] at a2 ⊢
  obtain ⟨L, hL⟩ : ∃ L, L = xs.length := ⟨_, rfl⟩
  rw [← hL] at z1 hl
  obtain ⟨M, hM⟩ : ∃ M, M = C.length := ⟨_, rfl⟩
  rw [← hM] at z3 hcl
  have r1 : ¬ 9223372036854775807 < L + 8 := by omega
  have r2 : ¬ 9223372036854775807 < M + 1 := by omega
  clear hx hB hC hF hL hM hu hol hmost hlen ho
  go_enter Tryz.func33, Tryz.ntmps33
  go_wp2_with fail
  refine (HS.out _).mono ?_
  rintro e w1 ⟨rfl, hk⟩
  have HK := Lib.hid hk
  clear hk
  go_wp2_with fail
  refine (HN.out _).mono ?_
  rintro e w2 ⟨rfl, hk⟩
  have HK := Lib.hid (HK.out.trans hk)
  clear hk
  go_wp2_with fail
  refine (HT.out _).mono ?_
  rintro e w3 ⟨rfl, hk⟩
  have HK := Lib.hid (HK.out.trans hk)
  clear hk
  go_wp2_with fail
  go_ret
  exact ⟨rfl, HK.out⟩

def openOut (t : Int × List Int) : Value := .tuple #[.string (strOfNums t.2), .int .i64 t.1]

set_option maxHeartbeats 1600000 in
set_option maxRecDepth 10000 in
theorem open9_ref (ys : List Int) (ho : Octets ys) (hl : ys.length ≤ 10000000) (w : World) :
    Calls Tryz.prog 79 #[.string (strOfNums ys)] w fun e w' => e = .returned (openOut (openN ys)) ∧ Keeps NoBlock w w' := by
  have HU := Lib.hid (fun w => unstuff_ref ys ho (by omega) w)
  have hu := unst_octets ho
  unfold openN
  obtain ⟨y, hy⟩ : ∃ y, y = (unst ys).1 := ⟨_, rfl⟩
  obtain ⟨T, hT⟩ : ∃ T, T = (unst ys).2 := ⟨_, rfl⟩
  rw [← hy] at HU ⊢
  rw [← hT] at HU hu ⊢
  obtain ⟨hto, htl⟩ := hu
  have hsz := str_size T
  by_cases h0 : y = 0
  · subst h0
    clear hy
    rw [if_neg (by simp)]
    unfold openEnd
    obtain ⟨L, hL⟩ : ∃ L, L = T.length := ⟨_, rfl⟩
    rw [← hL] at hsz htl ⊢
    by_cases h8 : L < 8
    · rw [if_pos h8]
      have hd : decide ((L : Int) - 8 < 0) = true := decide_eq_true (by omega)
      unfold openOut
      clear hT hL hto htl ho hl
      go_enter Tryz.func79, Tryz.ntmps79
      go_wp2_with fail
      refine (HU.out _).mono ?_
      rintro e w1 ⟨rfl, hk⟩
      have HK := Lib.hid hk
      clear hk
      go_wp2_with fail
      go_ret2
      exact ⟨rfl, HK.out⟩
    · rw [if_neg h8]
      obtain ⟨m, hm⟩ : ∃ m, m = L - 8 := ⟨_, rfl⟩
      rw [← hm]
      have hd : decide ((m : Int) < 0) = false := decide_eq_false (by omega)
      have hi : (L : Int) - 8 = (m : Int) := by omega
      have e1 : (strOfNums T).extract m L = strOfNums (T.drop m) := by
        have := str_drop T m
        rw [hsz] at this
        exact this
      have e2 := str_take T m
      have hmL : m ≤ L := by omega
      have hmb : m ≤ 10000000 := by omega
      have HV := Lib.hid (fun w => value_ref (T.drop m) (hto.drop m) (by rw [List.length_drop]; omega) w)
      have HS := Lib.hid (fun w => wsum_ref 0 (T.take m) u64_zero (hto.take m) (by rw [List.length_take]; omega) w)
      by_cases hv : le (T.drop m) = wxxh 0 (T.take m)
      · rw [if_pos hv]
        have hne : (le (T.drop m) != wxxh 0 (T.take m)) = false := by rw [hv]; simp
        obtain ⟨a, ha⟩ : ∃ a, a = le (T.drop m) := ⟨_, rfl⟩
        obtain ⟨b, hb⟩ : ∃ b, b = wxxh 0 (T.take m) := ⟨_, rfl⟩
        rw [← ha] at HV hne
        rw [← hb] at HS hne
        unfold openOut
        clear hT hL hto htl ho hl ha hb hv hm h8
        go_enter Tryz.func79, Tryz.ntmps79
        go_wp2_with fail
        refine (HU.out _).mono ?_
        rintro e w1 ⟨rfl, hk⟩
        have HK := Lib.hid hk
        clear hk
        go_wp2_with fail
        go_region_with (first
          | (go_at_call 63; refine (HV.out _).mono ?_; rintro e w2 ⟨rfl, rfl⟩)
          | (go_at_call 37; refine (HS.out _).mono ?_; rintro e w2 ⟨rfl, hk⟩; have HK2 := Lib.hid ((HK.out.drewN _).trans hk); clear hk))
        all_goals
          go_wp2_with fail
          go_ret2
          first
            | exact ⟨rfl, HK2.out⟩
            | exact ⟨rfl, HK2.out.drewN _⟩
      · rw [if_neg hv]
        have hne : (le (T.drop m) != wxxh 0 (T.take m)) = true := by rw [bne_iff_ne]; exact hv
        obtain ⟨a, ha⟩ : ∃ a, a = le (T.drop m) := ⟨_, rfl⟩
        obtain ⟨b, hb⟩ : ∃ b, b = wxxh 0 (T.take m) := ⟨_, rfl⟩
        rw [← ha] at HV hne
        rw [← hb] at HS hne
        unfold openOut
        clear hT hL hto htl ho hl ha hb hv hm h8
        go_enter Tryz.func79, Tryz.ntmps79
        go_wp2_with fail
        refine (HU.out _).mono ?_
        rintro e w1 ⟨rfl, hk⟩
        have HK := Lib.hid hk
        clear hk
        go_wp2_with fail
        go_region_with (first
          | (go_at_call 63; refine (HV.out _).mono ?_; rintro e w2 ⟨rfl, rfl⟩)
          | (go_at_call 37; refine (HS.out _).mono ?_; rintro e w2 ⟨rfl, hk⟩; have HK2 := Lib.hid ((HK.out.drewN _).trans hk); clear hk))
        all_goals
          go_wp2_with fail
          go_ret2
          first
            | exact ⟨rfl, HK2.out⟩
            | exact ⟨rfl, HK2.out.drewN _⟩
  · rw [if_pos h0]
    have hne : (y != 0) = true := by rw [bne_iff_ne]; exact h0
    unfold openOut
    clear hT hto htl ho hl hy h0
    go_enter Tryz.func79, Tryz.ntmps79
    go_wp2_with fail
    refine (HU.out _).mono ?_
    rintro e w1 ⟨rfl, hk⟩
    have HK := Lib.hid hk
    clear hk
    go_wp2_with fail
    go_ret2
    exact ⟨rfl, HK.out⟩
end Go.Proofs.YtlejobomjgccnaaGreat

namespace Go.Proofs.YtlejobomjgccnaaGreat
open Go.RowKit

theorem bodyR_length {r : Rec} (h : r.Fine) (h1 : r.key.length ≤ 2000000) (h2 : r.val.length ≤ 2000000) : (bodyR r).length ≤ 31 + r.key.length + r.val.length := by
  have a := vnum_ten h.seq
  have b := vnum_ten (x := r.key.length) (by omega)
  have c := vnum_ten (x := r.val.length) (by omega)
  unfold bodyR textB
  split
  · simp only [List.length_cons, List.length_append]; omega
  · simp only [List.length_cons, List.length_append]; omega

set_option maxHeartbeats 800000 in
set_option maxRecDepth 10000 in
theorem record9_ref (r : Rec) (hf : r.Fine) (h1 : r.key.length ≤ 2000000) (h2 : r.val.length ≤ 2000000) (w : World) :
    Calls Tryz.prog 13 #[recV r] w fun e w' => e = .returned (.string (strOfNums (sealN (bodyR r)))) ∧ Keeps NoBlock w w' := by
  have HB := Lib.hid (fun w => body7_ref r hf (by omega) (by omega) w)
  have HS := Lib.hid (fun w => seal9_ref (bodyR r) (bodyR_octets hf) (by have := bodyR_length hf h1 h2; omega) w)
  clear hf h1 h2
  unfold recV at *
  go_enter Tryz.func13, Tryz.ntmps13
  go_wp2_with fail
  refine (HB.out _).mono ?_
  rintro e w1 ⟨rfl, hk⟩
  have HK := Lib.hid (((Keeps.refl NoBlock w).alloc _).trans hk)
  clear hk
  go_wp2_with fail
  refine (HS.out _).mono ?_
  rintro e w2 ⟨rfl, hk⟩
  have HK := Lib.hid (HK.out.trans hk)
  clear hk
  go_wp2_with fail
  go_ret
  exact ⟨rfl, HK.out⟩

set_option maxHeartbeats 1600000 in
set_option maxRecDepth 10000 in
theorem getrec9_ref (ys : List Int) (ho : Octets ys) (hl : ys.length ≤ 10000000) (w : World) :
    Calls Tryz.prog 47 #[.string (strOfNums ys)] w fun e w' => e = .returned (readOut7 (getR ys)) ∧ Keeps NoBlock w w' := by
  have HO := Lib.hid (fun w => open9_ref ys ho hl w)
  obtain ⟨hb1, hb2⟩ := open_bound ho
  unfold openOut at HO
  unfold getR
  obtain ⟨y, hy⟩ : ∃ y, y = (openN ys).1 := ⟨_, rfl⟩
  obtain ⟨T, hT⟩ : ∃ T, T = (openN ys).2 := ⟨_, rfl⟩
  rw [← hy] at HO ⊢
  rw [← hT] at HO hb1 hb2 ⊢
  clear hy hT
  by_cases h0 : y = 0
  · subst h0
    rw [if_neg (by simp)]
    have HR := Lib.hid (fun w => read7_ref T hb1 (by omega) w)
    obtain ⟨z, hz⟩ : ∃ z, z = readR T := ⟨_, rfl⟩
    rw [← hz] at HR ⊢
    clear hz hb1 hb2 ho hl
    go_enter Tryz.func47, Tryz.ntmps47
    go_wp2_with fail
    refine (HO.out _).mono ?_
    rintro e w1 ⟨rfl, hk⟩
    have HN0 : Hid (Whole w1 w.heap.size 39 (recCells Rec.none)) := Lib.hid ((Whole.new w _ (recCells Rec.none)).keep hk (fun h => h))
    have HK := Lib.hid (((Keeps.refl NoBlock w).alloc _).trans hk)
    clear hk
    go_wp2_with fail
    refine (HR.out _).mono ?_
    rintro e w2 ⟨rfl, hk⟩
    have hN := HN0.out.keep hk (fun h => h)
    have HK := Lib.hid (HK.out.trans hk)
    have c0 := hN.cell 0 rfl
    have c1 := hN.cell 1 rfl
    have c2 := hN.cell 2 rfl
    have c3 := hN.cell 3 rfl
    have f0 := hN.free 0
    have f1 := hN.free 1
    have f2 := hN.free 2
    have f3 := hN.free 3
    simp only [recCells, List.getElem_toArray, List.getElem_cons_zero, List.getElem_cons_succ] at c0 c1 c2 c3
    clear hk hN
    unfold readOut7 recV
    go_wp2_with fail
    exact bodyPost_ret (v := .tuple #[recV z.2, .int .i64 z.1]) (by simp [results, Tryz.results47, go_sem, recV, c0, c1, c2, c3]) rfl ⟨rfl, ((((HK.out.setNew (g := w.heap.size) (Nat.le_refl _) 0 _).setNew (g := w.heap.size) (Nat.le_refl _) 1 _).setNew (g := w.heap.size) (Nat.le_refl _) 2 _).setNew (g := w.heap.size) (Nat.le_refl _) 3 _)⟩
  · rw [if_pos h0]
    have hne : (y != 0) = true := by rw [bne_iff_ne]; exact h0
    clear hb1 hb2 ho hl h0
    go_enter Tryz.func47, Tryz.ntmps47
    go_wp2_with fail
    refine (HO.out _).mono ?_
    rintro e w1 ⟨rfl, hk⟩
    have hN : Whole w1 w.heap.size 39 (recCells Rec.none) := (Whole.new w _ (recCells Rec.none)).keep hk (fun h => h)
    have HK := Lib.hid (((Keeps.refl NoBlock w).alloc _).trans hk)
    have c0 := hN.cell 0 rfl
    have c1 := hN.cell 1 rfl
    have c2 := hN.cell 2 rfl
    have c3 := hN.cell 3 rfl
    have f0 := hN.free 0
    have f1 := hN.free 1
    have f2 := hN.free 2
    have f3 := hN.free 3
    simp only [recCells, List.getElem_toArray, List.getElem_cons_zero, List.getElem_cons_succ] at c0 c1 c2 c3
    clear hk hN
    go_wp2_with fail
    exact bodyPost_ret (v := .tuple #[recV Rec.none, .int .i64 y]) (by simp [results, Tryz.results47, go_sem, recV, Rec.none, c0, c1, c2, c3]; rfl) rfl ⟨rfl, ((((HK.out.setNew (g := w.heap.size) (Nat.le_refl _) 0 _).setNew (g := w.heap.size) (Nat.le_refl _) 1 _).setNew (g := w.heap.size) (Nat.le_refl _) 2 _).setNew (g := w.heap.size) (Nat.le_refl _) 3 _)⟩

set_option maxHeartbeats 1600000 in
set_option maxRecDepth 10000 in
theorem may9_ref (e s n : Nat) (hs : s < 4294967296) (w : World) : Calls Tryz.prog 10 #[confV e s, .int .u64 (n : Int)] w fun r w' => r = .returned (.bool (mayHead e s n)) ∧ Keeps NoBlock w w' := by
  have HM := Lib.hid (fun w => may_ref e s w)
  have HW := Lib.hid (Whole.new w 27 (confCells e s))
  have hdef : mayHead e s n = (mayC e s && decide (n < s)) := rfl
  obtain ⟨m, hm⟩ : ∃ m, m = mayC e s := ⟨_, rfl⟩
  rw [← hm] at HM hdef
  have HD := Lib.hid hdef
  have HS := Lib.hid (show IntKind.u64.wrap (s : Int) = (s : Int) by rw [IntKind.wrap_u64]; omega)
  unfold confV at *
  clear hm hdef hs
  cases m
  · go_enter Tryz.func10, Tryz.ntmps10
    go_wp2_with fail
    refine (HM.out _).mono ?_
    rintro e w1 ⟨rfl, hk⟩
    have HK := Lib.hid (((Keeps.refl NoBlock w).alloc _).trans hk)
    clear hk
    go_wp2_with fail
    go_ret
    exact ⟨by rw [HD.out]; rfl, HK.out⟩
  · go_enter Tryz.func10, Tryz.ntmps10
    go_wp2_with fail
    refine (HM.out _).mono ?_
    rintro e w1 ⟨rfl, hk⟩
    have HK := Lib.hid (((Keeps.refl NoBlock w).alloc _).trans hk)
    have c1 := (HW.out.keep hk (fun h => h)).cell 1 rfl
    simp only [confCells, List.getElem_toArray, List.getElem_cons_zero, List.getElem_cons_succ] at c1
    clear hk
    go_wp2_with fail
    go_ret
    exact ⟨by rw [HD.out]; simp [HS.out], HK.out⟩
end Go.Proofs.YtlejobomjgccnaaGreat

namespace Go.Proofs.YtlejobomjgccnaaGreat
open Go.RowKit

/-- A region's condition may be made stronger on the way. -/
theorem wpAnyH_swap {P : Program} {md : Region.Mode} {ops : Array Oper} {Q : Exit → Act → World → Prop} {S S' : World → Prop} (h : ∀ w, S' w → S w) : ∀ (fuel : Nat) (listed : Array Bool) (a : Act) (w : World), wpAnyH P md ops Q S' fuel listed a w → wpAnyH P md ops Q S fuel listed a w
  | 0, _, _, _, hh => hh
  | fuel + 1, _, _, _, hh => ⟨hh.1, fun i hi => wpOp_mono (fun _ _ h' => ⟨h _ h'.1, wpAnyH_swap h fuel _ _ _ h'.2⟩) (hh.2 i hi)⟩
end Go.Proofs.YtlejobomjgccnaaGreat

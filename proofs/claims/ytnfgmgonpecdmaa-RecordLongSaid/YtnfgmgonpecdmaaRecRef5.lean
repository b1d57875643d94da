/-
  The document's Read of a record: its walk.
-/
import Derived.Test.YtnfgmgonpecdmaaRecRef4
namespace Go.Proofs.Ytnfgmgonpecdmaa
open Go.RowKit

theorem Keeps.set4 {S : Nat → Prop} {a b : World} (h : Keeps S a b) {g : Nat} (hg : a.heap.size ≤ g) (x y z u : Value) : Keeps S a ((((b.setCell ⟨g, 0, none⟩ x).setCell ⟨g, 1, none⟩ y).setCell ⟨g, 2, none⟩ z).setCell ⟨g, 3, none⟩ u) :=
  (((h.setNew hg 0 x).setNew hg 1 y).setNew hg 2 z).setNew hg 3 u

set_option maxHeartbeats 4000000 in
set_option maxRecDepth 10000 in
theorem read7_kind (del : Bool) (k : Int) (hk : k = if del then 3 else 2) (xs : List Int) (ho : Octets xs) (hl : xs.length ≤ 10000000) (w : World) :
    Calls Try.prog 14 #[.string (strOfNums (k :: xs))] w fun e w' => e = .returned (readOut7 (steps7 del xs)) ∧ Keeps NoBlock w w' := by
  have hok : Octets (k :: xs) := fun b hb => by
    rcases List.mem_cons.1 hb with rfl | h
    · rw [hk]; cases del <;> simp
    · exact ho b h
  have hsz : (strOfNums (k :: xs)).size = xs.length + 1 := str_size (k :: xs)
  have hpos : 0 < (strOfNums (k :: xs)).size := by rw [hsz]; omega
  have hsg := str_get (k :: xs) hok 0 hpos
  rw [show (k :: xs).getD 0 0 = k from rfl] at hsg
  have hem : (strOfNums (k :: xs)).toList.isEmpty = false := str_isnone _
  have hex : (strOfNums (k :: xs)).extract 1 (xs.length + 1) = strOfNums xs := by
    have := str_drop (k :: xs) 1
    rw [hsz] at this
    exact this
  have HG := Lib.hid (fun w => get_ref xs 0 (by omega) (by omega) ho w)
  have hoz := ho.drop (vget xs).n
  have hln : (vget xs).n ≤ xs.length := vread_n 10 true xs
  have hlz : (xs.drop (vget xs).n).length = xs.length - (vget xs).n := List.length_drop
  have HK := Lib.hid (fun w => gettext_all (xs.drop (vget xs).n) ((vget xs).n : Int) (vget xs).e 1 4096 1 4096 rfl rfl (by decide) (by decide) (by decide) (by omega) (by omega) hoz w)
  have hok2 : Octets (key7 xs).X := gtS_octets hoz
  have hrm := gtS_room (X := xs.drop (vget xs).n) (A := ((vget xs).n : Int)) (E := (vget xs).e) (l := 1) (m := 4096) (B := 10000000) (by omega) (by omega)
  have HV := Lib.hid (fun w => gettext_all (key7 xs).X (key7 xs).A (key7 xs).E 0 1048576 0 1048576 rfl rfl (by decide) (by decide) (by decide) (by have := hrm.2.2; show (gtS _ _ _ 1 4096).X.length ≤ _; omega) (by have := hrm.1; have := hrm.2.1; show 0 ≤ (gtS _ _ _ 1 4096).A ∧ (gtS _ _ _ 1 4096).A + _ ≤ _; exact ⟨hrm.1, Int.le_trans hrm.2.1 (by decide)⟩) hok2 w)
  have HE := Lib.hid (fun w => end_ref (val7 del (key7 xs)).X (val7 del (key7 xs)).A (val7 del (key7 xs)).E w)
  rw [show gtS (xs.drop (vget xs).n) ((vget xs).n : Int) (vget xs).e 1 4096 = key7 xs from rfl] at HK
  have hv1 : del = false → gtS (key7 xs).X (key7 xs).A (key7 xs).E 0 1048576 = val7 del (key7 xs) := fun h => by subst h; rfl
  have hv2 : del = true → val7 del (key7 xs) = gone7 (key7 xs) := fun h => by subst h; rfl
  have hseq : (if (vget xs).e = 0 then (vget xs).x else 0) = ((seq7 xs : Nat) : Int) := by
    unfold seq7
    split
    · rename_i h
      have hb := vread_bound 9 true xs ho h
      have : 0 ≤ (vget xs).x := hb.1
      omega
    · rfl
  unfold refOut at HG
  rw [hseq, Int.zero_add] at HG
  unfold steps7 readOut7 fin7
  obtain ⟨s, hs⟩ : ∃ s, s = seq7 xs := ⟨_, rfl⟩
  obtain ⟨K, hK⟩ : ∃ K, K = key7 xs := ⟨_, rfl⟩
  rw [← hs] at HG ⊢
  rw [← hK] at HK HV HE hv1 hv2 ⊢
  obtain ⟨V, hV⟩ : ∃ V, V = val7 del K := ⟨_, rfl⟩
  rw [← hV] at HE hv1 hv2 ⊢
  obtain ⟨Z, hZ⟩ : ∃ Z, Z = xs.drop (vget xs).n := ⟨_, rfl⟩
  rw [← hZ] at HG HK
  obtain ⟨z, hz⟩ : ∃ z, z = endE V.X V.E := ⟨_, rfl⟩
  rw [← hz] at HE ⊢
  obtain ⟨g, hg⟩ : ∃ g, g = vget xs := ⟨_, rfl⟩
  rw [← hg] at HG HK
  obtain ⟨KX, KA, KE, KT⟩ := K
  obtain ⟨VX, VA, VE, VT⟩ := V
  obtain ⟨ge, gn, gx⟩ := g
  unfold gone7 at hv2
  simp only at HG HK HV HE hv1 hv2 ⊢
  obtain ⟨L, hL⟩ : ∃ L, L = xs.length := ⟨_, rfl⟩
  rw [← hL] at hsz hl
  rw [← hL] at hex
  clear hL hg hz hZ hV hK hs hrm hok2 hoz hln hlz hseq hok ho
  unfold rdr at *
  cases del with
  | true =>
    obtain rfl : k = 3 := hk
    clear HV hv1
    obtain ⟨rfl, rfl, rfl, rfl⟩ : VX = KX ∧ VA = KA ∧ VE = KE ∧ VT = [] := by
      have := hv2 rfl
      simpa using this
    clear hv2
    by_cases hz : z = 0
    · subst hz
      rw [if_pos rfl]
      simp only
      go_enter Try.func14, Try.ntmps14
      go_wp2_with fail
      refine (HG.out _).mono ?_
      rintro e w1 ⟨rfl, hk⟩
      have hR1 : Whole w1 w.heap.size 24 #[.bool false, .int .u64 0, .string ⟨#[]⟩, .string ⟨#[]⟩] := ((Whole.new w _ _).alloc _).keep hk (fun h => h)
      have hX1 : Whole w1 (w.heap.size + 1) 24 #[.bool true, .int .u64 0, .string ⟨#[]⟩, .string ⟨#[]⟩] := (Whole.newAt _ _ _ _ (by simp)).keep hk (fun h => h)
      have hK1 : Keeps NoBlock w w1 := (((Keeps.refl NoBlock w).alloc _).alloc _).trans hk
      obtain ⟨W, hW⟩ : ∃ W, W = w1.alloc (.cells #[.string (strOfNums Z), .int .i64 (gn : Int), .int .i64 ge] 62) := ⟨_, rfl⟩
      have hRW : Whole W w.heap.size 24 #[.bool false, .int .u64 0, .string ⟨#[]⟩, .string ⟨#[]⟩] := by rw [hW]; exact hR1.alloc _
      have hXW : Whole W (w.heap.size + 1) 24 #[.bool true, .int .u64 0, .string ⟨#[]⟩, .string ⟨#[]⟩] := by rw [hW]; exact hX1.alloc _
      have hDW : Whole W w1.heap.size 62 #[.string (strOfNums Z), .int .i64 (gn : Int), .int .i64 ge] := by rw [hW]; exact Whole.new _ _ _
      have hKW : Keeps NoBlock w W := by rw [hW]; exact hK1.alloc _
      have hlt1 := hX1.lt
      obtain ⟨D, hD⟩ : ∃ D, D = w1.heap.size := ⟨_, rfl⟩
      rw [← hD] at hDW hlt1
      have HR := Lib.hid hRW
      have HX := Lib.hid hXW
      have HD := Lib.hid hDW
      have HKp := Lib.hid hKW
      have d0 := hDW.cell 0 rfl
      have d1 := hDW.cell 1 rfl
      have d2 := hDW.cell 2 rfl
      have e0 := hDW.free 0
      have e1 := hDW.free 1
      have e2 := hDW.free 2
      simp only [List.getElem_toArray, List.getElem_cons_zero, List.getElem_cons_succ] at d0 d1 d2
      clear hk hR1 hX1 hK1 hRW hXW hDW hKW
      go_upto_region 7 with (fail)
      rw [← hW, ← hD]
      clear hW hD
      go_wp2_with fail
      refine (HK.out _).mono ?_
      rintro e w2 ⟨rfl, hk⟩
      have HR := Lib.hid ((HR.out.keep hk (fun h => h)).other3 (h := D) (by omega) (.string (strOfNums VX)) (.int .i64 VA) (.int .i64 VE))
      have HX := Lib.hid ((HX.out.keep hk (fun h => h)).other3 (h := D) (by omega) (.string (strOfNums VX)) (.int .i64 VA) (.int .i64 VE))
      have HKp := Lib.hid ((HKp.out.trans hk).set3 (g := D) (by omega) (.string (strOfNums VX)) (.int .i64 VA) (.int .i64 VE))
      have hD2 := HD.out.keep hk (fun h => h)
      have HD := Lib.hid (hD2.set3 (.string (strOfNums VX)) (.int .i64 VA) (.int .i64 VE))
      clear d0 d1 d2 e0 e1 e2
      have d0 := hD2.cell 0 rfl
      have d1 := hD2.cell 1 rfl
      have d2 := hD2.cell 2 rfl
      have e0 := hD2.free 0
      have e1 := hD2.free 1
      have e2 := hD2.free 2
      simp only [List.getElem_toArray, List.getElem_cons_zero, List.getElem_cons_succ] at d0 d1 d2
      clear hk hD2
      go_upto_region 8 with (fail)
      obtain ⟨Y2, hY2⟩ : ∃ Y, Y = ((w2.setCell ⟨D, 0, none⟩ (.string (strOfNums VX))).setCell ⟨D, 1, none⟩ (.int .i64 VA)).setCell ⟨D, 2, none⟩ (.int .i64 VE) := ⟨_, rfl⟩
      rw [← hY2] at HR HX HKp HD ⊢
      clear hY2 d0 d1 d2 e0 e1 e2
      have d0 := HD.out.cell 0 rfl
      have d1 := HD.out.cell 1 rfl
      have d2 := HD.out.cell 2 rfl
      have e0 := HD.out.free 0
      have e1 := HD.out.free 1
      have e2 := HD.out.free 2
      have x0 := HX.out.cell 0 rfl
      simp only [List.getElem_toArray, List.getElem_cons_zero, List.getElem_cons_succ] at d0 d1 d2 x0
      go_wp2_with fail
      refine (HE.out _).mono ?_
      rintro e w3 ⟨rfl, hk⟩
      have HR := Lib.hid ((HR.out.keep hk (fun h => h)).other3 (h := D) (by omega) (.string (strOfNums VX)) (.int .i64 VA) (.int .i64 0))
      have HX := Lib.hid ((HX.out.keep hk (fun h => h)).other3 (h := D) (by omega) (.string (strOfNums VX)) (.int .i64 VA) (.int .i64 0))
      have HKp := Lib.hid ((HKp.out.trans hk).set3 (g := D) (by omega) (.string (strOfNums VX)) (.int .i64 VA) (.int .i64 0))
      have hD2 := HD.out.keep hk (fun h => h)
      have HD := Lib.hid (hD2.set3 (.string (strOfNums VX)) (.int .i64 VA) (.int .i64 0))
      clear d0 d1 d2 e0 e1 e2
      have d0 := hD2.cell 0 rfl
      have d1 := hD2.cell 1 rfl
      have d2 := hD2.cell 2 rfl
      have e0 := hD2.free 0
      have e1 := hD2.free 1
      have e2 := hD2.free 2
      simp only [List.getElem_toArray, List.getElem_cons_zero, List.getElem_cons_succ] at d0 d1 d2
      clear hk hD2
      go_upto_region 12 with (fail)
      obtain ⟨Y3, hY3⟩ : ∃ Y, Y = ((w3.setCell ⟨D, 0, none⟩ (.string (strOfNums VX))).setCell ⟨D, 1, none⟩ (.int .i64 VA)).setCell ⟨D, 2, none⟩ (.int .i64 0) := ⟨_, rfl⟩
      rw [← hY3] at HR HX HKp HD ⊢
      clear hY3 d0 d1 d2 e0 e1 e2
      have d0 := HD.out.cell 0 rfl
      have d1 := HD.out.cell 1 rfl
      have d2 := HD.out.cell 2 rfl
      have e0 := HD.out.free 0
      have e1 := HD.out.free 1
      have e2 := HD.out.free 2
      have x0 := HX.out.cell 0 rfl
      simp only [List.getElem_toArray, List.getElem_cons_zero, List.getElem_cons_succ] at d0 d1 d2 x0
      have q0 := HR.out.free 0
      have q1 := HR.out.free 1
      have q2 := HR.out.free 2
      have q3 := HR.out.free 3
      have o0 := HR.out.cell 0 rfl
      have o1 := HR.out.cell 1 rfl
      have o2 := HR.out.cell 2 rfl
      have o3 := HR.out.cell 3 rfl
      clear x0
      have x0 := HX.out.cell 0 rfl
      have x1 := HX.out.cell 1 rfl
      have x2 := HX.out.cell 2 rfl
      have x3 := HX.out.cell 3 rfl
      have y0 := HX.out.free 0
      have y1 := HX.out.free 1
      have y2 := HX.out.free 2
      have y3 := HX.out.free 3
      simp only [List.getElem_toArray, List.getElem_cons_zero, List.getElem_cons_succ] at o0 o1 o2 o3 x0 x1 x2 x3
      go_wp2_with fail
      exact bodyPost_ret (v := .tuple #[recV ⟨true, s, KT, []⟩, .int .i64 0]) (by simp [results, Try.results14, go_sem, recV, o0, o1, o2, o3]; rfl) rfl ⟨rfl, Keeps.set4 (((HKp.out.setNew (by omega) 1 _).setNew (by omega) 2 _).setNew (by omega) 3 _) (Nat.le_refl _) _ _ _ _⟩
    · rw [if_neg hz]
      simp only
      have hzb : (z != 0) = true := by simpa using hz
      have hzc : decide (z = 0) = false := decide_eq_false hz
      go_enter Try.func14, Try.ntmps14
      go_wp2_with fail
      refine (HG.out _).mono ?_
      rintro e w1 ⟨rfl, hk⟩
      have hR1 : Whole w1 w.heap.size 24 #[.bool false, .int .u64 0, .string ⟨#[]⟩, .string ⟨#[]⟩] := ((Whole.new w _ _).alloc _).keep hk (fun h => h)
      have hX1 : Whole w1 (w.heap.size + 1) 24 #[.bool true, .int .u64 0, .string ⟨#[]⟩, .string ⟨#[]⟩] := (Whole.newAt _ _ _ _ (by simp)).keep hk (fun h => h)
      have hK1 : Keeps NoBlock w w1 := (((Keeps.refl NoBlock w).alloc _).alloc _).trans hk
      obtain ⟨W, hW⟩ : ∃ W, W = w1.alloc (.cells #[.string (strOfNums Z), .int .i64 (gn : Int), .int .i64 ge] 62) := ⟨_, rfl⟩
      have hRW : Whole W w.heap.size 24 #[.bool false, .int .u64 0, .string ⟨#[]⟩, .string ⟨#[]⟩] := by rw [hW]; exact hR1.alloc _
      have hXW : Whole W (w.heap.size + 1) 24 #[.bool true, .int .u64 0, .string ⟨#[]⟩, .string ⟨#[]⟩] := by rw [hW]; exact hX1.alloc _
      have hDW : Whole W w1.heap.size 62 #[.string (strOfNums Z), .int .i64 (gn : Int), .int .i64 ge] := by rw [hW]; exact Whole.new _ _ _
      have hKW : Keeps NoBlock w W := by rw [hW]; exact hK1.alloc _
      have hlt1 := hX1.lt
      obtain ⟨D, hD⟩ : ∃ D, D = w1.heap.size := ⟨_, rfl⟩
      rw [← hD] at hDW hlt1
      have HR := Lib.hid hRW
      have HX := Lib.hid hXW
      have HD := Lib.hid hDW
      have HKp := Lib.hid hKW
      have d0 := hDW.cell 0 rfl
      have d1 := hDW.cell 1 rfl
      have d2 := hDW.cell 2 rfl
      have e0 := hDW.free 0
      have e1 := hDW.free 1
      have e2 := hDW.free 2
      simp only [List.getElem_toArray, List.getElem_cons_zero, List.getElem_cons_succ] at d0 d1 d2
      clear hk hR1 hX1 hK1 hRW hXW hDW hKW
      go_upto_region 7 with (fail)
      rw [← hW, ← hD]
      clear hW hD
      go_wp2_with fail
      refine (HK.out _).mono ?_
      rintro e w2 ⟨rfl, hk⟩
      have HR := Lib.hid ((HR.out.keep hk (fun h => h)).other3 (h := D) (by omega) (.string (strOfNums VX)) (.int .i64 VA) (.int .i64 VE))
      have HX := Lib.hid ((HX.out.keep hk (fun h => h)).other3 (h := D) (by omega) (.string (strOfNums VX)) (.int .i64 VA) (.int .i64 VE))
      have HKp := Lib.hid ((HKp.out.trans hk).set3 (g := D) (by omega) (.string (strOfNums VX)) (.int .i64 VA) (.int .i64 VE))
      have hD2 := HD.out.keep hk (fun h => h)
      have HD := Lib.hid (hD2.set3 (.string (strOfNums VX)) (.int .i64 VA) (.int .i64 VE))
      clear d0 d1 d2 e0 e1 e2
      have d0 := hD2.cell 0 rfl
      have d1 := hD2.cell 1 rfl
      have d2 := hD2.cell 2 rfl
      have e0 := hD2.free 0
      have e1 := hD2.free 1
      have e2 := hD2.free 2
      simp only [List.getElem_toArray, List.getElem_cons_zero, List.getElem_cons_succ] at d0 d1 d2
      clear hk hD2
      go_upto_region 8 with (fail)
      obtain ⟨Y2, hY2⟩ : ∃ Y, Y = ((w2.setCell ⟨D, 0, none⟩ (.string (strOfNums VX))).setCell ⟨D, 1, none⟩ (.int .i64 VA)).setCell ⟨D, 2, none⟩ (.int .i64 VE) := ⟨_, rfl⟩
      rw [← hY2] at HR HX HKp HD ⊢
      clear hY2 d0 d1 d2 e0 e1 e2
      have d0 := HD.out.cell 0 rfl
      have d1 := HD.out.cell 1 rfl
      have d2 := HD.out.cell 2 rfl
      have e0 := HD.out.free 0
      have e1 := HD.out.free 1
      have e2 := HD.out.free 2
      have x0 := HX.out.cell 0 rfl
      simp only [List.getElem_toArray, List.getElem_cons_zero, List.getElem_cons_succ] at d0 d1 d2 x0
      go_wp2_with fail
      refine (HE.out _).mono ?_
      rintro e w3 ⟨rfl, hk⟩
      have HR := Lib.hid ((HR.out.keep hk (fun h => h)).other3 (h := D) (by omega) (.string (strOfNums VX)) (.int .i64 VA) (.int .i64 z))
      have HX := Lib.hid ((HX.out.keep hk (fun h => h)).other3 (h := D) (by omega) (.string (strOfNums VX)) (.int .i64 VA) (.int .i64 z))
      have HKp := Lib.hid ((HKp.out.trans hk).set3 (g := D) (by omega) (.string (strOfNums VX)) (.int .i64 VA) (.int .i64 z))
      have hD2 := HD.out.keep hk (fun h => h)
      have HD := Lib.hid (hD2.set3 (.string (strOfNums VX)) (.int .i64 VA) (.int .i64 z))
      clear d0 d1 d2 e0 e1 e2
      have d0 := hD2.cell 0 rfl
      have d1 := hD2.cell 1 rfl
      have d2 := hD2.cell 2 rfl
      have e0 := hD2.free 0
      have e1 := hD2.free 1
      have e2 := hD2.free 2
      simp only [List.getElem_toArray, List.getElem_cons_zero, List.getElem_cons_succ] at d0 d1 d2
      clear hk hD2
      go_upto_region 12 with (fail)
      obtain ⟨Y3, hY3⟩ : ∃ Y, Y = ((w3.setCell ⟨D, 0, none⟩ (.string (strOfNums VX))).setCell ⟨D, 1, none⟩ (.int .i64 VA)).setCell ⟨D, 2, none⟩ (.int .i64 z) := ⟨_, rfl⟩
      rw [← hY3] at HR HX HKp HD ⊢
      clear hY3 d0 d1 d2 e0 e1 e2
      have d0 := HD.out.cell 0 rfl
      have d1 := HD.out.cell 1 rfl
      have d2 := HD.out.cell 2 rfl
      have e0 := HD.out.free 0
      have e1 := HD.out.free 1
      have e2 := HD.out.free 2
      have x0 := HX.out.cell 0 rfl
      simp only [List.getElem_toArray, List.getElem_cons_zero, List.getElem_cons_succ] at d0 d1 d2 x0
      have q0 := HR.out.free 0
      have q1 := HR.out.free 1
      have q2 := HR.out.free 2
      have q3 := HR.out.free 3
      have o0 := HR.out.cell 0 rfl
      have o1 := HR.out.cell 1 rfl
      have o2 := HR.out.cell 2 rfl
      have o3 := HR.out.cell 3 rfl
      clear x0
      have x0 := HX.out.cell 0 rfl
      have x1 := HX.out.cell 1 rfl
      have x2 := HX.out.cell 2 rfl
      have x3 := HX.out.cell 3 rfl
      have y0 := HX.out.free 0
      have y1 := HX.out.free 1
      have y2 := HX.out.free 2
      have y3 := HX.out.free 3
      simp only [List.getElem_toArray, List.getElem_cons_zero, List.getElem_cons_succ] at o0 o1 o2 o3 x0 x1 x2 x3
      go_wp2_with fail
      have s0 : Y3.drew.cell? ⟨D, 2, none⟩ = some (.int .i64 z) := d2
      go_region
      go_wp2_with fail
      exact bodyPost_ret (v := .tuple #[recV Rec.none, .int .i64 z]) (by simp [results, Try.results14, go_sem, recV, Rec.none, o0, o1, o2, o3]; rfl) rfl ⟨rfl, (HKp.out.set4 (Nat.le_refl _) _ _ _ _).drew⟩
  | false =>
    obtain rfl : k = 2 := hk
    clear hv2
    rw [hv1 rfl] at HV
    clear hv1
    by_cases hz : z = 0
    · subst hz
      rw [if_pos rfl]
      simp only
      go_enter Try.func14, Try.ntmps14
      go_wp2_with fail
      refine (HG.out _).mono ?_
      rintro e w1 ⟨rfl, hk⟩
      have hR1 : Whole w1 w.heap.size 24 #[.bool false, .int .u64 0, .string ⟨#[]⟩, .string ⟨#[]⟩] := ((Whole.new w _ _).alloc _).keep hk (fun h => h)
      have hX1 : Whole w1 (w.heap.size + 1) 24 #[.bool false, .int .u64 0, .string ⟨#[]⟩, .string ⟨#[]⟩] := (Whole.newAt _ _ _ _ (by simp)).keep hk (fun h => h)
      have hK1 : Keeps NoBlock w w1 := (((Keeps.refl NoBlock w).alloc _).alloc _).trans hk
      obtain ⟨W, hW⟩ : ∃ W, W = w1.alloc (.cells #[.string (strOfNums Z), .int .i64 (gn : Int), .int .i64 ge] 62) := ⟨_, rfl⟩
      have hRW : Whole W w.heap.size 24 #[.bool false, .int .u64 0, .string ⟨#[]⟩, .string ⟨#[]⟩] := by rw [hW]; exact hR1.alloc _
      have hXW : Whole W (w.heap.size + 1) 24 #[.bool false, .int .u64 0, .string ⟨#[]⟩, .string ⟨#[]⟩] := by rw [hW]; exact hX1.alloc _
      have hDW : Whole W w1.heap.size 62 #[.string (strOfNums Z), .int .i64 (gn : Int), .int .i64 ge] := by rw [hW]; exact Whole.new _ _ _
      have hKW : Keeps NoBlock w W := by rw [hW]; exact hK1.alloc _
      have hlt1 := hX1.lt
      obtain ⟨D, hD⟩ : ∃ D, D = w1.heap.size := ⟨_, rfl⟩
      rw [← hD] at hDW hlt1
      have HR := Lib.hid hRW
      have HX := Lib.hid hXW
      have HD := Lib.hid hDW
      have HKp := Lib.hid hKW
      have d0 := hDW.cell 0 rfl
      have d1 := hDW.cell 1 rfl
      have d2 := hDW.cell 2 rfl
      have e0 := hDW.free 0
      have e1 := hDW.free 1
      have e2 := hDW.free 2
      simp only [List.getElem_toArray, List.getElem_cons_zero, List.getElem_cons_succ] at d0 d1 d2
      clear hk hR1 hX1 hK1 hRW hXW hDW hKW
      go_upto_region 7 with (fail)
      rw [← hW, ← hD]
      clear hW hD
      go_wp2_with fail
      refine (HK.out _).mono ?_
      rintro e w2 ⟨rfl, hk⟩
      have HR := Lib.hid ((HR.out.keep hk (fun h => h)).other3 (h := D) (by omega) (.string (strOfNums KX)) (.int .i64 KA) (.int .i64 KE))
      have HX := Lib.hid ((HX.out.keep hk (fun h => h)).other3 (h := D) (by omega) (.string (strOfNums KX)) (.int .i64 KA) (.int .i64 KE))
      have HKp := Lib.hid ((HKp.out.trans hk).set3 (g := D) (by omega) (.string (strOfNums KX)) (.int .i64 KA) (.int .i64 KE))
      have hD2 := HD.out.keep hk (fun h => h)
      have HD := Lib.hid (hD2.set3 (.string (strOfNums KX)) (.int .i64 KA) (.int .i64 KE))
      clear d0 d1 d2 e0 e1 e2
      have d0 := hD2.cell 0 rfl
      have d1 := hD2.cell 1 rfl
      have d2 := hD2.cell 2 rfl
      have e0 := hD2.free 0
      have e1 := hD2.free 1
      have e2 := hD2.free 2
      simp only [List.getElem_toArray, List.getElem_cons_zero, List.getElem_cons_succ] at d0 d1 d2
      clear hk hD2
      go_upto_region 8 with (fail)
      obtain ⟨Y2, hY2⟩ : ∃ Y, Y = ((w2.setCell ⟨D, 0, none⟩ (.string (strOfNums KX))).setCell ⟨D, 1, none⟩ (.int .i64 KA)).setCell ⟨D, 2, none⟩ (.int .i64 KE) := ⟨_, rfl⟩
      rw [← hY2] at HR HX HKp HD ⊢
      clear hY2 d0 d1 d2 e0 e1 e2
      have d0 := HD.out.cell 0 rfl
      have d1 := HD.out.cell 1 rfl
      have d2 := HD.out.cell 2 rfl
      have e0 := HD.out.free 0
      have e1 := HD.out.free 1
      have e2 := HD.out.free 2
      have x0 := HX.out.cell 0 rfl
      simp only [List.getElem_toArray, List.getElem_cons_zero, List.getElem_cons_succ] at d0 d1 d2 x0
      go_wp2_with fail
      clear x0
      refine (HV.out _).mono ?_
      rintro e w4 ⟨rfl, hk⟩
      have HR := Lib.hid ((HR.out.keep hk (fun h => h)).other3 (h := D) (by omega) (.string (strOfNums VX)) (.int .i64 VA) (.int .i64 VE))
      have HX := Lib.hid ((HX.out.keep hk (fun h => h)).other3 (h := D) (by omega) (.string (strOfNums VX)) (.int .i64 VA) (.int .i64 VE))
      have HKp := Lib.hid ((HKp.out.trans hk).set3 (g := D) (by omega) (.string (strOfNums VX)) (.int .i64 VA) (.int .i64 VE))
      have hD2 := HD.out.keep hk (fun h => h)
      have HD := Lib.hid (hD2.set3 (.string (strOfNums VX)) (.int .i64 VA) (.int .i64 VE))
      clear d0 d1 d2 e0 e1 e2
      have d0 := hD2.cell 0 rfl
      have d1 := hD2.cell 1 rfl
      have d2 := hD2.cell 2 rfl
      have e0 := hD2.free 0
      have e1 := hD2.free 1
      have e2 := hD2.free 2
      simp only [List.getElem_toArray, List.getElem_cons_zero, List.getElem_cons_succ] at d0 d1 d2
      clear hk hD2
      go_upto_region 11 with (fail)
      obtain ⟨Y4, hY4⟩ : ∃ Y, Y = ((w4.setCell ⟨D, 0, none⟩ (.string (strOfNums VX))).setCell ⟨D, 1, none⟩ (.int .i64 VA)).setCell ⟨D, 2, none⟩ (.int .i64 VE) := ⟨_, rfl⟩
      rw [← hY4] at HR HX HKp HD ⊢
      clear hY4 d0 d1 d2 e0 e1 e2
      have d0 := HD.out.cell 0 rfl
      have d1 := HD.out.cell 1 rfl
      have d2 := HD.out.cell 2 rfl
      have e0 := HD.out.free 0
      have e1 := HD.out.free 1
      have e2 := HD.out.free 2
      have x0 := HX.out.cell 0 rfl
      simp only [List.getElem_toArray, List.getElem_cons_zero, List.getElem_cons_succ] at d0 d1 d2 x0
      go_wp2_with fail
      refine (HE.out _).mono ?_
      rintro e w3 ⟨rfl, hk⟩
      have HR := Lib.hid ((HR.out.keep hk (fun h => h)).other3 (h := D) (by omega) (.string (strOfNums VX)) (.int .i64 VA) (.int .i64 0))
      have HX := Lib.hid ((HX.out.keep hk (fun h => h)).other3 (h := D) (by omega) (.string (strOfNums VX)) (.int .i64 VA) (.int .i64 0))
      have HKp := Lib.hid ((HKp.out.trans hk).set3 (g := D) (by omega) (.string (strOfNums VX)) (.int .i64 VA) (.int .i64 0))
      have hD2 := HD.out.keep hk (fun h => h)
      have HD := Lib.hid (hD2.set3 (.string (strOfNums VX)) (.int .i64 VA) (.int .i64 0))
      clear d0 d1 d2 e0 e1 e2
      have d0 := hD2.cell 0 rfl
      have d1 := hD2.cell 1 rfl
      have d2 := hD2.cell 2 rfl
      have e0 := hD2.free 0
      have e1 := hD2.free 1
      have e2 := hD2.free 2
      simp only [List.getElem_toArray, List.getElem_cons_zero, List.getElem_cons_succ] at d0 d1 d2
      clear hk hD2
      go_upto_region 12 with (fail)
      obtain ⟨Y3, hY3⟩ : ∃ Y, Y = ((w3.setCell ⟨D, 0, none⟩ (.string (strOfNums VX))).setCell ⟨D, 1, none⟩ (.int .i64 VA)).setCell ⟨D, 2, none⟩ (.int .i64 0) := ⟨_, rfl⟩
      rw [← hY3] at HR HX HKp HD ⊢
      clear hY3 d0 d1 d2 e0 e1 e2
      have d0 := HD.out.cell 0 rfl
      have d1 := HD.out.cell 1 rfl
      have d2 := HD.out.cell 2 rfl
      have e0 := HD.out.free 0
      have e1 := HD.out.free 1
      have e2 := HD.out.free 2
      have x0 := HX.out.cell 0 rfl
      simp only [List.getElem_toArray, List.getElem_cons_zero, List.getElem_cons_succ] at d0 d1 d2 x0
      have q0 := HR.out.free 0
      have q1 := HR.out.free 1
      have q2 := HR.out.free 2
      have q3 := HR.out.free 3
      have o0 := HR.out.cell 0 rfl
      have o1 := HR.out.cell 1 rfl
      have o2 := HR.out.cell 2 rfl
      have o3 := HR.out.cell 3 rfl
      clear x0
      have x0 := HX.out.cell 0 rfl
      have x1 := HX.out.cell 1 rfl
      have x2 := HX.out.cell 2 rfl
      have x3 := HX.out.cell 3 rfl
      have y0 := HX.out.free 0
      have y1 := HX.out.free 1
      have y2 := HX.out.free 2
      have y3 := HX.out.free 3
      simp only [List.getElem_toArray, List.getElem_cons_zero, List.getElem_cons_succ] at o0 o1 o2 o3 x0 x1 x2 x3
      go_wp2_with fail
      exact bodyPost_ret (v := .tuple #[recV ⟨false, s, KT, VT⟩, .int .i64 0]) (by simp [results, Try.results14, go_sem, recV, o0, o1, o2, o3]) rfl ⟨rfl, Keeps.set4 (((HKp.out.setNew (by omega) 1 _).setNew (by omega) 2 _).setNew (by omega) 3 _) (Nat.le_refl _) _ _ _ _⟩
    · rw [if_neg hz]
      simp only
      have hzb : (z != 0) = true := by simpa using hz
      have hzc : decide (z = 0) = false := decide_eq_false hz
      go_enter Try.func14, Try.ntmps14
      go_wp2_with fail
      refine (HG.out _).mono ?_
      rintro e w1 ⟨rfl, hk⟩
      have hR1 : Whole w1 w.heap.size 24 #[.bool false, .int .u64 0, .string ⟨#[]⟩, .string ⟨#[]⟩] := ((Whole.new w _ _).alloc _).keep hk (fun h => h)
      have hX1 : Whole w1 (w.heap.size + 1) 24 #[.bool false, .int .u64 0, .string ⟨#[]⟩, .string ⟨#[]⟩] := (Whole.newAt _ _ _ _ (by simp)).keep hk (fun h => h)
      have hK1 : Keeps NoBlock w w1 := (((Keeps.refl NoBlock w).alloc _).alloc _).trans hk
      obtain ⟨W, hW⟩ : ∃ W, W = w1.alloc (.cells #[.string (strOfNums Z), .int .i64 (gn : Int), .int .i64 ge] 62) := ⟨_, rfl⟩
      have hRW : Whole W w.heap.size 24 #[.bool false, .int .u64 0, .string ⟨#[]⟩, .string ⟨#[]⟩] := by rw [hW]; exact hR1.alloc _
      have hXW : Whole W (w.heap.size + 1) 24 #[.bool false, .int .u64 0, .string ⟨#[]⟩, .string ⟨#[]⟩] := by rw [hW]; exact hX1.alloc _
      have hDW : Whole W w1.heap.size 62 #[.string (strOfNums Z), .int .i64 (gn : Int), .int .i64 ge] := by rw [hW]; exact Whole.new _ _ _
      have hKW : Keeps NoBlock w W := by rw [hW]; exact hK1.alloc _
      have hlt1 := hX1.lt
      obtain ⟨D, hD⟩ : ∃ D, D = w1.heap.size := ⟨_, rfl⟩
      rw [← hD] at hDW hlt1
      have HR := Lib.hid hRW
      have HX := Lib.hid hXW
      have HD := Lib.hid hDW
      have HKp := Lib.hid hKW
      have d0 := hDW.cell 0 rfl
      have d1 := hDW.cell 1 rfl
      have d2 := hDW.cell 2 rfl
      have e0 := hDW.free 0
      have e1 := hDW.free 1
      have e2 := hDW.free 2
      simp only [List.getElem_toArray, List.getElem_cons_zero, List.getElem_cons_succ] at d0 d1 d2
      clear hk hR1 hX1 hK1 hRW hXW hDW hKW
      go_upto_region 7 with (fail)
      rw [← hW, ← hD]
      clear hW hD
      go_wp2_with fail
      refine (HK.out _).mono ?_
      rintro e w2 ⟨rfl, hk⟩
      have HR := Lib.hid ((HR.out.keep hk (fun h => h)).other3 (h := D) (by omega) (.string (strOfNums KX)) (.int .i64 KA) (.int .i64 KE))
      have HX := Lib.hid ((HX.out.keep hk (fun h => h)).other3 (h := D) (by omega) (.string (strOfNums KX)) (.int .i64 KA) (.int .i64 KE))
      have HKp := Lib.hid ((HKp.out.trans hk).set3 (g := D) (by omega) (.string (strOfNums KX)) (.int .i64 KA) (.int .i64 KE))
      have hD2 := HD.out.keep hk (fun h => h)
      have HD := Lib.hid (hD2.set3 (.string (strOfNums KX)) (.int .i64 KA) (.int .i64 KE))
      clear d0 d1 d2 e0 e1 e2
      have d0 := hD2.cell 0 rfl
      have d1 := hD2.cell 1 rfl
      have d2 := hD2.cell 2 rfl
      have e0 := hD2.free 0
      have e1 := hD2.free 1
      have e2 := hD2.free 2
      simp only [List.getElem_toArray, List.getElem_cons_zero, List.getElem_cons_succ] at d0 d1 d2
      clear hk hD2
      go_upto_region 8 with (fail)
      obtain ⟨Y2, hY2⟩ : ∃ Y, Y = ((w2.setCell ⟨D, 0, none⟩ (.string (strOfNums KX))).setCell ⟨D, 1, none⟩ (.int .i64 KA)).setCell ⟨D, 2, none⟩ (.int .i64 KE) := ⟨_, rfl⟩
      rw [← hY2] at HR HX HKp HD ⊢
      clear hY2 d0 d1 d2 e0 e1 e2
      have d0 := HD.out.cell 0 rfl
      have d1 := HD.out.cell 1 rfl
      have d2 := HD.out.cell 2 rfl
      have e0 := HD.out.free 0
      have e1 := HD.out.free 1
      have e2 := HD.out.free 2
      have x0 := HX.out.cell 0 rfl
      simp only [List.getElem_toArray, List.getElem_cons_zero, List.getElem_cons_succ] at d0 d1 d2 x0
      go_wp2_with fail
      clear x0
      refine (HV.out _).mono ?_
      rintro e w4 ⟨rfl, hk⟩
      have HR := Lib.hid ((HR.out.keep hk (fun h => h)).other3 (h := D) (by omega) (.string (strOfNums VX)) (.int .i64 VA) (.int .i64 VE))
      have HX := Lib.hid ((HX.out.keep hk (fun h => h)).other3 (h := D) (by omega) (.string (strOfNums VX)) (.int .i64 VA) (.int .i64 VE))
      have HKp := Lib.hid ((HKp.out.trans hk).set3 (g := D) (by omega) (.string (strOfNums VX)) (.int .i64 VA) (.int .i64 VE))
      have hD2 := HD.out.keep hk (fun h => h)
      have HD := Lib.hid (hD2.set3 (.string (strOfNums VX)) (.int .i64 VA) (.int .i64 VE))
      clear d0 d1 d2 e0 e1 e2
      have d0 := hD2.cell 0 rfl
      have d1 := hD2.cell 1 rfl
      have d2 := hD2.cell 2 rfl
      have e0 := hD2.free 0
      have e1 := hD2.free 1
      have e2 := hD2.free 2
      simp only [List.getElem_toArray, List.getElem_cons_zero, List.getElem_cons_succ] at d0 d1 d2
      clear hk hD2
      go_upto_region 11 with (fail)
      obtain ⟨Y4, hY4⟩ : ∃ Y, Y = ((w4.setCell ⟨D, 0, none⟩ (.string (strOfNums VX))).setCell ⟨D, 1, none⟩ (.int .i64 VA)).setCell ⟨D, 2, none⟩ (.int .i64 VE) := ⟨_, rfl⟩
      rw [← hY4] at HR HX HKp HD ⊢
      clear hY4 d0 d1 d2 e0 e1 e2
      have d0 := HD.out.cell 0 rfl
      have d1 := HD.out.cell 1 rfl
      have d2 := HD.out.cell 2 rfl
      have e0 := HD.out.free 0
      have e1 := HD.out.free 1
      have e2 := HD.out.free 2
      have x0 := HX.out.cell 0 rfl
      simp only [List.getElem_toArray, List.getElem_cons_zero, List.getElem_cons_succ] at d0 d1 d2 x0
      go_wp2_with fail
      refine (HE.out _).mono ?_
      rintro e w3 ⟨rfl, hk⟩
      have HR := Lib.hid ((HR.out.keep hk (fun h => h)).other3 (h := D) (by omega) (.string (strOfNums VX)) (.int .i64 VA) (.int .i64 z))
      have HX := Lib.hid ((HX.out.keep hk (fun h => h)).other3 (h := D) (by omega) (.string (strOfNums VX)) (.int .i64 VA) (.int .i64 z))
      have HKp := Lib.hid ((HKp.out.trans hk).set3 (g := D) (by omega) (.string (strOfNums VX)) (.int .i64 VA) (.int .i64 z))
      have hD2 := HD.out.keep hk (fun h => h)
      have HD := Lib.hid (hD2.set3 (.string (strOfNums VX)) (.int .i64 VA) (.int .i64 z))
      clear d0 d1 d2 e0 e1 e2
      have d0 := hD2.cell 0 rfl
      have d1 := hD2.cell 1 rfl
      have d2 := hD2.cell 2 rfl
      have e0 := hD2.free 0
      have e1 := hD2.free 1
      have e2 := hD2.free 2
      simp only [List.getElem_toArray, List.getElem_cons_zero, List.getElem_cons_succ] at d0 d1 d2
      clear hk hD2
      go_upto_region 12 with (fail)
      obtain ⟨Y3, hY3⟩ : ∃ Y, Y = ((w3.setCell ⟨D, 0, none⟩ (.string (strOfNums VX))).setCell ⟨D, 1, none⟩ (.int .i64 VA)).setCell ⟨D, 2, none⟩ (.int .i64 z) := ⟨_, rfl⟩
      rw [← hY3] at HR HX HKp HD ⊢
      clear hY3 d0 d1 d2 e0 e1 e2
      have d0 := HD.out.cell 0 rfl
      have d1 := HD.out.cell 1 rfl
      have d2 := HD.out.cell 2 rfl
      have e0 := HD.out.free 0
      have e1 := HD.out.free 1
      have e2 := HD.out.free 2
      have x0 := HX.out.cell 0 rfl
      simp only [List.getElem_toArray, List.getElem_cons_zero, List.getElem_cons_succ] at d0 d1 d2 x0
      have q0 := HR.out.free 0
      have q1 := HR.out.free 1
      have q2 := HR.out.free 2
      have q3 := HR.out.free 3
      have o0 := HR.out.cell 0 rfl
      have o1 := HR.out.cell 1 rfl
      have o2 := HR.out.cell 2 rfl
      have o3 := HR.out.cell 3 rfl
      clear x0
      have x0 := HX.out.cell 0 rfl
      have x1 := HX.out.cell 1 rfl
      have x2 := HX.out.cell 2 rfl
      have x3 := HX.out.cell 3 rfl
      have y0 := HX.out.free 0
      have y1 := HX.out.free 1
      have y2 := HX.out.free 2
      have y3 := HX.out.free 3
      simp only [List.getElem_toArray, List.getElem_cons_zero, List.getElem_cons_succ] at o0 o1 o2 o3 x0 x1 x2 x3
      go_wp2_with fail
      have s0 : Y3.drew.cell? ⟨D, 2, none⟩ = some (.int .i64 z) := d2
      go_region
      go_wp2_with fail
      exact bodyPost_ret (v := .tuple #[recV Rec.none, .int .i64 z]) (by simp [results, Try.results14, go_sem, recV, Rec.none, o0, o1, o2, o3]; rfl) rfl ⟨rfl, (HKp.out.set4 (Nat.le_refl _) _ _ _ _).drew⟩

set_option maxHeartbeats 2000000 in
set_option maxRecDepth 10000 in
theorem read7_ref (xs : List Int) (ho : Octets xs) (hl : xs.length ≤ 10000000) (w : World) :
    Calls Try.prog 14 #[.string (strOfNums xs)] w fun e w' => e = .returned (readOut7 (readR xs)) ∧ Keeps NoBlock w w' := by
  cases xs with
  | nil =>
    have hem : (strOfNums []).toList.isEmpty = true := str_isnone []
    have hr : readR [] = (2, Rec.none) := rfl
    rw [hr]
    go_enter Try.func14, Try.ntmps14
    go_wp2_with fail
    exact bodyPost_ret (v := .tuple #[recV Rec.none, .int .i64 2]) (by simp [results, Try.results14, go_sem, recV, Rec.none]; rfl) rfl ⟨rfl, (Keeps.refl _ _).alloc _⟩
  | cons k xs =>
    have hox : Octets xs := fun b hb => ho b (List.mem_cons_of_mem _ hb)
    have hlx : xs.length ≤ 10000000 := by rw [List.length_cons] at hl; omega
    rw [show readR (k :: xs) = readKind k xs from rfl]
    by_cases h3 : k = 3
    · rw [h3, show (3 : Int) = if true = true then 3 else 2 from rfl, ← steps7_read]
      exact read7_kind true 3 rfl xs hox hlx w
    · by_cases h2 : k = 2
      · rw [h2, show (2 : Int) = if false = true then 3 else 2 from rfl, ← steps7_read]
        exact read7_kind false 2 rfl xs hox hlx w
      · have hr : readKind k xs = (4, Rec.none) := by unfold readKind; rw [if_pos ⟨h2, h3⟩]
        rw [hr]
        have hsz : (strOfNums (k :: xs)).size = xs.length + 1 := str_size (k :: xs)
        have hpos : 0 < (strOfNums (k :: xs)).size := by rw [hsz]; omega
        have hsg := str_get (k :: xs) ho 0 hpos
        rw [show (k :: xs).getD 0 0 = k from rfl] at hsg
        have hem : (strOfNums (k :: xs)).toList.isEmpty = false := str_isnone _
        have b2 : (k != 2) = true := by simpa using h2
        have b3 : (k != 3) = true := by simpa using h3
        clear hr ho hl hox hlx
        go_enter Try.func14, Try.ntmps14
        go_wp2_with fail
        exact bodyPost_ret (v := .tuple #[recV Rec.none, .int .i64 4]) (by simp [results, Try.results14, go_sem, recV, Rec.none]; rfl) rfl ⟨rfl, (Keeps.refl _ _).alloc _⟩
end Go.Proofs.Ytnfgmgonpecdmaa

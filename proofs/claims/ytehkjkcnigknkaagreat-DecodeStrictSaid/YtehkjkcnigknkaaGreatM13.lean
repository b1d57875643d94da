/-
  RecRef5; FrRef; FrRef2; Swap; FrHead; RecRow.
-/
import Derived.Deep.RegionWith
import Derived.Deep.RegionHeld3
import Derived.BigQuiet
import Derived.Lib.Hide
import Derived.Test.YtehkjkcnigknkaaGreatM02
import Derived.Test.YtehkjkcnigknkaaGreatM03
import Derived.Test.YtehkjkcnigknkaaGreatM07
import Derived.Test.YtehkjkcnigknkaaGreatM11
import Derived.Test.YtehkjkcnigknkaaGreatM12
namespace Go.Proofs.YtehkjkcnigknkaaGreat
open Lib (hid)
section
open Go.RowKit
theorem Keeps.set4 {S:Nat→Prop} {a b:World} (h:Keeps S a b) {g:Nat} (hg:a.heap.size≤g) (x y z u:Value):Keeps S a ((((b.setCell ⟨g,0,none⟩ x).setCell ⟨g,1,none⟩ y).setCell ⟨g,2,none⟩ z).setCell ⟨g,3,none⟩ u) :=
 (((h.setNew hg 0 x).setNew hg 1 y).setNew hg 2 z).setNew hg 3 u
set_option maxHeartbeats 4000000 in
set_option maxRecDepth 10000 in
theorem read7_kind (del:Bool) (k:Int) (hk:k=if del then 3 else 2) (xs:List Int) (ho:Octets xs) (hl:xs.length≤10000000) (w:World) :
  Calls Tryz.prog 66 #[.string (strOfNums (k :: xs))] w fun e w'=>e=.returned (readOut7 (steps7 del xs))∧Keeps NoBlock w w':=by
 have hok:Octets (k :: xs):=fun b hb=>by
  rcases List.mem_cons.1 hb with rfl|h
  ·rw [hk];cases del <;> simp
  ·exact ho b h
 have hsz:(strOfNums (k :: xs)).size=xs.length+1:=str_size (k :: xs)
 have hpos:0<(strOfNums (k :: xs)).size:=by rw [hsz];omega
 have hsg:=str_get (k :: xs) hok 0 hpos
 rw [show (k :: xs).getD 0 0=k from rfl] at hsg
 have hem:(strOfNums (k :: xs)).toList.isEmpty=false:=str_isnone _
 have hex:(strOfNums (k :: xs)).extract 1 (xs.length+1)=strOfNums xs:=by
  have:=str_drop (k :: xs) 1
  rw [hsz] at this
  exact this
 have HG:=hid (fun w=>get_ref xs 0 (by omega) (by omega) ho w)
 have hoz:=ho.drop (vget xs).n
 have hln:(vget xs).n≤xs.length:=vread_n 10 true xs
 have hlz:(xs.drop (vget xs).n).length=xs.length - (vget xs).n:=List.length_drop
 have HK:=hid (fun w=>gettext_all (xs.drop (vget xs).n) ((vget xs).n:Int) (vget xs).e 1 4096 1 4096 rfl rfl (by decide) (by decide) (by decide) (by omega) (by omega) hoz w)
 have hok2:Octets (key7 xs).X:=gtS_octets hoz
 have hrm:=gtS_room (X:=xs.drop (vget xs).n) (A:=((vget xs).n:Int)) (E:=(vget xs).e) (l:=1) (m:=4096) (B:=10000000) (by omega) (by omega)
 have HV:=hid (fun w=>gettext_all (key7 xs).X (key7 xs).A (key7 xs).E 0 1048576 0 1048576 rfl rfl (by decide) (by decide) (by decide) (by have:=hrm.2.2;show (gtS _ _ _ 1 4096).X.length≤_;omega) (by have:=hrm.1;have:=hrm.2.1;show 0≤(gtS _ _ _ 1 4096).A∧(gtS _ _ _ 1 4096).A+_≤_;exact ⟨hrm.1,Int.le_trans hrm.2.1 (by decide)⟩) hok2 w)
 have HE:=hid (fun w=>end_ref (val7 del (key7 xs)).X (val7 del (key7 xs)).A (val7 del (key7 xs)).E w)
 rw [show gtS (xs.drop (vget xs).n) ((vget xs).n:Int) (vget xs).e 1 4096=key7 xs from rfl] at HK
 have hv1:del=false→gtS (key7 xs).X (key7 xs).A (key7 xs).E 0 1048576=val7 del (key7 xs):=fun h=>by subst h;rfl
 have hv2:del=true→val7 del (key7 xs)=gone7 (key7 xs):=fun h=>by subst h;rfl
 have hseq:(if (vget xs).e=0 then (vget xs).x else 0)=((seq7 xs:Nat):Int):=by
  unfold seq7
  split
  ·rename_i h
   have hb:=vread_bound 9 true xs ho h
   have:0≤(vget xs).x:=hb.1
   omega
  ·rfl
 unfold refOut at HG
 rw [hseq,Int.zero_add] at HG
 unfold steps7 readOut7 fin7
 obtain ⟨s,hs⟩:∃ s,s=seq7 xs:=⟨_,rfl⟩
 obtain ⟨K,hK⟩:∃ K,K=key7 xs:=⟨_,rfl⟩
 rw [← hs] at HG ⊢
 rw [← hK] at HK HV HE hv1 hv2 ⊢
 obtain ⟨V,hV⟩:∃ V,V=val7 del K:=⟨_,rfl⟩
 rw [← hV] at HE hv1 hv2 ⊢
 obtain ⟨Z,hZ⟩:∃ Z,Z=xs.drop (vget xs).n:=⟨_,rfl⟩
 rw [← hZ] at HG HK
 obtain ⟨z,hz⟩:∃ z,z=endE V.X V.E:=⟨_,rfl⟩
 rw [← hz] at HE ⊢
 obtain ⟨g,hg⟩:∃ g,g=vget xs:=⟨_,rfl⟩
 rw [← hg] at HG HK
 obtain ⟨KX,KA,KE,KT⟩:=K
 obtain ⟨VX,VA,VE,VT⟩:=V
 obtain ⟨ge,gn,gx⟩:=g
 unfold gone7 at hv2
 simp only at HG HK HV HE hv1 hv2 ⊢
 obtain ⟨L,hL⟩:∃ L,L=xs.length:=⟨_,rfl⟩
 rw [← hL] at hsz hl
 rw [← hL] at hex
 clear hL hg hz hZ hV hK hs hrm hok2 hoz hln hlz hseq hok ho
 unfold rdr at *
 cases del with
 | true =>
  obtain rfl:k=3:=hk
  clear HV hv1
  obtain ⟨rfl,rfl,rfl,rfl⟩:VX=KX∧VA=KA∧VE=KE∧VT=[]:=by
   have:=hv2 rfl
   simpa using this
  clear hv2
  by_cases hz:z=0
  ·subst hz
   rw [if_pos rfl]
   simp only
   go_enter Tryz.func66,Tryz.ntmps66
   go_wp2_with fail
   refine (HG.out _).mono ?_
   rintro e w1 ⟨rfl,hk⟩
   have hR1:Whole w1 w.heap.size 48 #[.bool false,.int .u64 0,.string ⟨#[]⟩,.string ⟨#[]⟩]:=((Whole.new w _ _).alloc _).keep hk (fun h=>h)
   have hX1:Whole w1 (w.heap.size+1) 48 #[.bool true,.int .u64 0,.string ⟨#[]⟩,.string ⟨#[]⟩]:=(Whole.newAt _ _ _ _ (by simp)).keep hk (fun h=>h)
   have hK1:Keeps NoBlock w w1:=(((Keeps.refl NoBlock w).alloc _).alloc _).trans hk
   obtain ⟨W,hW⟩:∃ W,W=w1.alloc (.cells #[.string (strOfNums Z),.int .i64 (gn:Int),.int .i64 ge] 163):=⟨_,rfl⟩
   have hRW:Whole W w.heap.size 48 #[.bool false,.int .u64 0,.string ⟨#[]⟩,.string ⟨#[]⟩]:=by rw [hW];exact hR1.alloc _
   have hXW:Whole W (w.heap.size+1) 48 #[.bool true,.int .u64 0,.string ⟨#[]⟩,.string ⟨#[]⟩]:=by rw [hW];exact hX1.alloc _
   have hDW:Whole W w1.heap.size 163 #[.string (strOfNums Z),.int .i64 (gn:Int),.int .i64 ge]:=by rw [hW];exact Whole.new _ _ _
   have hKW:Keeps NoBlock w W:=by rw [hW];exact hK1.alloc _
   have hlt1:=hX1.lt
   obtain ⟨D,hD⟩:∃ D,D=w1.heap.size:=⟨_,rfl⟩
   rw [← hD] at hDW hlt1
   have HR:=hid hRW
   have HX:=hid hXW
   have HD:=hid hDW
   have HKp:=hid hKW
   have d0:=hDW.cell 0 rfl
   have d1:=hDW.cell 1 rfl
   have d2:=hDW.cell 2 rfl
   have e0:=hDW.free 0
   have e1:=hDW.free 1
   have e2:=hDW.free 2
   simp only [List.getElem_toArray,List.getElem_cons_zero,List.getElem_cons_succ] at d0 d1 d2
   clear hk hR1 hX1 hK1 hRW hXW hDW hKW
   go_upto_region 7 with (fail)
   rw [← hW,← hD]
   clear hW hD
   go_wp2_with fail
   refine (HK.out _).mono ?_
   rintro e w2 ⟨rfl,hk⟩
   have HR:=hid ((HR.out.keep hk (fun h=>h)).other3 (h:=D) (by omega) (.string (strOfNums VX)) (.int .i64 VA) (.int .i64 VE))
   have HX:=hid ((HX.out.keep hk (fun h=>h)).other3 (h:=D) (by omega) (.string (strOfNums VX)) (.int .i64 VA) (.int .i64 VE))
   have HKp:=hid ((HKp.out.trans hk).set3 (g:=D) (by omega) (.string (strOfNums VX)) (.int .i64 VA) (.int .i64 VE))
   have hD2:=HD.out.keep hk (fun h=>h)
   have HD:=hid (hD2.set3 (.string (strOfNums VX)) (.int .i64 VA) (.int .i64 VE))
   clear d0 d1 d2 e0 e1 e2
   have d0:=hD2.cell 0 rfl
   have d1:=hD2.cell 1 rfl
   have d2:=hD2.cell 2 rfl
   have e0:=hD2.free 0
   have e1:=hD2.free 1
   have e2:=hD2.free 2
   simp only [List.getElem_toArray,List.getElem_cons_zero,List.getElem_cons_succ] at d0 d1 d2
   clear hk hD2
   go_upto_region 8 with (fail)
   obtain ⟨Y2,hY2⟩:∃ Y,Y=((w2.setCell ⟨D,0,none⟩ (.string (strOfNums VX))).setCell ⟨D,1,none⟩ (.int .i64 VA)).setCell ⟨D,2,none⟩ (.int .i64 VE):=⟨_,rfl⟩
   rw [← hY2] at HR HX HKp HD ⊢
   clear hY2 d0 d1 d2 e0 e1 e2
   have d0:=HD.out.cell 0 rfl
   have d1:=HD.out.cell 1 rfl
   have d2:=HD.out.cell 2 rfl
   have e0:=HD.out.free 0
   have e1:=HD.out.free 1
   have e2:=HD.out.free 2
   have x0:=HX.out.cell 0 rfl
   simp only [List.getElem_toArray,List.getElem_cons_zero,List.getElem_cons_succ] at d0 d1 d2 x0
   go_wp2_with fail
   refine (HE.out _).mono ?_
   rintro e w3 ⟨rfl,hk⟩
   have HR:=hid ((HR.out.keep hk (fun h=>h)).other3 (h:=D) (by omega) (.string (strOfNums VX)) (.int .i64 VA) (.int .i64 0))
   have HX:=hid ((HX.out.keep hk (fun h=>h)).other3 (h:=D) (by omega) (.string (strOfNums VX)) (.int .i64 VA) (.int .i64 0))
   have HKp:=hid ((HKp.out.trans hk).set3 (g:=D) (by omega) (.string (strOfNums VX)) (.int .i64 VA) (.int .i64 0))
   have hD2:=HD.out.keep hk (fun h=>h)
   have HD:=hid (hD2.set3 (.string (strOfNums VX)) (.int .i64 VA) (.int .i64 0))
   clear d0 d1 d2 e0 e1 e2
   have d0:=hD2.cell 0 rfl
   have d1:=hD2.cell 1 rfl
   have d2:=hD2.cell 2 rfl
   have e0:=hD2.free 0
   have e1:=hD2.free 1
   have e2:=hD2.free 2
   simp only [List.getElem_toArray,List.getElem_cons_zero,List.getElem_cons_succ] at d0 d1 d2
   clear hk hD2
   go_upto_region 12 with (fail)
   obtain ⟨Y3,hY3⟩:∃ Y,Y=((w3.setCell ⟨D,0,none⟩ (.string (strOfNums VX))).setCell ⟨D,1,none⟩ (.int .i64 VA)).setCell ⟨D,2,none⟩ (.int .i64 0):=⟨_,rfl⟩
   rw [← hY3] at HR HX HKp HD ⊢
   clear hY3 d0 d1 d2 e0 e1 e2
   have d0:=HD.out.cell 0 rfl
   have d1:=HD.out.cell 1 rfl
   have d2:=HD.out.cell 2 rfl
   have e0:=HD.out.free 0
   have e1:=HD.out.free 1
   have e2:=HD.out.free 2
   have x0:=HX.out.cell 0 rfl
   simp only [List.getElem_toArray,List.getElem_cons_zero,List.getElem_cons_succ] at d0 d1 d2 x0
   have q0:=HR.out.free 0
   have q1:=HR.out.free 1
   have q2:=HR.out.free 2
   have q3:=HR.out.free 3
   have o0:=HR.out.cell 0 rfl
   have o1:=HR.out.cell 1 rfl
   have o2:=HR.out.cell 2 rfl
   have o3:=HR.out.cell 3 rfl
   clear x0
   have x0:=HX.out.cell 0 rfl
   have x1:=HX.out.cell 1 rfl
   have x2:=HX.out.cell 2 rfl
   have x3:=HX.out.cell 3 rfl
   have y0:=HX.out.free 0
   have y1:=HX.out.free 1
   have y2:=HX.out.free 2
   have y3:=HX.out.free 3
   simp only [List.getElem_toArray,List.getElem_cons_zero,List.getElem_cons_succ] at o0 o1 o2 o3 x0 x1 x2 x3
   go_wp2_with fail
   exact bodyPost_ret (v:=.tuple #[recV ⟨true,s,KT,[]⟩,.int .i64 0]) (by simp [results,Tryz.results66,go_sem,recV,o0,o1,o2,o3];rfl) rfl ⟨rfl,Keeps.set4 (((HKp.out.setNew (by omega) 1 _).setNew (by omega) 2 _).setNew (by omega) 3 _) (Nat.le_refl _) _ _ _ _⟩
  ·rw [if_neg hz]
   simp only
   have hzb:(z != 0)=true:=by simpa using hz
   have hzc:decide (z=0)=false:=decide_eq_false hz
   go_enter Tryz.func66,Tryz.ntmps66
   go_wp2_with fail
   refine (HG.out _).mono ?_
   rintro e w1 ⟨rfl,hk⟩
   have hR1:Whole w1 w.heap.size 48 #[.bool false,.int .u64 0,.string ⟨#[]⟩,.string ⟨#[]⟩]:=((Whole.new w _ _).alloc _).keep hk (fun h=>h)
   have hX1:Whole w1 (w.heap.size+1) 48 #[.bool true,.int .u64 0,.string ⟨#[]⟩,.string ⟨#[]⟩]:=(Whole.newAt _ _ _ _ (by simp)).keep hk (fun h=>h)
   have hK1:Keeps NoBlock w w1:=(((Keeps.refl NoBlock w).alloc _).alloc _).trans hk
   obtain ⟨W,hW⟩:∃ W,W=w1.alloc (.cells #[.string (strOfNums Z),.int .i64 (gn:Int),.int .i64 ge] 163):=⟨_,rfl⟩
   have hRW:Whole W w.heap.size 48 #[.bool false,.int .u64 0,.string ⟨#[]⟩,.string ⟨#[]⟩]:=by rw [hW];exact hR1.alloc _
   have hXW:Whole W (w.heap.size+1) 48 #[.bool true,.int .u64 0,.string ⟨#[]⟩,.string ⟨#[]⟩]:=by rw [hW];exact hX1.alloc _
   have hDW:Whole W w1.heap.size 163 #[.string (strOfNums Z),.int .i64 (gn:Int),.int .i64 ge]:=by rw [hW];exact Whole.new _ _ _
   have hKW:Keeps NoBlock w W:=by rw [hW];exact hK1.alloc _
   have hlt1:=hX1.lt
   obtain ⟨D,hD⟩:∃ D,D=w1.heap.size:=⟨_,rfl⟩
   rw [← hD] at hDW hlt1
   have HR:=hid hRW
   have HX:=hid hXW
   have HD:=hid hDW
   have HKp:=hid hKW
   have d0:=hDW.cell 0 rfl
   have d1:=hDW.cell 1 rfl
   have d2:=hDW.cell 2 rfl
   have e0:=hDW.free 0
   have e1:=hDW.free 1
   have e2:=hDW.free 2
   simp only [List.getElem_toArray,List.getElem_cons_zero,List.getElem_cons_succ] at d0 d1 d2
   clear hk hR1 hX1 hK1 hRW hXW hDW hKW
   go_upto_region 7 with (fail)
   rw [← hW,← hD]
   clear hW hD
   go_wp2_with fail
   refine (HK.out _).mono ?_
   rintro e w2 ⟨rfl,hk⟩
   have HR:=hid ((HR.out.keep hk (fun h=>h)).other3 (h:=D) (by omega) (.string (strOfNums VX)) (.int .i64 VA) (.int .i64 VE))
   have HX:=hid ((HX.out.keep hk (fun h=>h)).other3 (h:=D) (by omega) (.string (strOfNums VX)) (.int .i64 VA) (.int .i64 VE))
   have HKp:=hid ((HKp.out.trans hk).set3 (g:=D) (by omega) (.string (strOfNums VX)) (.int .i64 VA) (.int .i64 VE))
   have hD2:=HD.out.keep hk (fun h=>h)
   have HD:=hid (hD2.set3 (.string (strOfNums VX)) (.int .i64 VA) (.int .i64 VE))
   clear d0 d1 d2 e0 e1 e2
   have d0:=hD2.cell 0 rfl
   have d1:=hD2.cell 1 rfl
   have d2:=hD2.cell 2 rfl
   have e0:=hD2.free 0
   have e1:=hD2.free 1
   have e2:=hD2.free 2
   simp only [List.getElem_toArray,List.getElem_cons_zero,List.getElem_cons_succ] at d0 d1 d2
   clear hk hD2
   go_upto_region 8 with (fail)
   obtain ⟨Y2,hY2⟩:∃ Y,Y=((w2.setCell ⟨D,0,none⟩ (.string (strOfNums VX))).setCell ⟨D,1,none⟩ (.int .i64 VA)).setCell ⟨D,2,none⟩ (.int .i64 VE):=⟨_,rfl⟩
   rw [← hY2] at HR HX HKp HD ⊢
   clear hY2 d0 d1 d2 e0 e1 e2
   have d0:=HD.out.cell 0 rfl
   have d1:=HD.out.cell 1 rfl
   have d2:=HD.out.cell 2 rfl
   have e0:=HD.out.free 0
   have e1:=HD.out.free 1
   have e2:=HD.out.free 2
   have x0:=HX.out.cell 0 rfl
   simp only [List.getElem_toArray,List.getElem_cons_zero,List.getElem_cons_succ] at d0 d1 d2 x0
   go_wp2_with fail
   refine (HE.out _).mono ?_
   rintro e w3 ⟨rfl,hk⟩
   have HR:=hid ((HR.out.keep hk (fun h=>h)).other3 (h:=D) (by omega) (.string (strOfNums VX)) (.int .i64 VA) (.int .i64 z))
   have HX:=hid ((HX.out.keep hk (fun h=>h)).other3 (h:=D) (by omega) (.string (strOfNums VX)) (.int .i64 VA) (.int .i64 z))
   have HKp:=hid ((HKp.out.trans hk).set3 (g:=D) (by omega) (.string (strOfNums VX)) (.int .i64 VA) (.int .i64 z))
   have hD2:=HD.out.keep hk (fun h=>h)
   have HD:=hid (hD2.set3 (.string (strOfNums VX)) (.int .i64 VA) (.int .i64 z))
   clear d0 d1 d2 e0 e1 e2
   have d0:=hD2.cell 0 rfl
   have d1:=hD2.cell 1 rfl
   have d2:=hD2.cell 2 rfl
   have e0:=hD2.free 0
   have e1:=hD2.free 1
   have e2:=hD2.free 2
   simp only [List.getElem_toArray,List.getElem_cons_zero,List.getElem_cons_succ] at d0 d1 d2
   clear hk hD2
   go_upto_region 12 with (fail)
   obtain ⟨Y3,hY3⟩:∃ Y,Y=((w3.setCell ⟨D,0,none⟩ (.string (strOfNums VX))).setCell ⟨D,1,none⟩ (.int .i64 VA)).setCell ⟨D,2,none⟩ (.int .i64 z):=⟨_,rfl⟩
   rw [← hY3] at HR HX HKp HD ⊢
   clear hY3 d0 d1 d2 e0 e1 e2
   have d0:=HD.out.cell 0 rfl
   have d1:=HD.out.cell 1 rfl
   have d2:=HD.out.cell 2 rfl
   have e0:=HD.out.free 0
   have e1:=HD.out.free 1
   have e2:=HD.out.free 2
   have x0:=HX.out.cell 0 rfl
   simp only [List.getElem_toArray,List.getElem_cons_zero,List.getElem_cons_succ] at d0 d1 d2 x0
   have q0:=HR.out.free 0
   have q1:=HR.out.free 1
   have q2:=HR.out.free 2
   have q3:=HR.out.free 3
   have o0:=HR.out.cell 0 rfl
   have o1:=HR.out.cell 1 rfl
   have o2:=HR.out.cell 2 rfl
   have o3:=HR.out.cell 3 rfl
   clear x0
   have x0:=HX.out.cell 0 rfl
   have x1:=HX.out.cell 1 rfl
   have x2:=HX.out.cell 2 rfl
   have x3:=HX.out.cell 3 rfl
   have y0:=HX.out.free 0
   have y1:=HX.out.free 1
   have y2:=HX.out.free 2
   have y3:=HX.out.free 3
   simp only [List.getElem_toArray,List.getElem_cons_zero,List.getElem_cons_succ] at o0 o1 o2 o3 x0 x1 x2 x3
   go_wp2_with fail
   have s0:Y3.drew.cell? ⟨D,2,none⟩=some (.int .i64 z):=d2
   go_region
   go_wp2_with fail
   exact bodyPost_ret (v:=.tuple #[recV Rec.none,.int .i64 z]) (by simp [results,Tryz.results66,go_sem,recV,Rec.none,o0,o1,o2,o3];rfl) rfl ⟨rfl,(HKp.out.set4 (Nat.le_refl _) _ _ _ _).drew⟩
 | false =>
  obtain rfl:k=2:=hk
  clear hv2
  rw [hv1 rfl] at HV
  clear hv1
  by_cases hz:z=0
  ·subst hz
   rw [if_pos rfl]
   simp only
   go_enter Tryz.func66,Tryz.ntmps66
   go_wp2_with fail
   refine (HG.out _).mono ?_
   rintro e w1 ⟨rfl,hk⟩
   have hR1:Whole w1 w.heap.size 48 #[.bool false,.int .u64 0,.string ⟨#[]⟩,.string ⟨#[]⟩]:=((Whole.new w _ _).alloc _).keep hk (fun h=>h)
   have hX1:Whole w1 (w.heap.size+1) 48 #[.bool false,.int .u64 0,.string ⟨#[]⟩,.string ⟨#[]⟩]:=(Whole.newAt _ _ _ _ (by simp)).keep hk (fun h=>h)
   have hK1:Keeps NoBlock w w1:=(((Keeps.refl NoBlock w).alloc _).alloc _).trans hk
   obtain ⟨W,hW⟩:∃ W,W=w1.alloc (.cells #[.string (strOfNums Z),.int .i64 (gn:Int),.int .i64 ge] 163):=⟨_,rfl⟩
   have hRW:Whole W w.heap.size 48 #[.bool false,.int .u64 0,.string ⟨#[]⟩,.string ⟨#[]⟩]:=by rw [hW];exact hR1.alloc _
   have hXW:Whole W (w.heap.size+1) 48 #[.bool false,.int .u64 0,.string ⟨#[]⟩,.string ⟨#[]⟩]:=by rw [hW];exact hX1.alloc _
   have hDW:Whole W w1.heap.size 163 #[.string (strOfNums Z),.int .i64 (gn:Int),.int .i64 ge]:=by rw [hW];exact Whole.new _ _ _
   have hKW:Keeps NoBlock w W:=by rw [hW];exact hK1.alloc _
   have hlt1:=hX1.lt
   obtain ⟨D,hD⟩:∃ D,D=w1.heap.size:=⟨_,rfl⟩
   rw [← hD] at hDW hlt1
   have HR:=hid hRW
   have HX:=hid hXW
   have HD:=hid hDW
   have HKp:=hid hKW
   have d0:=hDW.cell 0 rfl
   have d1:=hDW.cell 1 rfl
   have d2:=hDW.cell 2 rfl
   have e0:=hDW.free 0
   have e1:=hDW.free 1
   have e2:=hDW.free 2
   simp only [List.getElem_toArray,List.getElem_cons_zero,List.getElem_cons_succ] at d0 d1 d2
   clear hk hR1 hX1 hK1 hRW hXW hDW hKW
   go_upto_region 7 with (fail)
   rw [← hW,← hD]
   clear hW hD
   go_wp2_with fail
   refine (HK.out _).mono ?_
   rintro e w2 ⟨rfl,hk⟩
   have HR:=hid ((HR.out.keep hk (fun h=>h)).other3 (h:=D) (by omega) (.string (strOfNums KX)) (.int .i64 KA) (.int .i64 KE))
   have HX:=hid ((HX.out.keep hk (fun h=>h)).other3 (h:=D) (by omega) (.string (strOfNums KX)) (.int .i64 KA) (.int .i64 KE))
   have HKp:=hid ((HKp.out.trans hk).set3 (g:=D) (by omega) (.string (strOfNums KX)) (.int .i64 KA) (.int .i64 KE))
   have hD2:=HD.out.keep hk (fun h=>h)
   have HD:=hid (hD2.set3 (.string (strOfNums KX)) (.int .i64 KA) (.int .i64 KE))
   clear d0 d1 d2 e0 e1 e2
   have d0:=hD2.cell 0 rfl
   have d1:=hD2.cell 1 rfl
   have d2:=hD2.cell 2 rfl
   have e0:=hD2.free 0
   have e1:=hD2.free 1
   have e2:=hD2.free 2
   simp only [List.getElem_toArray,List.getElem_cons_zero,List.getElem_cons_succ] at d0 d1 d2
   clear hk hD2
   go_upto_region 8 with (fail)
   obtain ⟨Y2,hY2⟩:∃ Y,Y=((w2.setCell ⟨D,0,none⟩ (.string (strOfNums KX))).setCell ⟨D,1,none⟩ (.int .i64 KA)).setCell ⟨D,2,none⟩ (.int .i64 KE):=⟨_,rfl⟩
   rw [← hY2] at HR HX HKp HD ⊢
   clear hY2 d0 d1 d2 e0 e1 e2
   have d0:=HD.out.cell 0 rfl
   have d1:=HD.out.cell 1 rfl
   have d2:=HD.out.cell 2 rfl
   have e0:=HD.out.free 0
   have e1:=HD.out.free 1
   have e2:=HD.out.free 2
   have x0:=HX.out.cell 0 rfl
   simp only [List.getElem_toArray,List.getElem_cons_zero,List.getElem_cons_succ] at d0 d1 d2 x0
   go_wp2_with fail
   clear x0
   refine (HV.out _).mono ?_
   rintro e w4 ⟨rfl,hk⟩
   have HR:=hid ((HR.out.keep hk (fun h=>h)).other3 (h:=D) (by omega) (.string (strOfNums VX)) (.int .i64 VA) (.int .i64 VE))
   have HX:=hid ((HX.out.keep hk (fun h=>h)).other3 (h:=D) (by omega) (.string (strOfNums VX)) (.int .i64 VA) (.int .i64 VE))
   have HKp:=hid ((HKp.out.trans hk).set3 (g:=D) (by omega) (.string (strOfNums VX)) (.int .i64 VA) (.int .i64 VE))
   have hD2:=HD.out.keep hk (fun h=>h)
   have HD:=hid (hD2.set3 (.string (strOfNums VX)) (.int .i64 VA) (.int .i64 VE))
   clear d0 d1 d2 e0 e1 e2
   have d0:=hD2.cell 0 rfl
   have d1:=hD2.cell 1 rfl
   have d2:=hD2.cell 2 rfl
   have e0:=hD2.free 0
   have e1:=hD2.free 1
   have e2:=hD2.free 2
   simp only [List.getElem_toArray,List.getElem_cons_zero,List.getElem_cons_succ] at d0 d1 d2
   clear hk hD2
   go_upto_region 11 with (fail)
   obtain ⟨Y4,hY4⟩:∃ Y,Y=((w4.setCell ⟨D,0,none⟩ (.string (strOfNums VX))).setCell ⟨D,1,none⟩ (.int .i64 VA)).setCell ⟨D,2,none⟩ (.int .i64 VE):=⟨_,rfl⟩
   rw [← hY4] at HR HX HKp HD ⊢
   clear hY4 d0 d1 d2 e0 e1 e2
   have d0:=HD.out.cell 0 rfl
   have d1:=HD.out.cell 1 rfl
   have d2:=HD.out.cell 2 rfl
   have e0:=HD.out.free 0
   have e1:=HD.out.free 1
   have e2:=HD.out.free 2
   have x0:=HX.out.cell 0 rfl
   simp only [List.getElem_toArray,List.getElem_cons_zero,List.getElem_cons_succ] at d0 d1 d2 x0
   go_wp2_with fail
   refine (HE.out _).mono ?_
   rintro e w3 ⟨rfl,hk⟩
   have HR:=hid ((HR.out.keep hk (fun h=>h)).other3 (h:=D) (by omega) (.string (strOfNums VX)) (.int .i64 VA) (.int .i64 0))
   have HX:=hid ((HX.out.keep hk (fun h=>h)).other3 (h:=D) (by omega) (.string (strOfNums VX)) (.int .i64 VA) (.int .i64 0))
   have HKp:=hid ((HKp.out.trans hk).set3 (g:=D) (by omega) (.string (strOfNums VX)) (.int .i64 VA) (.int .i64 0))
   have hD2:=HD.out.keep hk (fun h=>h)
   have HD:=hid (hD2.set3 (.string (strOfNums VX)) (.int .i64 VA) (.int .i64 0))
   clear d0 d1 d2 e0 e1 e2
   have d0:=hD2.cell 0 rfl
   have d1:=hD2.cell 1 rfl
   have d2:=hD2.cell 2 rfl
   have e0:=hD2.free 0
   have e1:=hD2.free 1
   have e2:=hD2.free 2
   simp only [List.getElem_toArray,List.getElem_cons_zero,List.getElem_cons_succ] at d0 d1 d2
   clear hk hD2
   go_upto_region 12 with (fail)
   obtain ⟨Y3,hY3⟩:∃ Y,Y=((w3.setCell ⟨D,0,none⟩ (.string (strOfNums VX))).setCell ⟨D,1,none⟩ (.int .i64 VA)).setCell ⟨D,2,none⟩ (.int .i64 0):=⟨_,rfl⟩
   rw [← hY3] at HR HX HKp HD ⊢
   clear hY3 d0 d1 d2 e0 e1 e2
   have d0:=HD.out.cell 0 rfl
   have d1:=HD.out.cell 1 rfl
   have d2:=HD.out.cell 2 rfl
   have e0:=HD.out.free 0
   have e1:=HD.out.free 1
   have e2:=HD.out.free 2
   have x0:=HX.out.cell 0 rfl
   simp only [List.getElem_toArray,List.getElem_cons_zero,List.getElem_cons_succ] at d0 d1 d2 x0
   have q0:=HR.out.free 0
   have q1:=HR.out.free 1
   have q2:=HR.out.free 2
   have q3:=HR.out.free 3
   have o0:=HR.out.cell 0 rfl
   have o1:=HR.out.cell 1 rfl
   have o2:=HR.out.cell 2 rfl
   have o3:=HR.out.cell 3 rfl
   clear x0
   have x0:=HX.out.cell 0 rfl
   have x1:=HX.out.cell 1 rfl
   have x2:=HX.out.cell 2 rfl
   have x3:=HX.out.cell 3 rfl
   have y0:=HX.out.free 0
   have y1:=HX.out.free 1
   have y2:=HX.out.free 2
   have y3:=HX.out.free 3
   simp only [List.getElem_toArray,List.getElem_cons_zero,List.getElem_cons_succ] at o0 o1 o2 o3 x0 x1 x2 x3
   go_wp2_with fail
   exact bodyPost_ret (v:=.tuple #[recV ⟨false,s,KT,VT⟩,.int .i64 0]) (by simp [results,Tryz.results66,go_sem,recV,o0,o1,o2,o3]) rfl ⟨rfl,Keeps.set4 (((HKp.out.setNew (by omega) 1 _).setNew (by omega) 2 _).setNew (by omega) 3 _) (Nat.le_refl _) _ _ _ _⟩
  ·rw [if_neg hz]
   simp only
   have hzb:(z != 0)=true:=by simpa using hz
   have hzc:decide (z=0)=false:=decide_eq_false hz
   go_enter Tryz.func66,Tryz.ntmps66
   go_wp2_with fail
   refine (HG.out _).mono ?_
   rintro e w1 ⟨rfl,hk⟩
   have hR1:Whole w1 w.heap.size 48 #[.bool false,.int .u64 0,.string ⟨#[]⟩,.string ⟨#[]⟩]:=((Whole.new w _ _).alloc _).keep hk (fun h=>h)
   have hX1:Whole w1 (w.heap.size+1) 48 #[.bool false,.int .u64 0,.string ⟨#[]⟩,.string ⟨#[]⟩]:=(Whole.newAt _ _ _ _ (by simp)).keep hk (fun h=>h)
   have hK1:Keeps NoBlock w w1:=(((Keeps.refl NoBlock w).alloc _).alloc _).trans hk
   obtain ⟨W,hW⟩:∃ W,W=w1.alloc (.cells #[.string (strOfNums Z),.int .i64 (gn:Int),.int .i64 ge] 163):=⟨_,rfl⟩
   have hRW:Whole W w.heap.size 48 #[.bool false,.int .u64 0,.string ⟨#[]⟩,.string ⟨#[]⟩]:=by rw [hW];exact hR1.alloc _
   have hXW:Whole W (w.heap.size+1) 48 #[.bool false,.int .u64 0,.string ⟨#[]⟩,.string ⟨#[]⟩]:=by rw [hW];exact hX1.alloc _
   have hDW:Whole W w1.heap.size 163 #[.string (strOfNums Z),.int .i64 (gn:Int),.int .i64 ge]:=by rw [hW];exact Whole.new _ _ _
   have hKW:Keeps NoBlock w W:=by rw [hW];exact hK1.alloc _
   have hlt1:=hX1.lt
   obtain ⟨D,hD⟩:∃ D,D=w1.heap.size:=⟨_,rfl⟩
   rw [← hD] at hDW hlt1
   have HR:=hid hRW
   have HX:=hid hXW
   have HD:=hid hDW
   have HKp:=hid hKW
   have d0:=hDW.cell 0 rfl
   have d1:=hDW.cell 1 rfl
   have d2:=hDW.cell 2 rfl
   have e0:=hDW.free 0
   have e1:=hDW.free 1
   have e2:=hDW.free 2
   simp only [List.getElem_toArray,List.getElem_cons_zero,List.getElem_cons_succ] at d0 d1 d2
   clear hk hR1 hX1 hK1 hRW hXW hDW hKW
   go_upto_region 7 with (fail)
   rw [← hW,← hD]
   clear hW hD
   go_wp2_with fail
   refine (HK.out _).mono ?_
   rintro e w2 ⟨rfl,hk⟩
   have HR:=hid ((HR.out.keep hk (fun h=>h)).other3 (h:=D) (by omega) (.string (strOfNums KX)) (.int .i64 KA) (.int .i64 KE))
   have HX:=hid ((HX.out.keep hk (fun h=>h)).other3 (h:=D) (by omega) (.string (strOfNums KX)) (.int .i64 KA) (.int .i64 KE))
   have HKp:=hid ((HKp.out.trans hk).set3 (g:=D) (by omega) (.string (strOfNums KX)) (.int .i64 KA) (.int .i64 KE))
   have hD2:=HD.out.keep hk (fun h=>h)
   have HD:=hid (hD2.set3 (.string (strOfNums KX)) (.int .i64 KA) (.int .i64 KE))
   clear d0 d1 d2 e0 e1 e2
   have d0:=hD2.cell 0 rfl
   have d1:=hD2.cell 1 rfl
   have d2:=hD2.cell 2 rfl
   have e0:=hD2.free 0
   have e1:=hD2.free 1
   have e2:=hD2.free 2
   simp only [List.getElem_toArray,List.getElem_cons_zero,List.getElem_cons_succ] at d0 d1 d2
   clear hk hD2
   go_upto_region 8 with (fail)
   obtain ⟨Y2,hY2⟩:∃ Y,Y=((w2.setCell ⟨D,0,none⟩ (.string (strOfNums KX))).setCell ⟨D,1,none⟩ (.int .i64 KA)).setCell ⟨D,2,none⟩ (.int .i64 KE):=⟨_,rfl⟩
   rw [← hY2] at HR HX HKp HD ⊢
   clear hY2 d0 d1 d2 e0 e1 e2
   have d0:=HD.out.cell 0 rfl
   have d1:=HD.out.cell 1 rfl
   have d2:=HD.out.cell 2 rfl
   have e0:=HD.out.free 0
   have e1:=HD.out.free 1
   have e2:=HD.out.free 2
   have x0:=HX.out.cell 0 rfl
   simp only [List.getElem_toArray,List.getElem_cons_zero,List.getElem_cons_succ] at d0 d1 d2 x0
   go_wp2_with fail
   clear x0
   refine (HV.out _).mono ?_
   rintro e w4 ⟨rfl,hk⟩
   have HR:=hid ((HR.out.keep hk (fun h=>h)).other3 (h:=D) (by omega) (.string (strOfNums VX)) (.int .i64 VA) (.int .i64 VE))
   have HX:=hid ((HX.out.keep hk (fun h=>h)).other3 (h:=D) (by omega) (.string (strOfNums VX)) (.int .i64 VA) (.int .i64 VE))
   have HKp:=hid ((HKp.out.trans hk).set3 (g:=D) (by omega) (.string (strOfNums VX)) (.int .i64 VA) (.int .i64 VE))
   have hD2:=HD.out.keep hk (fun h=>h)
   have HD:=hid (hD2.set3 (.string (strOfNums VX)) (.int .i64 VA) (.int .i64 VE))
   clear d0 d1 d2 e0 e1 e2
   have d0:=hD2.cell 0 rfl
   have d1:=hD2.cell 1 rfl
   have d2:=hD2.cell 2 rfl
   have e0:=hD2.free 0
   have e1:=hD2.free 1
   have e2:=hD2.free 2
   simp only [List.getElem_toArray,List.getElem_cons_zero,List.getElem_cons_succ] at d0 d1 d2
   clear hk hD2
   go_upto_region 11 with (fail)
   obtain ⟨Y4,hY4⟩:∃ Y,Y=((w4.setCell ⟨D,0,none⟩ (.string (strOfNums VX))).setCell ⟨D,1,none⟩ (.int .i64 VA)).setCell ⟨D,2,none⟩ (.int .i64 VE):=⟨_,rfl⟩
   rw [← hY4] at HR HX HKp HD ⊢
   clear hY4 d0 d1 d2 e0 e1 e2
   have d0:=HD.out.cell 0 rfl
   have d1:=HD.out.cell 1 rfl
   have d2:=HD.out.cell 2 rfl
   have e0:=HD.out.free 0
   have e1:=HD.out.free 1
   have e2:=HD.out.free 2
   have x0:=HX.out.cell 0 rfl
   simp only [List.getElem_toArray,List.getElem_cons_zero,List.getElem_cons_succ] at d0 d1 d2 x0
   go_wp2_with fail
   refine (HE.out _).mono ?_
   rintro e w3 ⟨rfl,hk⟩
   have HR:=hid ((HR.out.keep hk (fun h=>h)).other3 (h:=D) (by omega) (.string (strOfNums VX)) (.int .i64 VA) (.int .i64 z))
   have HX:=hid ((HX.out.keep hk (fun h=>h)).other3 (h:=D) (by omega) (.string (strOfNums VX)) (.int .i64 VA) (.int .i64 z))
   have HKp:=hid ((HKp.out.trans hk).set3 (g:=D) (by omega) (.string (strOfNums VX)) (.int .i64 VA) (.int .i64 z))
   have hD2:=HD.out.keep hk (fun h=>h)
   have HD:=hid (hD2.set3 (.string (strOfNums VX)) (.int .i64 VA) (.int .i64 z))
   clear d0 d1 d2 e0 e1 e2
   have d0:=hD2.cell 0 rfl
   have d1:=hD2.cell 1 rfl
   have d2:=hD2.cell 2 rfl
   have e0:=hD2.free 0
   have e1:=hD2.free 1
   have e2:=hD2.free 2
   simp only [List.getElem_toArray,List.getElem_cons_zero,List.getElem_cons_succ] at d0 d1 d2
   clear hk hD2
   go_upto_region 12 with (fail)
   obtain ⟨Y3,hY3⟩:∃ Y,Y=((w3.setCell ⟨D,0,none⟩ (.string (strOfNums VX))).setCell ⟨D,1,none⟩ (.int .i64 VA)).setCell ⟨D,2,none⟩ (.int .i64 z):=⟨_,rfl⟩
   rw [← hY3] at HR HX HKp HD ⊢
   clear hY3 d0 d1 d2 e0 e1 e2
   have d0:=HD.out.cell 0 rfl
   have d1:=HD.out.cell 1 rfl
   have d2:=HD.out.cell 2 rfl
   have e0:=HD.out.free 0
   have e1:=HD.out.free 1
   have e2:=HD.out.free 2
   have x0:=HX.out.cell 0 rfl
   simp only [List.getElem_toArray,List.getElem_cons_zero,List.getElem_cons_succ] at d0 d1 d2 x0
   have q0:=HR.out.free 0
   have q1:=HR.out.free 1
   have q2:=HR.out.free 2
   have q3:=HR.out.free 3
   have o0:=HR.out.cell 0 rfl
   have o1:=HR.out.cell 1 rfl
   have o2:=HR.out.cell 2 rfl
   have o3:=HR.out.cell 3 rfl
   clear x0
   have x0:=HX.out.cell 0 rfl
   have x1:=HX.out.cell 1 rfl
   have x2:=HX.out.cell 2 rfl
   have x3:=HX.out.cell 3 rfl
   have y0:=HX.out.free 0
   have y1:=HX.out.free 1
   have y2:=HX.out.free 2
   have y3:=HX.out.free 3
   simp only [List.getElem_toArray,List.getElem_cons_zero,List.getElem_cons_succ] at o0 o1 o2 o3 x0 x1 x2 x3
   go_wp2_with fail
   have s0:Y3.drew.cell? ⟨D,2,none⟩=some (.int .i64 z):=d2
   go_region
   go_wp2_with fail
   exact bodyPost_ret (v:=.tuple #[recV Rec.none,.int .i64 z]) (by simp [results,Tryz.results66,go_sem,recV,Rec.none,o0,o1,o2,o3];rfl) rfl ⟨rfl,(HKp.out.set4 (Nat.le_refl _) _ _ _ _).drew⟩
set_option maxHeartbeats 2000000 in
set_option maxRecDepth 10000 in
theorem read7_ref (xs:List Int) (ho:Octets xs) (hl:xs.length≤10000000) (w:World) :
  Calls Tryz.prog 66 #[.string (strOfNums xs)] w fun e w'=>e=.returned (readOut7 (readR xs))∧Keeps NoBlock w w':=by
 cases xs with
 | nil =>
  have hem:(strOfNums []).toList.isEmpty=true:=str_isnone []
  have hr:readR []=(2,Rec.none):=rfl
  rw [hr]
  go_enter Tryz.func66,Tryz.ntmps66
  go_wp2_with fail
  exact bodyPost_ret (v:=.tuple #[recV Rec.none,.int .i64 2]) (by simp [results,Tryz.results66,go_sem,recV,Rec.none];rfl) rfl ⟨rfl,(Keeps.refl _ _).alloc _⟩
 | cons k xs =>
  have hox:Octets xs:=fun b hb=>ho b (List.mem_cons_of_mem _ hb)
  have hlx:xs.length≤10000000:=by rw [List.length_cons] at hl;omega
  rw [show readR (k :: xs)=readKind k xs from rfl]
  by_cases h3:k=3
  ·rw [h3,show (3:Int)=if true=true then 3 else 2 from rfl,← steps7_read]
   exact read7_kind true 3 rfl xs hox hlx w
  ·by_cases h2:k=2
   ·rw [h2,show (2:Int)=if false=true then 3 else 2 from rfl,← steps7_read]
    exact read7_kind false 2 rfl xs hox hlx w
   ·have hr:readKind k xs=(4,Rec.none):=by unfold readKind;rw [if_pos ⟨h2,h3⟩]
    rw [hr]
    have hsz:(strOfNums (k :: xs)).size=xs.length+1:=str_size (k :: xs)
    have hpos:0<(strOfNums (k :: xs)).size:=by rw [hsz];omega
    have hsg:=str_get (k :: xs) ho 0 hpos
    rw [show (k :: xs).getD 0 0=k from rfl] at hsg
    have hem:(strOfNums (k :: xs)).toList.isEmpty=false:=str_isnone _
    have b2:(k != 2)=true:=by simpa using h2
    have b3:(k != 3)=true:=by simpa using h3
    clear hr ho hl hox hlx
    go_enter Tryz.func66,Tryz.ntmps66
    go_wp2_with fail
    exact bodyPost_ret (v:=.tuple #[recV Rec.none,.int .i64 4]) (by simp [results,Tryz.results66,go_sem,recV,Rec.none];rfl) rfl ⟨rfl,(Keeps.refl _ _).alloc _⟩
end
section
open Go.RowKit
theorem u64_zero:U64 0:=by constructor <;> decide
set_option maxHeartbeats 800000 in
set_option maxRecDepth 10000 in
theorem seal9_ref (xs:List Int) (ho:Octets xs) (hl:xs.length≤10000000) (w:World) :
  Calls Tryz.prog 49 #[.string (strOfNums xs)] w fun e w'=>e=.returned (.string (strOfNums (sealN xs)))∧Keeps NoBlock w w':=by
 have HS:=hid (fun w=>wsum_ref 0 xs u64_zero ho (by omega) w)
 have hu:=wxxh_u64 0 xs
 have HN:=hid (fun w=>num_any (wxxh 0 xs) 8 8 rfl (by decide) hu.1 hu.2 w)
 have hol:(xs ++ sumB xs).length≤140737488355328:=by rw [List.length_append,sumB_length];omega
 have HT:=hid (fun w=>stuff_ref (xs ++ sumB xs) (ho.app (sumB_octets xs)) hol w)
 have a1:=str_append xs (sumB xs)
 have z1:=str_size xs
 have z2:=str_size (sumB xs)
 rw [sumB_length] at z2
 have a2:strOfNums (chunkN xs) ++ (⟨#[0]⟩:ByteArray)=strOfNums (sealN xs):=str_append (chunkN xs) [0]
 have z3:=str_size (chunkN xs)
 have hmost:=(seal_length xs).2
 have hlen:=(seal_length xs).1
 have z4:(⟨#[0]⟩:ByteArray).size=1:=rfl
 have hcl:(chunkN xs).length≤100000000:=by
  unfold sizeN mostOf at hmost
  rw [if_neg (by omega)] at hmost
  omega
 rw [show stuff (xs ++ sumB xs)=chunkN xs from rfl] at HT
 rw [show digits (wxxh 0 xs) 8=sumB xs from rfl] at HN
 obtain ⟨x,hx⟩:∃ x,x=wxxh 0 xs:=⟨_,rfl⟩
 rw [← hx] at HS HN
 obtain ⟨B,hB⟩:∃ B,B=sumB xs:=⟨_,rfl⟩
 rw [← hB] at HN HT a1 z2
 obtain ⟨C,hC⟩:∃ C,C=chunkN xs:=⟨_,rfl⟩
 rw [← hC] at HT a2 z3 hcl
 obtain ⟨F,hF⟩:∃ F,F=sealN xs:=⟨_,rfl⟩
 rw [← hF] at a2 ⊢
 obtain ⟨L,hL⟩:∃ L,L=xs.length:=⟨_,rfl⟩
 rw [← hL] at z1 hl
 obtain ⟨M,hM⟩:∃ M,M=C.length:=⟨_,rfl⟩
 rw [← hM] at z3 hcl
 have r1:¬ 9223372036854775807<L+8:=by omega
 have r2:¬ 9223372036854775807<M+1:=by omega
 clear hx hB hC hF hL hM hu hol hmost hlen ho
 go_enter Tryz.func49,Tryz.ntmps49
 go_wp2_with fail
 refine (HS.out _).mono ?_
 rintro e w1 ⟨rfl,hk⟩
 have HK:=hid hk
 clear hk
 go_wp2_with fail
 refine (HN.out _).mono ?_
 rintro e w2 ⟨rfl,hk⟩
 have HK:=hid (HK.out.trans hk)
 clear hk
 go_wp2_with fail
 refine (HT.out _).mono ?_
 rintro e w3 ⟨rfl,hk⟩
 have HK:=hid (HK.out.trans hk)
 clear hk
 go_wp2_with fail
 go_ret
 exact ⟨rfl,HK.out⟩
def openOut (t:Int × List Int):Value:=.tuple #[.string (strOfNums t.2),.int .i64 t.1]
set_option maxHeartbeats 1600000 in
set_option maxRecDepth 10000 in
theorem open9_ref (ys:List Int) (ho:Octets ys) (hl:ys.length≤10000000) (w:World) :
  Calls Tryz.prog 65 #[.string (strOfNums ys)] w fun e w'=>e=.returned (openOut (openN ys))∧Keeps NoBlock w w':=by
 have HU:=hid (fun w=>unstuff_ref ys ho (by omega) w)
 have hu:=unst_octets ho
 unfold openN
 obtain ⟨y,hy⟩:∃ y,y=(unst ys).1:=⟨_,rfl⟩
 obtain ⟨T,hT⟩:∃ T,T=(unst ys).2:=⟨_,rfl⟩
 rw [← hy] at HU ⊢
 rw [← hT] at HU hu ⊢
 obtain ⟨hto,htl⟩:=hu
 have hsz:=str_size T
 by_cases h0:y=0
 ·subst h0
  clear hy
  rw [if_neg (by simp)]
  unfold openEnd
  obtain ⟨L,hL⟩:∃ L,L=T.length:=⟨_,rfl⟩
  rw [← hL] at hsz htl ⊢
  by_cases h8:L<8
  ·rw [if_pos h8]
   have hd:decide ((L:Int) - 8<0)=true:=decide_eq_true (by omega)
   unfold openOut
   clear hT hL hto htl ho hl
   go_enter Tryz.func65,Tryz.ntmps65
   go_wp2_with fail
   refine (HU.out _).mono ?_
   rintro e w1 ⟨rfl,hk⟩
   have HK:=hid hk
   clear hk
   go_wp2_with fail
   go_ret2
   exact ⟨rfl,HK.out⟩
  ·rw [if_neg h8]
   obtain ⟨m,hm⟩:∃ m,m=L - 8:=⟨_,rfl⟩
   rw [← hm]
   have hd:decide ((m:Int)<0)=false:=decide_eq_false (by omega)
   have hi:(L:Int) - 8=(m:Int):=by omega
   have e1:(strOfNums T).extract m L=strOfNums (T.drop m):=by
    have:=str_drop T m
    rw [hsz] at this
    exact this
   have e2:=str_take T m
   have hmL:m≤L:=by omega
   have hmb:m≤10000000:=by omega
   have HV:=hid (fun w=>value_ref (T.drop m) (hto.drop m) (by rw [List.length_drop];omega) w)
   have HS:=hid (fun w=>wsum_ref 0 (T.take m) u64_zero (hto.take m) (by rw [List.length_take];omega) w)
   by_cases hv:le (T.drop m)=wxxh 0 (T.take m)
   ·rw [if_pos hv]
    have hne:(le (T.drop m) != wxxh 0 (T.take m))=false:=by rw [hv];simp
    obtain ⟨a,ha⟩:∃ a,a=le (T.drop m):=⟨_,rfl⟩
    obtain ⟨b,hb⟩:∃ b,b=wxxh 0 (T.take m):=⟨_,rfl⟩
    rw [← ha] at HV hne
    rw [← hb] at HS hne
    unfold openOut
    clear hT hL hto htl ho hl ha hb hv hm h8
    go_enter Tryz.func65,Tryz.ntmps65
    go_wp2_with fail
    refine (HU.out _).mono ?_
    rintro e w1 ⟨rfl,hk⟩
    have HK:=hid hk
    clear hk
    go_wp2_with fail
    go_region_with (first
     | (go_at_call 72;refine (HV.out _).mono ?_;rintro e w2 ⟨rfl,rfl⟩)
     | (go_at_call 45;refine (HS.out _).mono ?_;rintro e w2 ⟨rfl,hk⟩;have HK2:=hid ((HK.out.drewN _).trans hk);clear hk))
    all_goals
     go_wp2_with fail
     go_ret2
     first
      | exact ⟨rfl,HK2.out⟩
      | exact ⟨rfl,HK2.out.drewN _⟩
   ·rw [if_neg hv]
    have hne:(le (T.drop m) != wxxh 0 (T.take m))=true:=by rw [bne_iff_ne];exact hv
    obtain ⟨a,ha⟩:∃ a,a=le (T.drop m):=⟨_,rfl⟩
    obtain ⟨b,hb⟩:∃ b,b=wxxh 0 (T.take m):=⟨_,rfl⟩
    rw [← ha] at HV hne
    rw [← hb] at HS hne
    unfold openOut
    clear hT hL hto htl ho hl ha hb hv hm h8
    go_enter Tryz.func65,Tryz.ntmps65
    go_wp2_with fail
    refine (HU.out _).mono ?_
    rintro e w1 ⟨rfl,hk⟩
    have HK:=hid hk
    clear hk
    go_wp2_with fail
    go_region_with (first
     | (go_at_call 72;refine (HV.out _).mono ?_;rintro e w2 ⟨rfl,rfl⟩)
     | (go_at_call 45;refine (HS.out _).mono ?_;rintro e w2 ⟨rfl,hk⟩;have HK2:=hid ((HK.out.drewN _).trans hk);clear hk))
    all_goals
     go_wp2_with fail
     go_ret2
     first
      | exact ⟨rfl,HK2.out⟩
      | exact ⟨rfl,HK2.out.drewN _⟩
 ·rw [if_pos h0]
  have hne:(y != 0)=true:=by rw [bne_iff_ne];exact h0
  unfold openOut
  clear hT hto htl ho hl hy h0
  go_enter Tryz.func65,Tryz.ntmps65
  go_wp2_with fail
  refine (HU.out _).mono ?_
  rintro e w1 ⟨rfl,hk⟩
  have HK:=hid hk
  clear hk
  go_wp2_with fail
  go_ret2
  exact ⟨rfl,HK.out⟩
end
section
open Go.RowKit
theorem bodyR_length {r:Rec} (h:r.Fine) (h1:r.key.length≤2000000) (h2:r.val.length≤2000000):(bodyR r).length≤31+r.key.length+r.val.length:=by
 have a:=vnum_ten h.seq
 have b:=vnum_ten (x:=r.key.length) (by omega)
 have c:=vnum_ten (x:=r.val.length) (by omega)
 unfold bodyR textB
 split
 ·simp only [List.length_cons,List.length_append];omega
 ·simp only [List.length_cons,List.length_append];omega
set_option maxHeartbeats 800000 in
set_option maxRecDepth 10000 in
theorem record9_ref (r:Rec) (hf:r.Fine) (h1:r.key.length≤2000000) (h2:r.val.length≤2000000) (w:World) :
  Calls Tryz.prog 46 #[recV r] w fun e w'=>e=.returned (.string (strOfNums (sealN (bodyR r))))∧Keeps NoBlock w w':=by
 have HB:=hid (fun w=>body7_ref r hf (by omega) (by omega) w)
 have HS:=hid (fun w=>seal9_ref (bodyR r) (bodyR_octets hf) (by have:=bodyR_length hf h1 h2;omega) w)
 clear hf h1 h2
 unfold recV at *
 go_enter Tryz.func46,Tryz.ntmps46
 go_wp2_with fail
 refine (HB.out _).mono ?_
 rintro e w1 ⟨rfl,hk⟩
 have HK:=hid (((Keeps.refl NoBlock w).alloc _).trans hk)
 clear hk
 go_wp2_with fail
 refine (HS.out _).mono ?_
 rintro e w2 ⟨rfl,hk⟩
 have HK:=hid (HK.out.trans hk)
 clear hk
 go_wp2_with fail
 go_ret
 exact ⟨rfl,HK.out⟩
set_option maxHeartbeats 1600000 in
set_option maxRecDepth 10000 in
theorem getrec9_ref (ys:List Int) (ho:Octets ys) (hl:ys.length≤10000000) (w:World) :
  Calls Tryz.prog 41 #[.string (strOfNums ys)] w fun e w'=>e=.returned (readOut7 (getR ys))∧Keeps NoBlock w w':=by
 have HO:=hid (fun w=>open9_ref ys ho hl w)
 obtain ⟨hb1,hb2⟩:=open_bound ho
 unfold openOut at HO
 unfold getR
 obtain ⟨y,hy⟩:∃ y,y=(openN ys).1:=⟨_,rfl⟩
 obtain ⟨T,hT⟩:∃ T,T=(openN ys).2:=⟨_,rfl⟩
 rw [← hy] at HO ⊢
 rw [← hT] at HO hb1 hb2 ⊢
 clear hy hT
 by_cases h0:y=0
 ·subst h0
  rw [if_neg (by simp)]
  have HR:=hid (fun w=>read7_ref T hb1 (by omega) w)
  obtain ⟨z,hz⟩:∃ z,z=readR T:=⟨_,rfl⟩
  rw [← hz] at HR ⊢
  clear hz hb1 hb2 ho hl
  go_enter Tryz.func41,Tryz.ntmps41
  go_wp2_with fail
  refine (HO.out _).mono ?_
  rintro e w1 ⟨rfl,hk⟩
  have HN0:Hid (Whole w1 w.heap.size 48 (recCells Rec.none)):=hid ((Whole.new w _ (recCells Rec.none)).keep hk (fun h=>h))
  have HK:=hid (((Keeps.refl NoBlock w).alloc _).trans hk)
  clear hk
  go_wp2_with fail
  refine (HR.out _).mono ?_
  rintro e w2 ⟨rfl,hk⟩
  have hN:=HN0.out.keep hk (fun h=>h)
  have HK:=hid (HK.out.trans hk)
  have c0:=hN.cell 0 rfl
  have c1:=hN.cell 1 rfl
  have c2:=hN.cell 2 rfl
  have c3:=hN.cell 3 rfl
  have f0:=hN.free 0
  have f1:=hN.free 1
  have f2:=hN.free 2
  have f3:=hN.free 3
  simp only [recCells,List.getElem_toArray,List.getElem_cons_zero,List.getElem_cons_succ] at c0 c1 c2 c3
  clear hk hN
  unfold readOut7 recV
  go_wp2_with fail
  exact bodyPost_ret (v:=.tuple #[recV z.2,.int .i64 z.1]) (by simp [results,Tryz.results41,go_sem,recV,c0,c1,c2,c3]) rfl ⟨rfl,((((HK.out.setNew (g:=w.heap.size) (Nat.le_refl _) 0 _).setNew (g:=w.heap.size) (Nat.le_refl _) 1 _).setNew (g:=w.heap.size) (Nat.le_refl _) 2 _).setNew (g:=w.heap.size) (Nat.le_refl _) 3 _)⟩
 ·rw [if_pos h0]
  have hne:(y != 0)=true:=by rw [bne_iff_ne];exact h0
  clear hb1 hb2 ho hl h0
  go_enter Tryz.func41,Tryz.ntmps41
  go_wp2_with fail
  refine (HO.out _).mono ?_
  rintro e w1 ⟨rfl,hk⟩
  have hN:Whole w1 w.heap.size 48 (recCells Rec.none):=(Whole.new w _ (recCells Rec.none)).keep hk (fun h=>h)
  have HK:=hid (((Keeps.refl NoBlock w).alloc _).trans hk)
  have c0:=hN.cell 0 rfl
  have c1:=hN.cell 1 rfl
  have c2:=hN.cell 2 rfl
  have c3:=hN.cell 3 rfl
  have f0:=hN.free 0
  have f1:=hN.free 1
  have f2:=hN.free 2
  have f3:=hN.free 3
  simp only [recCells,List.getElem_toArray,List.getElem_cons_zero,List.getElem_cons_succ] at c0 c1 c2 c3
  clear hk hN
  go_wp2_with fail
  exact bodyPost_ret (v:=.tuple #[recV Rec.none,.int .i64 y]) (by simp [results,Tryz.results41,go_sem,recV,Rec.none,c0,c1,c2,c3];rfl) rfl ⟨rfl,((((HK.out.setNew (g:=w.heap.size) (Nat.le_refl _) 0 _).setNew (g:=w.heap.size) (Nat.le_refl _) 1 _).setNew (g:=w.heap.size) (Nat.le_refl _) 2 _).setNew (g:=w.heap.size) (Nat.le_refl _) 3 _)⟩
end
section
open Go.RowKit
theorem wpAnyH_swap {P:Program} {md:Region.Mode} {ops:Array Oper} {Q:Exit→Act→World→Prop} {S S':World→Prop} (h:∀ w,S' w→S w):∀ (fuel:Nat) (listed:Array Bool) (a:Act) (w:World),wpAnyH P md ops Q S' fuel listed a w→wpAnyH P md ops Q S fuel listed a w
 | 0,_,_,_,hh=>hh
 | fuel+1,_,_,_,hh=>⟨hh.1,fun i hi=>wpOp_mono (fun _ _ h'=>⟨h _ h'.1,wpAnyH_swap h fuel _ _ _ h'.2⟩) (hh.2 i hi)⟩
end
section
open Go.RowKit
set_option maxHeartbeats 4000000 in
set_option maxRecDepth 10000 in
theorem head9_ref (e s n:Nat) (he:e<256) (hs:s<4294967296) (hn:n<18446744073709551616) (w:World) :
  Calls Tryz.prog 44 #[confV e s,.int .u64 (n:Int)] w fun r w'=>r=.returned (.string (strOfNums (sealN (headB e s n))))∧Keeps NoBlock w w':=by
 have HNs:=hid (fun w=>num_bytes s (IntKind.u64.wrap (s:Int)) (by rw [IntKind.wrap_u64];omega) (by omega) w)
 have HNn:=hid (fun w=>num_bytes n (n:Int) rfl hn w)
 have HSl:=hid (fun w=>seal9_ref (headB e s n) (headB_octets he) (by have:=headB_length (e:=e) (s:=s) (n:=n) (by omega) hn;omega) w)
 have t1:=vnum_ten (x:=s) (by omega)
 have t2:=vnum_ten hn
 have z1:=str_size (vnum s)
 have z2:=str_size (vnum n)
 have a1:(⟨#[1,2]⟩:ByteArray) ++ strOfNums [(e:Int)]=strOfNums [1,2,(e:Int)]:=str_append [1,2] [(e:Int)]
 have a2:strOfNums [1,2,(e:Int)] ++ strOfNums (vnum s)=strOfNums (1 :: 2 :: (e:Int) :: vnum s):=str_append [1,2,(e:Int)] (vnum s)
 have a3:strOfNums (1 :: 2 :: (e:Int) :: vnum s) ++ strOfNums (vnum n)=strOfNums (headB e s n):=str_append (1 :: 2 :: (e:Int) :: vnum s) (vnum n)
 have z3:(⟨#[1,2]⟩:ByteArray).size=2:=rfl
 have z4:(strOfNums [(e:Int)]).size=1:=str_size _
 have z5:(strOfNums [1,2,(e:Int)]).size=3:=str_size _
 have z6:(strOfNums (1 :: 2 :: (e:Int) :: vnum s)).size=3+(vnum s).length:=by rw [str_size];simp;omega
 have HWc:=hid (Whole.new w 27 (confCells e s))
 obtain ⟨S,hS⟩:∃ S,S=vnum s:=⟨_,rfl⟩
 obtain ⟨N,hN⟩:∃ N,N=vnum n:=⟨_,rfl⟩
 obtain ⟨B,hB⟩:∃ B,B=headB e s n:=⟨_,rfl⟩
 rw [← hS] at HNs t1 z1 a2 a3 z6
 rw [← hN] at HNn t2 z2 a3
 rw [← hB] at HSl a3 ⊢
 clear hS hN hB he hs hn
 have r1:¬ 9223372036854775807<2+1:=by decide
 have r2:¬ 9223372036854775807<3+S.length:=by omega
 have r3:¬ 9223372036854775807<3+S.length+N.length:=by omega
 unfold confV
 go_enter Tryz.func44,Tryz.ntmps44
 go_wp2_with fail
 obtain ⟨W,hW⟩:∃ W,W=w.alloc (.cells #[.int .u8 (e:Int),.int .u32 (s:Int)] 27):=⟨_,rfl⟩
 have HC:Hid (Whole W w.heap.size 27 (confCells e s)):=hid (by rw [hW];exact HWc.out)
 have HK:Hid (Keeps NoBlock w W):=hid (by rw [hW];exact (Keeps.refl _ _).alloc _)
 rw [← hW]
 clear hW HWc
 have HC:Hid (Whole W.drew w.heap.size 27 (confCells e s)):=hid (HC.out.drewN 1)
 have HK:Hid (Keeps NoBlock w W.drew):=hid (HK.out.drewN 1)
 have s0:=And.intro (HC.out.cell 0 rfl) (HC.out.cell 1 rfl)
 simp only [confCells,List.getElem_toArray,List.getElem_cons_zero,List.getElem_cons_succ] at s0
 refine wp_region_held_drew (S:=fun w'=>w'.cell? ⟨w.heap.size,0,none⟩=some (.int .u8 (e:Int))∧w'.cell? ⟨w.heap.size,1,none⟩=some (.int .u32 (s:Int))) (by kernel_rfl) s0 (fun hHeld=>?_)
 refine wpAnyH_take (i:=0) (v:=?vT1) rfl ?aT1 ?bT1 ?cT1 ?dT1 (Or.inl ⟨?eT1,?fT1⟩) hHeld ?gT1
 case fT1=>intro w hSw;(try dsimp only at hSw);go_simp;(try with_reducible rfl)
 case aT1=>kernel_rfl
 case bT1=>kernel_rfl
 case cT1=>kernel_rfl
 case dT1=>exact fun _ _ _ h=>h
 case eT1=>rfl
 simp only [Act.put,List.getElem_toArray,List.getElem_cons_zero,List.setIfInBounds_toArray,List.set_cons_zero,List.set_cons_succ]
 refine wpAnyH_take (i:=1) (v:=?vT2) rfl ?aT2 ?bT2 ?cT2 ?dT2 (Or.inl ⟨?eT2,?fT2⟩) hHeld ?gT2
 case fT2=>intro w hSw;(try dsimp only at hSw);go_simp;(try with_reducible rfl)
 case aT2=>kernel_rfl
 case bT2=>kernel_rfl
 case cT2=>kernel_rfl
 case dT2=>exact fun _ _ _ h=>h
 case eT2=>rfl
 simp only [Act.put,List.getElem_toArray,List.getElem_cons_zero,List.getElem_cons_succ,List.setIfInBounds_toArray,List.set_cons_zero,List.set_cons_succ]
 refine wpAnyH_take (i:=5) (v:=?vT3) rfl ?aT3 ?bT3 ?cT3 ?dT3 (Or.inl ⟨?eT3,?fT3⟩) hHeld ?gT3
 case fT3=>intro w hSw;(try dsimp only at hSw);go_simp;(try with_reducible rfl)
 case aT3=>kernel_rfl
 case bT3=>kernel_rfl
 case cT3=>kernel_rfl
 case dT3=>exact fun _ _ _ h=>h
 case eT3=>rfl
 simp only [Act.put,List.getElem_toArray,List.getElem_cons_zero,List.getElem_cons_succ,List.setIfInBounds_toArray,List.set_cons_zero,List.set_cons_succ]
 refine wpAnyH_take (i:=6) (v:=?vT4) rfl ?aT4 ?bT4 ?cT4 ?dT4 (Or.inl ⟨?eT4,?fT4⟩) hHeld ?gT4
 case fT4=>intro w hSw;(try dsimp only at hSw);go_simp;(try with_reducible rfl)
 case aT4=>kernel_rfl
 case bT4=>kernel_rfl
 case cT4=>kernel_rfl
 case dT4=>exact fun _ _ _ h=>h
 case eT4=>rfl
 simp only [Act.put,List.getElem_toArray,List.getElem_cons_zero,List.getElem_cons_succ,List.setIfInBounds_toArray,List.set_cons_zero,List.set_cons_succ]
 refine wpAnyH_take (i:=7) (v:=?vT5) rfl ?aT5 ?bT5 ?cT5 ?dT5 (Or.inl ⟨?eT5,?fT5⟩) hHeld ?gT5
 case fT5=>intro w hSw;(try dsimp only at hSw);go_simp;(try with_reducible rfl)
 case aT5=>kernel_rfl
 case bT5=>kernel_rfl
 case cT5=>kernel_rfl
 case dT5=>exact fun _ _ _ h=>h
 case eT5=>rfl
 simp only [Act.put,List.getElem_toArray,List.getElem_cons_zero,List.getElem_cons_succ,List.setIfInBounds_toArray,List.set_cons_zero,List.set_cons_succ]
 refine wpAnyH_take (i:=10) (v:=?vT6) rfl ?aT6 ?bT6 ?cT6 ?dT6 (Or.inl ⟨?eT6,?fT6⟩) hHeld ?gT6
 case fT6=>intro w hSw;(try dsimp only at hSw);go_simp;(try with_reducible rfl)
 case aT6=>kernel_rfl
 case bT6=>kernel_rfl
 case cT6=>kernel_rfl
 case dT6=>exact fun _ _ _ h=>h
 case eT6=>rfl
 simp only [Act.put,List.getElem_toArray,List.getElem_cons_zero,List.getElem_cons_succ,List.setIfInBounds_toArray,List.set_cons_zero,List.set_cons_succ]
 refine wpAnyH_ready (rs:=[2,8]) (by kernel_rfl) (by simp) ?_
 refine (AllReadyH.cons (o:=_) rfl (fun K hK=>?_) (AllReadyH.cons (o:=_) rfl (fun K hK=>?_) AllReadyH.nil))
 ·go_simp
  have HC:=hid (HC.out.alloc (.cells #[.int .u8 (e:Int)] 5))
  have HK:=hid (HK.out.alloc (.cells #[.int .u8 (e:Int)] 5))
  have HNB:Hid (Whole (W.drew.alloc (.cells #[.int .u8 (e:Int)] 5)) W.heap.size 5 #[.int .u8 (e:Int)]):=hid (Whole.new _ _ _)
  refine hK.out _ _ (And.intro (HC.out.cell 0 rfl) (HC.out.cell 1 rfl)) (fun _=>?_)
  clear hK K
  refine wpAnyH_swap (S':=fun w'=>(w'.cell? ⟨w.heap.size,0,none⟩=some (.int .u8 (e:Int))∧w'.cell? ⟨w.heap.size,1,none⟩=some (.int .u32 (s:Int)))∧(convert 29 9 (.slice (some ⟨W.heap.size,0,none⟩) 1 1)).run Tryz.prog w'=.ok (.string (strOfNums [(e:Int)])) w') (fun _ h=>h.1) _ _ _ _ ?_
  have hS:((fun w'=>w'.cell? ⟨w.heap.size,0,none⟩=some (.int .u8 (e:Int))∧w'.cell? ⟨w.heap.size,1,none⟩=some (.int .u32 (s:Int))) (W.drew.alloc (.cells #[.int .u8 (e:Int)] 5)))∧((fun w'=>(convert 29 9 (.slice (some ⟨W.heap.size,0,none⟩) 1 1)).run Tryz.prog w'=.ok (.string (strOfNums [(e:Int)])) w') (W.drew.alloc (.cells #[.int .u8 (e:Int)] 5))):=And.intro (And.intro (HC.out.cell 0 rfl) (HC.out.cell 1 rfl)) (one_conv HNB.out)
  refine wpAnyH_take (i:=3) (v:=?vT7) rfl ?aT7 ?bT7 ?cT7 ?dT7 (Or.inl ⟨?eT7,?fT7⟩) hS ?gT7
  case fT7=>intro w hSw;(try dsimp only at hSw);go_simp;(try with_reducible rfl)
  case aT7=>kernel_rfl
  case bT7=>kernel_rfl
  case cT7=>kernel_rfl
  case dT7=>exact fun _ _ _ h=>h
  case eT7=>rfl
  simp only [Act.put,List.getElem_toArray,List.getElem_cons_zero,List.getElem_cons_succ,List.setIfInBounds_toArray,List.set_cons_zero,List.set_cons_succ]
  refine wpAnyH_take (i:=4) (v:=?vT8) rfl ?aT8 ?bT8 ?cT8 ?dT8 (Or.inl ⟨?eT8,?fT8⟩) hS ?gT8
  case fT8=>intro w hSw;(try dsimp only at hSw);go_simp;(try with_reducible rfl)
  case aT8=>kernel_rfl
  case bT8=>kernel_rfl
  case cT8=>kernel_rfl
  case dT8=>exact fun _ _ _ h=>h
  case eT8=>rfl
  simp only [Act.put,List.getElem_toArray,List.getElem_cons_zero,List.getElem_cons_succ,List.setIfInBounds_toArray,List.set_cons_zero,List.set_cons_succ]
  refine wpAnyH_ready (rs:=[8]) (by kernel_rfl) (by simp) ?_
  refine (AllReadyH.cons (o:=_) rfl (fun K hK=>?_) AllReadyH.nil)
  go_simp
  refine (HNs.out _).mono ?_
  rintro r w5 ⟨rfl,hk⟩
  have hk2:Keeps NoBlock (W.drew.alloc (.cells #[.int .u8 (e:Int)] 5)) w5:=by first|exact hk|exact hk.ofDrew|exact hk.ofDrewN
  have HC:=hid (HC.out.keep hk2 (fun h=>h))
  have HK:=hid (HK.out.trans hk2)
  have HNB:=hid (HNB.out.keep hk2 (fun h=>h))
  have hS:((fun w'=>w'.cell? ⟨w.heap.size,0,none⟩=some (.int .u8 (e:Int))∧w'.cell? ⟨w.heap.size,1,none⟩=some (.int .u32 (s:Int))) w5)∧((fun w'=>(convert 29 9 (.slice (some ⟨W.heap.size,0,none⟩) 1 1)).run Tryz.prog w'=.ok (.string (strOfNums [(e:Int)])) w') w5):=And.intro (And.intro (HC.out.cell 0 rfl) (HC.out.cell 1 rfl)) (one_conv HNB.out)
  clear hk hk2
  go_wp2_with fail
  refine hK.out _ _ hS (fun _=>?_)
  clear hK K
  refine wpAnyH_take (i:=9) (v:=?vT9) rfl ?aT9 ?bT9 ?cT9 ?dT9 (Or.inl ⟨?eT9,?fT9⟩) hS ?gT9
  case fT9=>intro w hSw;(try dsimp only at hSw);go_simp;(try with_reducible rfl)
  case aT9=>kernel_rfl
  case bT9=>kernel_rfl
  case cT9=>kernel_rfl
  case dT9=>exact fun _ _ _ h=>h
  case eT9=>rfl
  simp only [Act.put,List.getElem_toArray,List.getElem_cons_zero,List.getElem_cons_succ,List.setIfInBounds_toArray,List.set_cons_zero,List.set_cons_succ]
  refine wpAnyH_ready (rs:=[11]) (by kernel_rfl) (by simp) ?_
  refine (AllReadyH.cons (o:=_) rfl (fun K hK=>?_) AllReadyH.nil)
  go_simp
  refine (HNn.out _).mono ?_
  rintro r w6 ⟨rfl,hk⟩
  have hk2:Keeps NoBlock w5 w6:=by first|exact hk|exact hk.ofDrew|exact hk.ofDrewN
  have HC:=hid (HC.out.keep hk2 (fun h=>h))
  have HK:=hid (HK.out.trans hk2)
  have HNB:=hid (HNB.out.keep hk2 (fun h=>h))
  have hS:((fun w'=>w'.cell? ⟨w.heap.size,0,none⟩=some (.int .u8 (e:Int))∧w'.cell? ⟨w.heap.size,1,none⟩=some (.int .u32 (s:Int))) w6)∧((fun w'=>(convert 29 9 (.slice (some ⟨W.heap.size,0,none⟩) 1 1)).run Tryz.prog w'=.ok (.string (strOfNums [(e:Int)])) w') w6):=And.intro (And.intro (HC.out.cell 0 rfl) (HC.out.cell 1 rfl)) (one_conv HNB.out)
  clear hk hk2
  go_wp2_with fail
  refine hK.out _ _ hS (fun _=>?_)
  clear hK K
  refine wpAnyH_take (i:=12) (v:=?vT10) rfl ?aT10 ?bT10 ?cT10 ?dT10 (Or.inl ⟨?eT10,?fT10⟩) hS ?gT10
  case fT10=>intro w hSw;(try dsimp only at hSw);go_simp;(try with_reducible rfl)
  case aT10=>kernel_rfl
  case bT10=>kernel_rfl
  case cT10=>kernel_rfl
  case dT10=>exact fun _ _ _ h=>h
  case eT10=>rfl
  simp only [Act.put,List.getElem_toArray,List.getElem_cons_zero,List.getElem_cons_succ,List.setIfInBounds_toArray,List.set_cons_zero,List.set_cons_succ]
  refine wpAnyH_ready (rs:=[13]) (by kernel_rfl) (by simp) ?_
  refine (AllReadyH.cons (o:=_) rfl (fun K hK=>?_) AllReadyH.nil)
  go_simp
  refine (HSl.out _).mono ?_
  rintro r w7 ⟨rfl,hk⟩
  have hk2:Keeps NoBlock w6 w7:=by first|exact hk|exact hk.ofDrew|exact hk.ofDrewN
  have HC:=hid (HC.out.keep hk2 (fun h=>h))
  have HK:=hid (HK.out.trans hk2)
  have HNB:=hid (HNB.out.keep hk2 (fun h=>h))
  have hS:((fun w'=>w'.cell? ⟨w.heap.size,0,none⟩=some (.int .u8 (e:Int))∧w'.cell? ⟨w.heap.size,1,none⟩=some (.int .u32 (s:Int))) w7)∧((fun w'=>(convert 29 9 (.slice (some ⟨W.heap.size,0,none⟩) 1 1)).run Tryz.prog w'=.ok (.string (strOfNums [(e:Int)])) w') w7):=And.intro (And.intro (HC.out.cell 0 rfl) (HC.out.cell 1 rfl)) (one_conv HNB.out)
  clear hk hk2
  go_wp2_with fail
  refine hK.out _ _ hS (fun _=>?_)
  clear hK K
  refine wpAnyH_take (i:=14) (v:=?vT11) rfl ?aT11 ?bT11 ?cT11 ?dT11 (Or.inl ⟨?eT11,?fT11⟩) hS ?gT11
  case fT11=>intro w hSw;(try dsimp only at hSw);go_simp;(try with_reducible rfl)
  case aT11=>kernel_rfl
  case bT11=>kernel_rfl
  case cT11=>kernel_rfl
  case dT11=>exact fun _ _ _ h=>h
  case eT11=>rfl
  simp only [Act.put,List.getElem_toArray,List.getElem_cons_zero,List.getElem_cons_succ,List.setIfInBounds_toArray,List.set_cons_zero,List.set_cons_succ]
  refine wpAnyH_done (by kernel_rfl) ?_ _
  go_wp2_with fail
  go_ret
  exact ⟨rfl,HK.out⟩
 ·go_simp
  refine (HNs.out _).mono ?_
  rintro r w8 ⟨rfl,hk⟩
  have hk2:Keeps NoBlock W.drew w8:=by first|exact hk|exact hk.ofDrew|exact hk.ofDrewN
  have HC:=hid (HC.out.keep hk2 (fun h=>h))
  have HK:=hid (HK.out.trans hk2)
  have hS:(fun w'=>w'.cell? ⟨w.heap.size,0,none⟩=some (.int .u8 (e:Int))∧w'.cell? ⟨w.heap.size,1,none⟩=some (.int .u32 (s:Int))) w8:=And.intro (HC.out.cell 0 rfl) (HC.out.cell 1 rfl)
  clear hk hk2
  go_wp2_with fail
  refine hK.out _ _ hS (fun _=>?_)
  clear hK K
  refine wpAnyH_ready (rs:=[2,11]) (by kernel_rfl) (by simp) ?_
  refine (AllReadyH.cons (o:=_) rfl (fun K hK=>?_) (AllReadyH.cons (o:=_) rfl (fun K hK=>?_) AllReadyH.nil))
  ·go_simp
   have HC:=hid (HC.out.alloc (.cells #[.int .u8 (e:Int)] 5))
   have HK:=hid (HK.out.alloc (.cells #[.int .u8 (e:Int)] 5))
   have HNB:Hid (Whole (w8.alloc (.cells #[.int .u8 (e:Int)] 5)) w8.heap.size 5 #[.int .u8 (e:Int)]):=hid (Whole.new _ _ _)
   refine hK.out _ _ (And.intro (HC.out.cell 0 rfl) (HC.out.cell 1 rfl)) (fun _=>?_)
   clear hK K
   refine wpAnyH_swap (S':=fun w'=>(w'.cell? ⟨w.heap.size,0,none⟩=some (.int .u8 (e:Int))∧w'.cell? ⟨w.heap.size,1,none⟩=some (.int .u32 (s:Int)))∧(convert 29 9 (.slice (some ⟨w8.heap.size,0,none⟩) 1 1)).run Tryz.prog w'=.ok (.string (strOfNums [(e:Int)])) w') (fun _ h=>h.1) _ _ _ _ ?_
   have hS:((fun w'=>w'.cell? ⟨w.heap.size,0,none⟩=some (.int .u8 (e:Int))∧w'.cell? ⟨w.heap.size,1,none⟩=some (.int .u32 (s:Int))) (w8.alloc (.cells #[.int .u8 (e:Int)] 5)))∧((fun w'=>(convert 29 9 (.slice (some ⟨w8.heap.size,0,none⟩) 1 1)).run Tryz.prog w'=.ok (.string (strOfNums [(e:Int)])) w') (w8.alloc (.cells #[.int .u8 (e:Int)] 5))):=And.intro (And.intro (HC.out.cell 0 rfl) (HC.out.cell 1 rfl)) (one_conv HNB.out)
   refine wpAnyH_take (i:=3) (v:=?vT12) rfl ?aT12 ?bT12 ?cT12 ?dT12 (Or.inl ⟨?eT12,?fT12⟩) hS ?gT12
   case fT12=>intro w hSw;(try dsimp only at hSw);go_simp;(try with_reducible rfl)
   case aT12=>kernel_rfl
   case bT12=>kernel_rfl
   case cT12=>kernel_rfl
   case dT12=>exact fun _ _ _ h=>h
   case eT12=>rfl
   simp only [Act.put,List.getElem_toArray,List.getElem_cons_zero,List.getElem_cons_succ,List.setIfInBounds_toArray,List.set_cons_zero,List.set_cons_succ]
   refine wpAnyH_take (i:=4) (v:=?vT13) rfl ?aT13 ?bT13 ?cT13 ?dT13 (Or.inl ⟨?eT13,?fT13⟩) hS ?gT13
   case fT13=>intro w hSw;(try dsimp only at hSw);go_simp;(try with_reducible rfl)
   case aT13=>kernel_rfl
   case bT13=>kernel_rfl
   case cT13=>kernel_rfl
   case dT13=>exact fun _ _ _ h=>h
   case eT13=>rfl
   simp only [Act.put,List.getElem_toArray,List.getElem_cons_zero,List.getElem_cons_succ,List.setIfInBounds_toArray,List.set_cons_zero,List.set_cons_succ]
   refine wpAnyH_take (i:=9) (v:=?vT14) rfl ?aT14 ?bT14 ?cT14 ?dT14 (Or.inl ⟨?eT14,?fT14⟩) hS ?gT14
   case fT14=>intro w hSw;(try dsimp only at hSw);go_simp;(try with_reducible rfl)
   case aT14=>kernel_rfl
   case bT14=>kernel_rfl
   case cT14=>kernel_rfl
   case dT14=>exact fun _ _ _ h=>h
   case eT14=>rfl
   simp only [Act.put,List.getElem_toArray,List.getElem_cons_zero,List.getElem_cons_succ,List.setIfInBounds_toArray,List.set_cons_zero,List.set_cons_succ]
   refine wpAnyH_ready (rs:=[11]) (by kernel_rfl) (by simp) ?_
   refine (AllReadyH.cons (o:=_) rfl (fun K hK=>?_) AllReadyH.nil)
   go_simp
   refine (HNn.out _).mono ?_
   rintro r w9 ⟨rfl,hk⟩
   have hk2:Keeps NoBlock (w8.alloc (.cells #[.int .u8 (e:Int)] 5)) w9:=by first|exact hk|exact hk.ofDrew|exact hk.ofDrewN
   have HC:=hid (HC.out.keep hk2 (fun h=>h))
   have HK:=hid (HK.out.trans hk2)
   have HNB:=hid (HNB.out.keep hk2 (fun h=>h))
   have hS:((fun w'=>w'.cell? ⟨w.heap.size,0,none⟩=some (.int .u8 (e:Int))∧w'.cell? ⟨w.heap.size,1,none⟩=some (.int .u32 (s:Int))) w9)∧((fun w'=>(convert 29 9 (.slice (some ⟨w8.heap.size,0,none⟩) 1 1)).run Tryz.prog w'=.ok (.string (strOfNums [(e:Int)])) w') w9):=And.intro (And.intro (HC.out.cell 0 rfl) (HC.out.cell 1 rfl)) (one_conv HNB.out)
   clear hk hk2
   go_wp2_with fail
   refine hK.out _ _ hS (fun _=>?_)
   clear hK K
   refine wpAnyH_take (i:=12) (v:=?vT15) rfl ?aT15 ?bT15 ?cT15 ?dT15 (Or.inl ⟨?eT15,?fT15⟩) hS ?gT15
   case fT15=>intro w hSw;(try dsimp only at hSw);go_simp;(try with_reducible rfl)
   case aT15=>kernel_rfl
   case bT15=>kernel_rfl
   case cT15=>kernel_rfl
   case dT15=>exact fun _ _ _ h=>h
   case eT15=>rfl
   simp only [Act.put,List.getElem_toArray,List.getElem_cons_zero,List.getElem_cons_succ,List.setIfInBounds_toArray,List.set_cons_zero,List.set_cons_succ]
   refine wpAnyH_ready (rs:=[13]) (by kernel_rfl) (by simp) ?_
   refine (AllReadyH.cons (o:=_) rfl (fun K hK=>?_) AllReadyH.nil)
   go_simp
   refine (HSl.out _).mono ?_
   rintro r w10 ⟨rfl,hk⟩
   have hk2:Keeps NoBlock w9 w10:=by first|exact hk|exact hk.ofDrew|exact hk.ofDrewN
   have HC:=hid (HC.out.keep hk2 (fun h=>h))
   have HK:=hid (HK.out.trans hk2)
   have HNB:=hid (HNB.out.keep hk2 (fun h=>h))
   have hS:((fun w'=>w'.cell? ⟨w.heap.size,0,none⟩=some (.int .u8 (e:Int))∧w'.cell? ⟨w.heap.size,1,none⟩=some (.int .u32 (s:Int))) w10)∧((fun w'=>(convert 29 9 (.slice (some ⟨w8.heap.size,0,none⟩) 1 1)).run Tryz.prog w'=.ok (.string (strOfNums [(e:Int)])) w') w10):=And.intro (And.intro (HC.out.cell 0 rfl) (HC.out.cell 1 rfl)) (one_conv HNB.out)
   clear hk hk2
   go_wp2_with fail
   refine hK.out _ _ hS (fun _=>?_)
   clear hK K
   refine wpAnyH_take (i:=14) (v:=?vT16) rfl ?aT16 ?bT16 ?cT16 ?dT16 (Or.inl ⟨?eT16,?fT16⟩) hS ?gT16
   case fT16=>intro w hSw;(try dsimp only at hSw);go_simp;(try with_reducible rfl)
   case aT16=>kernel_rfl
   case bT16=>kernel_rfl
   case cT16=>kernel_rfl
   case dT16=>exact fun _ _ _ h=>h
   case eT16=>rfl
   simp only [Act.put,List.getElem_toArray,List.getElem_cons_zero,List.getElem_cons_succ,List.setIfInBounds_toArray,List.set_cons_zero,List.set_cons_succ]
   refine wpAnyH_done (by kernel_rfl) ?_ _
   go_wp2_with fail
   go_ret
   exact ⟨rfl,HK.out⟩
  ·go_simp
   refine (HNn.out _).mono ?_
   rintro r w11 ⟨rfl,hk⟩
   have hk2:Keeps NoBlock w8 w11:=by first|exact hk|exact hk.ofDrew|exact hk.ofDrewN
   have HC:=hid (HC.out.keep hk2 (fun h=>h))
   have HK:=hid (HK.out.trans hk2)
   have hS:(fun w'=>w'.cell? ⟨w.heap.size,0,none⟩=some (.int .u8 (e:Int))∧w'.cell? ⟨w.heap.size,1,none⟩=some (.int .u32 (s:Int))) w11:=And.intro (HC.out.cell 0 rfl) (HC.out.cell 1 rfl)
   clear hk hk2
   go_wp2_with fail
   refine hK.out _ _ hS (fun _=>?_)
   clear hK K
   refine wpAnyH_ready (rs:=[2]) (by kernel_rfl) (by simp) ?_
   refine (AllReadyH.cons (o:=_) rfl (fun K hK=>?_) AllReadyH.nil)
   go_simp
   have HC:=hid (HC.out.alloc (.cells #[.int .u8 (e:Int)] 5))
   have HK:=hid (HK.out.alloc (.cells #[.int .u8 (e:Int)] 5))
   have HNB:Hid (Whole (w11.alloc (.cells #[.int .u8 (e:Int)] 5)) w11.heap.size 5 #[.int .u8 (e:Int)]):=hid (Whole.new _ _ _)
   refine hK.out _ _ (And.intro (HC.out.cell 0 rfl) (HC.out.cell 1 rfl)) (fun _=>?_)
   clear hK K
   refine wpAnyH_swap (S':=fun w'=>(w'.cell? ⟨w.heap.size,0,none⟩=some (.int .u8 (e:Int))∧w'.cell? ⟨w.heap.size,1,none⟩=some (.int .u32 (s:Int)))∧(convert 29 9 (.slice (some ⟨w11.heap.size,0,none⟩) 1 1)).run Tryz.prog w'=.ok (.string (strOfNums [(e:Int)])) w') (fun _ h=>h.1) _ _ _ _ ?_
   have hS:((fun w'=>w'.cell? ⟨w.heap.size,0,none⟩=some (.int .u8 (e:Int))∧w'.cell? ⟨w.heap.size,1,none⟩=some (.int .u32 (s:Int))) (w11.alloc (.cells #[.int .u8 (e:Int)] 5)))∧((fun w'=>(convert 29 9 (.slice (some ⟨w11.heap.size,0,none⟩) 1 1)).run Tryz.prog w'=.ok (.string (strOfNums [(e:Int)])) w') (w11.alloc (.cells #[.int .u8 (e:Int)] 5))):=And.intro (And.intro (HC.out.cell 0 rfl) (HC.out.cell 1 rfl)) (one_conv HNB.out)
   refine wpAnyH_take (i:=3) (v:=?vT17) rfl ?aT17 ?bT17 ?cT17 ?dT17 (Or.inl ⟨?eT17,?fT17⟩) hS ?gT17
   case fT17=>intro w hSw;(try dsimp only at hSw);go_simp;(try with_reducible rfl)
   case aT17=>kernel_rfl
   case bT17=>kernel_rfl
   case cT17=>kernel_rfl
   case dT17=>exact fun _ _ _ h=>h
   case eT17=>rfl
   simp only [Act.put,List.getElem_toArray,List.getElem_cons_zero,List.getElem_cons_succ,List.setIfInBounds_toArray,List.set_cons_zero,List.set_cons_succ]
   refine wpAnyH_take (i:=4) (v:=?vT18) rfl ?aT18 ?bT18 ?cT18 ?dT18 (Or.inl ⟨?eT18,?fT18⟩) hS ?gT18
   case fT18=>intro w hSw;(try dsimp only at hSw);go_simp;(try with_reducible rfl)
   case aT18=>kernel_rfl
   case bT18=>kernel_rfl
   case cT18=>kernel_rfl
   case dT18=>exact fun _ _ _ h=>h
   case eT18=>rfl
   simp only [Act.put,List.getElem_toArray,List.getElem_cons_zero,List.getElem_cons_succ,List.setIfInBounds_toArray,List.set_cons_zero,List.set_cons_succ]
   refine wpAnyH_take (i:=9) (v:=?vT19) rfl ?aT19 ?bT19 ?cT19 ?dT19 (Or.inl ⟨?eT19,?fT19⟩) hS ?gT19
   case fT19=>intro w hSw;(try dsimp only at hSw);go_simp;(try with_reducible rfl)
   case aT19=>kernel_rfl
   case bT19=>kernel_rfl
   case cT19=>kernel_rfl
   case dT19=>exact fun _ _ _ h=>h
   case eT19=>rfl
   simp only [Act.put,List.getElem_toArray,List.getElem_cons_zero,List.getElem_cons_succ,List.setIfInBounds_toArray,List.set_cons_zero,List.set_cons_succ]
   refine wpAnyH_take (i:=12) (v:=?vT20) rfl ?aT20 ?bT20 ?cT20 ?dT20 (Or.inl ⟨?eT20,?fT20⟩) hS ?gT20
   case fT20=>intro w hSw;(try dsimp only at hSw);go_simp;(try with_reducible rfl)
   case aT20=>kernel_rfl
   case bT20=>kernel_rfl
   case cT20=>kernel_rfl
   case dT20=>exact fun _ _ _ h=>h
   case eT20=>rfl
   simp only [Act.put,List.getElem_toArray,List.getElem_cons_zero,List.getElem_cons_succ,List.setIfInBounds_toArray,List.set_cons_zero,List.set_cons_succ]
   refine wpAnyH_ready (rs:=[13]) (by kernel_rfl) (by simp) ?_
   refine (AllReadyH.cons (o:=_) rfl (fun K hK=>?_) AllReadyH.nil)
   go_simp
   refine (HSl.out _).mono ?_
   rintro r w12 ⟨rfl,hk⟩
   have hk2:Keeps NoBlock (w11.alloc (.cells #[.int .u8 (e:Int)] 5)) w12:=by first|exact hk|exact hk.ofDrew|exact hk.ofDrewN
   have HC:=hid (HC.out.keep hk2 (fun h=>h))
   have HK:=hid (HK.out.trans hk2)
   have HNB:=hid (HNB.out.keep hk2 (fun h=>h))
   have hS:((fun w'=>w'.cell? ⟨w.heap.size,0,none⟩=some (.int .u8 (e:Int))∧w'.cell? ⟨w.heap.size,1,none⟩=some (.int .u32 (s:Int))) w12)∧((fun w'=>(convert 29 9 (.slice (some ⟨w11.heap.size,0,none⟩) 1 1)).run Tryz.prog w'=.ok (.string (strOfNums [(e:Int)])) w') w12):=And.intro (And.intro (HC.out.cell 0 rfl) (HC.out.cell 1 rfl)) (one_conv HNB.out)
   clear hk hk2
   go_wp2_with fail
   refine hK.out _ _ hS (fun _=>?_)
   clear hK K
   refine wpAnyH_take (i:=14) (v:=?vT21) rfl ?aT21 ?bT21 ?cT21 ?dT21 (Or.inl ⟨?eT21,?fT21⟩) hS ?gT21
   case fT21=>intro w hSw;(try dsimp only at hSw);go_simp;(try with_reducible rfl)
   case aT21=>kernel_rfl
   case bT21=>kernel_rfl
   case cT21=>kernel_rfl
   case dT21=>exact fun _ _ _ h=>h
   case eT21=>rfl
   simp only [Act.put,List.getElem_toArray,List.getElem_cons_zero,List.getElem_cons_succ,List.setIfInBounds_toArray,List.set_cons_zero,List.set_cons_succ]
   refine wpAnyH_done (by kernel_rfl) ?_ _
   go_wp2_with fail
   go_ret
   exact ⟨rfl,HK.out⟩
end
section
open Go.RowKit
def RecsAt (w:World) (p:Option Addr) (l:List Rec):Prop :=
 ∀ i,i<l.length→∃ a:Addr,p=some a∧w.cell? (a.add (i*4))=some (.bool (l.getD i Rec.none).del)∧w.cell? ⟨(a.add (i*4)).block,(a.add (i*4)).off+1,none⟩=some (.int .u64 ((l.getD i Rec.none).seq:Int)) ∧
  w.cell? ⟨(a.add (i*4)).block,(a.add (i*4)).off+2,none⟩=some (.string (strOfNums (l.getD i Rec.none).key))∧w.cell? ⟨(a.add (i*4)).block,(a.add (i*4)).off+3,none⟩=some (.string (strOfNums (l.getD i Rec.none).val))
theorem RecsAt.keep {w w':World} {p:Option Addr} {l:List Rec} (h:RecsAt w p l) {S:Nat→Prop} (hk:Keeps S w w') (hs:∀ k,k<w.heap.size→¬ S k):RecsAt w' p l:=fun i hi=>by
 obtain ⟨a,rfl,c0,c1,c2,c3⟩:=h i hi
 exact ⟨a,rfl,hk.cell c0 (hs _ (ltOfCell c0)),hk.cell c1 (hs _ (ltOfCell c1)),hk.cell c2 (hs _ (ltOfCell c2)),hk.cell c3 (hs _ (ltOfCell c3))⟩
def littleR (bytes:Nat) (r:Rec):Bool:=decide (r.key.length≤bytes) && decide (r.val.length≤bytes)
def fewR (l:List Rec) (most bytes:Nat):Bool:=l.all (littleR bytes) && decide (l.length≤most)
theorem all_take_succ {l:List Rec} {b j:Nat} (hj:j<l.length):(l.take (j+1)).all (littleR b)=((l.take j).all (littleR b) && littleR b (l.getD j Rec.none)):=by
 rw [List.take_succ_eq_append_getElem hj,List.all_append]
 simp [hj]
set_option maxHeartbeats 2000000 in
set_option maxRecDepth 10000 in
theorem few_any (p:Option Addr) (n c:Nat) (l:List Rec) (most bytes:Nat) (zm zb:Int) (hzm:zm=(most:Int)) (hzb:zb=(bytes:Int)) (hn:n=l.length) (hn9:n≤9223372036854775807) (hs:∀ r ∈ l,r.key.length≤9223372036854775807∧r.val.length≤9223372036854775807) (w:World) (hl:RecsAt w p l) :
  Calls Tryz.prog 7 #[.slice p n c,.int .i64 zm,.int .i64 zb] w fun e w'=>e=.returned (.bool (fewR l most bytes))∧Keeps NoBlock w w':=by
 subst hzm
 subst hzb
 have HL:=hid hl
 have HN:=hid hn
 have HS:=hid hs
 clear hl hn hs
 go_enter Tryz.func7,Tryz.ntmps7
 go_wp2_with fail
 go_loopw [11] (fun i wr=>∃ j:Nat,j≤n∧i=.int .i64 (j:Int)∧(l.take j).all (littleR bytes)=true∧Keeps NoBlock w wr) (fun i _=>n - (intOf i).toNat)
 case atStart=>exact ⟨0,Nat.zero_le _,rfl,by simp,Keeps.refl _ _⟩
 case round =>
  obtain ⟨j,hj,rfl,hall,hk⟩:=hrel
  have HK:=hid hk
  have HA:=hid hall
  clear hk hall
  by_cases hlt:j<n
  ·have hdj:decide ((j:Int)<(n:Int))=true:=decide_eq_true (by omega)
   have hjl:j<l.length:=by rw [← HN.out];exact hlt
   obtain ⟨a,rfl,c0,c1,c2,c3⟩:=(HL.out.keep HK.out (fun _ _ h=>h)) j hjl
   have hmem:l.getD j Rec.none ∈ l:=by simp [hjl]
   have hsr:=HS.out _ hmem
   have HT:=hid (all_take_succ (b:=bytes) hjl)
   obtain ⟨r,hr⟩:∃ r,r=l.getD j Rec.none:=⟨_,rfl⟩
   rw [← hr] at c0 c1 c2 c3 hsr HT
   have hk1:=str_size r.key
   have hv1:=str_size r.val
   have hbad:littleR bytes r=false→fewR l most bytes=false:=fun h=>by
    unfold fewR
    have:l.all (littleR bytes)=false:=by
     rw [Bool.eq_false_iff]
     intro ha
     have:=List.all_eq_true.1 ha r (by rw [hr];exact hmem)
     rw [h] at this
     cases this
    rw [this]
    rfl
   have HBd:=hid hbad
   clear hr hmem hjl hbad
   by_cases k1:bytes<r.key.length
   ·have dk:decide (bytes<r.key.length)=true:=decide_eq_true k1
    have dk2:decide ((bytes:Int)<(r.key.length:Int))=true:=decide_eq_true (by omega)
    have e:=HBd.out (by unfold littleR;rw [decide_eq_false (by omega)];rfl)
    have HE:=hid e
    clear e
    go_wp2_with fail
    go_ret
    rw [HE.out]
    exact ⟨rfl,HK.out.alloc _⟩
   ·have dk:decide (bytes<r.key.length)=false:=decide_eq_false k1
    have dk2:decide ((bytes:Int)<(r.key.length:Int))=false:=decide_eq_false (by omega)
    by_cases k2:bytes<r.val.length
    ·have dv:decide (bytes<r.val.length)=true:=decide_eq_true k2
     have dv2:decide ((bytes:Int)<(r.val.length:Int))=true:=decide_eq_true (by omega)
     have e:=HBd.out (by unfold littleR;rw [Bool.and_comm,decide_eq_false (show ¬ r.val.length≤bytes by omega)];rfl)
     have HE:=hid e
     clear e
     go_wp2_with fail
     go_ret
     rw [HE.out]
     exact ⟨rfl,HK.out.alloc _⟩
    ·have dv:decide (bytes<r.val.length)=false:=decide_eq_false k2
     have dv2:decide ((bytes:Int)<(r.val.length:Int))=false:=decide_eq_false (by omega)
     have hgood:littleR bytes r=true:=by unfold littleR;rw [decide_eq_true (show r.key.length≤bytes by omega),decide_eq_true (show r.val.length≤bytes by omega)];rfl
     have HG:=hid hgood
     clear hgood
     go_wp2_with fail
     exact ⟨⟨j+1,by omega,by go_num,by rw [HT.out,HA.out,HG.out];rfl,HK.out.alloc _⟩,by simp [intOf];omega⟩
  ·have hdj:decide ((j:Int)<(n:Int))=false:=decide_eq_false (by omega)
   have hall:l.all (littleR bytes)=true:=by
    have:=HA.out
    rwa [List.take_of_length_le (by rw [← HN.out];omega)] at this
   have hres:fewR l most bytes=decide ((n:Int)≤(most:Int)):=by
    unfold fewR
    rw [hall,Bool.true_and,← HN.out]
    by_cases h:n≤most
    ·rw [decide_eq_true h,decide_eq_true (by omega)]
    ·rw [decide_eq_false h,decide_eq_false (by omega)]
   have HR:=hid hres
   clear hall hres
   go_wp2_with fail
   go_ret
   rw [HR.out]
   exact ⟨by simp,HK.out⟩
end
end Go.Proofs.YtehkjkcnigknkaaGreat

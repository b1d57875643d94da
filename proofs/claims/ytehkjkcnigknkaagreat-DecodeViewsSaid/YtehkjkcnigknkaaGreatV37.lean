/-
  SeaLay; TabLay; TabSorted.
-/
import Derived.Shelf.SlSorted.Search
import Derived.Shelf.SlSortCmp.NoneTotal
import Derived.Lib.Hide
import Derived.Test.YtehkjkcnigknkaaGreatV02
import Derived.Test.YtehkjkcnigknkaaGreatV05
import Derived.Test.YtehkjkcnigknkaaGreatV36
namespace Go.Proofs.YtehkjkcnigknkaaGreat
open Lib (hid)
section
open Go.Shelf Go.RowKit Go.Lib Go.Sort
end
section
open Go.Shelf Go.RowKit Go.Lib Go.Sort
def sortLay_ren:Go.Shelf.Ren:=⟨fun|6=>126|15=>158|14=>157|28=>195|29=>196|20=>187|21=>188|22=>189|23=>190|24=>191|25=>192|26=>193|27=>194|46=>205|47=>206|48=>207|49=>208|50=>209|57=>210|n=>n,fun|22=>124|24=>129|25=>195|3=>3|39=>177|0=>0|53=>25|55=>46|4=>4|46=>250|45=>249|50=>254|5=>5|9=>9|66=>262|70=>265|76=>267|77=>268|n=>n,fun|n=>n⟩
theorem sortLay:SlLaysF0.n6 Tryz.prog sortLay_ren:={
 mixed:=by kernel_rfl
 f6:=⟨Tryz.f126.name,by decide,Tryz.func126.trans (congrArg some (by kernel_rfl))⟩
 f14:=⟨Tryz.f157.name,by decide,Tryz.func157.trans (congrArg some (by kernel_rfl))⟩
 f15:=Tryz.func158.trans (congrArg some (by kernel_rfl))
 f20:=⟨Tryz.f187.name,by decide,Tryz.func187.trans (congrArg some (by kernel_rfl))⟩
 f21:=⟨Tryz.f188.name,by decide,Tryz.func188.trans (congrArg some (by kernel_rfl))⟩
 f22:=⟨Tryz.f189.name,by decide,Tryz.func189.trans (congrArg some (by kernel_rfl))⟩
 f23:=⟨Tryz.f190.name,by decide,Tryz.func190.trans (congrArg some (by kernel_rfl))⟩
 f24:=⟨Tryz.f191.name,by decide,Tryz.func191.trans (congrArg some (by kernel_rfl))⟩
 f25:=⟨Tryz.f192.name,by decide,Tryz.func192.trans (congrArg some (by kernel_rfl))⟩
 f26:=⟨Tryz.f193.name,by decide,Tryz.func193.trans (congrArg some (by kernel_rfl))⟩
 f27:=⟨Tryz.f194.name,by decide,Tryz.func194.trans (congrArg some (by kernel_rfl))⟩
 f28:=Tryz.func195.trans (congrArg some (by kernel_rfl))
 f29:=Tryz.func196.trans (congrArg some (by kernel_rfl))
 f46:=⟨Tryz.f205.name,by decide,Tryz.func205.trans (congrArg some (by kernel_rfl))⟩
 f47:=Tryz.func206.trans (congrArg some (by kernel_rfl))
 f48:=Tryz.func207.trans (congrArg some (by kernel_rfl))
 f49:=⟨Tryz.f208.name,by decide,Tryz.func208.trans (congrArg some (by kernel_rfl))⟩
 f50:=⟨Tryz.f209.name,by decide,Tryz.func209.trans (congrArg some (by kernel_rfl))⟩
 f57:=⟨Tryz.f210.name,by decide,Tryz.func210.trans (congrArg some (by kernel_rfl))⟩
 t0:=Tryz.underlying0
 a0:=Tryz.isAgg0
 z0:=Tryz.sizeOf0
 v0:=Tryz.zeroValue0
 t3:=Tryz.underlying3
 a3:=Tryz.isAgg3
 z3:=Tryz.sizeOf3
 v3:=Tryz.zeroValue3
 t4:=Tryz.underlying4
 a4:=Tryz.isAgg4
 z4:=Tryz.sizeOf4
 v4:=Tryz.zeroValue4
 t5:=Tryz.underlying5
 a5:=Tryz.isAgg5
 z5:=Tryz.sizeOf5
 v5:=Tryz.zeroValue5
 t9:=Tryz.underlying9
 a9:=Tryz.isAgg9
 z9:=Tryz.sizeOf9
 v9:=Tryz.zeroValue9
 t22:=Tryz.underlying124
 a22:=Tryz.isAgg124
 z22:=Tryz.sizeOf124
 v22:=Tryz.zeroValue124
 t25:=Tryz.underlying195
 a25:=Tryz.isAgg195
 z25:=Tryz.sizeOf195
 v25:=Tryz.zeroValue195
 t39:=Tryz.underlying177
 a39:=Tryz.isAgg177
 z39:=Tryz.sizeOf177
 v39:=Tryz.zeroValue177
 t45:=Tryz.underlying249
 a45:=Tryz.isAgg249
 z45:=Tryz.sizeOf249
 v45:=Tryz.zeroValue249
 t46:=Tryz.underlying250
 a46:=Tryz.isAgg250
 z46:=Tryz.sizeOf250
 v46:=Tryz.zeroValue250
 t50:=Tryz.underlying254
 a50:=Tryz.isAgg254
 z50:=Tryz.sizeOf254
 v50:=Tryz.zeroValue254
 t53:=Tryz.underlying25
 a53:=Tryz.isAgg25
 z53:=Tryz.sizeOf25
 v53:=Tryz.zeroValue25
 t55:=Tryz.underlying46
 a55:=Tryz.isAgg46
 z55:=Tryz.sizeOf46
 v55:=Tryz.zeroValue46
 t66:=Tryz.underlying262
 a66:=Tryz.isAgg262
 z66:=Tryz.sizeOf262
 v66:=Tryz.zeroValue262
 t70:=Tryz.underlying265
 a70:=Tryz.isAgg265
 z70:=Tryz.sizeOf265
 v70:=Tryz.zeroValue265
 t76:=Tryz.underlying267
 a76:=Tryz.isAgg267
 z76:=Tryz.sizeOf267
 v76:=Tryz.zeroValue267
 t77:=Tryz.underlying268
 a77:=Tryz.isAgg268
 z77:=Tryz.sizeOf268
 v77:=Tryz.zeroValue268 }
end
section
open Go.RowKit Go.Lib Go.Sort Go.Shelf
def encE (e:En):List Value:=[enH e,enA e]
theorem swoE:SWO (ltOf cmpE) where
 irrefl x:=by
  unfold ltOf
  exact decide_eq_false (fun h=>LessE.irrefl _ (cmpE_less.1 h))
 trans x y z h1 h2:=by
  unfold ltOf at *
  exact decide_eq_true (cmpE_less.2 ((cmpE_less.1 (of_decide_eq_true h1)).trans (cmpE_less.1 (of_decide_eq_true h2))))
 ntrans x y z h1 h2:=by
  unfold ltOf at *
  have a1:¬ LessE x y:=fun h=>of_decide_eq_false h1 (cmpE_less.2 h)
  have a2:¬ LessE y z:=fun h=>of_decide_eq_false h2 (cmpE_less.2 h)
  refine decide_eq_false (fun h=>?_)
  have h3:=cmpE_less.1 h
  unfold LessE at *
  omega
theorem cmpLaysE (blk off size:Nat) (w:World):CmpLays Tryz.prog 127 #[] encE 2 cmpE blk off size w :=
 fun _ _ _ _ x y=>compare_grown x y _
theorem RowF.holds {w:World} {g d n:Nat} {f:Nat→En} (h:RowF w g d n f) (A:Array En) (hA:A.size=n) (he:∀ i,i<n→f i=A[i]!):HoldsK encE 2 w g 0 A:=by
 intro j hj
 rw [size_flatK] at hj
 refine ⟨?_,h.free _⟩
 have hc:=h.cell (i:=j / 2) (by omega)
 rw [he (j / 2) (by omega)] at hc
 show w.cell? ⟨g,0+j,none⟩=some (flatK encE 2 A)[j]!
 rw [get_flatK _ _ _ _ hj]
 by_cases h5:j % 2=0
 ·rw [show 0+j=j / 2*2 by omega,hc.1,h5]
  rfl
 ·rw [show 0+j=j / 2*2+1 by omega,hc.2,show j % 2=1 by omega]
  rfl
theorem RowF.sorted {w:World} {g d n:Nat} {f:Nat→En} (h:RowF w g d n f) (A:Array En) (hA:A.size=n) (m:Nat) (os:Array Obj) :
  RowF (sortWorldK encE 2 w g 0 m A os) g d n (fun i=>A[i]!):=by
 obtain ⟨cur,hw,h1,h2,h3⟩:=h
 have hlt:=hw.lt
 refine ⟨putCells id 0 (flatK encE 2 A) cur,?_,by simpa [putCells] using h1,h2,fun i hi=>?_⟩
 ·show ((w.heap.modify g _) ++ os)[g]?=_
  rw [Array.getElem?_append_left (by simpa using hlt),Array.getElem?_modify,if_pos rfl,show w.heap[g]?=_ from hw]
  rfl
 ·obtain ⟨c0,c1⟩:=h3 i hi
  have hsz:(flatK encE 2 A).size=n*2:=by rw [size_flatK,hA]
  have g0:=get_flatK encE 2 A (i*2) (by rw [hA];omega)
  have g1:=get_flatK encE 2 A (i*2+1) (by rw [hA];omega)
  rw [show i*2 / 2=i by omega,show i*2 % 2=0 by omega] at g0
  rw [show (i*2+1) / 2=i by omega,show (i*2+1) % 2=1 by omega] at g1
  constructor
  ·unfold putCells
   rw [Array.getElem?_mapIdx,c0]
   simp only [Option.map_some]
   rw [if_pos ⟨Nat.zero_le _,by omega⟩,Nat.sub_zero,g0]
   rfl
  ·unfold putCells
   rw [Array.getElem?_mapIdx,c1]
   simp only [Option.map_some]
   rw [if_pos ⟨Nat.zero_le _,by omega⟩,Nat.sub_zero,g1]
   rfl
theorem sortWorld_keeps (w:World) (g m:Nat) (A:Array En) (os:Array Obj):Keeps (Just g) w (sortWorldK encE 2 w g 0 m A os):=by
 refine ⟨rfl,rfl,rfl,?_,fun k hk hn=>?_⟩
 ·show w.heap.size≤((w.heap.modify g _) ++ os).size
  simp
 ·show ((w.heap.modify g _) ++ os)[k]?=_
  rw [Array.getElem?_append_left (by simpa using hk),Array.getElem?_modify,if_neg (fun e=>hn e.symm)]
set_option maxHeartbeats 2000000 in
set_option maxRecDepth 10000 in
theorem clone_own (p:Option Addr) (n c:Nat) (l:List En) (w:World) (hn:n=l.length) (hn9:n≤1000000) (hp:p=none→n=0∧c=0) (hat:EnsAt w p l) :
  Calls Tryz.prog 125 #[.slice p n c] w fun e w'=>∃ v,e=.returned v∧TwosSoFar enH enA 129 w l v w':=by
 have q22:∀ (w:World) (a:Option Addr) (n c n' c':Nat),(binOp .eql 124 (.slice a n c) (.slice none n' c')).run Tryz.prog w=.ok (.bool a.isNone) w:=fun w a n c n' c'=>Lib.run_eql_slice_nil w _ _ a n c n' c' Tryz.underlying124
 obtain ⟨i0,hi,hz0,hz1,hz2⟩:=info_parts infoEnL
 have HN:=hid hn
 cases p with
 | none =>
  obtain ⟨rfl,rfl⟩:=hp rfl
  obtain rfl:l=[]:=List.length_eq_zero_iff.1 hn.symm
  clear hat hn
  go_enter Tryz.func125,Tryz.ntmps125
  go_wp2_with fail
  go_ret
  exact ⟨_,rfl,TwosSoFar.start w⟩
 | some a =>
  have HA:=hid hat
  have HO0:=hid (show TwosSoFar enH enA 129 w ([]:List En) (.slice (some ⟨w.heap.size,0,none⟩) 0 0) (w.alloc (.cells #[] 129)) from ⟨World.ownsRow_made w #[] 0 (Nat.le_refl _) (Nat.zero_le _) (by simp),(Below.refl _ w).alloc (Nat.le_refl _) _⟩)
  clear hat hn hp
  go_enter Tryz.func125,Tryz.ntmps125
  go_wp2_with (at_builtin;refine wpList_append_twos (dd:=En.none) rfl _ _ 124 rfl 129 i0 (.agg #[.int .u64 0,.int .u32 0]) 16 Tryz.underlying124 hi hz0 hz1 hz2 rfl _ _ rfl HO0.out (some a) n c l rfl (fun h=>by simp at h) HN.out (TwosAt.keep HA.out ((Keeps.refl NoBlock w).alloc _) (fun _ _ h=>h)) (fun _=>rfl) (fun _=>rfl) (by simp;omega) (by simp;omega) ?_)
  intro v w1 hv
  have HV:=hid hv
  clear hv
  go_wp2_with fail
  go_ret
  exact ⟨_,rfl,HV.out⟩
set_option maxHeartbeats 2000000 in
theorem compact_nil (w:World):Calls Tryz.prog 128 #[.slice none 0 0] w fun e w'=>e=.returned (.slice none 0 0)∧w'=w:=by
 go_enter Tryz.func128,Tryz.ntmps128
 go_wp2_with fail
 go_ret
 exact ⟨rfl,rfl⟩
theorem sortfunc_own (g cap n:Nat) (l:List En) (hl:n=l.length) (hn9:n≤1000000) (w:World) (h:RowF w g cap n (fun i=>l.getD i En.none)) :
  Calls Tryz.prog 126 #[.slice (some ⟨g,0,none⟩) n cap,.func (.func 127) #[] #[]] w fun e w' =>
   e=.returned (.tuple #[])∧∃ A:Array En,A.size=n∧compactUpTo A A.size=sortE l∧RowF w' g cap n (fun i=>A[i]!)∧Keeps (Just g) w w':=by
 have eg:∀ args w,(callFunc 127 args).run Tryz.prog w=.ok (.enter 127 args) w:=enters_of Tryz.func127 (by kernel_rfl) rfl
 have hA:l.toArray.size=n:=by simp [hl]
 have hf:∀ i,i<n→l.getD i En.none=l.toArray[i]!:=fun i hi=>by
  rw [← getD_arr l.toArray i (by omega)]
 have hcon:=AnyQ.slices_SortFunc sortLay 2 Tryz.isAgg129 Tryz.sizeOf129 encE (fun _=>rfl) (fun x v hv=>by simp [encE] at hv;rcases hv with rfl|rfl <;> rfl) cmpE swoE 127 #[] g 0 cap l.toArray w eg (cmpLaysE g 0 l.toArray.size w) (h.holds l.toArray hA hf) h.lt (by omega)
 rw [hA] at hcon
 refine Calls.mono hcon ?_
 rintro e w' ⟨rfl,A,m,os,hp,hs,rfl⟩
 obtain ⟨p1,_,p3⟩:=hp
 have hAn:A.size=n:=by rw [p1,hA]
 refine ⟨rfl,A,hAn,?_,h.sorted A hAn m os,sortWorld_keeps w g m A os⟩
 rw [compact_sortE A (fun i j hij hj=>?_)]
 ·have hmem:∀ x,x ∈ A.toList ↔ x ∈ l:=fun x=>by
   have h1:=p3.mem_iff (a:=x)
   rw [show A.extract 0 n=A by rw [← hAn];exact Array.extract_size,show l.toArray.extract 0 n=l.toArray by rw [← hA];exact Array.extract_size] at h1
   exact h1
  exact sortE_same hmem
 ·by_cases e:i=j
  ·rw [e];exact LessE.irrefl _
  ·have h2:=hs i j (Nat.zero_le _) (by omega) (by omega)
   unfold ltOf at h2
   exact fun h3=>of_decide_eq_false h2 (cmpE_less.2 h3)
set_option maxHeartbeats 2000000 in
set_option maxRecDepth 10000 in
theorem tsorted_own (p:Option Addr) (n c:Nat) (l:List En) (w:World) (h:InE w p n c l) (hn9:n≤100000) :
  Calls Tryz.prog 95 #[.slice p n c] w fun e w'=>∃ v,e=.returned v∧TwosSoFar enH enA 129 w (sortE l) v w':=by
 have HCl:=hid (clone_own p n c l w h.len (by omega) h.bare h.at_)
 have HNo:=hid (fun fv w=>AnyF.slices_SortFunc_none sortLay none 0 fv w)
 have HLn:=hid h.len
 clear h
 go_enter Tryz.func95,Tryz.ntmps95
 go_wp2_with fail
 refine HCl.out.mono ?_
 rintro e w1 ⟨v,rfl,hown,hbel⟩
 have HB:=hid hbel
 rcases id hown with ⟨_,⟨rfl,h0⟩|⟨g,cap,cur,rfl,hb,hg,h1,h2,h3,h4⟩⟩
 ·obtain rfl:l=[]:=List.length_eq_zero_iff.1 h0
  clear hown hbel HCl
  go_wp2_with fail
  refine (HNo.out _ _).mono ?_
  rintro e w2 ⟨rfl,rfl⟩
  go_wp2_with fail
  refine (compact_nil _).mono ?_
  rintro e w2 ⟨rfl,rfl⟩
  go_wp2_with fail
  go_ret
  exact ⟨_,rfl,⟨by simp [sortE,twoFlat],.inl ⟨rfl,rfl⟩⟩,HB.out⟩
 ·obtain ⟨hR,hbg,hcap⟩:=RowF.ofOwn hown rfl
  have HS:=hid (sortfunc_own g cap l.length l rfl (by rw [← HLn.out];omega) _ hR)
  have HBg:=hid hbg
  have HCap:=hid hcap
  have HL9:=hid (show l.length≤100000 by rw [← HLn.out];exact hn9)
  clear hown hbel HCl hR hbg hcap hb hg h1 h2 h3 h4
  go_wp2_with fail
  refine HS.out.mono ?_
  rintro e w2 ⟨rfl,A,hAn,hAs,hR2,hk2⟩
  have HC:=hid (compact_own g cap A.size A rfl w2 (by rw [hAn];exact hR2) (by have:=HCap.out;unfold maxLen at this;exact this) (by have:=HL9.out;omega))
  rw [hAn] at HC
  have HK2:=hid hk2
  have HAs:=hid hAs
  clear hR2 hk2 hAs HS
  go_wp2_with fail
  refine HC.out.mono ?_
  rintro e w3 ⟨m,hm,rfl,hR3,hk3⟩
  rw [HAs.out] at hm hR3
  have HR3:=hid hR3
  have HM:=hid hm
  have HK3:=hid (HK2.out.trans hk3)
  clear hR3 hm hk3 HC
  go_wp2_with fail
  go_ret
  have hm:=HM.out
  subst hm
  exact ⟨_,rfl,HR3.out.own (Nat.le_refl _) (fun _ _=>rfl) HBg.out HCap.out,HB.out.trans (HK3.out.below HB.out.size (fun k hk e=>by have:=HBg.out;have e':k=g:=e;omega))⟩
end
end Go.Proofs.YtehkjkcnigknkaaGreat

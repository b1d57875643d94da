/-
  TabGetOwn; SgSeals; SgRdSt; SgRead; SgPaOwn; DeAll.
-/
import Derived.Deep.RegionHeld3
import Derived.Deep.Cut
import Derived.WalkMore
import Derived.Lib.Hide
import Derived.Test.YtehkjkcnigknkaaGreatV05
import Derived.Test.YtehkjkcnigknkaaGreatV16
import Derived.Test.YtehkjkcnigknkaaGreatV28
import Derived.Test.YtehkjkcnigknkaaGreatV32
import Derived.Test.YtehkjkcnigknkaaGreatV36
import Derived.Test.YtehkjkcnigknkaaGreatV41
import Derived.Test.YtehkjkcnigknkaaGreatV42
import Derived.Test.YtehkjkcnigknkaaGreatV43
namespace Go.Proofs.YtehkjkcnigknkaaGreat
open Lib (hid)
section
open Go.RowKit
def soFar (l:List En) (j:Nat):Nat→En:=fun i=>if i<j then l.getD i En.none else En.none
theorem soFar_step (l:List En) (j:Nat) (i:Nat):(if i=j then l.getD j En.none else soFar l j i)=soFar l (j+1) i:=by
 unfold soFar
 by_cases h:i=j
 ·subst h
  rw [if_pos rfl,if_pos (by omega)]
 ·rw [if_neg h]
  by_cases h2:i<j
  ·rw [if_pos h2,if_pos (by omega)]
  ·rw [if_neg h2,if_neg (by omega)]
end
section
open Go.RowKit
theorem entsGo_hash:∀ (l:List Rec) (k i:Nat),i<l.length→((entsGo k l).getD i En.none).hash=(wxxh 0 (l.getD i Rec.none).key).toNat
 | [],_,_,h=>by simp at h
 | r :: l,k,0,_=>by simp [entsGo]
 | r :: l,k,i+1,h=>by
  rw [entsGo]
  have:=entsGo_hash l (k+(recB r).length) i (by simpa using h)
  simpa using this
theorem ents_getD {e s n:Nat} {l:List Rec} {i:Nat} (h:i<l.length):(entsS e s n l).getD i En.none=⟨(wxxh 0 (l.getD i Rec.none).key).toNat,(placesS e s n l).getD i 0⟩:=by
 have h2:i<(entsS e s n l).length:=by rw [ents_len];exact h
 refine En.ext' (entsGo_hash l _ i h) ?_
 unfold placesS
 show ((entsS e s n l).getD i En.none).at_=((entsS e s n l).map En.at_).getD i 0
 rw [List.getD_eq_getElem?_getD,List.getD_eq_getElem?_getD,List.getElem?_map,List.getElem?_eq_getElem h2]
 rfl
set_option maxHeartbeats 4000000 in
set_option maxRecDepth 10000 in
theorem seals_own (e s n:Nat) (l:List Rec) (rq aq:Option Addr) (m rd ad:Nat) (b:Bool) (p:Option Addr) (N c:Nat) (ys:List Int) (w:World)
  (hl:RecsAt w rq l) (hm:m=l.length) (ha:Row32 w aq (placesS e s n l)) (hrd:m≤rd) (hf:∀ x ∈ l,x.Fine∧checkR x=0) (h9:l.length≤10000) (hu:(outS e s n l).length≤100000) (hp:In8 w p N c ys) :
  Calls Tryz.prog 85 #[.agg #[.slice rq m rd,.slice aq m ad,.int .u32 ((outS e s n l).length:Int),.bool b],.slice p N c] w fun x w'=>x=.returned (.bool (decide (0<l.length∧ys=footS e s n l)))∧Keeps NoBlock w w':=by
 obtain ⟨i0,hi,hz0,hz1,hz2⟩:=info_parts infoEnL
 have hef:=ents_fine (e:=e) (s:=s) (n:=n) (l:=l) (by omega)
 have hG:=hid (fun (i:Nat) (hi:i<m)=>ents_getD (e:=e) (s:=s) (n:=n) (l:=l) (i:=i) (by omega))
 have HPl:=hid (fun (i:Nat) (hi:i<m) (a:Nat) (w:World)=>place_own (l.getD i Rec.none) a w (by
  have:=(hf (l.getD i Rec.none) (by rw [List.getD_eq_getElem?_getD,List.getElem?_eq_getElem (by omega)];exact List.getElem_mem _)).1
  exact this.key) (by
  have h:=(hf (l.getD i Rec.none) (by rw [List.getD_eq_getElem?_getD,List.getElem?_eq_getElem (by omega)];exact List.getElem_mem _)).2
  have:=(checkR_room h).1
  omega))
 have hel:(entsS e s n l).length=m:=by rw [ents_len,hm]
 have HSl:=hid (fun W g d (hi:InE W (some ⟨g,0,none⟩) m d (entsS e s n l))=>seal_places (outS e s n l).length (some ⟨g,0,none⟩) m d (entsS e s n l) W (by omega) hi (by omega))
 have HV0:=hid (Whole.new w 55 #[.slice rq m rd,.slice aq m ad,.int .u32 ((outS e s n l).length:Int),.bool b])
 have hK0:=(Keeps.refl NoBlock w).alloc (.cells #[.slice rq m rd,.slice aq m ad,.int .u32 ((outS e s n l).length:Int),.bool b] 55)
 have HR0:=hid (hl.keep hK0 (fun _ _ h=>h))
 have HA0:=hid (ha.keep hK0 (fun _ _ h=>h))
 have HP0:=hid (hp.at_.keep hK0 (fun _ _ h=>h))
 have hEq:=hid (fun q d W (zs:List Int) (h8:Bytes8 W p ys) (ho:Octets zs) (hz:Bytes8 W q zs)=>equal_bytes p q N c zs.length d ys zs W hp.len rfl hp.oct ho h8 hz)
 have hml:m≤10000:=by omega
 have hm0:decide (0<l.length∧ys=footS e s n l)=if m=0 then false else decide (ys=footS e s n l):=by
  rw [← hm]
  by_cases h0:m=0
  ·rw [if_pos h0];simp [h0]
  ·rw [if_neg h0];simp [show 0<m by omega]
 rw [hm0]
 have hc0:checkFt ⟨(outS e s n l).length,sortE (entsS e s n l)⟩=if m=0 then 4 else 0:=by
  by_cases h0:m=0
  ·rw [if_pos h0]
   obtain rfl:l=[]:=List.length_eq_zero_iff.1 (by omega)
   rfl
  ·rw [if_neg h0]
   exact seal_check (by omega) (by omega)
 have hp0:m ≠ 0→putFt ⟨(outS e s n l).length,sortE (entsS e s n l)⟩=footS e s n l:=fun h0=>seal_put (by omega) (by omega)
 have hfo:Octets (footS e s n l):=seal_octets bodyFt_octets
 rw [hc0] at HSl
 have hal:(placesS e s n l).length=m:=by rw [places_length,hm]
 obtain ⟨es,hes⟩:∃ es,es=entsS e s n l:=⟨_,rfl⟩
 rw [← hes] at hef hG hel HSl hp0
 obtain ⟨as9,has⟩:∃ as9,as9=placesS e s n l:=⟨_,rfl⟩
 rw [← has] at hG HA0 hal
 obtain ⟨u,hud⟩:∃ u,u=(outS e s n l).length:=⟨_,rfl⟩
 rw [← hud] at HSl HV0 hK0 HR0 HA0 HP0 hp0 ⊢
 obtain ⟨fs,hfs⟩:∃ fs,fs=footS e s n l:=⟨_,rfl⟩
 rw [← hfs] at hp0 hfo ⊢
 obtain ⟨Z,hZ⟩:∃ Z,Z=(if m=0 then false else decide (ys=fs)):=⟨_,rfl⟩
 rw [← hZ]
 have HZ:=hid hZ
 obtain ⟨ps,hps⟩:∃ ps,ps=putFt ⟨u,sortE es⟩:=⟨_,rfl⟩
 rw [← hps] at HSl hp0
 obtain ⟨W0,hW0⟩:∃ W0,W0=w.alloc (.cells #[.slice rq m rd,.slice aq m ad,.int .u32 (u:Int),.bool b] 55):=⟨_,rfl⟩
 rw [← hW0] at HV0 hK0 HR0 HA0 HP0
 have HK0:=hid hK0
 have HEf:=hid hef
 have HEl:=hid hel
 have HAl:=hid hal
 have HM:=hid hm
 have HPut:=hid hp0
 have HFo:=hid hfo
 clear hef hel hal hm hp0 hfo hK0 hm0 hc0 hes has hud hfs hps hl ha hf h9 hu hp hZ
 go_enter Tryz.func85,Tryz.ntmps85
 have v0:=HV0.out.cell 0 rfl
 simp only [List.getElem_toArray,List.getElem_cons_zero] at v0
 go_upto_region 1 with (fail)
 rw [← hW0]
 clear hW0
 go_wp2_with (at_make;refine wpList_make_full _ rfl _ _ 124 rfl W0.heap.size 129 i0 (.agg #[.int .u64 0,.int .u32 0]) 2 Tryz.underlying124 hi hz0 hz1 .i64 .i64 (m:Int) (m:Int) m rfl rfl rfl rfl (by rw [hz2];omega) (by unfold maxLen;omega) (Nat.le_refl _) ?_)
 intro w2 hown hgrow
 have hown2:w2.ownsRow W0.heap.size 129 2 (.slice (some ⟨W0.heap.size,0,none⟩) m m) m (twoFlat enH enA (List.replicate m En.none)):=by rw [← madeTwos m];exact hown
 have hR0:=RowF.ofOwn hown2 (by simp)
 have hk2:Keeps NoBlock W0 w2:=(Keeps.refl NoBlock W0).grown hgrow (fun k hk=>by simp at hk)
 have HK2:=hid hk2
 have HR:Hid (RowF w2 W0.heap.size m m (soFar es 0)):=hid (hR0.1.congr (Nat.le_refl _) (fun i hi=>by
  have e:soFar es 0 i=En.none:=by unfold soFar;rw [if_neg (by omega)]
  rw [e,List.getD_eq_getElem?_getD,List.getElem?_replicate]
  split <;> rfl))
 obtain ⟨g,hgd⟩:∃ g,g=W0.heap.size:=⟨_,rfl⟩
 rw [← hgd] at HR ⊢
 have HGd:=hid (show W0.heap.size≤g by omega)
 have v2:=(HV0.out.keep HK2.out (fun h=>h)).cell 0 rfl
 simp only [List.getElem_toArray,List.getElem_cons_zero] at v2
 clear hown hown2 hgrow hR0 hk2 hgd v0
 go_wp2_with fail
 clear v2
 go_loopw [17] (fun i wr=>∃ j:Nat,j≤m∧i=.int .i64 (j:Int)∧Hid (RowF wr g m m (soFar es j))∧Hid (Keeps NoBlock W0 wr)) (fun i _=>m - (intOf i).toNat)
 case atStart=>exact ⟨0,Nat.zero_le _,rfl,HR,HK2⟩
 case round =>
  obtain ⟨j,hj,rfl,HR3,HK3⟩:=hrel
  by_cases hlt:j<m
  ·have hdj:decide ((j:Int)<(m:Int))=true:=decide_eq_true (by omega)
   have hjm:(j:Int)<(m:Int):=by omega
   obtain ⟨ra,rfl,r0,r1,r2,r3⟩:=(HR0.out.keep HK3.out (fun _ _ h=>h)) j (by rw [← HM.out];exact hlt)
   obtain ⟨aa,rfl,a0⟩:=(HA0.out.keep HK3.out (fun _ _ h=>h)) j (by rw [HAl.out];exact hlt)
   have hg9:=hG.out j hlt
   have hpl:=HPl.out j hlt
   obtain ⟨r,hr⟩:∃ r,r=l.getD j Rec.none:=⟨_,rfl⟩
   rw [← hr] at r0 r1 r2 r3 hg9 hpl
   obtain ⟨a,hav⟩:∃ a,a=as9.getD j 0:=⟨_,rfl⟩
   rw [← hav] at a0 hg9
   obtain ⟨hh,hhd⟩:∃ hh,hh=(wxxh 0 r.key).toNat:=⟨_,rfl⟩
   rw [← hhd] at hg9 hpl
   have HPj:=hid (fun w=>hpl a w)
   have HStep:Hid (∀ i,(if i=j then (⟨hh,a⟩:En) else soFar es j i)=soFar es (j+1) i):=hid (by rw [← hg9];exact soFar_step es j)
   clear hr hav hhd hg9 hpl
   obtain ⟨del,seq,key,val⟩:=r
   unfold enV recV at HPj
   simp only at r0 r1 r2 r3 HPj
   have hkB:=(Keeps.refl NoBlock wr).alloc (.cells #[.bool del,.int .u64 (seq:Int),.string (strOfNums key),.string (strOfNums val)] 48)
   have hWB:=Whole.new wr 48 #[.bool del,.int .u64 (seq:Int),.string (strOfNums key),.string (strOfNums val)]
   obtain ⟨WB,hWBd⟩:∃ WB,WB=wr.alloc (.cells #[.bool del,.int .u64 (seq:Int),.string (strOfNums key),.string (strOfNums val)] 48):=⟨_,rfl⟩
   rw [← hWBd] at hkB hWB
   have HWB:=hid hWB
   have HKB:=hid hkB
   have HA1:=hid (hkB.cell a0 (fun h=>h))
   have hag:¬ Just g (aa.add j).block:=fun h=>by
    obtain ⟨a2,ha2,hc2⟩:=HA0.out j (by rw [HAl.out];exact hlt)
    obtain rfl:=Option.some.inj ha2
    have h1:=ltOfCell hc2
    have h2:=HGd.out
    unfold Just at h
    omega
   have hwg:¬ Just g w.heap.size:=fun h=>by have h1:=HV0.out.lt;have h2:=HGd.out;unfold Just at h;omega
   clear hkB hWB a0
   go_wp2_with fail
   rw [← hWBd]
   clear hWBd r0 r1 r2 r3
   obtain ⟨B,hB⟩:∃ B,B=wr.heap.size:=⟨_,rfl⟩
   rw [← hB] at HWB ⊢
   have hBg:¬ Just g B:=fun h=>by have:=HR3.out.lt;unfold Just at h;omega
   clear hB
   have hv1:=(HV0.out.keep (HK3.out.trans HKB.out) (fun h=>h)).cell 1 rfl
   have hsall:WB.cell? ⟨B,0,none⟩=some (.bool del)∧WB.cell? ⟨B,1,none⟩=some (.int .u64 (seq:Int))∧WB.cell? ⟨B,2,none⟩=some (.string (strOfNums key))∧WB.cell? ⟨B,3,none⟩=some (.string (strOfNums val))∧WB.cell? ⟨w.heap.size,1,none⟩=some (.slice (some aa) m ad)∧WB.cell? (aa.add j)=some (.int .u32 (a:Int)):=⟨HWB.out.cell 0 rfl,HWB.out.cell 1 rfl,HWB.out.cell 2 rfl,HWB.out.cell 3 rfl,hv1,HA1.out⟩
   have HSa:=hid hsall
   have s0:WB.drew.cell? ⟨B,0,none⟩=some (.bool del)∧WB.drew.cell? ⟨B,1,none⟩=some (.int .u64 (seq:Int))∧WB.drew.cell? ⟨B,2,none⟩=some (.string (strOfNums key))∧WB.drew.cell? ⟨B,3,none⟩=some (.string (strOfNums val))∧WB.drew.cell? ⟨w.heap.size,1,none⟩=some (.slice (some aa) m ad)∧WB.drew.cell? (aa.add j)=some (.int .u32 (a:Int)):=hsall
   have sN:WB.cell? ⟨B,0,none⟩=some (.bool del)∧WB.cell? ⟨B,1,none⟩=some (.int .u64 (seq:Int))∧WB.cell? ⟨B,2,none⟩=some (.string (strOfNums key))∧WB.cell? ⟨B,3,none⟩=some (.string (strOfNums val))∧WB.cell? ⟨w.heap.size,1,none⟩=some (.slice (some aa) m ad)∧WB.cell? (aa.add j)=some (.int .u32 (a:Int)):=hsall
   clear hv1 hsall
   go_region_held3 (fun w'=>w'.cell? ⟨B,0,none⟩=some (.bool del)∧w'.cell? ⟨B,1,none⟩=some (.int .u64 (seq:Int))∧w'.cell? ⟨B,2,none⟩=some (.string (strOfNums key))∧w'.cell? ⟨B,3,none⟩=some (.string (strOfNums val))∧w'.cell? ⟨w.heap.size,1,none⟩=some (.slice (some aa) m ad)∧w'.cell? (aa.add j)=some (.int .u32 (a:Int)))
    (first|exact s9|exact s5|exact s0|exact sN)
    (first|(go_at_call 62;refine (HPj.out _).mono ?_;rintro e w5 ⟨rfl,hk5⟩;have hk':Keeps NoBlock WB w5:=(by first|exact hk5.ofDrew|exact hk5);have HK5:=hid (HK3.out.trans (HKB.out.trans hk'));have HR5:=hid (HR3.out.keep (HKB.out.trans hk') (fun h=>h));have s5:w5.cell? ⟨B,0,none⟩=some (.bool del)∧w5.cell? ⟨B,1,none⟩=some (.int .u64 (seq:Int))∧w5.cell? ⟨B,2,none⟩=some (.string (strOfNums key))∧w5.cell? ⟨B,3,none⟩=some (.string (strOfNums val))∧w5.cell? ⟨w.heap.size,1,none⟩=some (.slice (some aa) m ad)∧w5.cell? (aa.add j)=some (.int .u32 (a:Int)):=⟨hk'.cell HSa.out.1 (fun h=>h),hk'.cell HSa.out.2.1 (fun h=>h),hk'.cell HSa.out.2.2.1 (fun h=>h),hk'.cell HSa.out.2.2.2.1 (fun h=>h),hk'.cell HSa.out.2.2.2.2.1 (fun h=>h),hk'.cell HSa.out.2.2.2.2.2 (fun h=>h)⟩;have hSet:Keeps (Just g) w5 ((w5.setCell ⟨g,j*2,none⟩ (.int .u64 (hh:Int))).setCell ⟨g,j*2+1,none⟩ (.int .u32 (a:Int))):=keepsPut (Keeps.refl _ _) (.inl (Just.self g)) _ _ _ _;have s9:((w5.setCell ⟨g,j*2,none⟩ (.int .u64 (hh:Int))).setCell ⟨g,j*2+1,none⟩ (.int .u32 (a:Int))).cell? ⟨B,0,none⟩=some (.bool del)∧((w5.setCell ⟨g,j*2,none⟩ (.int .u64 (hh:Int))).setCell ⟨g,j*2+1,none⟩ (.int .u32 (a:Int))).cell? ⟨B,1,none⟩=some (.int .u64 (seq:Int))∧((w5.setCell ⟨g,j*2,none⟩ (.int .u64 (hh:Int))).setCell ⟨g,j*2+1,none⟩ (.int .u32 (a:Int))).cell? ⟨B,2,none⟩=some (.string (strOfNums key))∧((w5.setCell ⟨g,j*2,none⟩ (.int .u64 (hh:Int))).setCell ⟨g,j*2+1,none⟩ (.int .u32 (a:Int))).cell? ⟨B,3,none⟩=some (.string (strOfNums val))∧((w5.setCell ⟨g,j*2,none⟩ (.int .u64 (hh:Int))).setCell ⟨g,j*2+1,none⟩ (.int .u32 (a:Int))).cell? ⟨w.heap.size,1,none⟩=some (.slice (some aa) m ad)∧((w5.setCell ⟨g,j*2,none⟩ (.int .u64 (hh:Int))).setCell ⟨g,j*2+1,none⟩ (.int .u32 (a:Int))).cell? (aa.add j)=some (.int .u32 (a:Int)):=⟨hSet.cell s5.1 hBg,hSet.cell s5.2.1 hBg,hSet.cell s5.2.2.1 hBg,hSet.cell s5.2.2.2.1 hBg,hSet.cell s5.2.2.2.2.1 hwg,hSet.cell s5.2.2.2.2.2 hag⟩;have HRn:=hid (HR5.out.put hlt ⟨hh,a⟩);have HKn:=hid (keepsPut HK5.out (.inr HGd.out) (j*2) (j*2+1) (.int .u64 (hh:Int)) (.int .u32 (a:Int)));clear hSet;have x0:=(HR5.out.cell hlt).1;have x1:=(HR5.out.cell hlt).2;have f0:=HR5.out.free (j*2);have f1:=HR5.out.free (j*2+1);clear hk5 hk';obtain ⟨W9,rfl⟩:∃ x,x=w5:=⟨_,rfl⟩))
   clear s0 sN s5 s9 x0 x1 f0 f1 HSa HPj
   go_wp2_with fail
   go_roundw
   case rel=>exact ⟨j+1,by omega,by go_num,hid (HRn.out.congr (Nat.le_refl _) (fun i _=>HStep.out i)),HKn⟩
   case measure=>simp [intOf];omega
  ·have hdj:decide ((j:Int)<(m:Int))=false:=decide_eq_false (by omega)
   have hjm:¬ (j:Int)<(m:Int):=by omega
   obtain rfl:j=m:=by omega
   have HIn:Hid (InE wr (some ⟨g,0,none⟩) j j es):=hid ⟨HEl.out.symm,Nat.le_refl _,by omega,fun h=>by simp at h,HEf.out,HR3.out.ens (by rw [HEl.out];exact Nat.le_refl _) (fun i hi=>by unfold soFar;rw [if_pos (by have:=HEl.out;omega)])⟩
   have hv2:=(HV0.out.keep HK3.out (fun h=>h)).cell 2 rfl
   simp only [List.getElem_toArray,List.getElem_cons_zero,List.getElem_cons_succ] at hv2
   by_cases h0:j=0
   ·rw [if_pos h0] at HSl
    obtain rfl:Z=false:=by rw [HZ.out,if_pos h0]
    clear hdj HZ h0
    go_wp2_with fail
    refine (HSl.out _ _ _ HIn.out).mono ?_
    rintro x w6 ⟨v6,rfl,q6,m6,d6,rfl,hm6,hmd6,hd6,hq6,hb6,hk6⟩
    have HK6:=hid (HK0.out.trans (HK3.out.trans hk6))
    clear hm6 hmd6 hd6 hq6 hb6 hk6
    go_wp2_with fail
    go_ret
    exact ⟨rfl,HK6.out⟩
   ·rw [if_neg h0] at HSl
    have hps:=HPut.out h0
    rw [hps] at HSl
    clear hdj hps HPut
    go_wp2_with fail
    refine (HSl.out _ _ _ HIn.out).mono ?_
    rintro x w6 ⟨v6,rfl,q6,m6,d6,rfl,rfl,hmd6,hd6,hq6,hb6,hk6⟩
    have HK6:=hid (HK0.out.trans (HK3.out.trans hk6))
    have HE6:=hid (hEq.out q6 d6 w6 fs (HP0.out.keep (HK3.out.trans hk6) (fun _ _ h=>h)) HFo.out hb6)
    clear hmd6 hd6 hq6 hb6 hk6
    rw [show decide (ys=fs)=Z by rw [HZ.out,if_neg h0]] at HE6
    clear HZ
    go_wp2_with fail
    refine HE6.out.mono ?_
    rintro x w7 ⟨rfl,rfl⟩
    go_wp2_with fail
    go_ret
    exact ⟨rfl,HK6.out⟩
end
section
open Go.RowKit
theorem chunk_next {xs:List Int} (ho:Octets xs) (h:0 ∈ xs):∃ c r,xs=c ++ 0 :: r∧Solid c∧nought xs=(c.length:Int):=by
 obtain ⟨r,hr⟩:=split_nought h
 refine ⟨_,r,hr,fun b hb=>?_,by unfold nought;rw [if_pos h]⟩
 have h1:=takeWhile_ne b hb
 have h2:=ho b ((List.takeWhile_prefix _).subset hb)
 omega
structure VwSt (w0 wr:World) (B4 B:Nat) (vr va:Value) (u:Nat) (sb:Bool) (ls:List Rec) (as9:List Nat):Prop where
 res:Whole wr B4 55 #[.slice none 0 0,.slice none 0 0,.int .u32 0,.bool false]
 view:Whole wr B 55 #[vr,va,.int .u32 (u:Int),.bool sb]
 recs:wr.ownsRow w0.heap.size 48 4 vr ls.length (rcFlat ls)
 ats:wr.ownsRow w0.heap.size 25 1 va as9.length (as9.map u32V)
 ne:B4 ≠ B
 new:w0.heap.size≤B4∧w0.heap.size≤B
 kept:Keeps NoBlock w0 wr
section
variable {w0 wr w':World} {B4 B u:Nat} {sb:Bool} {vr va:Value} {ls:List Rec} {as9:List Nat}
theorem VwSt.keep (h:VwSt w0 wr B4 B vr va u sb ls as9) (hk:Keeps NoBlock wr w'):VwSt w0 w' B4 B vr va u sb ls as9 :=
 ⟨h.res.keep hk (fun h=>h),h.view.keep hk (fun h=>h),ownBlocks h.recs (fun j hj=>hk.block j (h.recs.lt j hj).2 (fun h=>h)),ownBlocks h.ats (fun j hj=>hk.block j (h.ats.lt j hj).2 (fun h=>h)),h.ne,h.new,h.kept.trans hk⟩
theorem VwSt.apart (h:VwSt w0 wr B4 B vr va u sb ls as9):∀ j,vr.ownBlock=some j→va.ownBlock ≠ some j:=rows_apart (by decide) h.recs h.ats
theorem VwSt.notR (h:VwSt w0 wr B4 B vr va u sb ls as9):vr.ownBlock ≠ some B∧vr.ownBlock ≠ some B4:=⟨row_not h.recs h.view (by decide),row_not h.recs h.res (by decide)⟩
theorem VwSt.notA (h:VwSt w0 wr B4 B vr va u sb ls as9):va.ownBlock ≠ some B∧va.ownBlock ≠ some B4:=⟨row_not h.ats h.view (by decide),row_not h.ats h.res (by decide)⟩
theorem VwSt.seen (h:VwSt w0 wr B4 B vr va u sb ls as9) {row:Option Nat} (hg:wr.grownBy w' row) (hr:row ≠ some B):Whole w' B 55 #[vr,va,.int .u32 (u:Int),.bool sb]:=(hg.block B h.view.lt (fun e=>hr e.symm)).trans h.view
theorem VwSt.more (h:VwSt w0 wr B4 B vr va u sb ls as9) {g1 N cap:Nat} {r:Rec}
  (hr:w'.ownsRow w0.heap.size 48 4 (.slice (some ⟨g1,0,none⟩) N cap) N (rcFlat ls ++ rcFour r)) (hg:wr.grownBy w' vr.ownBlock) (hl:vr.ownBlock=some g1 ∨ g1=wr.heap.size) :
  VwSt w0 (w'.setCell ⟨B,0,none⟩ (.slice (some ⟨g1,0,none⟩) N cap)) B4 B (.slice (some ⟨g1,0,none⟩) N cap) va u sb (ls ++ [r]) as9:=by
 have hN:N=(ls ++ [r]).length:=by
  have:=hr.1
  rw [List.length_append,rcFlat_len,show (rcFour r).length=4 from rfl] at this
  rw [List.length_append,List.length_singleton]
  omega
 have hlt:=h.view.lt
 have hgg:g1 ≠ B:=fun e=>by
  rcases hl with hl|hl
  ·exact h.notR.1 (e ▸ hl)
  ·omega
 have h4:Whole w' B4 55 #[.slice none 0 0,.slice none 0 0,.int .u32 0,.bool false]:=(hg.block B4 h.res.lt (fun e=>h.notR.2 e.symm)).trans h.res
 refine ⟨h4.setOther h.ne _,(h.seen hg h.notR.1).set 0 _,?_,ownBlocks h.ats (fun j hj=>?_),h.ne,h.new,(h.kept.grown hg (fun j hj=>.inr (h.recs.lt j hj).1)).set (.inr h.new.2) _⟩
 ·have e:rcFlat (ls ++ [r])=rcFlat ls ++ rcFour r:=by unfold rcFlat;rw [List.flatMap_append];simp
  rw [e,← hN]
  exact ownBlocks hr (fun j hj=>set_far (fun e=>by
   have:g1=j:=by simpa [Value.ownBlock] using hj
   omega))
 ·have hne:j ≠ B:=fun e=>h.notA.1 (e ▸ hj)
  rw [set_far hne]
  exact hg.block j (h.ats.lt j hj).2 (fun e=>h.apart j e.symm hj)
theorem VwSt.place (h:VwSt w0 wr B4 B vr va u sb ls as9) {g1 N cap x:Nat}
  (hr:w'.ownsRow w0.heap.size 25 1 (.slice (some ⟨g1,0,none⟩) N cap) N (as9.map u32V ++ [u32V x])) (hg:wr.grownBy w' va.ownBlock) (hl:va.ownBlock=some g1 ∨ g1=wr.heap.size) :
  VwSt w0 (w'.setCell ⟨B,1,none⟩ (.slice (some ⟨g1,0,none⟩) N cap)) B4 B vr (.slice (some ⟨g1,0,none⟩) N cap) u sb ls (as9 ++ [x]):=by
 have hN:N=(as9 ++ [x]).length:=by
  have:=hr.1
  rw [List.length_append,List.length_map,List.length_singleton] at this
  rw [List.length_append,List.length_singleton]
  omega
 have hlt:=h.view.lt
 have hgg:g1 ≠ B:=fun e=>by
  rcases hl with hl|hl
  ·exact h.notA.1 (e ▸ hl)
  ·omega
 have h4:Whole w' B4 55 #[.slice none 0 0,.slice none 0 0,.int .u32 0,.bool false]:=(hg.block B4 h.res.lt (fun e=>h.notA.2 e.symm)).trans h.res
 refine ⟨h4.setOther h.ne _,(h.seen hg h.notA.1).set 1 _,ownBlocks h.recs (fun j hj=>?_),?_,h.ne,h.new,(h.kept.grown hg (fun j hj=>.inr (h.ats.lt j hj).1)).set (.inr h.new.2) _⟩
 ·have hne:j ≠ B:=fun e=>h.notR.1 (e ▸ hj)
  rw [set_far hne]
  exact hg.block j (h.recs.lt j hj).2 (fun e=>h.apart j hj e.symm)
 ·rw [List.map_append,← hN]
  exact ownBlocks hr (fun j hj=>set_far (fun e=>by
   have:g1=j:=by simpa [Value.ownBlock] using hj
   omega))
theorem VwSt.used (h:VwSt w0 wr B4 B vr va u sb ls as9) (u':Nat):VwSt w0 (wr.setCell ⟨B,2,none⟩ (.int .u32 (u':Int))) B4 B vr va u' sb ls as9:=by
 refine ⟨h.res.setOther h.ne _,h.view.set 2 _,ownBlocks h.recs (fun j hj=>set_far (fun e=>h.notR.1 (e ▸ hj))),ownBlocks h.ats (fun j hj=>set_far (fun e=>h.notA.1 (e ▸ hj))),h.ne,h.new,h.kept.set (.inr h.new.2) _⟩
theorem VwSt.rows (h:VwSt w0 wr B4 B vr va u sb ls as9):NewRecs w0 ls vr wr∧NewRow32 w0 as9 va wr∧∀ k,vr.ownBlock=some k ∨ va.ownBlock=some k→w0.heap.size≤k:=by
 have hb:=h.kept.below (Nat.le_refl _) (fun _ _ h=>h)
 refine ⟨RecsSoFar.new ⟨h.recs,hb⟩,?_,fun k hk=>hk.elim (fun h1=>(h.recs.lt k h1).1) (fun h1=>(h.ats.lt k h1).1)⟩
 obtain ⟨q,m,d,h1,h2,h3,h4,h5,h6,h7⟩:=OnesSoFar.new (v0:=u32V) (dd:=0) (t:=25) (l:=as9) ⟨h.ats,hb⟩
 exact ⟨q,m,d,h1,h2,h3,h4,h5,h6,h7⟩
theorem VwSt.shut (h:VwSt w0 wr B4 B vr va u sb ls as9) (sb':Bool):VwSt w0 (wr.setCell ⟨B,3,none⟩ (.bool sb')) B4 B vr va u sb' ls as9:=by
 refine ⟨h.res.setOther h.ne _,h.view.set 3 _,ownBlocks h.recs (fun j hj=>set_far (fun e=>h.notR.1 (e ▸ hj))),ownBlocks h.ats (fun j hj=>set_far (fun e=>h.notA.1 (e ▸ hj))),h.ne,h.new,h.kept.set (.inr h.new.2) _⟩
theorem vw_cells {w:World} {g:Nat} {t:TypeId} {a b c d:Value} (h:Whole w g t #[a,b,c,d]):w.cell? ⟨g,0,none⟩=some a∧w.cell? ⟨g,1,none⟩=some b∧w.cell? ⟨g,2,none⟩=some c∧w.cell? ⟨g,3,none⟩=some d :=
 ⟨h.cell 0 rfl,h.cell 1 rfl,h.cell 2 rfl,h.cell 3 rfl⟩
def put4 (w:World) (g:Nat) (a b c d:Value):World:=(((w.setCell ⟨g,0,none⟩ a).setCell ⟨g,1,none⟩ b).setCell ⟨g,2,none⟩ c).setCell ⟨g,3,none⟩ d
theorem VwSt.put (h:VwSt w0 wr B4 B vr va u sb ls as9) (a b c d:Value) :
  Whole (put4 wr B4 a b c d) B4 55 #[a,b,c,d]∧Whole (put4 wr B4 a b c d) B 55 #[vr,va,.int .u32 (u:Int),.bool sb] ∧
  NewRecs w0 ls vr (put4 wr B4 a b c d)∧NewRow32 w0 as9 va (put4 wr B4 a b c d)∧(∀ k,vr.ownBlock=some k ∨ va.ownBlock=some k→w0.heap.size≤k)∧Keeps NoBlock w0 (put4 wr B4 a b c d):=by
 have hk:Keeps NoBlock w0 (put4 wr B4 a b c d):=(((h.kept.set (.inr h.new.1) _).set (.inr h.new.1) _).set (.inr h.new.1) _).set (.inr h.new.1) _
 have hb:=hk.below (Nat.le_refl _) (fun _ _ h=>h)
 have hr:(put4 wr B4 a b c d).ownsRow w0.heap.size 48 4 vr ls.length (rcFlat ls):=ownBlocks h.recs (fun j hj=>by
  have hne:j ≠ B4:=fun e=>h.notR.2 (e ▸ hj)
  unfold put4
  rw [set_far hne,set_far hne,set_far hne,set_far hne])
 have ha:(put4 wr B4 a b c d).ownsRow w0.heap.size 25 1 va as9.length (as9.map u32V):=ownBlocks h.ats (fun j hj=>by
  have hne:j ≠ B4:=fun e=>h.notA.2 (e ▸ hj)
  unfold put4
  rw [set_far hne,set_far hne,set_far hne,set_far hne])
 refine ⟨(((h.res.set 0 a).set 1 b).set 2 c).set 3 d,(((h.view.setOther h.ne.symm _).setOther h.ne.symm _).setOther h.ne.symm _).setOther h.ne.symm _,RecsSoFar.new ⟨hr,hb⟩,?_,h.rows.2.2,hk⟩
 obtain ⟨q,m,d,h1,h2,h3,h4,h5,h6,h7⟩:=OnesSoFar.new (v0:=u32V) (dd:=0) (t:=25) (l:=as9) ⟨ha,hb⟩
 exact ⟨q,m,d,h1,h2,h3,h4,h5,h6,h7⟩
end
def ReadPost (e s n:Nat) (ys:List Int) (w:World) (r:Ending) (w':World):Prop :=
 (∃ l b vr va,parseS e s n ys=some (l,b)∧r=.returned (.tuple #[.agg #[vr,va,.int .u32 ((outS e s n l).length:Int),.bool b],.bool true])∧NewRecs w l vr w'∧NewRow32 w (placesS e s n l) va w'∧∀ k,vr.ownBlock=some k ∨ va.ownBlock=some k→w.heap.size≤k) ∨
 (parseS e s n ys=none∧∃ q1 m1 d1 q2 m2 d2 x b,r=.returned (.tuple #[.agg #[.slice q1 m1 d1,.slice q2 m2 d2,.int .u32 x,.bool b],.bool false])∧Keeps NoBlock w w')
end
section
open Go.RowKit
theorem infoU32R:(Tryz.prog.info? 25).map (fun i=>(i.zero,i.size,i.bytes))=some (some (.int .u32 0),1,4):=by kernel_rfl
theorem slice_from (A:Addr) (N c a:Nat) (ha:a≤N) (hc:N≤c):∃ q1,(a<N→q1=A.add a)∧∀ W,(Instr.slice 29 (.slice (some A) N c) (some (.int .i64 (a:Int))) none none).run Tryz.prog W=.ok (.slice (some q1) (N - a) (c - a)) W:=by
 obtain ⟨i0,hi,hz0,hz1,hz2⟩:=info_parts infoByte
 have ht':Tryz.prog.underlying 29=some (.slice (Tryz.prog.elem 29)):=by kernel_rfl
 have he:Tryz.prog.elem 29=5:=by kernel_rfl
 have hz:∀ w,Sem.run Tryz.prog (Go.sizeOf 5) w=.ok 1 w:=fun w=>by simp [Go.sizeOf,typeInfo,hi,hz1]
 refine ⟨if c=a then A else A.add a,fun h=>by rw [if_neg (by omega)],fun W=>?_⟩
 rw [run_slice_l W _ _ _ _ ht' .i64 _ (by omega) (by omega),he,hz]
 by_cases h:c=a
 ·simp [Result.andThen,sliced,h]
 ·simp [Result.andThen,sliced,h]
theorem slice_piece (A:Addr) (N c a z a2:Nat) (h2:a2=a+z) (h0:0<z) (hc:a2≤c):∀ W,(Instr.slice 29 (.slice (some A) N c) (some (.int .i64 (a:Int))) (some (.int .i64 (a2:Int))) none).run Tryz.prog W=.ok (.slice (some (A.add a)) z (c - a)) W:=fun W=>by
 obtain ⟨i0,hi,hz0,hz1,hz2⟩:=info_parts infoByte
 have ht':Tryz.prog.underlying 29=some (.slice (Tryz.prog.elem 29)):=by kernel_rfl
 have he:Tryz.prog.elem 29=5:=by kernel_rfl
 have hz:∀ w,Sem.run Tryz.prog (Go.sizeOf 5) w=.ok 1 w:=fun w=>by simp [Go.sizeOf,typeInfo,hi,hz1]
 rw [run_slice_lh W _ _ _ _ ht' .i64 .i64 _ _ (by omega) (by omega) (by omega),he,hz]
 simp only [Result.andThen,sliced,Int.toNat_natCast,Nat.mul_one]
 rw [if_neg (by omega),show a2 - a=z by omega]
 rfl
theorem slice_head (Q:Addr) (z d z1:Nat) (h1:z1≤z) (hd:z≤d):∀ W,(Instr.slice 29 (.slice (some Q) z d) none (some (.int .i64 (z1:Int))) none).run Tryz.prog W=.ok (.slice (some Q) z1 d) W:=fun W=>by
 obtain ⟨i0,hi,hz0,hz1,hz2⟩:=info_parts infoByte
 have ht':Tryz.prog.underlying 29=some (.slice (Tryz.prog.elem 29)):=by kernel_rfl
 have he:Tryz.prog.elem 29=5:=by kernel_rfl
 have hz:∀ w,Sem.run Tryz.prog (Go.sizeOf 5) w=.ok 1 w:=fun w=>by simp [Go.sizeOf,typeInfo,hi,hz1]
 rw [run_slice_h W _ _ _ _ ht' .i64 _ (by omega) (by omega),he,hz]
 simp only [Result.andThen,sliced,Int.toNat_natCast,Nat.sub_zero]
 have e:(some Q).map (fun x=>x.add (0*1))=some Q:=by simp [Addr.add]
 split
 ·rfl
 ·rw [e]
theorem In8.drew {w:World} {p:Option Addr} {N c:Nat} {ys:List Int} (h:In8 w p N c ys):In8 w.drew p N c ys:=⟨h.len,h.cap,h.room,h.bare,h.oct,h.at_⟩
theorem In8.tail {w:World} {A q:Addr} {N c a:Nat} {ys:List Int} (h:In8 w (some A) N c ys) (ha:a≤N) (hq:a<N→q=A.add a):In8 w (some q) (N - a) (c - a) (ys.drop a):=by
 have hl:=h.len
 have hc:=h.cap
 have hr:=h.room
 refine ⟨by rw [List.length_drop];omega,by omega,by omega,fun h=>by simp at h,h.oct.drop a,?_⟩
 have h8:=h.at_.piece (q:=some q) a (N - a) (by omega) (fun h0=>by rw [hq (by omega)];rfl)
 rwa [List.take_of_length_le (by rw [List.length_drop];omega)] at h8
theorem In8.part {w:World} {A:Addr} {N c a z:Nat} {ys xs r:List Int} (h:In8 w (some A) N c ys) (hd:ys.drop a=xs ++ r) (hz:z=xs.length) (haN:a≤N):In8 w (some (A.add a)) z (c - a) xs:=by
 have hl:=h.len
 have hc:=h.cap
 have hr:=h.room
 have h1:(ys.drop a).length=xs.length+r.length:=by rw [hd,List.length_append]
 rw [List.length_drop] at h1
 refine ⟨hz,by omega,by omega,fun h=>by simp at h,fun b hb=>h.oct b (List.mem_of_mem_drop (by rw [hd];exact List.mem_append_left _ hb)),?_⟩
 have h8:=h.at_.piece (q:=some (A.add a)) a z (by omega) (fun _=>rfl)
 rwa [hd,hz,List.take_left' rfl] at h8
set_option maxHeartbeats 8000000 in
set_option maxRecDepth 10000 in
theorem sgread_own (e s n:Nat) (A:Addr) (N c a0:Nat) (ys:List Int) (w:World) (h:In8 w (some A) N c ys) (hN:N=2 ^ e) (h9:N≤100000) (he:e<256) (ha0:a0=(outS e s n []).length) (hh:ys=outS e s n [] ++ ys.drop a0) :
  Calls Tryz.prog 55 #[.slice (some A) N c,.int .i64 (a0:Int)] w (ReadPost e s n ys w):=by
 obtain ⟨i0,hi,hz0,hz1,hz2⟩:=info_parts infoRc
 obtain ⟨j0,hj0,hy0,hy1,hy2⟩:=info_parts infoU32R
 have hcap:=h.cap
 have hroom:=h.room
 have hl:=h.len
 have hbl:∀ l:List Rec,ys=outS e s n l ++ ys.drop (outS e s n l).length→(outS e s n l).length≤N:=fun l hy=>by
  have:=congrArg List.length hy
  rw [List.length_append,List.length_drop] at this
  omega
 have ha0N:a0≤N:=by rw [ha0];exact hbl [] (by rw [← ha0];exact hh)
 have hwa:IntKind.u32.wrap (a0:Int)=(a0:Int):=by rw [IntKind.wrap_u32];omega
 have HI:=hid (fun W (h8:Bytes8 W (some A) ys)=>(⟨h.len,h.cap,h.room,h.bare,h.oct,h8⟩:In8 W (some A) N c ys))
 have HAt:=hid h.at_
 have HBl:=hid hbl
 have HOc:=hid h.oct
 have HPo:=hid (fun (l:List Rec) (rest:List Int) hf hy hn=>parse_open (e:=e) (s:=s) (n:=n) he (ys:=ys) (rest:=rest) (l:=l) hf hy (by rw [← hl,hN]) hn)
 have HPf:=hid (fun (l:List Rec) (ch rest:List Int) hf hy hc hg=>parse_foot (e:=e) (s:=s) (n:=n) he (ys:=ys) (c:=ch) (rest:=rest) (l:=l) hf hy (by rw [← hl,hN]) hc hg)
 have HSt:Hid (VwSt w ((w.alloc (.cells #[.slice none 0 0,.slice none 0 0,.int .u32 0,.bool false] 55)).alloc (.cells #[.slice none 0 0,.slice none 0 0,.int .u32 (a0:Int),.bool false] 55)) w.heap.size (w.heap.size+1) (.slice none 0 0) (.slice none 0 0) a0 false [] (placesS e s n [])):=Lib.hid
  ⟨(Whole.new w _ _).alloc _,Whole.newAt _ _ _ _ (by simp),World.ownsRow_nil _ _ _ _,World.ownsRow_nil _ _ _ _,by omega,⟨Nat.le_refl _,by omega⟩,((Keeps.refl _ _).alloc _).alloc _⟩
 have HA0:=hid ha0
 have HH:=hid hh
 clear h hN he ha0 hh hbl hl
 go_enter Tryz.func55,Tryz.ntmps55
 go_wp2_with fail
 go_step3
 go_wp2_with fail
 go_step3
 go_wp2_with fail
 go_loopw [1] (fun at_ wr=>∃ (l:List Rec) (a:Nat) (vr va:Value),at_=.int .i64 (a:Int)∧a≤N∧Hid (VwSt w wr w.heap.size (w.heap.size+1) vr va a false l (placesS e s n l))∧Hid (a=(outS e s n l).length)∧Hid (ys=outS e s n l ++ ys.drop a)∧Hid (∀ x ∈ l,x.Fine∧checkR x=0)) (fun at_ _=>N - (intOf at_).toNat)
 case atStart=>exact ⟨[],a0,_,_,rfl,ha0N,HSt,HA0,HH,hid (fun x hx=>by simp at hx)⟩
 case round =>
  obtain ⟨l,a,vr,va,rfl,haN,HV,HL,HT,HF⟩:=hrel
  obtain ⟨⟨qv,mv,dv,hvr,hmv,hdv,-,-,-,-⟩,⟨qa,ma,da,hva,hma,-⟩,-⟩:=HV.out.rows
  obtain rfl:mv=ma:=by rw [hma,hmv,places_length]
  subst hvr hva
  have HMv:=hid (And.intro hmv hdv)
  clear hmv hdv hma
  obtain ⟨q1,hq1,hs1⟩:=slice_from A N c a haN hcap
  have HI1:=hid ((HI.out wr (HAt.out.keep HV.out.kept (fun _ _ h=>h))).tail haN hq1)
  have HIx:=hid (index_cobs (some q1) (N - a) (c - a) (ys.drop a) wr HI1.out.len HI1.out.oct HI1.out.at_ (fun h=>by simp at h))
  obtain ⟨rs,hrs⟩:∃ rs,rs=ys.drop a:=⟨_,rfl⟩
  have HRs:=hid hrs
  rw [← hrs] at HIx HI1
  clear hrs hq1
  by_cases h0:0 ∈ rs
  ·obtain ⟨ch,r9,hr9,hsol,hnt⟩:=chunk_next HI1.out.oct h0
   rw [hnt] at HIx
   have hlen:rs.length=N - a:=HI1.out.len.symm
   have hcl:ch.length+1+r9.length=N - a:=by
    rw [← hlen,hr9]
    simp only [List.length_append,List.length_cons]
    omega
   have hd1:ys.drop a=ch ++ 0 :: r9:=by rw [← HRs.out];exact hr9
   have hd2:ys.drop a=(ch ++ [0]) ++ r9:=by rw [hd1];simp
   obtain ⟨z1,hz1d⟩:∃ z1,z1=ch.length:=⟨_,rfl⟩
   obtain ⟨z,hzd⟩:∃ z,z=z1+1:=⟨_,rfl⟩
   obtain ⟨a2,ha2⟩:∃ a2,a2=a+z:=⟨_,rfl⟩
   rw [← hz1d] at HIx
   have ha2N:a2≤N:=by omega
   have HD3:Hid (ys.drop a2=r9):=hid (by
    have e:ys.drop a2=(ys.drop a).drop z:=by rw [List.drop_drop,ha2]
    rw [e,hd2,hzd,hz1d]
    exact List.drop_left' (by simp))
   have hw1:IntKind.i64.wrap ((z1:Int)+1)=(z:Int):=by rw [IntKind.wrap_i64];omega
   have hw2:IntKind.i64.wrap ((a:Int)+(z:Int))=(a2:Int):=by rw [IntKind.wrap_i64];omega
   have hw3:IntKind.i64.wrap ((z:Int) - 1)=(z1:Int):=by rw [IntKind.wrap_i64];omega
   have hw4:IntKind.u32.wrap (a:Int)=(a:Int):=by rw [IntKind.wrap_u32];omega
   have hw5:IntKind.u32.wrap (a2:Int)=(a2:Int):=by rw [IntKind.wrap_u32];omega
   have hz00:¬ (z:Int)=0:=by omega
   have hs2:=slice_piece A N c a z a2 ha2 (by omega) (by omega)
   have hs3:=slice_head (A.add a) z (c - a) z1 (by omega) (by omega)
   have HIc:=hid (fun W (hk:Keeps NoBlock wr W)=>(HI.out W (HAt.out.keep (HV.out.kept.trans hk) (fun _ _ h=>h))).part (xs:=ch) (r:=0 :: r9) hd1 hz1d haN)
   have HIp:=hid (fun W (hk:Keeps NoBlock wr W)=>(HI.out W (HAt.out.keep (HV.out.kept.trans hk) (fun _ _ h=>h))).part (xs:=ch ++ [0]) (r:=r9) hd2 (z:=z) (by rw [List.length_append,List.length_singleton];omega) haN)
   have HGt:=hid (fun W hi=>getrec_own (some (A.add a)) z1 (c - a) ch W hi (by omega))
   have HSol:=hid hsol
   have HTx:Hid (ys=outS e s n l ++ (ch ++ 0 :: r9)):=hid (by rw [← hd1];exact HT.out)
   have HZs:=hid (And.intro hz1d (And.intro hzd ha2))
   have HRl:Hid (r9.length=N - a2):=hid (by omega)
   obtain ⟨y,hy⟩:∃ y,y=(getR ch).1:=⟨_,rfl⟩
   obtain ⟨r,hr⟩:∃ r,r=(getR ch).2:=⟨_,rfl⟩
   rw [← hy,← hr] at HGt
   have HY:=hid hy
   have HRr:=hid hr
   clear hr9 hsol hnt hlen hcl hd1 hd2 hz1d hzd ha2 h0 HI1 hy hr HRs
   obtain ⟨del,seq,key,val⟩:=r
   unfold recV at HGt
   simp only at HGt
   go_wp2_with fail
   refine HIx.out.mono ?_
   rintro x w2 ⟨rfl,rfl⟩
   clear hs1
   go_wp2_with fail
   refine (HGt.out _ (HIc.out _ (Keeps.refl _ _))).mono ?_
   rintro x w4 ⟨rfl,hk4⟩
   have hkR:=hk4.alloc (.cells #[.bool del,.int .u64 (seq:Int),.string (strOfNums key),.string (strOfNums val)] 48)
   have HKR:=hid hkR
   have HVR:=hid (HV.out.keep hkR)
   obtain ⟨b0,b1,b2,b3⟩:=vw_cells (Whole.new w4 48 #[.bool del,.int .u64 (seq:Int),.string (strOfNums key),.string (strOfNums val)])
   obtain ⟨v0,v1,v2,v3⟩:=vw_cells HVR.out.view
   clear hk4 hkR HIx HGt HIc hs2 hs3
   by_cases hy0:y=0
   ·subst hy0
    have hkS:=(Keeps.refl NoBlock (w4.alloc (.cells #[.bool del,.int .u64 (seq:Int),.string (strOfNums key),.string (strOfNums val)] 48))).alloc (.cells #[.bool del,.int .u64 (seq:Int),.string (strOfNums key),.string (strOfNums val)] 48)
    have HVS:=hid (HVR.out.keep hkS)
    have HWS:=hid (Whole.newAt (w4.alloc (.cells #[.bool del,.int .u64 (seq:Int),.string (strOfNums key),.string (strOfNums val)] 48)) 48 #[.bool del,.int .u64 (seq:Int),.string (strOfNums key),.string (strOfNums val)] (w4.heap.size+1) (by simp))
    have hfit:l.length≤100000:=by
     have h1:=recsB_least l (fun x hx=>(HF.out x hx).1)
     have h2:=outS_len e s n l
     have h3:=HL.out
     omega
    have HO:=hid (out_more (e:=e) (s:=s) (n:=n) (l:=l) (r:=⟨del,seq,key,val⟩) HOc.out HTx.out (Prod.ext HY.out.symm HRr.out.symm))
    have hown:=HVS.out.recs
    clear hkS v1 v2 v3 HIp
    go_wp2_with (at_builtin;refine wpList_append_lies _ rfl _ _ 22 rfl w.heap.size 48 i0 (.agg #[.bool false,.int .u64 0,.string ⟨#[]⟩,.string ⟨#[]⟩]) 4 48 Tryz.underlying22 hi hz0 hz1 hz2 rfl (by decide) _ l.length (rcFlat l) rfl hown ⟨w4.heap.size+1,0,none⟩ 1 1 (rcFour ⟨del,seq,key,val⟩) rfl rfl ?ap1 ?ap2 (by decide) ?ap4 ?ap5 ?ap6 _ rfl ?_)
    case ap1=>intro j u hj;exact World.news_of_block HWS.out j u hj
    case ap2 =>
     intro u hu
     simp only [rcFour,List.mem_cons,List.not_mem_nil,or_false] at hu
     rcases hu with rfl|rfl|rfl|rfl <;> rfl
    case ap4=>unfold maxLen;omega
    case ap5=>omega
    case ap6=>exact HVS.out.kept.size
    intro g1 cap1 w6 hown6 hgrow6 hat6 hlt6
    have h6:=HVS.out.seen hgrow6 HVS.out.notR.1
    have HV7:=hid (HVS.out.more hown6 hgrow6 (by simpa using hat6))
    have f6:=h6.free 0
    have y6:=h6.cell 0 rfl
    obtain ⟨W7,hW7⟩:∃ W7,W7=w6.setCell ⟨w.heap.size+1,0,none⟩ (.slice (some ⟨g1,0,none⟩) (l.length+1) cap1):=⟨_,rfl⟩
    rw [← hW7] at HV7
    have v1:=(vw_cells HV7.out.view).2.1
    have hkT:=(Keeps.refl NoBlock W7).alloc (.cells #[.int .u32 (a:Int)] 25)
    have HV8:=hid (HV7.out.keep hkT)
    have HW8:=hid (Whole.new W7 25 #[.int .u32 (a:Int)])
    have hown8:=HV8.out.ats
    obtain ⟨pl,hpl⟩:∃ pl,pl=placesS e s n l:=⟨_,rfl⟩
    rw [← hpl] at hown8
    have hpll:pl.length=l.length:=by rw [hpl,places_length]
    have HPl:=hid hpl
    have HPll:=hid hpll
    rw [hpll] at hown8
    clear hown hown6 hgrow6 hat6 hlt6 h6 hkT hpl hpll v0 b0 b1 b2 b3 HVR HKR HVS HWS
    go_upto_region 9 with (fail)
    rw [← hW7]
    clear hW7 f6 y6
    go_wp2_with (at_builtin;refine wpList_append_lies _ rfl _ _ 53 rfl w.heap.size 25 j0 (.int .u32 0) 1 4 Tryz.underlying53 hj0 hy0 hy1 hy2 rfl (by decide) _ l.length (pl.map u32V) rfl hown8 ⟨W7.heap.size,0,none⟩ 1 1 [u32V a] rfl rfl ?aq1 ?aq2 (by decide) ?aq4 ?aq5 ?aq6 _ rfl ?_)
    case aq1=>intro j u hj;exact World.news_of_block HW8.out j u hj
    case aq2=>intro u hu;rw [List.mem_singleton.1 hu];rfl
    case aq4=>unfold maxLen;omega
    case aq5=>omega
    case aq6=>exact HV8.out.kept.size
    intro g2 cap2 w8 hown9 hgrow9 hat9 hlt9
    have h9w:=HV8.out.seen hgrow9 HV8.out.notA.1
    have HV10:=hid (HV8.out.place (x:=a) (by rw [← HPl.out];exact hown9) hgrow9 (by simpa using hat9))
    have f9:=h9w.free 1
    have y9:=h9w.cell 1 rfl
    obtain ⟨W10,hW10⟩:∃ W10,W10=w8.setCell ⟨w.heap.size+1,1,none⟩ (.slice (some ⟨g2,0,none⟩) (l.length+1) cap2):=⟨_,rfl⟩
    rw [← hW10] at HV10
    have v2:=(vw_cells HV10.out.view).2.2.1
    have f10:=HV10.out.view.free 2
    have HV11:=hid (HV10.out.used a2)
    clear hown8 hown9 hgrow9 hat9 hlt9 h9w v1 HV7 HV8 HW8
    go_upto_region 10 with (fail)
    rw [← hW10]
    clear hW10 f9 y9
    go_wp2_with fail
    refine ⟨⟨l ++ [⟨del,seq,key,val⟩],a2,_,_,rfl,ha2N,hid (by rw [places_snoc,← HL.out];exact HV11.out),hid ?_,hid (by rw [HD3.out];exact HO.out.1),hid (fun x hx=>?_)⟩,?_⟩
    ·have h1:=HO.out.2.2.2
     have h2:=HZs.out
     have h3:=HL.out
     rw [outS_snoc,List.length_append,h1]
     omega
    ·rcases List.mem_append.1 hx with hx|hx
     ·exact HF.out x hx
     ·rw [List.mem_singleton.1 hx]
      exact ⟨HO.out.2.1,HO.out.2.2.1⟩
    ·have h2:=HZs.out
     simp only [intOf]
     omega
   ·have hyd:(y == 0)=false:=by simpa using hy0
    have hu9:(outS e s n l).length≤100000:=by have:=HL.out;omega
    have hfit:l.length≤10000:=by
     have h1:=recsB_least l (fun x hx=>(HF.out x hx).1)
     have h2:=outS_len e s n l
     omega
    obtain ⟨⟨q9,m9,d9,hv9,hm9,-,-,-,hra,-⟩,⟨qb,mb,db,hvb,-,-,-,-,hrb,-⟩,-⟩:=HVR.out.rows
    simp only [Value.slice.injEq] at hv9 hvb
    obtain ⟨rfl,rfl,rfl⟩:=hv9
    obtain ⟨rfl,rfl,rfl⟩:=hvb
    have HSe:=hid (seals_own e s n l qv qa mv dv da false (some (A.add a)) z (c - a) (ch ++ [0]) _ hra hm9 hrb HMv.out.2 HF.out hfit hu9 (HIp.out _ HKR.out))
    rw [← HL.out] at HSe
    obtain ⟨Z1,hZ1⟩:∃ Z1,Z1=decide (0<l.length∧ch ++ [0]=footS e s n l):=⟨_,rfl⟩
    rw [← hZ1] at HSe
    have HPp:=hid (HPf.out l ch r9 HF.out HTx.out HSol.out (by rw [← HY.out];exact hy0))
    have HZ1:=hid hZ1
    clear hra hrb hm9 hfit hu9 hZ1 HIp hy0 b0 b1 b2 b3
    cases Z1
    ·have HNo:Hid (parseS e s n ys=none):=hid (by
      rw [HPp.out,if_neg]
      exact fun h=>by have:=of_decide_eq_false HZ1.out.symm;exact this h.1)
     clear HPp HZ1
     go_wp2_with fail
     refine HSe.out.mono ?_
     rintro x w7 ⟨rfl,hk7⟩
     have HV7:=hid (HVR.out.keep hk7)
     have f0:=HV7.out.res.free 0
     have f1:=HV7.out.res.free 1
     have f2:=HV7.out.res.free 2
     have f3:=HV7.out.res.free 3
     obtain ⟨y0,y1,y2,y3⟩:=vw_cells HV7.out.res
     obtain ⟨p1,p2,p3,p4,p5,p6⟩:=HV7.out.put (.slice none 0 0) (.slice none 0 0) (.int .u32 0) (.bool false)
     unfold put4 at p1 p6
     have HP1:=hid p1
     have HP6:=hid p6
     clear hk7 v0 v1 v2 v3 p1 p2 p3 p4 p5 p6
     go_wp2_with fail
     rw [Exit.noGoto_ret]
     obtain ⟨g0,g1,g2,g3⟩:=vw_cells HP1.out
     refine bodyPost_ret (v:=.tuple #[.agg #[.slice none 0 0,.slice none 0 0,.int .u32 0,.bool false],.bool false]) (by simp [results,Tryz.results55,go_sem,g0,g1,g2,g3]) rfl ?_
     exact .inr ⟨HNo.out,none,0,0,none,0,0,0,false,rfl,HP6.out⟩
    ·obtain ⟨q2,hq2,hs4⟩:=slice_from A N c a2 ha2N hcap
     obtain ⟨Z,hZ⟩:∃ Z,Z=decide (r9=List.replicate r9.length 255):=⟨_,rfl⟩
     have HEr:=hid (fun W hi=>erased_own (some q2) (N - a2) (c - a2) r9 W hi)
     rw [← hZ] at HEr
     have HPZ:Hid (parseS e s n ys=if Z=true then some (l,true) else none):=hid (by
      have h1:=of_decide_eq_true HZ1.out.symm
      rw [HPp.out,hZ]
      simp [h1])
     have HQ2:=hid hq2
     clear HPp HZ1 hZ hq2
     go_wp2_with fail
     refine HSe.out.mono ?_
     rintro x w7 ⟨rfl,hk7⟩
     have HV7:=hid (HVR.out.keep hk7)
     have f3:=HV7.out.view.free 3
     have y3:=(vw_cells HV7.out.view).2.2.2
     have HV8:=hid (HV7.out.shut true)
     clear hk7 v0 v1 v2 v3
     go_upto_region 15 with (fail)
     clear f3 y3
     obtain ⟨W8,hW8⟩:∃ W8,W8=w7.setCell ⟨w.heap.size+1,3,none⟩ (.bool true):=⟨_,rfl⟩
     rw [← hW8] at HV8 ⊢
     clear hW8
     have HI8:=hid ((HI.out W8 (HAt.out.keep HV8.out.kept (fun _ _ h=>h))).tail ha2N HQ2.out)
     rw [HD3.out] at HI8
     have hv0:=vw_cells HV8.out.view
     have s0:W8.drew.cell? ⟨w.heap.size+1,0,none⟩=some (.slice qv mv dv)∧W8.drew.cell? ⟨w.heap.size+1,1,none⟩=some (.slice qa mv da)∧W8.drew.cell? ⟨w.heap.size+1,2,none⟩=some (.int .u32 (a:Int))∧W8.drew.cell? ⟨w.heap.size+1,3,none⟩=some (.bool true):=hv0
     have sN:W8.cell? ⟨w.heap.size+1,0,none⟩=some (.slice qv mv dv)∧W8.cell? ⟨w.heap.size+1,1,none⟩=some (.slice qa mv da)∧W8.cell? ⟨w.heap.size+1,2,none⟩=some (.int .u32 (a:Int))∧W8.cell? ⟨w.heap.size+1,3,none⟩=some (.bool true):=hv0
     clear hv0
     go_region_held3 (fun w'=>w'.cell? ⟨w.heap.size+1,0,none⟩=some (.slice qv mv dv)∧w'.cell? ⟨w.heap.size+1,1,none⟩=some (.slice qa mv da)∧w'.cell? ⟨w.heap.size+1,2,none⟩=some (.int .u32 (a:Int))∧w'.cell? ⟨w.heap.size+1,3,none⟩=some (.bool true))
      (first|exact s9|exact s5|exact s0|exact sN)
      (first|(go_at_call 86;refine (HEr.out _ (by first|exact HI8.out.drew|exact HI8.out)).mono ?_;rintro e5 w5 ⟨rfl,hk5⟩;have hk':Keeps NoBlock W8 w5:=(by first|exact hk5.ofDrew|exact hk5);have HV5:=hid (HV8.out.keep hk');have s5:w5.cell? ⟨w.heap.size+1,0,none⟩=some (.slice qv mv dv)∧w5.cell? ⟨w.heap.size+1,1,none⟩=some (.slice qa mv da)∧w5.cell? ⟨w.heap.size+1,2,none⟩=some (.int .u32 (a:Int))∧w5.cell? ⟨w.heap.size+1,3,none⟩=some (.bool true):=vw_cells HV5.out.view;have HPu:=hid (HV5.out.put (.slice qv mv dv) (.slice qa mv da) (.int .u32 (a:Int)) (.bool true));have s9:((((w5.setCell ⟨w.heap.size,0,none⟩ (.slice qv mv dv)).setCell ⟨w.heap.size,1,none⟩ (.slice qa mv da)).setCell ⟨w.heap.size,2,none⟩ (.int .u32 (a:Int))).setCell ⟨w.heap.size,3,none⟩ (.bool true)).cell? ⟨w.heap.size+1,0,none⟩=some (.slice qv mv dv)∧((((w5.setCell ⟨w.heap.size,0,none⟩ (.slice qv mv dv)).setCell ⟨w.heap.size,1,none⟩ (.slice qa mv da)).setCell ⟨w.heap.size,2,none⟩ (.int .u32 (a:Int))).setCell ⟨w.heap.size,3,none⟩ (.bool true)).cell? ⟨w.heap.size+1,1,none⟩=some (.slice qa mv da)∧((((w5.setCell ⟨w.heap.size,0,none⟩ (.slice qv mv dv)).setCell ⟨w.heap.size,1,none⟩ (.slice qa mv da)).setCell ⟨w.heap.size,2,none⟩ (.int .u32 (a:Int))).setCell ⟨w.heap.size,3,none⟩ (.bool true)).cell? ⟨w.heap.size+1,2,none⟩=some (.int .u32 (a:Int))∧((((w5.setCell ⟨w.heap.size,0,none⟩ (.slice qv mv dv)).setCell ⟨w.heap.size,1,none⟩ (.slice qa mv da)).setCell ⟨w.heap.size,2,none⟩ (.int .u32 (a:Int))).setCell ⟨w.heap.size,3,none⟩ (.bool true)).cell? ⟨w.heap.size+1,3,none⟩=some (.bool true):=vw_cells HPu.out.2.1;have f0:=HV5.out.res.free 0;have f1:=HV5.out.res.free 1;have f2:=HV5.out.res.free 2;have f3:=HV5.out.res.free 3;obtain ⟨y0,y1,y2,y3⟩:=vw_cells HV5.out.res;clear hk5 hk';obtain ⟨W9,rfl⟩:∃ x,x=w5:=⟨_,rfl⟩))
     clear s0 sN s5 s9 f0 f1 f2 f3 y0 y1 y2 y3
     go_wp2_with fail
     rw [Exit.noGoto_ret]
     obtain ⟨p1,p2,p3,p4,p5,p6⟩:=HPu.out
     unfold put4 at p1 p3 p4 p6
     obtain ⟨g0,g1,g2,g3⟩:=vw_cells p1
     refine bodyPost_ret (v:=.tuple #[.agg #[.slice qv mv dv,.slice qa mv da,.int .u32 (a:Int),.bool true],.bool Z]) (by simp [results,Tryz.results55,go_sem,g0,g1,g2,g3]) rfl ?_
     have hpz:=HPZ.out
     cases Z
     ·rw [if_neg (by simp)] at hpz
      exact .inr ⟨hpz,qv,mv,dv,qa,mv,da,(a:Int),true,rfl,p6⟩
     ·rw [if_pos rfl] at hpz
      exact .inl ⟨l,true,_,_,hpz,by rw [← HL.out],p3,p4,p5⟩
  ·rw [show nought rs=-1 by unfold nought;rw [if_neg h0]] at HIx
   obtain ⟨Z,hZ⟩:∃ Z,Z=decide (rs=List.replicate rs.length 255):=⟨_,rfl⟩
   have HEr:=hid (fun W hi=>erased_own (some q1) (N - a) (c - a) rs W hi)
   rw [← hZ] at HEr
   have HPZ:Hid (parseS e s n ys=if Z=true then some (l,false) else none):=hid (by
    rw [HPo.out l rs HF.out (by rw [HRs.out];exact HT.out) (fun b hb hb0=>h0 (hb0 ▸ hb)),hZ]
    simp)
   clear h0 hZ
   go_wp2_with fail
   refine HIx.out.mono ?_
   rintro x w2 ⟨rfl,rfl⟩
   go_wp2_with fail
   have hv0:=vw_cells HV.out.view
   have s0:w2.drew.cell? ⟨w.heap.size+1,0,none⟩=some (.slice qv mv dv)∧w2.drew.cell? ⟨w.heap.size+1,1,none⟩=some (.slice qa mv da)∧w2.drew.cell? ⟨w.heap.size+1,2,none⟩=some (.int .u32 (a:Int))∧w2.drew.cell? ⟨w.heap.size+1,3,none⟩=some (.bool false):=hv0
   have sN:w2.cell? ⟨w.heap.size+1,0,none⟩=some (.slice qv mv dv)∧w2.cell? ⟨w.heap.size+1,1,none⟩=some (.slice qa mv da)∧w2.cell? ⟨w.heap.size+1,2,none⟩=some (.int .u32 (a:Int))∧w2.cell? ⟨w.heap.size+1,3,none⟩=some (.bool false):=hv0
   clear hv0
   go_region_held3 (fun w'=>w'.cell? ⟨w.heap.size+1,0,none⟩=some (.slice qv mv dv)∧w'.cell? ⟨w.heap.size+1,1,none⟩=some (.slice qa mv da)∧w'.cell? ⟨w.heap.size+1,2,none⟩=some (.int .u32 (a:Int))∧w'.cell? ⟨w.heap.size+1,3,none⟩=some (.bool false))
    (first|exact s9|exact s5|exact s0|exact sN)
    (first|(go_at_call 86;refine (HEr.out _ (by first|exact HI1.out.drew|exact HI1.out)).mono ?_;rintro e5 w5 ⟨rfl,hk5⟩;have hk':Keeps NoBlock w2 w5:=(by first|exact hk5.ofDrew|exact hk5);have HV5:=hid (HV.out.keep hk');have s5:w5.cell? ⟨w.heap.size+1,0,none⟩=some (.slice qv mv dv)∧w5.cell? ⟨w.heap.size+1,1,none⟩=some (.slice qa mv da)∧w5.cell? ⟨w.heap.size+1,2,none⟩=some (.int .u32 (a:Int))∧w5.cell? ⟨w.heap.size+1,3,none⟩=some (.bool false):=vw_cells HV5.out.view;have HPu:=hid (HV5.out.put (.slice qv mv dv) (.slice qa mv da) (.int .u32 (a:Int)) (.bool false));have s9:((((w5.setCell ⟨w.heap.size,0,none⟩ (.slice qv mv dv)).setCell ⟨w.heap.size,1,none⟩ (.slice qa mv da)).setCell ⟨w.heap.size,2,none⟩ (.int .u32 (a:Int))).setCell ⟨w.heap.size,3,none⟩ (.bool false)).cell? ⟨w.heap.size+1,0,none⟩=some (.slice qv mv dv)∧((((w5.setCell ⟨w.heap.size,0,none⟩ (.slice qv mv dv)).setCell ⟨w.heap.size,1,none⟩ (.slice qa mv da)).setCell ⟨w.heap.size,2,none⟩ (.int .u32 (a:Int))).setCell ⟨w.heap.size,3,none⟩ (.bool false)).cell? ⟨w.heap.size+1,1,none⟩=some (.slice qa mv da)∧((((w5.setCell ⟨w.heap.size,0,none⟩ (.slice qv mv dv)).setCell ⟨w.heap.size,1,none⟩ (.slice qa mv da)).setCell ⟨w.heap.size,2,none⟩ (.int .u32 (a:Int))).setCell ⟨w.heap.size,3,none⟩ (.bool false)).cell? ⟨w.heap.size+1,2,none⟩=some (.int .u32 (a:Int))∧((((w5.setCell ⟨w.heap.size,0,none⟩ (.slice qv mv dv)).setCell ⟨w.heap.size,1,none⟩ (.slice qa mv da)).setCell ⟨w.heap.size,2,none⟩ (.int .u32 (a:Int))).setCell ⟨w.heap.size,3,none⟩ (.bool false)).cell? ⟨w.heap.size+1,3,none⟩=some (.bool false):=vw_cells HPu.out.2.1;have f0:=HV5.out.res.free 0;have f1:=HV5.out.res.free 1;have f2:=HV5.out.res.free 2;have f3:=HV5.out.res.free 3;obtain ⟨y0,y1,y2,y3⟩:=vw_cells HV5.out.res;clear hk5 hk';obtain ⟨W9,rfl⟩:∃ x,x=w5:=⟨_,rfl⟩))
   clear s0 sN s5 s9 f0 f1 f2 f3 y0 y1 y2 y3
   go_wp2_with fail
   rw [Exit.noGoto_ret]
   obtain ⟨p1,p2,p3,p4,p5,p6⟩:=HPu.out
   unfold put4 at p1 p3 p4 p6
   obtain ⟨g0,g1,g2,g3⟩:=vw_cells p1
   refine bodyPost_ret (v:=.tuple #[.agg #[.slice qv mv dv,.slice qa mv da,.int .u32 (a:Int),.bool false],.bool Z]) (by simp [results,Tryz.results55,go_sem,g0,g1,g2,g3]) rfl ?_
   have hpz:=HPZ.out
   cases Z
   ·rw [if_neg (by simp)] at hpz
    exact .inr ⟨hpz,qv,mv,dv,qa,mv,da,(a:Int),false,rfl,p6⟩
   ·rw [if_pos rfl] at hpz
    exact .inl ⟨l,false,_,_,hpz,by rw [← HL.out],p3,p4,p5⟩
end
section
open Go.RowKit
theorem text_most (e s n:Nat) (l:List Rec) (b:Bool):2 ^ e≤(textS e s n l b).length:=by
 unfold textS
 rw [List.length_append,List.length_replicate]
 omega
theorem parse_short {e s n:Nat} {ys:List Int} (h:ys.length<2 ^ e):parseS e s n ys=none:=by
 cases hp:parseS e s n ys with
 | none=>rfl
 | some x =>
  obtain ⟨l,b⟩:=x
  have h1:=(parse_only hp).1
  have h2:=text_most e s n l b
  rw [h1] at h2
  omega
theorem parse_head {e s n:Nat} {ys:List Int} (h:ys.take (sealN (headB e s n)).length ≠ sealN (headB e s n)):parseS e s n ys=none:=by
 cases hp:parseS e s n ys with
 | none=>rfl
 | some x =>
  obtain ⟨l,b⟩:=x
  have h1:=(parse_only hp).1
  obtain ⟨r,h2⟩:=text_head (e:=e) (s:=s) (n:=n) l b
  exact absurd (by rw [← h1,h2,List.take_left' rfl]) h
def nilView:Array Value:=#[.slice none 0 0,.slice none 0 0,.int .u32 0,.bool false]
set_option maxHeartbeats 4000000 in
set_option maxRecDepth 10000 in
theorem sgparse_own (e s n:Nat) (p:Option Addr) (N c:Nat) (ys:List Int) (w:World) (h:In8 w p N c ys) (h9:N≤100000) (hNe:N≤2 ^ e) (he:e<256) (hs:s<4294967296) (hn:n<4294967296) :
  Calls Tryz.prog 31 #[confV e s,.int .u32 (n:Int),.slice p N c] w (ViewPost e s n ys w):=by
 have HP:=hid (fun w=>puthead_own e s n w he hs hn)
 have HC:=hid ((Whole.new w 27 (confCells e s)).alloc (.cells nilView 55))
 have HV:=hid (Whole.newAt (w.alloc (.cells (confCells e s) 27)) 55 nilView (w.heap.size+1) (by simp))
 have HK0:=hid (((Keeps.refl NoBlock w).alloc (.cells (confCells e s) 27)).alloc (.cells nilView 55))
 obtain ⟨c0,c1⟩:=And.intro (HC.out.cell 0 rfl) (HC.out.cell 1 rfl)
 simp only [confCells,List.getElem_toArray,List.getElem_cons_zero,List.getElem_cons_succ] at c0 c1
 unfold nilView at HC HV HK0 c0 c1
 unfold confCells at HC HK0
 by_cases hm:mayHead e s n=true
 rotate_left
 ·rw [if_neg hm] at HP
  have hm':mayHead e s n=false:=by simpa using hm
  have HM:=hid hm'
  clear hm hm' h h9 hNe he hs hn
  unfold confV at HP ⊢
  go_enter Tryz.func31,Tryz.ntmps31
  go_wp2_with fail
  refine (HP.out _).mono ?_
  rintro r w1 ⟨v1,rfl,q1,m1,d1,rfl,hm1,hmd1,hd1,hq1,hb1,hk⟩
  have HV1:=hid (HV.out.keep hk (fun h=>h))
  have HK1:=hid (HK0.out.trans hk)
  obtain ⟨y0,y1,y2,y3⟩:=vw_cells HV1.out
  have f0:=HV1.out.free 0
  have f1:=HV1.out.free 1
  have f2:=HV1.out.free 2
  have f3:=HV1.out.free 3
  have HW9:=hid ((((HV1.out.set 0 (.slice none 0 0)).set 1 (.slice none 0 0)).set 2 (.int .u32 0)).set 3 (.bool false))
  have HK9:=hid ((((HK1.out.setNew (g:=w.heap.size+1) (by omega) 0 (.slice none 0 0)).setNew (g:=w.heap.size+1) (by omega) 1 (.slice none 0 0)).setNew (g:=w.heap.size+1) (by omega) 2 (.int .u32 0)).setNew (g:=w.heap.size+1) (by omega) 3 (.bool false))
  clear hm1 hmd1 hd1 hq1 hb1 hk c0 c1
  go_wp2_with fail
  obtain ⟨g0,g1,g2,g3⟩:=vw_cells (a:=.slice none 0 0) (b:=.slice none 0 0) (c:=.int .u32 0) (d:=.bool false) HW9.out
  refine bodyPost_ret (v:=.tuple #[.agg #[.slice none 0 0,.slice none 0 0,.int .u32 0,.bool false],.int .i64 1]) (by simp [results,Tryz.results31,go_sem,g0,g1,g2,g3]) rfl ?_
  exact .inl ⟨HM.out,rfl,HK9.out⟩
 have hmh:=mayHead_true.1 hm
 have hmc:mayC e s=true:=mayC_true.2 ⟨hmh.1,hmh.2.1,by have:=hmh.2.2.2.2;omega,hmh.2.2.2.1⟩
 have HS:=hid (fun w=>size_conf e s w)
 rw [sizeC_may hmc] at HS
 rw [if_pos hm,show putH e s n=sealN (headB e s n) by unfold putH;rw [if_pos hm]] at HP
 have HM:=hid hm
 obtain ⟨T,hT⟩:∃ T,T=sealN (headB e s n):=⟨_,rfl⟩
 have hTo:Octets T:=by rw [hT];exact seal_octets (headB_octets he)
 have HRd:=hid (fun (A:Addr) W (hi:In8 W (some A) N c ys) (hN:N=2 ^ e) (hh:ys.take T.length=T)=>sgread_own e s n A N c T.length ys W hi hN h9 he (by rw [outS_nil,hT]) (by
  rw [outS_nil,← hT]
  have:=List.take_append_drop T.length ys
  rw [hh] at this
  exact this.symm))
 have hps:N<2 ^ e→parseS e s n ys=none:=fun h1=>parse_short (by rw [← h.len];exact h1)
 have hph:ys.take T.length ≠ T→parseS e s n ys=none:=fun h1=>parse_head (by rw [← hT];exact h1)
 rw [← hT] at HP
 have h2e:2 ^ e≤16777216:=(two_e hmh.2.1).2
 have h2p:0<2 ^ e:=Nat.pow_pos (by decide)
 obtain ⟨E,hE⟩:∃ E,E=2 ^ e:=⟨_,rfl⟩
 rw [← hE] at HS HRd hps hNe h2e h2p
 have HPs:=hid hps
 have HPh:=hid hph
 have HTo:=hid hTo
 have HIn:=hid (fun W (hk:Keeps NoBlock w W)=>(⟨h.len,h.cap,h.room,h.bare,h.oct,h.at_.keep hk (fun _ _ h=>h)⟩:In8 W p N c ys))
 have HPx:=hid (fun (q:Option Addr) (m d:Nat) W (hi:In8 W p N c ys) (h2:In8 W q m d T)=>prefix_bytes p q N c m d ys T W hi h2)
 have HLn:=hid h.len
 clear hm hmh hmc hT hTo hps hph h he hs hn hE
 unfold confV at HP HS ⊢
 go_enter Tryz.func31,Tryz.ntmps31
 go_wp2_with fail
 refine (HP.out _).mono ?_
 rintro r w1 ⟨v1,rfl,q1,m1,d1,rfl,hm1,hmd1,hd1,hq1,hb1,hk⟩
 have HV1:=hid (HV.out.keep hk (fun h=>h))
 have HC1:=hid (HC.out.keep hk (fun h=>h))
 have HK1:=hid (HK0.out.trans hk)
 have HT1:=hid (show In8 w1 q1 m1 d1 T from ⟨hm1,hmd1,hd1,hq1,HTo.out,hb1⟩)
 clear hk c0 c1 hb1 hq1 hm1 hmd1 hd1
 obtain ⟨c0,c1⟩:=And.intro (HC1.out.cell 0 rfl) (HC1.out.cell 1 rfl)
 simp only [List.getElem_toArray,List.getElem_cons_zero,List.getElem_cons_succ] at c0 c1
 go_wp2_with fail
 refine (HS.out _).mono ?_
 rintro r w2 ⟨rfl,hk⟩
 have HV2:=hid (HV1.out.keep hk (fun h=>h))
 have HK2:=hid (HK1.out.trans hk)
 have HT2:=hid (show In8 w2 q1 m1 d1 T from ⟨HT1.out.len,HT1.out.cap,HT1.out.room,HT1.out.bare,HT1.out.oct,HT1.out.at_.keep hk (fun _ _ h=>h)⟩)
 clear hk c0 c1 HC1 HV1 HT1
 by_cases hNE:N=E
 rotate_left
 ·have hne:¬ (N:Int)=(E:Int):=by omega
  have HNo:=hid (HPs.out (by omega))
  obtain ⟨y0,y1,y2,y3⟩:=vw_cells HV2.out
  have f0:=HV2.out.free 0
  have f1:=HV2.out.free 1
  have f2:=HV2.out.free 2
  have f3:=HV2.out.free 3
  have HW9:=hid ((((HV2.out.set 0 (.slice none 0 0)).set 1 (.slice none 0 0)).set 2 (.int .u32 0)).set 3 (.bool false))
  have HK9:=hid ((((HK2.out.setNew (g:=w.heap.size+1) (by omega) 0 (.slice none 0 0)).setNew (g:=w.heap.size+1) (by omega) 1 (.slice none 0 0)).setNew (g:=w.heap.size+1) (by omega) 2 (.int .u32 0)).setNew (g:=w.heap.size+1) (by omega) 3 (.bool false))
  go_wp2_with fail
  obtain ⟨g0,g1,g2,g3⟩:=vw_cells (a:=.slice none 0 0) (b:=.slice none 0 0) (c:=.int .u32 0) (d:=.bool false) HW9.out
  refine bodyPost_ret (v:=.tuple #[.agg #[.slice none 0 0,.slice none 0 0,.int .u32 0,.bool false],.int .i64 4]) (by simp [results,Tryz.results31,go_sem,g0,g1,g2,g3]) rfl ?_
  exact .inr (.inl ⟨HM.out,HNo.out,rfl,HK9.out⟩)
 have HNE:=hid hNE
 have hpx:=hid (HPx.out q1 m1 d1 w2 (HIn.out w2 HK2.out) HT2.out)
 have hml:=HT2.out.len
 by_cases hpre:ys.take T.length=T
 rotate_left
 ·have hb:decide (m1≤N∧ys.take m1=T)=false:=decide_eq_false (fun h=>hpre (by rw [← hml];exact h.2))
  rw [hb] at hpx
  have HNo:=hid (HPh.out hpre)
  obtain ⟨y0,y1,y2,y3⟩:=vw_cells HV2.out
  have f0:=HV2.out.free 0
  have f1:=HV2.out.free 1
  have f2:=HV2.out.free 2
  have f3:=HV2.out.free 3
  have HW9:=hid ((((HV2.out.set 0 (.slice none 0 0)).set 1 (.slice none 0 0)).set 2 (.int .u32 0)).set 3 (.bool false))
  have HK9:=hid ((((HK2.out.setNew (g:=w.heap.size+1) (by omega) 0 (.slice none 0 0)).setNew (g:=w.heap.size+1) (by omega) 1 (.slice none 0 0)).setNew (g:=w.heap.size+1) (by omega) 2 (.int .u32 0)).setNew (g:=w.heap.size+1) (by omega) 3 (.bool false))
  subst hNE
  clear hb hpre hml
  go_wp2_with fail
  refine hpx.out.mono ?_
  rintro r w3 ⟨rfl,rfl⟩
  go_wp2_with fail
  obtain ⟨g0,g1,g2,g3⟩:=vw_cells (a:=.slice none 0 0) (b:=.slice none 0 0) (c:=.int .u32 0) (d:=.bool false) HW9.out
  refine bodyPost_ret (v:=.tuple #[.agg #[.slice none 0 0,.slice none 0 0,.int .u32 0,.bool false],.int .i64 4]) (by simp [results,Tryz.results31,go_sem,g0,g1,g2,g3]) rfl ?_
  exact .inr (.inl ⟨HM.out,HNo.out,rfl,HK9.out⟩)
 have hlT:T.length≤ys.length:=by
  have:=congrArg List.length hpre
  rw [List.length_take] at this
  omega
 have hb:decide (m1≤N∧ys.take m1=T)=true:=decide_eq_true ⟨by have:=HLn.out;omega,by rw [hml];exact hpre⟩
 rw [hb] at hpx
 obtain ⟨A,rfl,-⟩:=(HIn.out w2 HK2.out).at_ (by have:=HLn.out;omega)
 have hrd:=HRd.out A w2 (HIn.out w2 HK2.out) hNE hpre
 rw [← hml] at hrd
 have HRd2:=hid hrd
 subst hNE
 clear hb hpre hml hlT hrd HRd
 go_wp2_with fail
 refine hpx.out.mono ?_
 rintro r w3 ⟨rfl,rfl⟩
 go_wp2_with fail
 refine HRd2.out.mono ?_
 rintro r w4 hpost
 unfold ReadPost at hpost
 rcases hpost with ⟨l,b,vr,va,hp,rfl,⟨qv,mv,dv,rfl,h1,h2,h3,h4,hra,hk4⟩,⟨qa,ma,da,rfl,i1,i2,i3,i4,hrb,-⟩,hnew⟩|⟨hp,qx,mx,dx,qy,my,dy,x,b,rfl,hk4⟩
 ·obtain ⟨u9,hu9⟩:∃ u9,u9=(outS e s n l).length:=⟨_,rfl⟩
  rw [← hu9]
  have HU9:=hid hu9
  have hkA:=hk4.alloc (.cells #[.slice qv mv dv,.slice qa ma da,.int .u32 (u9:Int),.bool b] 55)
  have HVA:=hid (HV2.out.keep hkA (fun h=>h))
  have HKA:=hid (HK2.out.trans hkA)
  have hB6:w.heap.size+1<w3.heap.size:=HV2.out.lt
  have HX:=hid (Whole.new w4 55 #[.slice qv mv dv,.slice qa ma da,.int .u32 (u9:Int),.bool b])
  have HKF:=hid ((((((Keeps.refl (Just (w.heap.size+1)) w4).alloc (.cells #[.slice qv mv dv,.slice qa ma da,.int .u32 (u9:Int),.bool b] 55)).setIn (Just.self (w.heap.size+1)) 0 (.slice qv mv dv)).setIn (Just.self (w.heap.size+1)) 1 (.slice qa ma da)).setIn (Just.self (w.heap.size+1)) 2 (.int .u32 (u9:Int))).setIn (Just.self (w.heap.size+1)) 3 (.bool b))
  have HKW:=hid ((((HKA.out.setNew (g:=w.heap.size+1) (by omega) 0 (.slice qv mv dv)).setNew (g:=w.heap.size+1) (by omega) 1 (.slice qa ma da)).setNew (g:=w.heap.size+1) (by omega) 2 (.int .u32 (u9:Int))).setNew (g:=w.heap.size+1) (by omega) 3 (.bool b))
  have HW9:=hid ((((HVA.out.set 0 (.slice qv mv dv)).set 1 (.slice qa ma da)).set 2 (.int .u32 (u9:Int))).set 3 (.bool b))
  have HRa:=hid (recs_far hra HKF.out (fun a ha hj=>by have:=hnew a.block (.inl (by rw [ha];rfl));unfold Just at hj;omega))
  have HRb:=hid (row32_far hrb HKF.out (fun a ha hj=>by have:=hnew a.block (.inr (by rw [ha];rfl));unfold Just at hj;omega))
  have HNw:Hid (∀ k,(Value.slice qv mv dv).ownBlock=some k ∨ (Value.slice qa ma da).ownBlock=some k→w.heap.size≤k):=hid (fun k hk=>by have h1:=hnew k hk;have h2:=HK2.out.size;omega)
  have HN1:=hid (And.intro h1 (And.intro h2 (And.intro h3 h4)))
  have HN2:=hid (And.intro i1 (And.intro i2 (And.intro i3 i4)))
  have HPp:=hid hp
  obtain ⟨x0,x1,x2,x3⟩:=vw_cells HX.out
  obtain ⟨y0,y1,y2,y3⟩:=vw_cells HVA.out
  have f0:=HVA.out.free 0
  have f1:=HVA.out.free 1
  have f2:=HVA.out.free 2
  have f3:=HVA.out.free 3
  clear hu9 hkA hk4 hra hrb hnew h1 h2 h3 h4 i1 i2 i3 i4 hp hB6
  go_wp2_with fail
  obtain ⟨g0,g1,g2,g3⟩:=vw_cells (a:=.slice qv mv dv) (b:=.slice qa ma da) (c:=.int .u32 (u9:Int)) (d:=.bool b) HW9.out
  refine bodyPost_ret (v:=.tuple #[.agg #[.slice qv mv dv,.slice qa ma da,.int .u32 (u9:Int),.bool b],.int .i64 0]) (by simp [results,Tryz.results31,go_sem,g0,g1,g2,g3]) rfl ?_
  exact .inr (.inr ⟨HM.out,l,b,_,_,HPp.out,by rw [← HU9.out],⟨qv,mv,dv,rfl,HN1.out.1,HN1.out.2.1,HN1.out.2.2.1,HN1.out.2.2.2,HRa.out,HKW.out⟩,⟨qa,ma,da,rfl,HN2.out.1,HN2.out.2.1,HN2.out.2.2.1,HN2.out.2.2.2,HRb.out,HKW.out⟩,HNw.out⟩)
 ·have hkA:=hk4.alloc (.cells #[.slice qx mx dx,.slice qy my dy,.int .u32 x,.bool b] 55)
  have HVA:=hid (HV2.out.keep hkA (fun h=>h))
  have HKA:=hid (HK2.out.trans hkA)
  have HKW:=hid ((((HKA.out.setNew (g:=w.heap.size+1) (by omega) 0 (.slice none 0 0)).setNew (g:=w.heap.size+1) (by omega) 1 (.slice none 0 0)).setNew (g:=w.heap.size+1) (by omega) 2 (.int .u32 0)).setNew (g:=w.heap.size+1) (by omega) 3 (.bool false))
  have HW9:=hid ((((HVA.out.set 0 (.slice none 0 0)).set 1 (.slice none 0 0)).set 2 (.int .u32 0)).set 3 (.bool false))
  have HPp:=hid hp
  obtain ⟨y0,y1,y2,y3⟩:=vw_cells HVA.out
  have f0:=HVA.out.free 0
  have f1:=HVA.out.free 1
  have f2:=HVA.out.free 2
  have f3:=HVA.out.free 3
  clear hkA hk4 hp
  go_wp2_with fail
  obtain ⟨g0,g1,g2,g3⟩:=vw_cells (a:=.slice none 0 0) (b:=.slice none 0 0) (c:=.int .u32 0) (d:=.bool false) HW9.out
  refine bodyPost_ret (v:=.tuple #[.agg #[.slice none 0 0,.slice none 0 0,.int .u32 0,.bool false],.int .i64 4]) (by simp [results,Tryz.results31,go_sem,g0,g1,g2,g3]) rfl ?_
  exact .inr (.inl ⟨HM.out,HPp.out,rfl,HKW.out⟩)
theorem sg_parse:SgParseOk:=⟨fun e s n p N c ys w h h9 hNe he hs hn=>sgparse_own e s n p N c ys w h h9 hNe he hs hn⟩
end
section
theorem de_dec:DeDecOk:=⟨fun e s p n c ys w he hs h hn=>dedecode_own sg_parse im_enc e s p n c ys w he hs h hn⟩
theorem de_views:DeViOk:=⟨fun e s p n c ys w he hs h hn=>(deviews_own sg_parse e s p n c ys w he hs h hn).mono fun _ _ ⟨q,m,d,hr,hm,_,hv,hk⟩=>⟨q,m,d,hr,hm,hv.at_,hk⟩⟩
end
end Go.Proofs.YtehkjkcnigknkaaGreat

/-
  SgPaOwn; DeAll; Open16; Open9; RecBdWalk; RecRsWalk.
-/
import Derived.Lib.Hide
import Derived.Test.YtehkjkcnigknkaaGreatM02
import Derived.Test.YtehkjkcnigknkaaGreatM08
import Derived.Test.YtehkjkcnigknkaaGreatM23
import Derived.Test.YtehkjkcnigknkaaGreatM39
import Derived.Test.YtehkjkcnigknkaaGreatM41
namespace Go.Proofs.YtehkjkcnigknkaaGreat
open Lib (hid)
section
open Go.RowKit
theorem text_most (e s n:Nat) (l:List Rec) (b:Bool):2 ^ e≤(textS e s n l b).length:=by
 unfold textS
 rw [List.length_append,List.length_replicate]
 omega
theorem parse_short {e s n:Nat} {ys:List Int} (h:ys.length<2 ^ e):parseS e s n ys=none:=by
 cases hp:parseS e s n ys with
 | none=>rfl
 | some x =>
  obtain ⟨l,b⟩:=x
  have h1:=(parse_only hp).1
  have h2:=text_most e s n l b
  rw [h1] at h2
  omega
theorem parse_head {e s n:Nat} {ys:List Int} (h:ys.take (sealN (headB e s n)).length ≠ sealN (headB e s n)):parseS e s n ys=none:=by
 cases hp:parseS e s n ys with
 | none=>rfl
 | some x =>
  obtain ⟨l,b⟩:=x
  have h1:=(parse_only hp).1
  obtain ⟨r,h2⟩:=text_head (e:=e) (s:=s) (n:=n) l b
  exact absurd (by rw [← h1,h2,List.take_left' rfl]) h
def nilView:Array Value:=#[.slice none 0 0,.slice none 0 0,.int .u32 0,.bool false]
set_option maxHeartbeats 4000000 in
set_option maxRecDepth 10000 in
theorem sgparse_own (e s n:Nat) (p:Option Addr) (N c:Nat) (ys:List Int) (w:World) (h:In8 w p N c ys) (h9:N≤100000) (hNe:N≤2 ^ e) (he:e<256) (hs:s<4294967296) (hn:n<4294967296) :
  Calls Tryz.prog 31 #[confV e s,.int .u32 (n:Int),.slice p N c] w (ViewPost e s n ys w):=by
 have HP:=hid (fun w=>puthead_own e s n w he hs hn)
 have HC:=hid ((Whole.new w 27 (confCells e s)).alloc (.cells nilView 55))
 have HV:=hid (Whole.newAt (w.alloc (.cells (confCells e s) 27)) 55 nilView (w.heap.size+1) (by simp))
 have HK0:=hid (((Keeps.refl NoBlock w).alloc (.cells (confCells e s) 27)).alloc (.cells nilView 55))
 obtain ⟨c0,c1⟩:=And.intro (HC.out.cell 0 rfl) (HC.out.cell 1 rfl)
 simp only [confCells,List.getElem_toArray,List.getElem_cons_zero,List.getElem_cons_succ] at c0 c1
 unfold nilView at HC HV HK0 c0 c1
 unfold confCells at HC HK0
 by_cases hm:mayHead e s n=true
 rotate_left
 ·rw [if_neg hm] at HP
  have hm':mayHead e s n=false:=by simpa using hm
  have HM:=hid hm'
  clear hm hm' h h9 hNe he hs hn
  unfold confV at HP ⊢
  go_enter Tryz.func31,Tryz.ntmps31
  go_wp2_with fail
  refine (HP.out _).mono ?_
  rintro r w1 ⟨v1,rfl,q1,m1,d1,rfl,hm1,hmd1,hd1,hq1,hb1,hk⟩
  have HV1:=hid (HV.out.keep hk (fun h=>h))
  have HK1:=hid (HK0.out.trans hk)
  obtain ⟨y0,y1,y2,y3⟩:=vw_cells HV1.out
  have f0:=HV1.out.free 0
  have f1:=HV1.out.free 1
  have f2:=HV1.out.free 2
  have f3:=HV1.out.free 3
  have HW9:=hid ((((HV1.out.set 0 (.slice none 0 0)).set 1 (.slice none 0 0)).set 2 (.int .u32 0)).set 3 (.bool false))
  have HK9:=hid ((((HK1.out.setNew (g:=w.heap.size+1) (by omega) 0 (.slice none 0 0)).setNew (g:=w.heap.size+1) (by omega) 1 (.slice none 0 0)).setNew (g:=w.heap.size+1) (by omega) 2 (.int .u32 0)).setNew (g:=w.heap.size+1) (by omega) 3 (.bool false))
  clear hm1 hmd1 hd1 hq1 hb1 hk c0 c1
  go_wp2_with fail
  obtain ⟨g0,g1,g2,g3⟩:=vw_cells (a:=.slice none 0 0) (b:=.slice none 0 0) (c:=.int .u32 0) (d:=.bool false) HW9.out
  refine bodyPost_ret (v:=.tuple #[.agg #[.slice none 0 0,.slice none 0 0,.int .u32 0,.bool false],.int .i64 1]) (by simp [results,Tryz.results31,go_sem,g0,g1,g2,g3]) rfl ?_
  exact .inl ⟨HM.out,rfl,HK9.out⟩
 have hmh:=mayHead_true.1 hm
 have hmc:mayC e s=true:=mayC_true.2 ⟨hmh.1,hmh.2.1,by have:=hmh.2.2.2.2;omega,hmh.2.2.2.1⟩
 have HS:=hid (fun w=>size_conf e s w)
 rw [sizeC_may hmc] at HS
 rw [if_pos hm,show putH e s n=sealN (headB e s n) by unfold putH;rw [if_pos hm]] at HP
 have HM:=hid hm
 obtain ⟨T,hT⟩:∃ T,T=sealN (headB e s n):=⟨_,rfl⟩
 have hTo:Octets T:=by rw [hT];exact seal_octets (headB_octets he)
 have HRd:=hid (fun (A:Addr) W (hi:In8 W (some A) N c ys) (hN:N=2 ^ e) (hh:ys.take T.length=T)=>sgread_own e s n A N c T.length ys W hi hN h9 he (by rw [outS_nil,hT]) (by
  rw [outS_nil,← hT]
  have:=List.take_append_drop T.length ys
  rw [hh] at this
  exact this.symm))
 have hps:N<2 ^ e→parseS e s n ys=none:=fun h1=>parse_short (by rw [← h.len];exact h1)
 have hph:ys.take T.length ≠ T→parseS e s n ys=none:=fun h1=>parse_head (by rw [← hT];exact h1)
 rw [← hT] at HP
 have h2e:2 ^ e≤16777216:=(two_e hmh.2.1).2
 have h2p:0<2 ^ e:=Nat.pow_pos (by decide)
 obtain ⟨E,hE⟩:∃ E,E=2 ^ e:=⟨_,rfl⟩
 rw [← hE] at HS HRd hps hNe h2e h2p
 have HPs:=hid hps
 have HPh:=hid hph
 have HTo:=hid hTo
 have HIn:=hid (fun W (hk:Keeps NoBlock w W)=>(⟨h.len,h.cap,h.room,h.bare,h.oct,h.at_.keep hk (fun _ _ h=>h)⟩:In8 W p N c ys))
 have HPx:=hid (fun (q:Option Addr) (m d:Nat) W (hi:In8 W p N c ys) (h2:In8 W q m d T)=>prefix_bytes p q N c m d ys T W hi h2)
 have HLn:=hid h.len
 clear hm hmh hmc hT hTo hps hph h he hs hn hE
 unfold confV at HP HS ⊢
 go_enter Tryz.func31,Tryz.ntmps31
 go_wp2_with fail
 refine (HP.out _).mono ?_
 rintro r w1 ⟨v1,rfl,q1,m1,d1,rfl,hm1,hmd1,hd1,hq1,hb1,hk⟩
 have HV1:=hid (HV.out.keep hk (fun h=>h))
 have HC1:=hid (HC.out.keep hk (fun h=>h))
 have HK1:=hid (HK0.out.trans hk)
 have HT1:=hid (show In8 w1 q1 m1 d1 T from ⟨hm1,hmd1,hd1,hq1,HTo.out,hb1⟩)
 clear hk c0 c1 hb1 hq1 hm1 hmd1 hd1
 obtain ⟨c0,c1⟩:=And.intro (HC1.out.cell 0 rfl) (HC1.out.cell 1 rfl)
 simp only [List.getElem_toArray,List.getElem_cons_zero,List.getElem_cons_succ] at c0 c1
 go_wp2_with fail
 refine (HS.out _).mono ?_
 rintro r w2 ⟨rfl,hk⟩
 have HV2:=hid (HV1.out.keep hk (fun h=>h))
 have HK2:=hid (HK1.out.trans hk)
 have HT2:=hid (show In8 w2 q1 m1 d1 T from ⟨HT1.out.len,HT1.out.cap,HT1.out.room,HT1.out.bare,HT1.out.oct,HT1.out.at_.keep hk (fun _ _ h=>h)⟩)
 clear hk c0 c1 HC1 HV1 HT1
 by_cases hNE:N=E
 rotate_left
 ·have hne:¬ (N:Int)=(E:Int):=by omega
  have HNo:=hid (HPs.out (by omega))
  obtain ⟨y0,y1,y2,y3⟩:=vw_cells HV2.out
  have f0:=HV2.out.free 0
  have f1:=HV2.out.free 1
  have f2:=HV2.out.free 2
  have f3:=HV2.out.free 3
  have HW9:=hid ((((HV2.out.set 0 (.slice none 0 0)).set 1 (.slice none 0 0)).set 2 (.int .u32 0)).set 3 (.bool false))
  have HK9:=hid ((((HK2.out.setNew (g:=w.heap.size+1) (by omega) 0 (.slice none 0 0)).setNew (g:=w.heap.size+1) (by omega) 1 (.slice none 0 0)).setNew (g:=w.heap.size+1) (by omega) 2 (.int .u32 0)).setNew (g:=w.heap.size+1) (by omega) 3 (.bool false))
  go_wp2_with fail
  obtain ⟨g0,g1,g2,g3⟩:=vw_cells (a:=.slice none 0 0) (b:=.slice none 0 0) (c:=.int .u32 0) (d:=.bool false) HW9.out
  refine bodyPost_ret (v:=.tuple #[.agg #[.slice none 0 0,.slice none 0 0,.int .u32 0,.bool false],.int .i64 4]) (by simp [results,Tryz.results31,go_sem,g0,g1,g2,g3]) rfl ?_
  exact .inr (.inl ⟨HM.out,HNo.out,rfl,HK9.out⟩)
 have HNE:=hid hNE
 have hpx:=hid (HPx.out q1 m1 d1 w2 (HIn.out w2 HK2.out) HT2.out)
 have hml:=HT2.out.len
 by_cases hpre:ys.take T.length=T
 rotate_left
 ·have hb:decide (m1≤N∧ys.take m1=T)=false:=decide_eq_false (fun h=>hpre (by rw [← hml];exact h.2))
  rw [hb] at hpx
  have HNo:=hid (HPh.out hpre)
  obtain ⟨y0,y1,y2,y3⟩:=vw_cells HV2.out
  have f0:=HV2.out.free 0
  have f1:=HV2.out.free 1
  have f2:=HV2.out.free 2
  have f3:=HV2.out.free 3
  have HW9:=hid ((((HV2.out.set 0 (.slice none 0 0)).set 1 (.slice none 0 0)).set 2 (.int .u32 0)).set 3 (.bool false))
  have HK9:=hid ((((HK2.out.setNew (g:=w.heap.size+1) (by omega) 0 (.slice none 0 0)).setNew (g:=w.heap.size+1) (by omega) 1 (.slice none 0 0)).setNew (g:=w.heap.size+1) (by omega) 2 (.int .u32 0)).setNew (g:=w.heap.size+1) (by omega) 3 (.bool false))
  subst hNE
  clear hb hpre hml
  go_wp2_with fail
  refine hpx.out.mono ?_
  rintro r w3 ⟨rfl,rfl⟩
  go_wp2_with fail
  obtain ⟨g0,g1,g2,g3⟩:=vw_cells (a:=.slice none 0 0) (b:=.slice none 0 0) (c:=.int .u32 0) (d:=.bool false) HW9.out
  refine bodyPost_ret (v:=.tuple #[.agg #[.slice none 0 0,.slice none 0 0,.int .u32 0,.bool false],.int .i64 4]) (by simp [results,Tryz.results31,go_sem,g0,g1,g2,g3]) rfl ?_
  exact .inr (.inl ⟨HM.out,HNo.out,rfl,HK9.out⟩)
 have hlT:T.length≤ys.length:=by
  have:=congrArg List.length hpre
  rw [List.length_take] at this
  omega
 have hb:decide (m1≤N∧ys.take m1=T)=true:=decide_eq_true ⟨by have:=HLn.out;omega,by rw [hml];exact hpre⟩
 rw [hb] at hpx
 obtain ⟨A,rfl,-⟩:=(HIn.out w2 HK2.out).at_ (by have:=HLn.out;omega)
 have hrd:=HRd.out A w2 (HIn.out w2 HK2.out) hNE hpre
 rw [← hml] at hrd
 have HRd2:=hid hrd
 subst hNE
 clear hb hpre hml hlT hrd HRd
 go_wp2_with fail
 refine hpx.out.mono ?_
 rintro r w3 ⟨rfl,rfl⟩
 go_wp2_with fail
 refine HRd2.out.mono ?_
 rintro r w4 hpost
 unfold ReadPost at hpost
 rcases hpost with ⟨l,b,vr,va,hp,rfl,⟨qv,mv,dv,rfl,h1,h2,h3,h4,hra,hk4⟩,⟨qa,ma,da,rfl,i1,i2,i3,i4,hrb,-⟩,hnew⟩|⟨hp,qx,mx,dx,qy,my,dy,x,b,rfl,hk4⟩
 ·obtain ⟨u9,hu9⟩:∃ u9,u9=(outS e s n l).length:=⟨_,rfl⟩
  rw [← hu9]
  have HU9:=hid hu9
  have hkA:=hk4.alloc (.cells #[.slice qv mv dv,.slice qa ma da,.int .u32 (u9:Int),.bool b] 55)
  have HVA:=hid (HV2.out.keep hkA (fun h=>h))
  have HKA:=hid (HK2.out.trans hkA)
  have hB6:w.heap.size+1<w3.heap.size:=HV2.out.lt
  have HX:=hid (Whole.new w4 55 #[.slice qv mv dv,.slice qa ma da,.int .u32 (u9:Int),.bool b])
  have HKF:=hid ((((((Keeps.refl (Just (w.heap.size+1)) w4).alloc (.cells #[.slice qv mv dv,.slice qa ma da,.int .u32 (u9:Int),.bool b] 55)).setIn (Just.self (w.heap.size+1)) 0 (.slice qv mv dv)).setIn (Just.self (w.heap.size+1)) 1 (.slice qa ma da)).setIn (Just.self (w.heap.size+1)) 2 (.int .u32 (u9:Int))).setIn (Just.self (w.heap.size+1)) 3 (.bool b))
  have HKW:=hid ((((HKA.out.setNew (g:=w.heap.size+1) (by omega) 0 (.slice qv mv dv)).setNew (g:=w.heap.size+1) (by omega) 1 (.slice qa ma da)).setNew (g:=w.heap.size+1) (by omega) 2 (.int .u32 (u9:Int))).setNew (g:=w.heap.size+1) (by omega) 3 (.bool b))
  have HW9:=hid ((((HVA.out.set 0 (.slice qv mv dv)).set 1 (.slice qa ma da)).set 2 (.int .u32 (u9:Int))).set 3 (.bool b))
  have HRa:=hid (recs_far hra HKF.out (fun a ha hj=>by have:=hnew a.block (.inl (by rw [ha];rfl));unfold Just at hj;omega))
  have HRb:=hid (row32_far hrb HKF.out (fun a ha hj=>by have:=hnew a.block (.inr (by rw [ha];rfl));unfold Just at hj;omega))
  have HNw:Hid (∀ k,(Value.slice qv mv dv).ownBlock=some k ∨ (Value.slice qa ma da).ownBlock=some k→w.heap.size≤k):=hid (fun k hk=>by have h1:=hnew k hk;have h2:=HK2.out.size;omega)
  have HN1:=hid (And.intro h1 (And.intro h2 (And.intro h3 h4)))
  have HN2:=hid (And.intro i1 (And.intro i2 (And.intro i3 i4)))
  have HPp:=hid hp
  obtain ⟨x0,x1,x2,x3⟩:=vw_cells HX.out
  obtain ⟨y0,y1,y2,y3⟩:=vw_cells HVA.out
  have f0:=HVA.out.free 0
  have f1:=HVA.out.free 1
  have f2:=HVA.out.free 2
  have f3:=HVA.out.free 3
  clear hu9 hkA hk4 hra hrb hnew h1 h2 h3 h4 i1 i2 i3 i4 hp hB6
  go_wp2_with fail
  obtain ⟨g0,g1,g2,g3⟩:=vw_cells (a:=.slice qv mv dv) (b:=.slice qa ma da) (c:=.int .u32 (u9:Int)) (d:=.bool b) HW9.out
  refine bodyPost_ret (v:=.tuple #[.agg #[.slice qv mv dv,.slice qa ma da,.int .u32 (u9:Int),.bool b],.int .i64 0]) (by simp [results,Tryz.results31,go_sem,g0,g1,g2,g3]) rfl ?_
  exact .inr (.inr ⟨HM.out,l,b,_,_,HPp.out,by rw [← HU9.out],⟨qv,mv,dv,rfl,HN1.out.1,HN1.out.2.1,HN1.out.2.2.1,HN1.out.2.2.2,HRa.out,HKW.out⟩,⟨qa,ma,da,rfl,HN2.out.1,HN2.out.2.1,HN2.out.2.2.1,HN2.out.2.2.2,HRb.out,HKW.out⟩,HNw.out⟩)
 ·have hkA:=hk4.alloc (.cells #[.slice qx mx dx,.slice qy my dy,.int .u32 x,.bool b] 55)
  have HVA:=hid (HV2.out.keep hkA (fun h=>h))
  have HKA:=hid (HK2.out.trans hkA)
  have HKW:=hid ((((HKA.out.setNew (g:=w.heap.size+1) (by omega) 0 (.slice none 0 0)).setNew (g:=w.heap.size+1) (by omega) 1 (.slice none 0 0)).setNew (g:=w.heap.size+1) (by omega) 2 (.int .u32 0)).setNew (g:=w.heap.size+1) (by omega) 3 (.bool false))
  have HW9:=hid ((((HVA.out.set 0 (.slice none 0 0)).set 1 (.slice none 0 0)).set 2 (.int .u32 0)).set 3 (.bool false))
  have HPp:=hid hp
  obtain ⟨y0,y1,y2,y3⟩:=vw_cells HVA.out
  have f0:=HVA.out.free 0
  have f1:=HVA.out.free 1
  have f2:=HVA.out.free 2
  have f3:=HVA.out.free 3
  clear hkA hk4 hp
  go_wp2_with fail
  obtain ⟨g0,g1,g2,g3⟩:=vw_cells (a:=.slice none 0 0) (b:=.slice none 0 0) (c:=.int .u32 0) (d:=.bool false) HW9.out
  refine bodyPost_ret (v:=.tuple #[.agg #[.slice none 0 0,.slice none 0 0,.int .u32 0,.bool false],.int .i64 4]) (by simp [results,Tryz.results31,go_sem,g0,g1,g2,g3]) rfl ?_
  exact .inr (.inl ⟨HM.out,HPp.out,rfl,HKW.out⟩)
theorem sg_parse:SgParseOk:=⟨fun e s n p N c ys w h h9 hNe he hs hn=>sgparse_own e s n p N c ys w h h9 hNe he hs hn⟩
end
section
theorem de_dec:DeDecOk:=⟨fun e s p n c ys w he hs h hn=>dedecode_own sg_parse im_enc e s p n c ys w he hs h hn⟩
theorem de_is:DeIsOk:=⟨fun e s p n c ys w he hs h hn=>deis_own sg_parse im_enc e s p n c ys w he hs h hn⟩
end
section
theorem u16_in {n:Int} (h:(Lit.int .u16 n).wf=true):0≤n∧n<65536:=by
 have:0≤n∧n≤65535:=by simpa [Lit.wf,IntKind.min,IntKind.max,IntKind.signed,IntKind.bits] using h
 omega
end
section
open Go.RowKit
theorem u8_in {n:Int} (h:(Lit.int .u8 n).wf=true):0≤n∧n<256:=by
 simp [Lit.wf,IntKind.min,IntKind.max,IntKind.signed,IntKind.bits] at h
 omega
theorem nat_u8 {z:Int} (h:(Lit.int .u8 z).wf=true):∃ k:Nat,z=(k:Int)∧k<256:=by
 obtain ⟨h1,h2⟩:=u8_in h
 exact ⟨z.toNat,by omega,by omega⟩
end
section
open Go.RowKit
theorem RecsAt.one (w:World) (t:TypeId) (r:Rec):RecsAt (w.alloc (.cells (recCells r) t)) (some ⟨w.heap.size,0,none⟩) [r]:=fun i hi=>by
 have:i=0:=by simp at hi;omega
 subst this
 have h:=RecAt.ofWhole (r:=r) (Whole.new w t (recCells r))
 exact ⟨_,rfl,h.1,h.2.1,h.2.2.1,h.2.2.2⟩
end
section
open Go.RowKit
def recFour (r:Rec):List Value:=[.bool r.del,.int .u64 (r.seq:Int),.string (strOfNums r.key),.string (strOfNums r.val)]
def recFlat (l:List Rec):List Value:=l.flatMap recFour
theorem recFlat_at:∀ (l:List Rec) (i j:Nat),i<l.length→j<4→(recFlat l)[i*4+j]?=(recFour (l.getD i Rec.none))[j]?
 | [],i,j,h,_=>by simp at h
 | r :: l,0,j,_,hj=>by
  rw [recFlat,List.flatMap_cons,List.getElem?_append_left (by simp [recFour];omega)]
  simp
 | r :: l,i+1,j,h,hj=>by
  rw [recFlat,List.flatMap_cons,List.getElem?_append_right (by simp [recFour];omega),← recFlat]
  have e:(i+1)*4+j - (recFour r).length=i*4+j:=by simp [recFour];omega
  rw [e,recFlat_at l i j (by simpa using h) hj]
  simp
theorem RecsAt.ofOwn {w:World} {base n:Nat} {v:Value} {l:List Rec} (h:w.ownsRow base 48 4 v n (recFlat l)) (hn:n=l.length) :
  ∃ p c,v=.slice p n c∧n≤c∧c≤9223372036854775807∧RecsAt w p l:=by
 have h':=h
 rcases h with ⟨_,⟨rfl,rfl⟩|⟨g,cap,cur,rfl,hg,hh,hc1,hc2,hc3,hc4⟩⟩
 ·exact ⟨none,0,rfl,Nat.le_refl _,by decide,fun i hi=>by omega⟩
 ·refine ⟨_,cap,rfl,hc1,by unfold maxLen at hc2;omega,fun i hi=>?_⟩
  have hc:=h'.cells (g:=g) rfl
  have ha:∀ j u,j<4→(recFour (l.getD i Rec.none))[j]?=some u→w.cell? ⟨g,i*4+j,none⟩=some u:=fun j u hj hu=>by
   have:=hc (i*4+j) u (by rw [recFlat_at l i j hi hj];exact hu)
   rw [Addr.add_lit,Nat.zero_add] at this
   exact this
  refine ⟨⟨g,0,none⟩,rfl,?_,?_,?_,?_⟩
  all_goals simp only [Addr.add_lit,Nat.zero_add]
  ·exact ha 0 _ (by decide) rfl
  ·exact ha 1 _ (by decide) rfl
  ·exact ha 2 _ (by decide) rfl
  ·exact ha 3 _ (by decide) rfl
end
end Go.Proofs.YtehkjkcnigknkaaGreat

/-
  FrStep; FrGetH2; FrGetH; FrLaws; FrOpen; RecRead.
-/
import Derived.Deep.Cut
import Derived.Lib.Hide
import Derived.Test.YtehkjkcnigknkaaGreatM05
import Derived.Test.YtehkjkcnigknkaaGreatM06
import Derived.Test.YtehkjkcnigknkaaGreatM11
import Derived.Test.YtehkjkcnigknkaaGreatM13
import Derived.Test.YtehkjkcnigknkaaGreatM16
import Derived.Test.YtehkjkcnigknkaaGreatM24
import Derived.Test.YtehkjkcnigknkaaGreatM26
namespace Go.Proofs.YtehkjkcnigknkaaGreat
open Lib (hid)
section
open Go.RowKit
def d1 (X:List Int) (E:Int):Nat:=if E=0 then (if X=[] then 0 else 1) else 0
def f1 (X:List Int) (E:Int):Int:=if E=0 then (if X=[] then 2 else 0) else E
def b1 (X:List Int) (E:Int):Int:=if E=0 then X.headD 0 else 0
def dv (X:List Int) (E:Int):Nat:=if E=0 then (vget X).n else 0
def fv (X:List Int) (E:Int):Int:=if E=0 then (vget X).e else E
structure HS where
 X:List Int
 E:Int
 v:Int
def s1 (X:List Int) (E:Int):HS:=⟨X.drop (d1 X E),f1 X E,b1 X E⟩
end
section
open Go.RowKit
end
section
open Go.RowKit
end
section
open Go.RowKit
structure Rec.Little (r:Rec):Prop where
 fine:r.Fine
 key:r.key.length≤100000
 val:r.val.length≤100000
end
section
open Go.RowKit
def sumE (N:Nat):Int:=if N<8 then 2 else 0
def sumA (N:Nat):Nat:=if N<8 then 0 else 8
def sumX (xs:List Int):Int:=if xs.length<8 then 0 else le xs
theorem enter_partIn (args:Array Value) (w:World):(callFunc 171 args).run Tryz.prog w=.ok (.enter 171 args) w:=by kernel_rfl
set_option maxHeartbeats 1000000 in
theorem partIn (w0 W:World) (D:Nat) (p:Option Addr) (xs:List Int) (N c:Nat) (hx:N=xs.length) (h8:N≤8) (hB:Begun w0 p N c 0 0 W) (hK:Keeps NoBlock w0 W) (hD:Whole W D 46 #[.int .u64 0]) (hDlt:D<w0.heap.size) (hb:Bytes8 W p xs) (ho:Octets xs)
  (hp:0<xs.length→∀ q,p=some q→q.block<w0.heap.size) (hc:N≤c) (hc':c≤9223372036854775807) :
  Calls Tryz.prog 171 (#[.pointer (some ⟨w0.heap.size+1+1,0,none⟩)] ++ #[.pointer (some ⟨D,0,none⟩)]) W (ReadEnds w0 p N c (sumA N) (sumE N) (fun w2=>Keeps (Just D) w0 w2∧Whole w2 D 46 #[.int .u64 (sumX xs)])):=by
 by_cases hs:N<8
 ·have e1:sumA N=0:=if_pos hs
  have e2:sumE N=2:=if_pos hs
  have e3:sumX xs=0:=if_pos (by omega)
  rw [e1,e2,e3]
  have HG:=hid (eight_short (w0.heap.size+1+1) p N c 0 W hB.cur (Nat.zero_le _) (by omega) (by omega))
  have HB:=hid hB;have HK:=hid hK;have HD:=hid hD
  clear hB hK hD hb ho hp hx hc hc' e1 e2 e3
  simp only [List.append_toArray,List.nil_append,List.cons_append]
  go_enter Tryz.func171,Tryz.ntmps171
  go_wp2_with fail
  refine HG.out.mono ?_
  rintro e w1 ⟨rfl,hcur,hk⟩
  exact ⟨rfl,.inr (gave_given _),HB.out.keep hk hcur,(HK.out.wider (S':=Just D) (fun _ _ h=>h.elim)).then hk (fun i hi h=>by unfold Just at h;omega),HD.out.keep hk (by unfold Just;omega)⟩
 ·have hN8:N=8:=by omega
  have e1:sumA N=8:=if_neg hs
  have e2:sumE N=0:=if_neg hs
  have e3:sumX xs=le xs:=if_neg (by omega)
  have HG:=eight_at (w0.heap.size+1+1) p xs N c 0 W hx hB.cur hb ho (fun h0 q hq=>by have:=hp h0 q hq;omega) (by omega) hc hc'
  rw [List.drop_zero,List.take_of_length_le (by omega)] at HG
  rw [e1,e2,e3]
  obtain ⟨z,hz⟩:∃ z,z=le xs:=⟨_,rfl⟩
  rw [← hz] at HG ⊢
  have HG:=hid HG
  have HB:=hid hB;have HK:=hid hK;have HD:=hid hD
  clear hB hK hD hb ho hp hx hc hc' e1 e2 e3 hz hN8
  simp only [List.append_toArray,List.nil_append,List.cons_append]
  go_enter Tryz.func171,Tryz.ntmps171
  go_wp2_with fail
  refine HG.out.mono ?_
  rintro e w1 ⟨rfl,hcur,hk⟩
  have hD1:=HD.out.keep hk (by unfold Just;omega)
  have d0:=hD1.cell 0 rfl
  have f0:=hD1.free 0
  simp only [List.getElem_toArray,List.getElem_cons_zero] at d0
  have HB1:=hid ((HB.out.keep hk hcur).store hDlt (.int .u64 z))
  have HR:=hid (show Keeps (Just D) w0 (w1.setCell ⟨D,0,none⟩ (.int .u64 z)) from ((HK.out.wider (S':=Just D) (fun _ _ h=>h.elim)).then hk (fun i hi h=>by unfold Just at h;omega)).setIn (Just.self D) 0 _)
  have HD2:=hid (hD1.set 0 (.int .u64 z))
  clear hk hcur hD1 HG
  go_wp2_with fail
  go_returns
  exact ⟨.inl rfl,HB1.out,HR.out,HD2.out⟩
theorem run_partIn (D:Nat) (p:Option Addr) (xs:List Int) (N c:Nat) (hx:N=xs.length) (h8:N≤8) (w0:World) (hD:Whole w0 D 46 #[.int .u64 0]) (hb:Bytes8 w0 p xs) (ho:Octets xs) (hc:N≤c) (hc':c≤9223372036854775807) :
  Calls Tryz.prog 141 #[.slice p N c,.func (.func 171) #[] #[.pointer (some ⟨D,0,none⟩)]] w0 fun e w'=>e=.returned (.tuple #[.int .i64 (sumA N:Int),.int .i64 (sumE N)])∧Whole w' D 46 #[.int .u64 (sumX xs)]∧Keeps (Just D) w0 w':=by
 have hDlt:=hD.lt
 refine (run_any _ _ p N c (sumA N) (sumE N) _ w0 enter_partIn (fun W hB hK _=>partIn w0 W D p xs N c hx h8 hB hK (hD.keep hK (fun h=>h)) hDlt (hb.keep hK (fun _ _ h=>h)) ho (fun h0 q hq=>by
  obtain ⟨a,ha,hcell⟩:=hb h0
  obtain rfl:=Option.some.inj (hq.symm.trans ha)
  have:=ltOfCell (hcell 0 h0)
  rwa [addBlock] at this) hc hc')).mono ?_
 rintro e w' ⟨rfl,w2,⟨hR1,hR2⟩,hT⟩
 exact ⟨rfl,hR2.keep hT.2.2.2.2 (by omega),hR1.then hT.2.2.2.2 (fun i hi h=>by unfold Just;omega)⟩
set_option maxHeartbeats 1000000 in
set_option maxRecDepth 10000 in
theorem part_own (p:Option Addr) (N c:Nat) (xs:List Int) (w:World) (h:In8 w p N c xs) (hN:N≤1000000) :
  Calls Tryz.prog 140 #[.slice p N c] w fun e w'=>e=.returned (.tuple #[.slice p (N - 8) (N - 8),.int .u64 (sumX (xs.drop (N - 8))),.int .i64 (sumE N)])∧Keeps NoBlock w w':=by
 have hmf:=getFnOk
 have hl:=h.len
 have hcap:=h.cap
 have hroom:=h.room
 have hdl:(xs.drop (N - 8)).length=N - (N - 8):=by rw [List.length_drop,← hl]
 have hk0:Keeps NoBlock w (w.alloc (.cells #[.int .u64 0] 46)):=(Keeps.refl NoBlock w).alloc _
 have HRn:=hid (fun q d (hq:0<N - (N - 8)→q=p.map (·.add (N - 8))) (hd:N - (N - 8)≤d) (hd':d≤9223372036854775807) =>
  run_partIn w.heap.size q (xs.drop (N - 8)) (N - (N - 8)) d hdl.symm (by omega) (w.alloc (.cells #[.int .u64 0] 46)) (Whole.new _ _ _) (by
   have h1:=(h.at_.keep hk0 (fun _ _ h=>h)).piece (q:=q) (N - 8) (N - (N - 8)) (by omega) hq
   rwa [List.take_of_length_le (by rw [hdl];exact Nat.le_refl _)] at h1) (h.oct.drop _) hd hd')
 obtain ⟨z,hz⟩:∃ z,z=sumX (xs.drop (N - 8)):=⟨_,rfl⟩
 rw [← hz] at HRn ⊢
 have hse:sumE (N - (N - 8))=sumE N:=by unfold sumE;split <;> split <;> omega
 rw [hse] at HRn
 obtain ⟨y,hy⟩:∃ y,y=sumE N:=⟨_,rfl⟩
 rw [← hy] at HRn ⊢
 obtain ⟨a,ha⟩:∃ a,a=sumA (N - (N - 8)):=⟨_,rfl⟩
 rw [← ha] at HRn
 clear h hl hdl hz hse hy ha
 by_cases hs:N<8
 ·obtain ⟨k,hk⟩:∃ k,k=N - 8:=⟨_,rfl⟩
  obtain rfl:k=0:=by omega
  rw [← hk] at HRn ⊢
  rw [Nat.sub_zero] at HRn
  have hz0:((0:Nat):Int)=0:=rfl
  have hm1:(N:Int) - 8≤0:=by omega
  have hw1:IntKind.i64.wrap ((N:Int) - 8)=(N:Int) - 8:=by rw [IntKind.wrap_i64];omega
  clear hk
  have hm:max ((N:Int) - 8) 0=0:=by omega
  by_cases hc0:c=0
  ·have hN0:N=0:=by omega
   subst hc0
   subst hN0
   have hm8:max (-8:Int) 0=0:=by decide
   go_enter Tryz.func140,Tryz.ntmps140
   go_wp2_with fail
   refine (HRn.out _ _ (fun h=>by simp at h) (by simp) (by omega)).mono ?_
   rintro e w1 ⟨rfl,hD,hk⟩
   have d0:=hD.cell 0 rfl
   have f0:=hD.free 0
   have d0':w1.drew.cell? ⟨w.heap.size,0,none⟩=some (.int .u64 z):=d0
   have hk2:Keeps NoBlock w w1:=hk0.then hk (fun i hi h=>by unfold Just at h;omega)
   have HK:=hid hk2
   have HD:=hid hD
   clear hk hk2 hD HRn
   go_wp2_with fail
   go_region
   all_goals go_wp2_with fail
   all_goals exact bodyPost_ret (v:=.tuple #[.slice p 0 0,.int .u64 z,.int .i64 y]) (by simp [results,Tryz.results140,go_sem,d0]) rfl ⟨rfl,by first|exact (HK.out.setNew (Nat.le_refl _) 0 _).drew|exact HK.out.setNew (Nat.le_refl _) 0 _⟩
  ·go_enter Tryz.func140,Tryz.ntmps140
   go_wp2_with fail
   refine (HRn.out p c (fun _=>by cases p <;> simp [Addr.add]) (by omega) (by omega)).mono ?_
   rintro e w1 ⟨rfl,hD,hk⟩
   have d0:=hD.cell 0 rfl
   have f0:=hD.free 0
   have d0':w1.drew.cell? ⟨w.heap.size,0,none⟩=some (.int .u64 z):=d0
   have hk2:Keeps NoBlock w w1:=hk0.then hk (fun i hi h=>by unfold Just at h;omega)
   have HK:=hid hk2
   have HD:=hid hD
   clear hk hk2 hD HRn
   go_wp2_with fail
   go_region
   all_goals go_wp2_with fail
   all_goals exact bodyPost_ret (v:=.tuple #[.slice p 0 0,.int .u64 z,.int .i64 y]) (by simp [results,Tryz.results140,go_sem,d0]) rfl ⟨rfl,by first|exact (HK.out.setNew (Nat.le_refl _) 0 _).drew|exact HK.out.setNew (Nat.le_refl _) 0 _⟩
 ·obtain ⟨k,rfl⟩:∃ k,N=k+8:=⟨N - 8,by omega⟩
  rw [show k+8 - 8=k by omega] at HRn ⊢
  rw [show k+8 - k=8 by omega] at HRn
  have hw1:IntKind.i64.wrap (((k+8:Nat):Int) - 8)=(k:Int):=by rw [IntKind.wrap_i64];omega
  have hck:¬ c=k:=by omega
  go_enter Tryz.func140,Tryz.ntmps140
  go_wp2_with fail
  refine (HRn.out _ _ (fun _=>rfl) (by omega) (by omega)).mono ?_
  rintro e w1 ⟨rfl,hD,hk⟩
  have d0:=hD.cell 0 rfl
  have f0:=hD.free 0
  have d0':w1.drew.cell? ⟨w.heap.size,0,none⟩=some (.int .u64 z):=d0
  have hk2:Keeps NoBlock w w1:=hk0.then hk (fun i hi h=>by unfold Just at h;omega)
  have HK:=hid hk2
  have HD:=hid hD
  clear hk hk2 hD HRn
  go_wp2_with fail
  go_region
  all_goals go_wp2_with fail
  all_goals exact bodyPost_ret (v:=.tuple #[.slice p k k,.int .u64 z,.int .i64 y]) (by simp [results,Tryz.results140,go_sem,d0]) rfl ⟨rfl,by first|exact (HK.out.setNew (Nat.le_refl _) 0 _).drew|exact HK.out.setNew (Nat.le_refl _) 0 _⟩
set_option maxHeartbeats 2000000 in
set_option maxRecDepth 10000 in
theorem open_own (p:Option Addr) (N c:Nat) (ys:List Int) (w:World) (h:In8 w p N c ys) (hN:N≤1000000) :
  Calls Tryz.prog 112 #[.slice p N c] w fun e w'=>∃ v,e=.returned (.tuple #[v,.int .i64 (openN ys).1])∧NewBytes w (openN ys).2 v w':=by
 have HU:=hid (unstuff_cobs p N c ys w h.len h.cap h.room h.bare h.oct hN h.at_)
 have hu:=unst_octets h.oct
 have hlen:=h.len
 unfold openN
 obtain ⟨y,hy⟩:∃ y,y=(unst ys).1:=⟨_,rfl⟩
 obtain ⟨T,hT⟩:∃ T,T=(unst ys).2:=⟨_,rfl⟩
 rw [← hy] at HU ⊢
 rw [← hT] at HU hu ⊢
 obtain ⟨hto,htl⟩:=hu
 by_cases h0:y=0
 ·subst h0
  clear hy hT h
  rw [if_neg (by simp)]
  obtain ⟨L,hL⟩:∃ L,L=T.length:=⟨_,rfl⟩
  have HP:=hid (fun q d W (hd:L≤d) (hd':d≤9223372036854775807) (hq:q=none→L=0∧d=0) (h8:Bytes8 W q T)=>part_own q L d T W ⟨hL,hd,hd',hq,hto,h8⟩ (by omega))
  obtain ⟨k,hk⟩:∃ k,k=L - 8:=⟨_,rfl⟩
  rw [← hk] at HP
  have hdef:openEnd T=if L<8 then (2,[]) else if le (T.drop k)=wxxh 0 (T.take k) then (0,T.take k) else (5,[]):=by
   unfold openEnd
   rw [hk,hL]
  rw [hdef]
  by_cases h8:L<8
  ·rw [if_pos h8]
   have e2:sumE L=2:=if_pos h8
   rw [e2] at HP
   obtain ⟨x,hx⟩:∃ x,x=sumX (T.drop k):=⟨_,rfl⟩
   rw [← hx] at HP
   have HL:=hid hL
   clear hx hL hto htl hk hdef e2 hlen
   go_enter Tryz.func112,Tryz.ntmps112
   go_wp2_with fail
   refine HU.out.mono ?_
   rintro e w1 ⟨v,rfl,q,m,d,rfl,hm,hmd,hd,hq,hb,hk1⟩
   have hmL:m=L:=by rw [hm,HL.out]
   subst hmL
   have HK:=hid hk1
   have HQ:=hid hq
   have HB:=hid hb
   clear hk1 hm hq hb HU
   go_wp2_with fail
   refine (HP.out q d _ hmd hd HQ.out HB.out).mono ?_
   rintro e w2 ⟨rfl,hk2⟩
   have HB2:=hid (HB.out.keep hk2 (fun _ _ h=>h))
   have HK2:=hid (HK.out.trans hk2)
   clear hk2
   go_wp2_with fail
   refine bodyPost_ret (results_tmp2 rfl _ _ _) rfl ?_
   exact ⟨_,rfl,.ofNil _ _ HK2.out⟩
  ·rw [if_neg h8]
   have e2:sumE L=0:=if_neg h8
   have e3:sumX (T.drop k)=le (T.drop k):=if_neg (by rw [List.length_drop];omega)
   rw [e2,e3] at HP
   have hkl:(T.take k).length=k:=by rw [List.length_take];omega
   have HSum:=hid (fun q W (hq:q=none→k=0) (hb:Bytes8 W q (T.take k))=>sum_wide 0 u64_zero q k k (T.take k) hkl.symm (Nat.le_refl _) (by omega) (fun h=>⟨hq h,hq h⟩) (hto.take k) (by omega) W hb)
   have HNew:=hid (fun q W (hq:q=none→k=0) (hb:Bytes8 W q (T.take k)) (hk:Keeps NoBlock w W)=>(show NewBytes w (T.take k) (.slice q k k) W from ⟨q,k,k,rfl,hkl.symm,Nat.le_refl _,by omega,fun h=>⟨hq h,hq h⟩,hb,hk⟩))
   have HPc:=hid (fun q W (hb:Bytes8 W q T)=>(show Bytes8 W q (T.take k) from by
    have h1:=hb.piece (q:=q) 0 k (by omega) (fun h=>by cases q <;> simp [Addr.add])
    rwa [List.drop_zero] at h1))
   have HL:=hid hL
   have hkL:k≤L:=by omega
   have hk9:k≤1000000:=by omega
   obtain ⟨B,hB⟩:∃ B,B=T.take k:=⟨_,rfl⟩
   rw [← hB] at HSum HNew HPc ⊢
   by_cases hv:le (T.drop k)=wxxh 0 B
   ·rw [if_pos hv]
    have hne:(le (T.drop k) != wxxh 0 B)=false:=by rw [hv];simp
    obtain ⟨x,hx⟩:∃ x,x=le (T.drop k):=⟨_,rfl⟩
    obtain ⟨z,hz⟩:∃ z,z=wxxh 0 B:=⟨_,rfl⟩
    rw [← hx] at HP hne
    rw [← hz] at HSum hne
    clear hx hz hv hB hkl hL hto htl hk hdef e2 e3 hlen
    go_enter Tryz.func112,Tryz.ntmps112
    go_wp2_with fail
    refine HU.out.mono ?_
    rintro e w1 ⟨v,rfl,q,m,d,rfl,hm,hmd,hd,hq,hb,hk1⟩
    have hmL:m=L:=by rw [hm,HL.out]
    subst hmL
    have HK:=hid hk1
    have HQ:=hid hq
    have HB:=hid hb
    clear hk1 hm hq hb HU
    go_wp2_with fail
    refine (HP.out q d _ hmd hd HQ.out HB.out).mono ?_
    rintro e w2 ⟨rfl,hk2⟩
    have HB2:=hid (HB.out.keep hk2 (fun _ _ h=>h))
    have HK2:=hid (HK.out.trans hk2)
    clear hk2
    go_wp2_with fail
    have HQ2:Hid (q=none→k=0):=hid (fun h=>by have:=(HQ.out h).1;omega)
    refine (HSum.out q _ HQ2.out (HPc.out q _ HB2.out)).mono ?_
    rintro e w3 ⟨rfl,hk3⟩
    have HN:=hid (HNew.out q _ HQ2.out (HPc.out q _ (HB2.out.keep hk3 (fun _ _ h=>h))) (HK2.out.trans hk3))
    clear hk3
    go_wp2_with fail
    refine bodyPost_ret (results_tmp2 rfl _ _ _) rfl ?_
    exact ⟨_,rfl,HN.out⟩
   ·rw [if_neg hv]
    have hne:(le (T.drop k) != wxxh 0 B)=true:=by rw [bne_iff_ne];exact hv
    obtain ⟨x,hx⟩:∃ x,x=le (T.drop k):=⟨_,rfl⟩
    obtain ⟨z,hz⟩:∃ z,z=wxxh 0 B:=⟨_,rfl⟩
    rw [← hx] at HP hne
    rw [← hz] at HSum hne
    clear hx hz hv hB hkl hL hto htl hk hdef e2 e3 hlen HNew
    go_enter Tryz.func112,Tryz.ntmps112
    go_wp2_with fail
    refine HU.out.mono ?_
    rintro e w1 ⟨v,rfl,q,m,d,rfl,hm,hmd,hd,hq,hb,hk1⟩
    have hmL:m=L:=by rw [hm,HL.out]
    subst hmL
    have HK:=hid hk1
    have HQ:=hid hq
    have HB:=hid hb
    clear hk1 hm hq hb HU
    go_wp2_with fail
    refine (HP.out q d _ hmd hd HQ.out HB.out).mono ?_
    rintro e w2 ⟨rfl,hk2⟩
    have HB2:=hid (HB.out.keep hk2 (fun _ _ h=>h))
    have HK2:=hid (HK.out.trans hk2)
    clear hk2
    go_wp2_with fail
    have HQ2:Hid (q=none→k=0):=hid (fun h=>by have:=(HQ.out h).1;omega)
    refine (HSum.out q _ HQ2.out (HPc.out q _ HB2.out)).mono ?_
    rintro e w3 ⟨rfl,hk3⟩
    have HK3:=hid (HK2.out.trans hk3)
    clear hk3
    go_wp2_with fail
    refine bodyPost_ret (results_tmp2 rfl _ _ _) rfl ?_
    exact ⟨_,rfl,.ofNil _ _ HK3.out⟩
 ·rw [if_pos h0]
  have hne:(y != 0)=true:=by rw [bne_iff_ne];exact h0
  clear hT hto htl hy h0 h hlen
  go_enter Tryz.func112,Tryz.ntmps112
  go_wp2_with fail
  refine HU.out.mono ?_
  rintro e w1 ⟨v,rfl,q,m,d,rfl,hm,hmd,hd,hq,hb,hk⟩
  have HK:=hid hk
  clear hk hm hmd hd hq hb
  go_wp2_with fail
  refine bodyPost_ret (results_tmp2 rfl _ _ _) rfl ?_
  exact ⟨_,rfl,.ofNil _ _ HK.out⟩
end
section
open Go.RowKit
def Left7 (w0:World) (D:Nat) (t:Int × Rec) (w2:World):Prop :=
 Keeps (Just D) w0 w2∧(t.1=0→Whole w2 D 48 (recCells t.2))
structure At7 (w0:World) (D:Nat) (p:Option Addr) (xs:List Int) (N c a:Nat) (y:Int) (cs:Array Value) (W:World):Prop where
 beg:Begun w0 p N c a y W
 cells:Whole W D 48 cs
 by8:Bytes8 W p xs
 kp:Keeps (Just D) w0 W
 lt:D<w0.heap.size
 far:0<xs.length→∀ q,p=some q→q.block<w0.heap.size∧q.block ≠ D
theorem At7.cur {w0:World} {D:Nat} {p:Option Addr} {xs:List Int} {N c a:Nat} {y:Int} {cs:Array Value} {W:World} (h:At7 w0 D p xs N c a y cs W):CurB W (w0.heap.size+1+1) p N c a true y:=h.beg.cur
theorem At7.apart {w0:World} {D:Nat} {p:Option Addr} {xs:List Int} {N c a:Nat} {y:Int} {cs:Array Value} {W:World} (h:At7 w0 D p xs N c a y cs W):0<xs.length→∀ q,p=some q→q.block ≠ w0.heap.size+1+1:=fun h0 q hq=>by have:=(h.far h0 q hq).1;omega
theorem At7.call {w0:World} {D:Nat} {p:Option Addr} {xs:List Int} {N c a:Nat} {y:Int} {cs:Array Value} {W:World} (h:At7 w0 D p xs N c a y cs W) {W':World} {b:Nat} {z:Int} (hk:Keeps (Just (w0.heap.size+1+1)) W W') (hc:CurB W' (w0.heap.size+1+1) p N c b true z):At7 w0 D p xs N c b z cs W' :=
 ⟨h.beg.keep hk hc,h.cells.keep hk (by have:=h.lt;unfold Just;omega),h.by8.keepPos hk (fun h0 q hq=>by have:=(h.far h0 q hq).1;unfold Just;omega),h.kp.then hk (fun i hi hj=>by unfold Just at hj;omega),h.lt,h.far⟩
theorem At7.quiet {w0:World} {D:Nat} {p:Option Addr} {xs:List Int} {N c a:Nat} {y:Int} {cs:Array Value} {W:World} (h:At7 w0 D p xs N c a y cs W) {W':World} (hk:Keeps NoBlock W W'):At7 w0 D p xs N c a y cs W' :=
 h.call (hk.wider (fun _ _ hj=>hj.elim)) (Whole.keep h.cur hk (fun hj=>hj))
theorem At7.put {w0:World} {D:Nat} {p:Option Addr} {xs:List Int} {N c a:Nat} {y:Int} {cs:Array Value} {W:World} (h:At7 w0 D p xs N c a y cs W) (i:Nat) (v:Value):At7 w0 D p xs N c a y (cs.setIfInBounds i v) (W.setCell ⟨D,i,none⟩ v) :=
 ⟨⟨h.beg.at_.setOther (by have:=h.lt;simp;omega) v,h.beg.why.setOther (by have:=h.lt;simp;omega) v,Whole.setOther h.beg.cur (by have:=h.lt;simp;omega) v,h.beg.var.setOther (by have:=h.lt;simp;omega) v⟩,
  h.cells.set i v,h.by8.keepPos ((Keeps.refl (Just D) W).setIn (Just.self D) i v) (fun h0 q hq=>(h.far h0 q hq).2),h.kp.setIn (Just.self D) i v,h.lt,h.far⟩
theorem At7.gave {w0:World} {D:Nat} {p:Option Addr} {xs:List Int} {N c a:Nat} {y:Int} {cs:Array Value} {W:World} (h:At7 w0 D p xs N c a y cs W) (hy:y ≠ 0) {r:Rec}:ReadEnds w0 p N c a y (Left7 w0 D (y,r)) (.panicked (given (w0.heap.size+1+1))) W :=
 ⟨.inr (gave_given _),h.beg,h.kp,fun h0=>absurd h0 hy⟩
theorem At7.done {w0:World} {D:Nat} {p:Option Addr} {xs:List Int} {N c a:Nat} {W:World} {r:Rec} (h:At7 w0 D p xs N c a 0 (recCells r) W):ReadEnds w0 p N c a 0 (Left7 w0 D (0,r)) (.returned (.tuple #[])) W :=
 ⟨.inl rfl,h.beg,h.kp,fun _=>h.cells⟩
theorem enter_readIn7 (args:Array Value) (w:World):(callFunc 142 args).run Tryz.prog w=.ok (.enter 142 args) w:=by kernel_rfl
theorem drop_succ (b:Int) (ys:List Int) (n:Nat):(b :: ys).drop (1+n)=ys.drop n:=by rw [Nat.add_comm,List.drop_succ_cons]
def Ends7 (w0:World) (D:Nat) (p:Option Addr) (xs:List Int) (N c a:Nat):Prop:=∀ W,At7 w0 D p xs N c 0 0 (recCells Rec.none) W →
  Calls Tryz.prog 142 (#[.pointer (some ⟨w0.heap.size+1+1,0,none⟩)] ++ #[.pointer (some ⟨D,0,none⟩)]) W (ReadEnds w0 p N c a (readR xs).1 (Left7 w0 D (readR xs)))
set_option maxHeartbeats 8000000 in
set_option maxRecDepth 10000 in
theorem readIn7 (w0:World) (D:Nat) (p:Option Addr) (xs:List Int) (N c:Nat) (hx:N=xs.length) (ho:Octets xs) (hc:N≤c) (hN9:N≤140737488355328) (hc':c≤9223372036854775807) :
  ∃ a,Ends7 w0 D p xs N c a:=by
 cases hxs:xs with
 | nil =>
  have hR:readR xs=(2,Rec.none):=by rw [hxs];rfl
  rw [← hxs]
  refine ⟨0,?_⟩
  intro W hA
  have HA0:=hid hA
  rw [hR]
  have H_hx:=hid hx
  have H_hxs:=hid hxs
  clear hA hx hxs
  simp only [List.append_toArray,List.nil_append,List.cons_append]
  go_enter Tryz.func142,Tryz.ntmps142
  go_wp2_with fail
  refine (gone_own _ p xs N c _ H_hx.out HA0.out.cur HA0.out.by8 ho HA0.out.apart hc hc').mono ?_
  rw [H_hxs.out]
  rintro e w1 ⟨rfl,hcur,hk⟩
  exact ⟨rfl,(HA0.out.call hk hcur).gave (by decide)⟩
 | cons b ys =>
  have hd1:xs.drop 1=ys:=by rw [hxs];rfl
  have hd2:xs.drop (1+(vget ys).n)=ys.drop (vget ys).n:=by rw [hxs,drop_succ]
  have hd3:xs.drop (1+(vget ys).n+(vtext (ys.drop (vget ys).n) 1 4096).n)=ys.drop ((vget ys).n+(vtext (ys.drop (vget ys).n) 1 4096).n):=by rw [hxs,Nat.add_assoc,drop_succ]
  have hlen:N=1+ys.length:=by rw [hx,hxs,List.length_cons];omega
  have n1:(vget ys).n≤ys.length:=vread_n 10 true ys
  have n2:(vtext (ys.drop (vget ys).n) 1 4096).n≤ys.length - (vget ys).n:=by rw [← List.length_drop];exact vtext_n _ 1 4096
  have n3:(vtext (ys.drop ((vget ys).n+(vtext (ys.drop (vget ys).n) 1 4096).n)) 0 1048576).n≤ys.length - (vget ys).n - (vtext (ys.drop (vget ys).n) 1 4096).n:=by rw [Nat.sub_sub,← List.length_drop];exact vtext_n _ 0 1048576
  rw [← hxs]
  by_cases hb:b ≠ 2∧b ≠ 3
  ·have hR:readR xs=(4,Rec.none):=by
    rw [hxs]
    show readKind b ys=_
    unfold readKind
    rw [if_pos hb]
   refine ⟨1,?_⟩
   intro W hA
   have HA0:=hid hA
   rw [hR]
   have H_hx:=hid hx
   have H_hxs:=hid hxs
   have H_hlen:=hid hlen
   have H_hb:=hid hb
   clear hA hx hxs hlen hb
   simp only [List.append_toArray,List.nil_append,List.cons_append]
   go_enter Tryz.func142,Tryz.ntmps142
   go_wp2_with fail
   refine (gone_own _ p xs N c _ H_hx.out HA0.out.cur HA0.out.by8 ho HA0.out.apart hc hc').mono ?_
   rw [H_hxs.out]
   rintro e w1 ⟨hk,hcur,rfl⟩
   rw [if_pos H_hb.out] at hcur ⊢
   exact ⟨rfl,(HA0.out.call hk hcur).gave (by decide)⟩
  ·have hk2:(if b ≠ 2∧b ≠ 3 then (4:Int) else 0)=0:=if_neg hb
   have hk3:(if b ≠ 2∧b ≠ 3 then Ending.panicked (given (w0.heap.size+1+1)) else Ending.returned (.bool (b == 3)))=.returned (.bool (b == 3)):=if_neg hb
   have hR0:readR xs=if (vget ys).e ≠ 0 then ((vget ys).e,Rec.none) else readKey b (vget ys).x.toNat (ys.drop (vget ys).n):=by
    rw [hxs]
    show readKind b ys=_
    unfold readKind
    rw [if_neg hb]
   by_cases h1:(vget ys).e=0
   rotate_left
   ·have hR:readR xs=((vget ys).e,Rec.none):=by rw [hR0,if_pos h1]
    refine ⟨1+(vget ys).n,?_⟩
    intro W hA
    have HA0:=hid hA
    rw [hR]
    have H_hx:=hid hx
    have H_hxs:=hid hxs
    have H_hlen:=hid hlen
    have H_hd1:=hid hd1
    have H_hk2:=hid hk2
    have H_hk3:=hid hk3
    clear hA hx hxs hlen hd1 hk2 hk3
    simp only [List.append_toArray,List.nil_append,List.cons_append]
    go_enter Tryz.func142,Tryz.ntmps142
    go_wp2_with fail
    refine (gone_own _ p xs N c _ H_hx.out HA0.out.cur HA0.out.by8 ho HA0.out.apart hc hc').mono ?_
    rw [H_hxs.out]
    rintro e w1 ⟨hk,hcur,he⟩
    rw [H_hk2.out] at hcur
    rw [H_hk3.out] at he
    subst he
    have hA1:=HA0.out.call hk hcur
    clear hk hcur
    have HA1:=hid (hA1.put 0 (.bool (b == 3)))
    have f1:=hA1.cells.free 0
    have g1:w1.cell? ⟨D,0,none⟩=some (.bool false):=hA1.cells.cell 0 rfl
    clear hA1
    go_wp2_with fail
    refine (get_any _ p xs N c 1 _ H_hx.out HA1.out.cur HA1.out.by8 ho HA1.out.apart (by have:=H_hx.out;have:=H_hlen.out;omega) hc hc').mono ?_
    rw [H_hd1.out]
    rintro e w9 ⟨hk,⟨he,rfl,hcur⟩|⟨he,rfl,hcur⟩⟩
    ·exact absurd he h1
    ·exact ⟨rfl,(HA1.out.call hk hcur).gave h1⟩
   rw [if_neg (by simpa using h1)] at hR0
   have hxb:=vread_bound 9 true ys (fun z hz=>ho z (by rw [hxs];exact List.mem_cons_of_mem _ hz)) h1
   have hxn:(((vget ys).x.toNat:Nat):Int)=(vget ys).x:=Int.toNat_of_nonneg hxb.1
   clear hxb
   unfold readKey at hR0
   simp only [List.drop_drop] at hR0
   by_cases h2:(vtext (ys.drop (vget ys).n) 1 4096).e=0
   rotate_left
   ·have hR:readR xs=((vtext (ys.drop (vget ys).n) 1 4096).e,Rec.none):=by rw [hR0,if_pos h2]
    refine ⟨1+(vget ys).n+(vtext (ys.drop (vget ys).n) 1 4096).n,?_⟩
    intro W hA
    have HA0:=hid hA
    rw [hR]
    have H_hx:=hid hx
    have H_hxs:=hid hxs
    have H_hlen:=hid hlen
    have H_hd1:=hid hd1
    have H_hd2:=hid hd2
    have H_hk2:=hid hk2
    have H_hk3:=hid hk3
    clear hA hx hxs hlen hd1 hd2 hk2 hk3
    simp only [List.append_toArray,List.nil_append,List.cons_append]
    go_enter Tryz.func142,Tryz.ntmps142
    go_wp2_with fail
    refine (gone_own _ p xs N c _ H_hx.out HA0.out.cur HA0.out.by8 ho HA0.out.apart hc hc').mono ?_
    rw [H_hxs.out]
    rintro e w1 ⟨hk,hcur,he⟩
    rw [H_hk2.out] at hcur
    rw [H_hk3.out] at he
    subst he
    have hA1:=HA0.out.call hk hcur
    clear hk hcur
    have HA1:=hid (hA1.put 0 (.bool (b == 3)))
    have f1:=hA1.cells.free 0
    have g1:w1.cell? ⟨D,0,none⟩=some (.bool false):=hA1.cells.cell 0 rfl
    clear hA1
    go_wp2_with fail
    refine (get_any _ p xs N c 1 _ H_hx.out HA1.out.cur HA1.out.by8 ho HA1.out.apart (by have:=H_hx.out;have:=H_hlen.out;omega) hc hc').mono ?_
    rw [H_hd1.out]
    rintro e w2 ⟨hk,⟨he,rfl,hcur⟩|⟨he,rfl,hcur⟩⟩
    rotate_left
    ·exact absurd h1 he
    clear he
    have hA2:=HA1.out.call hk hcur
    clear hk hcur
    have HA2:=hid (hA2.put 1 (.int .u64 (vget ys).x))
    have f2:=hA2.cells.free 1
    have g2:w2.cell? ⟨D,1,none⟩=some (.int .u64 0):=hA2.cells.cell 1 rfl
    clear hA2
    go_wp2_with fail
    refine (gettext_any _ p xs N c (1+(vget ys).n) 1 4096 1 4096 rfl rfl (by have:=H_hx.out;have:=H_hlen.out;omega) (by have:=H_hx.out;have:=H_hlen.out;omega) _ H_hx.out HA2.out.cur HA2.out.by8 ho HA2.out.apart (by have:=H_hx.out;have:=H_hlen.out;omega) hc hN9 hc').mono ?_
    rw [H_hd2.out]
    rintro e w9 ⟨hk,⟨he,rfl,hcur⟩|⟨he,rfl,hcur⟩⟩
    ·exact absurd he h2
    ·exact ⟨rfl,(HA2.out.call hk hcur).gave h2⟩
   rw [if_neg (by simpa using h2)] at hR0
   by_cases h3b:b=3
   ·rw [if_pos h3b] at hR0
    have hbt:(b == 3)=true:=by rw [h3b];rfl
    unfold readEnd at hR0
    have hl3:(ys.drop ((vget ys).n+(vtext (ys.drop (vget ys).n) 1 4096).n)).length=N - (1+(vget ys).n+(vtext (ys.drop (vget ys).n) 1 4096).n):=by rw [List.length_drop];omega
    by_cases hend:1+(vget ys).n+(vtext (ys.drop (vget ys).n) 1 4096).n=N
    ·have hR:readR xs=(0,⟨true,(vget ys).x.toNat,(vtext (ys.drop (vget ys).n) 1 4096).t,[]⟩):=by rw [hR0,if_pos (List.length_eq_zero_iff.1 (by omega))]
     refine ⟨1+(vget ys).n+(vtext (ys.drop (vget ys).n) 1 4096).n,?_⟩
     intro W hA
     have HA0:=hid hA
     rw [hR]
     have H_hx:=hid hx
     have H_hxs:=hid hxs
     have H_hlen:=hid hlen
     have H_hd1:=hid hd1
     have H_hd2:=hid hd2
     have H_hk2:=hid hk2
     have H_hk3:=hid hk3
     have H_hbt:=hid hbt
     have H_hend:=hid hend
     have H_hxn:=hid hxn
     clear hA hx hxs hlen hd1 hd2 hk2 hk3 hbt hend hxn
     simp only [List.append_toArray,List.nil_append,List.cons_append]
     go_enter Tryz.func142,Tryz.ntmps142
     go_wp2_with fail
     refine (gone_own _ p xs N c _ H_hx.out HA0.out.cur HA0.out.by8 ho HA0.out.apart hc hc').mono ?_
     rw [H_hxs.out]
     rintro e w1 ⟨hk,hcur,he⟩
     rw [H_hk2.out] at hcur
     rw [H_hk3.out,H_hbt.out] at he
     subst he
     have hA1:=HA0.out.call hk hcur
     clear hk hcur
     have HA1:=hid (hA1.put 0 (.bool true))
     have f1:=hA1.cells.free 0
     have g1:w1.cell? ⟨D,0,none⟩=some (.bool false):=hA1.cells.cell 0 rfl
     clear hA1
     go_wp2_with fail
     refine (get_any _ p xs N c 1 _ H_hx.out HA1.out.cur HA1.out.by8 ho HA1.out.apart (by have:=H_hx.out;have:=H_hlen.out;omega) hc hc').mono ?_
     rw [H_hd1.out]
     rintro e w2 ⟨hk,⟨he,rfl,hcur⟩|⟨he,rfl,hcur⟩⟩
     rotate_left
     ·exact absurd h1 he
     clear he
     have hA2:=HA1.out.call hk hcur
     clear hk hcur
     have HA2:=hid (hA2.put 1 (.int .u64 (vget ys).x))
     have f2:=hA2.cells.free 1
     have g2:w2.cell? ⟨D,1,none⟩=some (.int .u64 0):=hA2.cells.cell 1 rfl
     clear hA2
     go_wp2_with fail
     refine (gettext_any _ p xs N c (1+(vget ys).n) 1 4096 1 4096 rfl rfl (by have:=H_hx.out;have:=H_hlen.out;omega) (by have:=H_hx.out;have:=H_hlen.out;omega) _ H_hx.out HA2.out.cur HA2.out.by8 ho HA2.out.apart (by have:=H_hx.out;have:=H_hlen.out;omega) hc hN9 hc').mono ?_
     rw [H_hd2.out]
     rintro e w3 ⟨hk,⟨he,rfl,hcur⟩|⟨he,rfl,hcur⟩⟩
     rotate_left
     ·exact absurd h2 he
     clear he
     have hA3:=HA2.out.call hk hcur
     clear hk hcur
     have HA3:=hid (hA3.put 2 (.string (strOfNums (vtext (ys.drop (vget ys).n) 1 4096).t)))
     have f3:=hA3.cells.free 2
     have g3:w3.cell? ⟨D,2,none⟩=some (.string (strOfNums [])):=hA3.cells.cell 2 rfl
     have c3:(w3.setCell ⟨D,2,none⟩ (.string (strOfNums (vtext (ys.drop (vget ys).n) 1 4096).t))).cell? ⟨D,0,none⟩=some (.bool true):=HA3.out.cells.cell 0 rfl
     clear hA3
     go_wp2_with fail
     rw [← H_hxn.out] at HA3
     refine (end_whole _ p N c 0 _ (by have:=HA3.out.cur;rw [show 1+(vget ys).n+(vtext (ys.drop (vget ys).n) 1 4096).n=N from H_hend.out] at this;exact this) (by have:=H_hx.out;have:=H_hlen.out;omega)).mono ?_
     rintro e w9 ⟨rfl,hcur,hk⟩
     have HA9:=hid (HA3.out.quiet hk)
     clear hk hcur
     go_wp2_with fail
     go_returns
     exact (show At7 w0 D p xs N c _ 0 (recCells ⟨true,(vget ys).x.toNat,(vtext (ys.drop (vget ys).n) 1 4096).t,[]⟩) w9 from HA9.out).done
    ·have hR:readR xs=(3,Rec.none):=by rw [hR0,if_neg (fun h=>by rw [h] at hl3;simp at hl3;omega)]
     refine ⟨1+(vget ys).n+(vtext (ys.drop (vget ys).n) 1 4096).n,?_⟩
     intro W hA
     have HA0:=hid hA
     rw [hR]
     have H_hx:=hid hx
     have H_hxs:=hid hxs
     have H_hlen:=hid hlen
     have H_hd1:=hid hd1
     have H_hd2:=hid hd2
     have H_hk2:=hid hk2
     have H_hk3:=hid hk3
     have H_hbt:=hid hbt
     clear hA hx hxs hlen hd1 hd2 hk2 hk3 hbt
     simp only [List.append_toArray,List.nil_append,List.cons_append]
     go_enter Tryz.func142,Tryz.ntmps142
     go_wp2_with fail
     refine (gone_own _ p xs N c _ H_hx.out HA0.out.cur HA0.out.by8 ho HA0.out.apart hc hc').mono ?_
     rw [H_hxs.out]
     rintro e w1 ⟨hk,hcur,he⟩
     rw [H_hk2.out] at hcur
     rw [H_hk3.out,H_hbt.out] at he
     subst he
     have hA1:=HA0.out.call hk hcur
     clear hk hcur
     have HA1:=hid (hA1.put 0 (.bool true))
     have f1:=hA1.cells.free 0
     have g1:w1.cell? ⟨D,0,none⟩=some (.bool false):=hA1.cells.cell 0 rfl
     clear hA1
     go_wp2_with fail
     refine (get_any _ p xs N c 1 _ H_hx.out HA1.out.cur HA1.out.by8 ho HA1.out.apart (by have:=H_hx.out;have:=H_hlen.out;omega) hc hc').mono ?_
     rw [H_hd1.out]
     rintro e w2 ⟨hk,⟨he,rfl,hcur⟩|⟨he,rfl,hcur⟩⟩
     rotate_left
     ·exact absurd h1 he
     clear he
     have hA2:=HA1.out.call hk hcur
     clear hk hcur
     have HA2:=hid (hA2.put 1 (.int .u64 (vget ys).x))
     have f2:=hA2.cells.free 1
     have g2:w2.cell? ⟨D,1,none⟩=some (.int .u64 0):=hA2.cells.cell 1 rfl
     clear hA2
     go_wp2_with fail
     refine (gettext_any _ p xs N c (1+(vget ys).n) 1 4096 1 4096 rfl rfl (by have:=H_hx.out;have:=H_hlen.out;omega) (by have:=H_hx.out;have:=H_hlen.out;omega) _ H_hx.out HA2.out.cur HA2.out.by8 ho HA2.out.apart (by have:=H_hx.out;have:=H_hlen.out;omega) hc hN9 hc').mono ?_
     rw [H_hd2.out]
     rintro e w3 ⟨hk,⟨he,rfl,hcur⟩|⟨he,rfl,hcur⟩⟩
     rotate_left
     ·exact absurd h2 he
     clear he
     have hA3:=HA2.out.call hk hcur
     clear hk hcur
     have HA3:=hid (hA3.put 2 (.string (strOfNums (vtext (ys.drop (vget ys).n) 1 4096).t)))
     have f3:=hA3.cells.free 2
     have g3:w3.cell? ⟨D,2,none⟩=some (.string (strOfNums [])):=hA3.cells.cell 2 rfl
     have c3:(w3.setCell ⟨D,2,none⟩ (.string (strOfNums (vtext (ys.drop (vget ys).n) 1 4096).t))).cell? ⟨D,0,none⟩=some (.bool true):=HA3.out.cells.cell 0 rfl
     clear hA3
     go_wp2_with fail
     refine (end_more _ p N c (1+(vget ys).n+(vtext (ys.drop (vget ys).n) 1 4096).n) _ HA3.out.cur (by have:=H_hx.out;have:=H_hlen.out;omega) (by have:=H_hx.out;have:=H_hlen.out;omega)).mono ?_
     rintro e w9 ⟨rfl,hcur,hk⟩
     exact ⟨rfl,(HA3.out.call hk hcur).gave (by decide)⟩
   ·rw [if_neg h3b] at hR0
    have hbt:(b == 3)=false:=by simpa using h3b
    by_cases h3:(vtext (ys.drop ((vget ys).n+(vtext (ys.drop (vget ys).n) 1 4096).n)) 0 1048576).e=0
    rotate_left
    ·have hR:readR xs=((vtext (ys.drop ((vget ys).n+(vtext (ys.drop (vget ys).n) 1 4096).n)) 0 1048576).e,Rec.none):=by rw [hR0,if_pos h3]
     refine ⟨1+(vget ys).n+(vtext (ys.drop (vget ys).n) 1 4096).n+(vtext (ys.drop ((vget ys).n+(vtext (ys.drop (vget ys).n) 1 4096).n)) 0 1048576).n,?_⟩
     intro W hA
     have HA0:=hid hA
     rw [hR]
     have H_hx:=hid hx
     have H_hxs:=hid hxs
     have H_hlen:=hid hlen
     have H_hd1:=hid hd1
     have H_hd2:=hid hd2
     have H_hd3:=hid hd3
     have H_hk2:=hid hk2
     have H_hk3:=hid hk3
     have H_hbt:=hid hbt
     clear hA hx hxs hlen hd1 hd2 hd3 hk2 hk3 hbt
     simp only [List.append_toArray,List.nil_append,List.cons_append]
     go_enter Tryz.func142,Tryz.ntmps142
     go_wp2_with fail
     refine (gone_own _ p xs N c _ H_hx.out HA0.out.cur HA0.out.by8 ho HA0.out.apart hc hc').mono ?_
     rw [H_hxs.out]
     rintro e w1 ⟨hk,hcur,he⟩
     rw [H_hk2.out] at hcur
     rw [H_hk3.out,H_hbt.out] at he
     subst he
     have hA1:=HA0.out.call hk hcur
     clear hk hcur
     have HA1:=hid (hA1.put 0 (.bool false))
     have f1:=hA1.cells.free 0
     have g1:w1.cell? ⟨D,0,none⟩=some (.bool false):=hA1.cells.cell 0 rfl
     clear hA1
     go_wp2_with fail
     refine (get_any _ p xs N c 1 _ H_hx.out HA1.out.cur HA1.out.by8 ho HA1.out.apart (by have:=H_hx.out;have:=H_hlen.out;omega) hc hc').mono ?_
     rw [H_hd1.out]
     rintro e w2 ⟨hk,⟨he,rfl,hcur⟩|⟨he,rfl,hcur⟩⟩
     rotate_left
     ·exact absurd h1 he
     clear he
     have hA2:=HA1.out.call hk hcur
     clear hk hcur
     have HA2:=hid (hA2.put 1 (.int .u64 (vget ys).x))
     have f2:=hA2.cells.free 1
     have g2:w2.cell? ⟨D,1,none⟩=some (.int .u64 0):=hA2.cells.cell 1 rfl
     clear hA2
     go_wp2_with fail
     refine (gettext_any _ p xs N c (1+(vget ys).n) 1 4096 1 4096 rfl rfl (by have:=H_hx.out;have:=H_hlen.out;omega) (by have:=H_hx.out;have:=H_hlen.out;omega) _ H_hx.out HA2.out.cur HA2.out.by8 ho HA2.out.apart (by have:=H_hx.out;have:=H_hlen.out;omega) hc hN9 hc').mono ?_
     rw [H_hd2.out]
     rintro e w3 ⟨hk,⟨he,rfl,hcur⟩|⟨he,rfl,hcur⟩⟩
     rotate_left
     ·exact absurd h2 he
     clear he
     have hA3:=HA2.out.call hk hcur
     clear hk hcur
     have HA3:=hid (hA3.put 2 (.string (strOfNums (vtext (ys.drop (vget ys).n) 1 4096).t)))
     have f3:=hA3.cells.free 2
     have g3:w3.cell? ⟨D,2,none⟩=some (.string (strOfNums [])):=hA3.cells.cell 2 rfl
     have c3:(w3.setCell ⟨D,2,none⟩ (.string (strOfNums (vtext (ys.drop (vget ys).n) 1 4096).t))).cell? ⟨D,0,none⟩=some (.bool false):=HA3.out.cells.cell 0 rfl
     clear hA3
     go_wp2_with fail
     refine (gettext_any _ p xs N c (1+(vget ys).n+(vtext (ys.drop (vget ys).n) 1 4096).n) 0 1048576 0 1048576 rfl rfl (by have:=H_hx.out;have:=H_hlen.out;omega) (by have:=H_hx.out;have:=H_hlen.out;omega) _ H_hx.out HA3.out.cur HA3.out.by8 ho HA3.out.apart (by have:=H_hx.out;have:=H_hlen.out;omega) hc hN9 hc').mono ?_
     rw [H_hd3.out]
     rintro e w9 ⟨hk,⟨he,rfl,hcur⟩|⟨he,rfl,hcur⟩⟩
     ·exact absurd he h3
     ·exact ⟨rfl,(HA3.out.call hk hcur).gave h3⟩
    rw [if_neg (by simpa using h3)] at hR0
    unfold readEnd at hR0
    have hl3:(ys.drop ((vget ys).n+(vtext (ys.drop (vget ys).n) 1 4096).n+(vtext (ys.drop ((vget ys).n+(vtext (ys.drop (vget ys).n) 1 4096).n)) 0 1048576).n)).length=N - (1+(vget ys).n+(vtext (ys.drop (vget ys).n) 1 4096).n+(vtext (ys.drop ((vget ys).n+(vtext (ys.drop (vget ys).n) 1 4096).n)) 0 1048576).n):=by rw [List.length_drop];omega
    by_cases hend:1+(vget ys).n+(vtext (ys.drop (vget ys).n) 1 4096).n+(vtext (ys.drop ((vget ys).n+(vtext (ys.drop (vget ys).n) 1 4096).n)) 0 1048576).n=N
    ·have hR:readR xs=(0,⟨false,(vget ys).x.toNat,(vtext (ys.drop (vget ys).n) 1 4096).t,(vtext (ys.drop ((vget ys).n+(vtext (ys.drop (vget ys).n) 1 4096).n)) 0 1048576).t⟩):=by rw [hR0,if_pos (List.length_eq_zero_iff.1 (by omega))]
     refine ⟨1+(vget ys).n+(vtext (ys.drop (vget ys).n) 1 4096).n+(vtext (ys.drop ((vget ys).n+(vtext (ys.drop (vget ys).n) 1 4096).n)) 0 1048576).n,?_⟩
     intro W hA
     have HA0:=hid hA
     rw [hR]
     have H_hx:=hid hx
     have H_hxs:=hid hxs
     have H_hlen:=hid hlen
     have H_hd1:=hid hd1
     have H_hd2:=hid hd2
     have H_hd3:=hid hd3
     have H_hk2:=hid hk2
     have H_hk3:=hid hk3
     have H_hbt:=hid hbt
     have H_hend:=hid hend
     have H_hxn:=hid hxn
     clear hA hx hxs hlen hd1 hd2 hd3 hk2 hk3 hbt hend hxn
     simp only [List.append_toArray,List.nil_append,List.cons_append]
     go_enter Tryz.func142,Tryz.ntmps142
     go_wp2_with fail
     refine (gone_own _ p xs N c _ H_hx.out HA0.out.cur HA0.out.by8 ho HA0.out.apart hc hc').mono ?_
     rw [H_hxs.out]
     rintro e w1 ⟨hk,hcur,he⟩
     rw [H_hk2.out] at hcur
     rw [H_hk3.out,H_hbt.out] at he
     subst he
     have hA1:=HA0.out.call hk hcur
     clear hk hcur
     have HA1:=hid (hA1.put 0 (.bool false))
     have f1:=hA1.cells.free 0
     have g1:w1.cell? ⟨D,0,none⟩=some (.bool false):=hA1.cells.cell 0 rfl
     clear hA1
     go_wp2_with fail
     refine (get_any _ p xs N c 1 _ H_hx.out HA1.out.cur HA1.out.by8 ho HA1.out.apart (by have:=H_hx.out;have:=H_hlen.out;omega) hc hc').mono ?_
     rw [H_hd1.out]
     rintro e w2 ⟨hk,⟨he,rfl,hcur⟩|⟨he,rfl,hcur⟩⟩
     rotate_left
     ·exact absurd h1 he
     clear he
     have hA2:=HA1.out.call hk hcur
     clear hk hcur
     have HA2:=hid (hA2.put 1 (.int .u64 (vget ys).x))
     have f2:=hA2.cells.free 1
     have g2:w2.cell? ⟨D,1,none⟩=some (.int .u64 0):=hA2.cells.cell 1 rfl
     clear hA2
     go_wp2_with fail
     refine (gettext_any _ p xs N c (1+(vget ys).n) 1 4096 1 4096 rfl rfl (by have:=H_hx.out;have:=H_hlen.out;omega) (by have:=H_hx.out;have:=H_hlen.out;omega) _ H_hx.out HA2.out.cur HA2.out.by8 ho HA2.out.apart (by have:=H_hx.out;have:=H_hlen.out;omega) hc hN9 hc').mono ?_
     rw [H_hd2.out]
     rintro e w3 ⟨hk,⟨he,rfl,hcur⟩|⟨he,rfl,hcur⟩⟩
     rotate_left
     ·exact absurd h2 he
     clear he
     have hA3:=HA2.out.call hk hcur
     clear hk hcur
     have HA3:=hid (hA3.put 2 (.string (strOfNums (vtext (ys.drop (vget ys).n) 1 4096).t)))
     have f3:=hA3.cells.free 2
     have g3:w3.cell? ⟨D,2,none⟩=some (.string (strOfNums [])):=hA3.cells.cell 2 rfl
     have c3:(w3.setCell ⟨D,2,none⟩ (.string (strOfNums (vtext (ys.drop (vget ys).n) 1 4096).t))).cell? ⟨D,0,none⟩=some (.bool false):=HA3.out.cells.cell 0 rfl
     clear hA3
     go_wp2_with fail
     refine (gettext_any _ p xs N c (1+(vget ys).n+(vtext (ys.drop (vget ys).n) 1 4096).n) 0 1048576 0 1048576 rfl rfl (by have:=H_hx.out;have:=H_hlen.out;omega) (by have:=H_hx.out;have:=H_hlen.out;omega) _ H_hx.out HA3.out.cur HA3.out.by8 ho HA3.out.apart (by have:=H_hx.out;have:=H_hlen.out;omega) hc hN9 hc').mono ?_
     rw [H_hd3.out]
     rintro e w4 ⟨hk,⟨he,rfl,hcur⟩|⟨he,rfl,hcur⟩⟩
     rotate_left
     ·exact absurd h3 he
     clear he
     have hA4:=HA3.out.call hk hcur
     clear hk hcur
     have HA4:=hid (hA4.put 3 (.string (strOfNums (vtext (ys.drop ((vget ys).n+(vtext (ys.drop (vget ys).n) 1 4096).n)) 0 1048576).t)))
     have f4:=hA4.cells.free 3
     have g4:w4.cell? ⟨D,3,none⟩=some (.string (strOfNums [])):=hA4.cells.cell 3 rfl
     clear hA4
     go_wp2_with fail
     rw [← H_hxn.out] at HA4
     refine (end_whole _ p N c 0 _ (by have:=HA4.out.cur;rw [show 1+(vget ys).n+(vtext (ys.drop (vget ys).n) 1 4096).n+(vtext (ys.drop ((vget ys).n+(vtext (ys.drop (vget ys).n) 1 4096).n)) 0 1048576).n=N from H_hend.out] at this;exact this) (by have:=H_hx.out;have:=H_hlen.out;omega)).mono ?_
     rintro e w9 ⟨rfl,hcur,hk⟩
     have HA9:=hid (HA4.out.quiet hk)
     clear hk hcur
     go_wp2_with fail
     go_returns
     exact (show At7 w0 D p xs N c _ 0 (recCells ⟨false,(vget ys).x.toNat,(vtext (ys.drop (vget ys).n) 1 4096).t,(vtext (ys.drop ((vget ys).n+(vtext (ys.drop (vget ys).n) 1 4096).n)) 0 1048576).t⟩) w9 from HA9.out).done
    ·have hR:readR xs=(3,Rec.none):=by rw [hR0,if_neg (fun h=>by rw [h] at hl3;simp at hl3;omega)]
     refine ⟨1+(vget ys).n+(vtext (ys.drop (vget ys).n) 1 4096).n+(vtext (ys.drop ((vget ys).n+(vtext (ys.drop (vget ys).n) 1 4096).n)) 0 1048576).n,?_⟩
     intro W hA
     have HA0:=hid hA
     rw [hR]
     have H_hx:=hid hx
     have H_hxs:=hid hxs
     have H_hlen:=hid hlen
     have H_hd1:=hid hd1
     have H_hd2:=hid hd2
     have H_hd3:=hid hd3
     have H_hk2:=hid hk2
     have H_hk3:=hid hk3
     have H_hbt:=hid hbt
     clear hA hx hxs hlen hd1 hd2 hd3 hk2 hk3 hbt
     simp only [List.append_toArray,List.nil_append,List.cons_append]
     go_enter Tryz.func142,Tryz.ntmps142
     go_wp2_with fail
     refine (gone_own _ p xs N c _ H_hx.out HA0.out.cur HA0.out.by8 ho HA0.out.apart hc hc').mono ?_
     rw [H_hxs.out]
     rintro e w1 ⟨hk,hcur,he⟩
     rw [H_hk2.out] at hcur
     rw [H_hk3.out,H_hbt.out] at he
     subst he
     have hA1:=HA0.out.call hk hcur
     clear hk hcur
     have HA1:=hid (hA1.put 0 (.bool false))
     have f1:=hA1.cells.free 0
     have g1:w1.cell? ⟨D,0,none⟩=some (.bool false):=hA1.cells.cell 0 rfl
     clear hA1
     go_wp2_with fail
     refine (get_any _ p xs N c 1 _ H_hx.out HA1.out.cur HA1.out.by8 ho HA1.out.apart (by have:=H_hx.out;have:=H_hlen.out;omega) hc hc').mono ?_
     rw [H_hd1.out]
     rintro e w2 ⟨hk,⟨he,rfl,hcur⟩|⟨he,rfl,hcur⟩⟩
     rotate_left
     ·exact absurd h1 he
     clear he
     have hA2:=HA1.out.call hk hcur
     clear hk hcur
     have HA2:=hid (hA2.put 1 (.int .u64 (vget ys).x))
     have f2:=hA2.cells.free 1
     have g2:w2.cell? ⟨D,1,none⟩=some (.int .u64 0):=hA2.cells.cell 1 rfl
     clear hA2
     go_wp2_with fail
     refine (gettext_any _ p xs N c (1+(vget ys).n) 1 4096 1 4096 rfl rfl (by have:=H_hx.out;have:=H_hlen.out;omega) (by have:=H_hx.out;have:=H_hlen.out;omega) _ H_hx.out HA2.out.cur HA2.out.by8 ho HA2.out.apart (by have:=H_hx.out;have:=H_hlen.out;omega) hc hN9 hc').mono ?_
     rw [H_hd2.out]
     rintro e w3 ⟨hk,⟨he,rfl,hcur⟩|⟨he,rfl,hcur⟩⟩
     rotate_left
     ·exact absurd h2 he
     clear he
     have hA3:=HA2.out.call hk hcur
     clear hk hcur
     have HA3:=hid (hA3.put 2 (.string (strOfNums (vtext (ys.drop (vget ys).n) 1 4096).t)))
     have f3:=hA3.cells.free 2
     have g3:w3.cell? ⟨D,2,none⟩=some (.string (strOfNums [])):=hA3.cells.cell 2 rfl
     have c3:(w3.setCell ⟨D,2,none⟩ (.string (strOfNums (vtext (ys.drop (vget ys).n) 1 4096).t))).cell? ⟨D,0,none⟩=some (.bool false):=HA3.out.cells.cell 0 rfl
     clear hA3
     go_wp2_with fail
     refine (gettext_any _ p xs N c (1+(vget ys).n+(vtext (ys.drop (vget ys).n) 1 4096).n) 0 1048576 0 1048576 rfl rfl (by have:=H_hx.out;have:=H_hlen.out;omega) (by have:=H_hx.out;have:=H_hlen.out;omega) _ H_hx.out HA3.out.cur HA3.out.by8 ho HA3.out.apart (by have:=H_hx.out;have:=H_hlen.out;omega) hc hN9 hc').mono ?_
     rw [H_hd3.out]
     rintro e w4 ⟨hk,⟨he,rfl,hcur⟩|⟨he,rfl,hcur⟩⟩
     rotate_left
     ·exact absurd h3 he
     clear he
     have hA4:=HA3.out.call hk hcur
     clear hk hcur
     have HA4:=hid (hA4.put 3 (.string (strOfNums (vtext (ys.drop ((vget ys).n+(vtext (ys.drop (vget ys).n) 1 4096).n)) 0 1048576).t)))
     have f4:=hA4.cells.free 3
     have g4:w4.cell? ⟨D,3,none⟩=some (.string (strOfNums [])):=hA4.cells.cell 3 rfl
     clear hA4
     go_wp2_with fail
     refine (end_more _ p N c (1+(vget ys).n+(vtext (ys.drop (vget ys).n) 1 4096).n+(vtext (ys.drop ((vget ys).n+(vtext (ys.drop (vget ys).n) 1 4096).n)) 0 1048576).n) _ HA4.out.cur (by have:=H_hx.out;have:=H_hlen.out;omega) (by have:=H_hx.out;have:=H_hlen.out;omega)).mono ?_
     rintro e w9 ⟨rfl,hcur,hk⟩
     exact ⟨rfl,(HA4.out.call hk hcur).gave (by decide)⟩
end
end Go.Proofs.YtehkjkcnigknkaaGreat

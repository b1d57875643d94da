/-
  PkFits; FrStep; FrGetH2; FrGetH; FrLaws; FrOpen.
-/
import Derived.Deep.Cut
import Derived.Lib.Hide
import Derived.Test.YtehkjkcnigknkaaGreatV05
import Derived.Test.YtehkjkcnigknkaaGreatV11
import Derived.Test.YtehkjkcnigknkaaGreatV13
import Derived.Test.YtehkjkcnigknkaaGreatV14
import Derived.Test.YtehkjkcnigknkaaGreatV16
import Derived.Test.YtehkjkcnigknkaaGreatV30
namespace Go.Proofs.YtehkjkcnigknkaaGreat
open Lib (hid)
section
open Go.RowKit
theorem room_at5 {w:World} {g:Nat} {t:TypeId} {a b c d e:Value} (h:Whole w g t #[a,b,c,d,e]) :
  w.cell? ⟨g,0,none⟩=some a∧w.cell? ⟨g,1,none⟩=some b∧w.cell? ⟨g,2,none⟩=some c∧w.cell? ⟨g,3,none⟩=some d∧w.cell? ⟨g,4,none⟩=some e :=
 ⟨h.cell 0 rfl,h.cell 1 rfl,h.cell 2 rfl,h.cell 3 rfl,h.cell 4 rfl⟩
def LeftIs (r:Rm) (L:Nat):Prop:=∀ w,Calls Tryz.prog 117 #[roomV r] w fun e w'=>e=.returned (.int .i64 ((L:Nat):Int))∧Keeps NoBlock w w'
set_option maxHeartbeats 4000000 in
set_option maxRecDepth 10000 in
theorem fits_any (r:Rm) (L:Nat) (HL:LeftIs r L) (z:Int) (w:World) :
  Calls Tryz.prog 90 #[roomV r,.int .i64 z] w fun e w'=>e=.returned (.bool (decide (1≤z) && decide (z≤(L:Int))))∧Keeps NoBlock w w':=by
 have HL:=hid HL
 unfold LeftIs at HL
 have HW:=hid (Whole.new w 121 (roomCells r))
 have HK:=hid ((Keeps.refl NoBlock w).alloc (.cells (roomCells r) 121))
 obtain ⟨e,s,num,used,count⟩:=r
 unfold roomV at *
 unfold roomCells at HW HK
 simp only at HW HK HL ⊢
 obtain ⟨c0,c1,c2,c3,c4⟩:=room_at (r:=⟨e,s,num,used,count⟩) HW.out
 by_cases z1:1≤z
 ·have d1:decide (1≤z)=true:=decide_eq_true z1
  rw [d1,Bool.true_and]
  go_enter Tryz.func90,Tryz.ntmps90
  go_wp2_with fail
  refine (HL.out _).mono ?_
  rintro e9 w1 ⟨rfl,hk⟩
  have HK:=hid (HK.out.trans hk)
  clear hk c0 c1 c2 c3 c4
  go_wp2_with fail
  go_ret
  exact ⟨rfl,HK.out⟩
 ·have d1:decide (1≤z)=false:=decide_eq_false z1
  rw [d1,Bool.false_and]
  go_enter Tryz.func90,Tryz.ntmps90
  go_wp2_with fail
  go_ret
  exact ⟨rfl,HK.out⟩
theorem fits_own (r:Rm) (z:Int) (w:World) (hr:r.Real) :
  Calls Tryz.prog 90 #[roomV r,.int .i64 z] w fun e w'=>e=.returned (.bool (fitsP r z))∧Keeps NoBlock w w':=by
 have h:=fits_any r (leftP r) (fun w=>left_own r w hr) z w
 rw [show fitsP r z=(decide (1≤z) && decide (z≤(leftP r:Int))) from by
  rw [Bool.eq_iff_iff,fitsP_left,Bool.and_eq_true,decide_eq_true_iff,decide_eq_true_iff]]
 exact h
theorem fits_none (z:Int) (w:World) :
  Calls Tryz.prog 90 #[roomV Rm.none,.int .i64 z] w fun e w'=>e=.returned (.bool false)∧Keeps NoBlock w w':=by
 have h:=fits_any Rm.none 0 left_none z w
 rw [show (decide (1≤z) && decide (z≤((0:Nat):Int)))=false from by
  rw [Bool.eq_false_iff];intro h;rw [Bool.and_eq_true,decide_eq_true_iff,decide_eq_true_iff] at h;omega] at h
 exact h
set_option maxHeartbeats 4000000 in
set_option maxRecDepth 10000 in
theorem take_own (r:Rm) (z:Int) (w:World) (hr:r.Real) (hc9:r.count<10000) :
  Calls Tryz.prog 61 #[roomV r,.int .i64 z] w fun e w'=>e=.returned (.tuple #[roomV (if fitsP r z=true then takeP r z else Rm.none),.int .i64 (if fitsP r z=true then 0 else 7)])∧Keeps NoBlock w w':=by
 have HF:=hid (fun w=>fits_own r z w hr)
 have HW:=hid ((Whole.new w 121 (roomCells r)).alloc (.cells (roomCells Rm.none) 121))
 have HZ:=hid (Whole.newAt (w.alloc (.cells (roomCells r) 121)) 121 (roomCells Rm.none) (w.heap.size+1) (by simp))
 have HK:=hid (((Keeps.refl NoBlock w).alloc (.cells (roomCells r) 121)).alloc (.cells (roomCells Rm.none) 121))
 by_cases hf:fitsP r z=true
 rotate_left
 ·have hf0:fitsP r z=false:=by simpa using hf
  rw [if_neg hf,if_neg hf]
  rw [hf0] at HF
  clear hf hf0 hr hc9
  obtain ⟨e,s,num,used,count⟩:=r
  unfold Rm.none at *
  unfold roomV at *
  unfold roomCells at HW HK HZ
  simp only at HW HK HF HZ ⊢
  obtain ⟨c0,c1,c2,c3,c4⟩:=room_at (r:=⟨e,s,num,used,count⟩) HW.out
  go_enter Tryz.func61,Tryz.ntmps61
  go_wp2_with fail
  refine (HF.out _).mono ?_
  rintro e9 w1 ⟨rfl,hk⟩
  have HZ:=hid (HZ.out.keep hk (fun h=>h))
  have HK:=hid (HK.out.trans hk)
  clear hk c0 c1 c2 c3 c4
  obtain ⟨c0,c1,c2,c3,c4⟩:=room_at (r:=⟨0,0,0,0,0⟩) HZ.out
  obtain ⟨q0,q1,q2,q3,q4⟩:=room_free HZ.out
  obtain ⟨g0,g1,g2,g3,g4⟩:=room_at (r:=⟨0,0,0,0,0⟩) (Whole.set5 HZ.out (.int .u8 (0:Int)) (.int .u32 (0:Int)) (.int .u32 (0:Int)) (.int .i64 (0:Int)) (.int .i64 (0:Int)))
  go_wp2_with fail
  exact bodyPost_ret (v:=.tuple #[roomV Rm.none,.int .i64 7]) (by simp [results,Tryz.results61,go_sem,roomV,Rm.none,c0,c1,c2,c3,c4]) rfl ⟨rfl,HK.out.new5 (by omega) (.int .u8 (0:Int)) (.int .u32 (0:Int)) (.int .u32 (0:Int)) (.int .i64 (0:Int)) (.int .i64 (0:Int))⟩
 rw [if_pos hf,if_pos hf]
 rw [hf] at HF
 obtain ⟨hz1,hz2⟩:=fitsP_true.1 hf
 have hsm:=hr.small
 have he2:=(two_e hsm.1).2
 have hU:takeP r z=⟨r.e,r.s,r.num,r.used+z.toNat,r.count+1⟩:=rfl
 obtain ⟨U,hUe⟩:∃ U,U=r.used+z.toNat:=⟨_,rfl⟩
 obtain ⟨P,hP⟩:∃ P,P=2 ^ r.e:=⟨_,rfl⟩
 rw [← hUe] at hU
 rw [hU]
 rw [← hP] at hz2 he2
 have hsum:(r.used:Int)+z=(U:Int):=by omega
 have hsz:(U:Int)≤16777216:=by omega
 clear hf hr hU hUe hP hz2 hz1 hsm
 obtain ⟨e,s,num,used,count⟩:=r
 simp only at hsum hc9
 unfold roomV at *
 unfold roomCells Rm.none at HW HK HZ
 simp only at HW HK HF HZ ⊢
 obtain ⟨c0,c1,c2,c3,c4⟩:=room_at (r:=⟨e,s,num,used,count⟩) HW.out
 have w1:IntKind.i64.wrap ((used:Int)+z)=(U:Int):=by rw [hsum];exact IntWalk.i64_in _ (by omega)
 have w2:IntKind.i64.wrap ((count:Int)+1)=(count:Int)+1:=IntWalk.i64_in _ (by omega)
 go_enter Tryz.func61,Tryz.ntmps61
 go_wp2_with fail
 refine (HF.out _).mono ?_
 rintro e9 w1 ⟨rfl,hk⟩
 have HW:=hid (HW.out.keep hk (fun h=>h))
 have HZ:=hid (HZ.out.keep hk (fun h=>h))
 have HK:=hid (HK.out.trans hk)
 clear hk c0 c1 c2 c3 c4
 obtain ⟨c0,c1,c2,c3,c4⟩:=room_at (r:=⟨e,s,num,used,count⟩) HW.out
 obtain ⟨p0,p1,p2,p3,p4⟩:=room_free HW.out
 obtain ⟨q0,q1,q2,q3,q4⟩:=room_free HZ.out
 obtain ⟨y0,y1,y2,y3,y4⟩:=room_at (r:=⟨0,0,0,0,0⟩) HZ.out
 have HZ2:=hid ((HZ.out.setOther (p:=⟨w.heap.size,3,none⟩) (by simp) (.int .i64 (U:Int))).setOther (p:=⟨w.heap.size,4,none⟩) (by simp) (.int .i64 ((count:Int)+1)))
 have HK2:=hid ((HK.out.setNew (Nat.le_refl _) 3 (.int .i64 (U:Int))).setNew (Nat.le_refl _) 4 (.int .i64 ((count:Int)+1)))
 obtain ⟨g0,g1,g2,g3,g4⟩:=room_at5 (Whole.set5 HZ2.out (.int .u8 ((e:Nat):Int)) (.int .u32 ((s:Nat):Int)) (.int .u32 ((num:Nat):Int)) (.int .i64 ((U:Nat):Int)) (.int .i64 ((count:Int)+1)))
 have HK3:=hid (HK2.out.new5 (k:=w.heap.size+1) (by omega) (.int .u8 ((e:Nat):Int)) (.int .u32 ((s:Nat):Int)) (.int .u32 ((num:Nat):Int)) (.int .i64 ((U:Nat):Int)) (.int .i64 ((count:Int)+1)))
 go_wp2_with fail
 exact bodyPost_ret (v:=.tuple #[.agg #[.int .u8 (e:Int),.int .u32 (s:Int),.int .u32 (num:Int),.int .i64 (U:Int),.int .i64 ((count:Int)+1)],.int .i64 0]) (by simp [results,Tryz.results61,go_sem,g0,g1,g2,g3,g4]) rfl ⟨rfl,HK3.out⟩
end
section
open Go.RowKit
def d1 (X:List Int) (E:Int):Nat:=if E=0 then (if X=[] then 0 else 1) else 0
def f1 (X:List Int) (E:Int):Int:=if E=0 then (if X=[] then 2 else 0) else E
def b1 (X:List Int) (E:Int):Int:=if E=0 then X.headD 0 else 0
def dv (X:List Int) (E:Int):Nat:=if E=0 then (vget X).n else 0
def fv (X:List Int) (E:Int):Int:=if E=0 then (vget X).e else E
structure HS where
 X:List Int
 E:Int
 v:Int
def s1 (X:List Int) (E:Int):HS:=⟨X.drop (d1 X E),f1 X E,b1 X E⟩
end
section
open Go.RowKit
end
section
open Go.RowKit
end
section
open Go.RowKit
structure Rec.Little (r:Rec):Prop where
 fine:r.Fine
 key:r.key.length≤100000
 val:r.val.length≤100000
end
section
open Go.RowKit
def sumE (N:Nat):Int:=if N<8 then 2 else 0
def sumA (N:Nat):Nat:=if N<8 then 0 else 8
def sumX (xs:List Int):Int:=if xs.length<8 then 0 else le xs
theorem enter_partIn (args:Array Value) (w:World):(callFunc 171 args).run Tryz.prog w=.ok (.enter 171 args) w:=by kernel_rfl
set_option maxHeartbeats 1000000 in
theorem partIn (w0 W:World) (D:Nat) (p:Option Addr) (xs:List Int) (N c:Nat) (hx:N=xs.length) (h8:N≤8) (hB:Begun w0 p N c 0 0 W) (hK:Keeps NoBlock w0 W) (hD:Whole W D 46 #[.int .u64 0]) (hDlt:D<w0.heap.size) (hb:Bytes8 W p xs) (ho:Octets xs)
  (hp:0<xs.length→∀ q,p=some q→q.block<w0.heap.size) (hc:N≤c) (hc':c≤9223372036854775807) :
  Calls Tryz.prog 171 (#[.pointer (some ⟨w0.heap.size+1+1,0,none⟩)] ++ #[.pointer (some ⟨D,0,none⟩)]) W (ReadEnds w0 p N c (sumA N) (sumE N) (fun w2=>Keeps (Just D) w0 w2∧Whole w2 D 46 #[.int .u64 (sumX xs)])):=by
 by_cases hs:N<8
 ·have e1:sumA N=0:=if_pos hs
  have e2:sumE N=2:=if_pos hs
  have e3:sumX xs=0:=if_pos (by omega)
  rw [e1,e2,e3]
  have HG:=hid (eight_short (w0.heap.size+1+1) p N c 0 W hB.cur (Nat.zero_le _) (by omega) (by omega))
  have HB:=hid hB;have HK:=hid hK;have HD:=hid hD
  clear hB hK hD hb ho hp hx hc hc' e1 e2 e3
  simp only [List.append_toArray,List.nil_append,List.cons_append]
  go_enter Tryz.func171,Tryz.ntmps171
  go_wp2_with fail
  refine HG.out.mono ?_
  rintro e w1 ⟨rfl,hcur,hk⟩
  exact ⟨rfl,.inr (gave_given _),HB.out.keep hk hcur,(HK.out.wider (S':=Just D) (fun _ _ h=>h.elim)).then hk (fun i hi h=>by unfold Just at h;omega),HD.out.keep hk (by unfold Just;omega)⟩
 ·have hN8:N=8:=by omega
  have e1:sumA N=8:=if_neg hs
  have e2:sumE N=0:=if_neg hs
  have e3:sumX xs=le xs:=if_neg (by omega)
  have HG:=eight_at (w0.heap.size+1+1) p xs N c 0 W hx hB.cur hb ho (fun h0 q hq=>by have:=hp h0 q hq;omega) (by omega) hc hc'
  rw [List.drop_zero,List.take_of_length_le (by omega)] at HG
  rw [e1,e2,e3]
  obtain ⟨z,hz⟩:∃ z,z=le xs:=⟨_,rfl⟩
  rw [← hz] at HG ⊢
  have HG:=hid HG
  have HB:=hid hB;have HK:=hid hK;have HD:=hid hD
  clear hB hK hD hb ho hp hx hc hc' e1 e2 e3 hz hN8
  simp only [List.append_toArray,List.nil_append,List.cons_append]
  go_enter Tryz.func171,Tryz.ntmps171
  go_wp2_with fail
  refine HG.out.mono ?_
  rintro e w1 ⟨rfl,hcur,hk⟩
  have hD1:=HD.out.keep hk (by unfold Just;omega)
  have d0:=hD1.cell 0 rfl
  have f0:=hD1.free 0
  simp only [List.getElem_toArray,List.getElem_cons_zero] at d0
  have HB1:=hid ((HB.out.keep hk hcur).store hDlt (.int .u64 z))
  have HR:=hid (show Keeps (Just D) w0 (w1.setCell ⟨D,0,none⟩ (.int .u64 z)) from ((HK.out.wider (S':=Just D) (fun _ _ h=>h.elim)).then hk (fun i hi h=>by unfold Just at h;omega)).setIn (Just.self D) 0 _)
  have HD2:=hid (hD1.set 0 (.int .u64 z))
  clear hk hcur hD1 HG
  go_wp2_with fail
  go_returns
  exact ⟨.inl rfl,HB1.out,HR.out,HD2.out⟩
theorem run_partIn (D:Nat) (p:Option Addr) (xs:List Int) (N c:Nat) (hx:N=xs.length) (h8:N≤8) (w0:World) (hD:Whole w0 D 46 #[.int .u64 0]) (hb:Bytes8 w0 p xs) (ho:Octets xs) (hc:N≤c) (hc':c≤9223372036854775807) :
  Calls Tryz.prog 141 #[.slice p N c,.func (.func 171) #[] #[.pointer (some ⟨D,0,none⟩)]] w0 fun e w'=>e=.returned (.tuple #[.int .i64 (sumA N:Int),.int .i64 (sumE N)])∧Whole w' D 46 #[.int .u64 (sumX xs)]∧Keeps (Just D) w0 w':=by
 have hDlt:=hD.lt
 refine (run_any _ _ p N c (sumA N) (sumE N) _ w0 enter_partIn (fun W hB hK _=>partIn w0 W D p xs N c hx h8 hB hK (hD.keep hK (fun h=>h)) hDlt (hb.keep hK (fun _ _ h=>h)) ho (fun h0 q hq=>by
  obtain ⟨a,ha,hcell⟩:=hb h0
  obtain rfl:=Option.some.inj (hq.symm.trans ha)
  have:=ltOfCell (hcell 0 h0)
  rwa [addBlock] at this) hc hc')).mono ?_
 rintro e w' ⟨rfl,w2,⟨hR1,hR2⟩,hT⟩
 exact ⟨rfl,hR2.keep hT.2.2.2.2 (by omega),hR1.then hT.2.2.2.2 (fun i hi h=>by unfold Just;omega)⟩
set_option maxHeartbeats 1000000 in
set_option maxRecDepth 10000 in
theorem part_own (p:Option Addr) (N c:Nat) (xs:List Int) (w:World) (h:In8 w p N c xs) (hN:N≤1000000) :
  Calls Tryz.prog 140 #[.slice p N c] w fun e w'=>e=.returned (.tuple #[.slice p (N - 8) (N - 8),.int .u64 (sumX (xs.drop (N - 8))),.int .i64 (sumE N)])∧Keeps NoBlock w w':=by
 have hmf:=getFnOk
 have hl:=h.len
 have hcap:=h.cap
 have hroom:=h.room
 have hdl:(xs.drop (N - 8)).length=N - (N - 8):=by rw [List.length_drop,← hl]
 have hk0:Keeps NoBlock w (w.alloc (.cells #[.int .u64 0] 46)):=(Keeps.refl NoBlock w).alloc _
 have HRn:=hid (fun q d (hq:0<N - (N - 8)→q=p.map (·.add (N - 8))) (hd:N - (N - 8)≤d) (hd':d≤9223372036854775807) =>
  run_partIn w.heap.size q (xs.drop (N - 8)) (N - (N - 8)) d hdl.symm (by omega) (w.alloc (.cells #[.int .u64 0] 46)) (Whole.new _ _ _) (by
   have h1:=(h.at_.keep hk0 (fun _ _ h=>h)).piece (q:=q) (N - 8) (N - (N - 8)) (by omega) hq
   rwa [List.take_of_length_le (by rw [hdl];exact Nat.le_refl _)] at h1) (h.oct.drop _) hd hd')
 obtain ⟨z,hz⟩:∃ z,z=sumX (xs.drop (N - 8)):=⟨_,rfl⟩
 rw [← hz] at HRn ⊢
 have hse:sumE (N - (N - 8))=sumE N:=by unfold sumE;split <;> split <;> omega
 rw [hse] at HRn
 obtain ⟨y,hy⟩:∃ y,y=sumE N:=⟨_,rfl⟩
 rw [← hy] at HRn ⊢
 obtain ⟨a,ha⟩:∃ a,a=sumA (N - (N - 8)):=⟨_,rfl⟩
 rw [← ha] at HRn
 clear h hl hdl hz hse hy ha
 by_cases hs:N<8
 ·obtain ⟨k,hk⟩:∃ k,k=N - 8:=⟨_,rfl⟩
  obtain rfl:k=0:=by omega
  rw [← hk] at HRn ⊢
  rw [Nat.sub_zero] at HRn
  have hz0:((0:Nat):Int)=0:=rfl
  have hm1:(N:Int) - 8≤0:=by omega
  have hw1:IntKind.i64.wrap ((N:Int) - 8)=(N:Int) - 8:=by rw [IntKind.wrap_i64];omega
  clear hk
  have hm:max ((N:Int) - 8) 0=0:=by omega
  by_cases hc0:c=0
  ·have hN0:N=0:=by omega
   subst hc0
   subst hN0
   have hm8:max (-8:Int) 0=0:=by decide
   go_enter Tryz.func140,Tryz.ntmps140
   go_wp2_with fail
   refine (HRn.out _ _ (fun h=>by simp at h) (by simp) (by omega)).mono ?_
   rintro e w1 ⟨rfl,hD,hk⟩
   have d0:=hD.cell 0 rfl
   have f0:=hD.free 0
   have d0':w1.drew.cell? ⟨w.heap.size,0,none⟩=some (.int .u64 z):=d0
   have hk2:Keeps NoBlock w w1:=hk0.then hk (fun i hi h=>by unfold Just at h;omega)
   have HK:=hid hk2
   have HD:=hid hD
   clear hk hk2 hD HRn
   go_wp2_with fail
   go_region
   all_goals go_wp2_with fail
   all_goals exact bodyPost_ret (v:=.tuple #[.slice p 0 0,.int .u64 z,.int .i64 y]) (by simp [results,Tryz.results140,go_sem,d0]) rfl ⟨rfl,by first|exact (HK.out.setNew (Nat.le_refl _) 0 _).drew|exact HK.out.setNew (Nat.le_refl _) 0 _⟩
  ·go_enter Tryz.func140,Tryz.ntmps140
   go_wp2_with fail
   refine (HRn.out p c (fun _=>by cases p <;> simp [Addr.add]) (by omega) (by omega)).mono ?_
   rintro e w1 ⟨rfl,hD,hk⟩
   have d0:=hD.cell 0 rfl
   have f0:=hD.free 0
   have d0':w1.drew.cell? ⟨w.heap.size,0,none⟩=some (.int .u64 z):=d0
   have hk2:Keeps NoBlock w w1:=hk0.then hk (fun i hi h=>by unfold Just at h;omega)
   have HK:=hid hk2
   have HD:=hid hD
   clear hk hk2 hD HRn
   go_wp2_with fail
   go_region
   all_goals go_wp2_with fail
   all_goals exact bodyPost_ret (v:=.tuple #[.slice p 0 0,.int .u64 z,.int .i64 y]) (by simp [results,Tryz.results140,go_sem,d0]) rfl ⟨rfl,by first|exact (HK.out.setNew (Nat.le_refl _) 0 _).drew|exact HK.out.setNew (Nat.le_refl _) 0 _⟩
 ·obtain ⟨k,rfl⟩:∃ k,N=k+8:=⟨N - 8,by omega⟩
  rw [show k+8 - 8=k by omega] at HRn ⊢
  rw [show k+8 - k=8 by omega] at HRn
  have hw1:IntKind.i64.wrap (((k+8:Nat):Int) - 8)=(k:Int):=by rw [IntKind.wrap_i64];omega
  have hck:¬ c=k:=by omega
  go_enter Tryz.func140,Tryz.ntmps140
  go_wp2_with fail
  refine (HRn.out _ _ (fun _=>rfl) (by omega) (by omega)).mono ?_
  rintro e w1 ⟨rfl,hD,hk⟩
  have d0:=hD.cell 0 rfl
  have f0:=hD.free 0
  have d0':w1.drew.cell? ⟨w.heap.size,0,none⟩=some (.int .u64 z):=d0
  have hk2:Keeps NoBlock w w1:=hk0.then hk (fun i hi h=>by unfold Just at h;omega)
  have HK:=hid hk2
  have HD:=hid hD
  clear hk hk2 hD HRn
  go_wp2_with fail
  go_region
  all_goals go_wp2_with fail
  all_goals exact bodyPost_ret (v:=.tuple #[.slice p k k,.int .u64 z,.int .i64 y]) (by simp [results,Tryz.results140,go_sem,d0]) rfl ⟨rfl,by first|exact (HK.out.setNew (Nat.le_refl _) 0 _).drew|exact HK.out.setNew (Nat.le_refl _) 0 _⟩
set_option maxHeartbeats 2000000 in
set_option maxRecDepth 10000 in
theorem open_own (p:Option Addr) (N c:Nat) (ys:List Int) (w:World) (h:In8 w p N c ys) (hN:N≤1000000) :
  Calls Tryz.prog 112 #[.slice p N c] w fun e w'=>∃ v,e=.returned (.tuple #[v,.int .i64 (openN ys).1])∧NewBytes w (openN ys).2 v w':=by
 have HU:=hid (unstuff_cobs p N c ys w h.len h.cap h.room h.bare h.oct hN h.at_)
 have hu:=unst_octets h.oct
 have hlen:=h.len
 unfold openN
 obtain ⟨y,hy⟩:∃ y,y=(unst ys).1:=⟨_,rfl⟩
 obtain ⟨T,hT⟩:∃ T,T=(unst ys).2:=⟨_,rfl⟩
 rw [← hy] at HU ⊢
 rw [← hT] at HU hu ⊢
 obtain ⟨hto,htl⟩:=hu
 by_cases h0:y=0
 ·subst h0
  clear hy hT h
  rw [if_neg (by simp)]
  obtain ⟨L,hL⟩:∃ L,L=T.length:=⟨_,rfl⟩
  have HP:=hid (fun q d W (hd:L≤d) (hd':d≤9223372036854775807) (hq:q=none→L=0∧d=0) (h8:Bytes8 W q T)=>part_own q L d T W ⟨hL,hd,hd',hq,hto,h8⟩ (by omega))
  obtain ⟨k,hk⟩:∃ k,k=L - 8:=⟨_,rfl⟩
  rw [← hk] at HP
  have hdef:openEnd T=if L<8 then (2,[]) else if le (T.drop k)=wxxh 0 (T.take k) then (0,T.take k) else (5,[]):=by
   unfold openEnd
   rw [hk,hL]
  rw [hdef]
  by_cases h8:L<8
  ·rw [if_pos h8]
   have e2:sumE L=2:=if_pos h8
   rw [e2] at HP
   obtain ⟨x,hx⟩:∃ x,x=sumX (T.drop k):=⟨_,rfl⟩
   rw [← hx] at HP
   have HL:=hid hL
   clear hx hL hto htl hk hdef e2 hlen
   go_enter Tryz.func112,Tryz.ntmps112
   go_wp2_with fail
   refine HU.out.mono ?_
   rintro e w1 ⟨v,rfl,q,m,d,rfl,hm,hmd,hd,hq,hb,hk1⟩
   have hmL:m=L:=by rw [hm,HL.out]
   subst hmL
   have HK:=hid hk1
   have HQ:=hid hq
   have HB:=hid hb
   clear hk1 hm hq hb HU
   go_wp2_with fail
   refine (HP.out q d _ hmd hd HQ.out HB.out).mono ?_
   rintro e w2 ⟨rfl,hk2⟩
   have HB2:=hid (HB.out.keep hk2 (fun _ _ h=>h))
   have HK2:=hid (HK.out.trans hk2)
   clear hk2
   go_wp2_with fail
   refine bodyPost_ret (results_tmp2 rfl _ _ _) rfl ?_
   exact ⟨_,rfl,.ofNil _ _ HK2.out⟩
  ·rw [if_neg h8]
   have e2:sumE L=0:=if_neg h8
   have e3:sumX (T.drop k)=le (T.drop k):=if_neg (by rw [List.length_drop];omega)
   rw [e2,e3] at HP
   have hkl:(T.take k).length=k:=by rw [List.length_take];omega
   have HSum:=hid (fun q W (hq:q=none→k=0) (hb:Bytes8 W q (T.take k))=>sum_wide 0 u64_zero q k k (T.take k) hkl.symm (Nat.le_refl _) (by omega) (fun h=>⟨hq h,hq h⟩) (hto.take k) (by omega) W hb)
   have HNew:=hid (fun q W (hq:q=none→k=0) (hb:Bytes8 W q (T.take k)) (hk:Keeps NoBlock w W)=>(show NewBytes w (T.take k) (.slice q k k) W from ⟨q,k,k,rfl,hkl.symm,Nat.le_refl _,by omega,fun h=>⟨hq h,hq h⟩,hb,hk⟩))
   have HPc:=hid (fun q W (hb:Bytes8 W q T)=>(show Bytes8 W q (T.take k) from by
    have h1:=hb.piece (q:=q) 0 k (by omega) (fun h=>by cases q <;> simp [Addr.add])
    rwa [List.drop_zero] at h1))
   have HL:=hid hL
   have hkL:k≤L:=by omega
   have hk9:k≤1000000:=by omega
   obtain ⟨B,hB⟩:∃ B,B=T.take k:=⟨_,rfl⟩
   rw [← hB] at HSum HNew HPc ⊢
   by_cases hv:le (T.drop k)=wxxh 0 B
   ·rw [if_pos hv]
    have hne:(le (T.drop k) != wxxh 0 B)=false:=by rw [hv];simp
    obtain ⟨x,hx⟩:∃ x,x=le (T.drop k):=⟨_,rfl⟩
    obtain ⟨z,hz⟩:∃ z,z=wxxh 0 B:=⟨_,rfl⟩
    rw [← hx] at HP hne
    rw [← hz] at HSum hne
    clear hx hz hv hB hkl hL hto htl hk hdef e2 e3 hlen
    go_enter Tryz.func112,Tryz.ntmps112
    go_wp2_with fail
    refine HU.out.mono ?_
    rintro e w1 ⟨v,rfl,q,m,d,rfl,hm,hmd,hd,hq,hb,hk1⟩
    have hmL:m=L:=by rw [hm,HL.out]
    subst hmL
    have HK:=hid hk1
    have HQ:=hid hq
    have HB:=hid hb
    clear hk1 hm hq hb HU
    go_wp2_with fail
    refine (HP.out q d _ hmd hd HQ.out HB.out).mono ?_
    rintro e w2 ⟨rfl,hk2⟩
    have HB2:=hid (HB.out.keep hk2 (fun _ _ h=>h))
    have HK2:=hid (HK.out.trans hk2)
    clear hk2
    go_wp2_with fail
    have HQ2:Hid (q=none→k=0):=hid (fun h=>by have:=(HQ.out h).1;omega)
    refine (HSum.out q _ HQ2.out (HPc.out q _ HB2.out)).mono ?_
    rintro e w3 ⟨rfl,hk3⟩
    have HN:=hid (HNew.out q _ HQ2.out (HPc.out q _ (HB2.out.keep hk3 (fun _ _ h=>h))) (HK2.out.trans hk3))
    clear hk3
    go_wp2_with fail
    refine bodyPost_ret (results_tmp2 rfl _ _ _) rfl ?_
    exact ⟨_,rfl,HN.out⟩
   ·rw [if_neg hv]
    have hne:(le (T.drop k) != wxxh 0 B)=true:=by rw [bne_iff_ne];exact hv
    obtain ⟨x,hx⟩:∃ x,x=le (T.drop k):=⟨_,rfl⟩
    obtain ⟨z,hz⟩:∃ z,z=wxxh 0 B:=⟨_,rfl⟩
    rw [← hx] at HP hne
    rw [← hz] at HSum hne
    clear hx hz hv hB hkl hL hto htl hk hdef e2 e3 hlen HNew
    go_enter Tryz.func112,Tryz.ntmps112
    go_wp2_with fail
    refine HU.out.mono ?_
    rintro e w1 ⟨v,rfl,q,m,d,rfl,hm,hmd,hd,hq,hb,hk1⟩
    have hmL:m=L:=by rw [hm,HL.out]
    subst hmL
    have HK:=hid hk1
    have HQ:=hid hq
    have HB:=hid hb
    clear hk1 hm hq hb HU
    go_wp2_with fail
    refine (HP.out q d _ hmd hd HQ.out HB.out).mono ?_
    rintro e w2 ⟨rfl,hk2⟩
    have HB2:=hid (HB.out.keep hk2 (fun _ _ h=>h))
    have HK2:=hid (HK.out.trans hk2)
    clear hk2
    go_wp2_with fail
    have HQ2:Hid (q=none→k=0):=hid (fun h=>by have:=(HQ.out h).1;omega)
    refine (HSum.out q _ HQ2.out (HPc.out q _ HB2.out)).mono ?_
    rintro e w3 ⟨rfl,hk3⟩
    have HK3:=hid (HK2.out.trans hk3)
    clear hk3
    go_wp2_with fail
    refine bodyPost_ret (results_tmp2 rfl _ _ _) rfl ?_
    exact ⟨_,rfl,.ofNil _ _ HK3.out⟩
 ·rw [if_pos h0]
  have hne:(y != 0)=true:=by rw [bne_iff_ne];exact h0
  clear hT hto htl hy h0 h hlen
  go_enter Tryz.func112,Tryz.ntmps112
  go_wp2_with fail
  refine HU.out.mono ?_
  rintro e w1 ⟨v,rfl,q,m,d,rfl,hm,hmd,hd,hq,hb,hk⟩
  have HK:=hid hk
  clear hk hm hmd hd hq hb
  go_wp2_with fail
  refine bodyPost_ret (results_tmp2 rfl _ _ _) rfl ?_
  exact ⟨_,rfl,.ofNil _ _ HK.out⟩
end
end Go.Proofs.YtehkjkcnigknkaaGreat

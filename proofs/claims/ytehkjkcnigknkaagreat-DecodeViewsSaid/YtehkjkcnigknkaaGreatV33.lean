/-
  PkNarrow; PkAdd; PkPlanOwn; PkAll; RecRises; ImOwnPlan.
-/
import Derived.Lib.Hide
import Derived.Test.YtehkjkcnigknkaaGreatV16
import Derived.Test.YtehkjkcnigknkaaGreatV21
import Derived.Test.YtehkjkcnigknkaaGreatV26
import Derived.Test.YtehkjkcnigknkaaGreatV27
import Derived.Test.YtehkjkcnigknkaaGreatV32
namespace Go.Proofs.YtehkjkcnigknkaaGreat
open Lib (hid)
section
open Go.RowKit
def narrowP (e s:Nat):Rm:=if mayC e s=true then emptyP e s (s - 1) else Rm.none
theorem narrow_head {e s:Nat} (h:mayC e s=true):mayHead e s (s - 1)=true:=by
 obtain ⟨m1,m2,m3,m4⟩:=mayC_true.1 h
 exact mayHead_true.2 ⟨m1,m2,m3,m4,by omega⟩
theorem not_head {e s:Nat} (h:mayC e s ≠ true) (n:Nat):mayHead e s n ≠ true:=fun h2=>by
 obtain ⟨m1,m2,m3,m4,_⟩:=mayHead_true.1 h2
 exact h (mayC_true.2 ⟨m1,m2,m3,m4⟩)
set_option maxHeartbeats 4000000 in
set_option maxRecDepth 10000 in
theorem narrow_own (e s:Nat) (w:World) (he:e<256) (hs:s<4294967296) :
  Calls Tryz.prog 89 #[confV e s] w fun r w'=>r=.returned (roomV (narrowP e s))∧Keeps NoBlock w w':=by
 obtain ⟨n,hn⟩:∃ n,n=(if s=0 then 4294967295 else s - 1):=⟨_,rfl⟩
 have hn9:n<4294967296:=by rw [hn];split <;> omega
 have hw:IntKind.u32.wrap ((s:Int) - 1)=(n:Int):=by rw [hn,IntKind.wrap_u32];split <;> omega
 have HP:=hid (fun w=>empty_own e s n w he hs hn9)
 have hr:(if mayHead e s n=true then emptyP e s n else Rm.none)=narrowP e s:=by
  unfold narrowP
  by_cases hm:mayC e s=true
  ·have hs1:=(mayC_true.1 hm).2.2.1
   rw [if_neg (by omega)] at hn
   rw [if_pos hm,hn,if_pos (narrow_head hm)]
  ·rw [if_neg hm,if_neg (not_head hm n)]
 rw [hr] at HP
 obtain ⟨R,hR⟩:∃ R,R=narrowP e s:=⟨_,rfl⟩
 obtain ⟨y,hy⟩:∃ y:Int,y=(if mayHead e s n=true then 0 else 1):=⟨_,rfl⟩
 rw [← hR] at HP ⊢
 rw [← hy] at HP
 have HW:=hid ((Whole.new w 27 (confCells e s)).alloc (.cells (roomCells Rm.none) 121))
 have HZ:=hid (Whole.newAt (w.alloc (.cells (confCells e s) 27)) 121 (roomCells Rm.none) (w.heap.size+1) (by simp))
 have HK:=hid (((Keeps.refl NoBlock w).alloc (.cells (confCells e s) 27)).alloc (.cells (roomCells Rm.none) 121))
 obtain ⟨c0,c1⟩:=And.intro (HW.out.cell 0 rfl) (HW.out.cell 1 rfl)
 simp only [confCells,List.getElem_toArray,List.getElem_cons_zero,List.getElem_cons_succ] at c0 c1
 clear hn hr hR hy he hs
 obtain ⟨e2,s2,num,used,count⟩:=R
 unfold confV roomV at *
 unfold roomCells confCells Rm.none at HW HK HZ
 unfold roomCells Rm.none at c0 c1
 simp only at HW HK HP HZ c0 c1 ⊢
 go_enter Tryz.func89,Tryz.ntmps89
 go_wp2_with fail
 refine (HP.out _).mono ?_
 rintro r w1 ⟨rfl,hk⟩
 have HZ:=hid (HZ.out.keep hk (fun h=>h))
 have HK:=hid (HK.out.trans hk)
 clear hk c0 c1
 have HX:=hid (Whole.new w1 121 #[.int .u8 (e2:Int),.int .u32 (s2:Int),.int .u32 (num:Int),.int .i64 (used:Int),.int .i64 (count:Int)])
 have HZ:=hid (HZ.out.alloc (.cells #[.int .u8 (e2:Int),.int .u32 (s2:Int),.int .u32 (num:Int),.int .i64 (used:Int),.int .i64 (count:Int)] 121))
 have HK:=hid (HK.out.alloc (.cells #[.int .u8 (e2:Int),.int .u32 (s2:Int),.int .u32 (num:Int),.int .i64 (used:Int),.int .i64 (count:Int)] 121))
 obtain ⟨x0,x1,x2,x3,x4⟩:=room_at5 HX.out
 obtain ⟨y0,y1,y2,y3,y4⟩:=room_at5 HZ.out
 obtain ⟨q0,q1,q2,q3,q4⟩:=room_free HZ.out
 obtain ⟨g0,g1,g2,g3,g4⟩:=room_at5 (Whole.set5 HZ.out (.int .u8 (e2:Int)) (.int .u32 (s2:Int)) (.int .u32 (num:Int)) (.int .i64 (used:Int)) (.int .i64 (count:Int)))
 have HK3:=hid (HK.out.new5 (k:=w.heap.size+1) (by omega) (.int .u8 (e2:Int)) (.int .u32 (s2:Int)) (.int .u32 (num:Int)) (.int .i64 (used:Int)) (.int .i64 (count:Int)))
 go_wp2_with fail
 exact bodyPost_ret (v:=.agg #[.int .u8 (e2:Int),.int .u32 (s2:Int),.int .u32 (num:Int),.int .i64 (used:Int),.int .i64 (count:Int)]) (by simp [results,Tryz.results89,go_sem,g0,g1,g2,g3,g4]) rfl ⟨rfl,HK3.out⟩
def fitsN (e s:Nat) (z:Int):Bool:=mayC e s && fitsP (emptyP e s (s - 1)) z
theorem fitsN_own (e s:Nat) (z:Int) (w:World):Calls Tryz.prog 90 #[roomV (narrowP e s),.int .i64 z] w fun r w'=>r=.returned (.bool (fitsN e s z))∧Keeps NoBlock w w':=by
 unfold fitsN narrowP
 by_cases hm:mayC e s=true
 ·rw [if_pos hm,hm,Bool.true_and]
  exact fits_own _ z w (real_empty (narrow_head hm))
 ·rw [if_neg hm,show mayC e s=false by simpa using hm,Bool.false_and]
  exact fits_none z w
set_option maxHeartbeats 4000000 in
set_option maxRecDepth 10000 in
theorem large_own (e s:Nat) (z:Int) (w:World) (he:e<256) (hs:s<4294967296) :
  Calls Tryz.prog 60 #[confV e s,.int .i64 z] w fun r w'=>r=.returned (.bool (largeP e s z))∧Keeps NoBlock w w':=by
 have HN:=hid (fun w=>narrow_own e s w he hs)
 have HF:=hid (fun w=>fitsN_own e s z w)
 have hl:largeP e s z=!(fitsN e s z):=by
  unfold largeP fitsN
  cases mayC e s <;> cases fitsP (emptyP e s (s - 1)) z <;> rfl
 rw [hl]
 obtain ⟨b,hb⟩:∃ b,b=fitsN e s z:=⟨_,rfl⟩
 obtain ⟨R,hR⟩:∃ R,R=narrowP e s:=⟨_,rfl⟩
 rw [← hR] at HN HF
 rw [← hb] at HF ⊢
 have HW:=hid (Whole.new w 27 (confCells e s))
 have HK:=hid ((Keeps.refl NoBlock w).alloc (.cells (confCells e s) 27))
 obtain ⟨c0,c1⟩:=And.intro (HW.out.cell 0 rfl) (HW.out.cell 1 rfl)
 simp only [confCells,List.getElem_toArray,List.getElem_cons_zero,List.getElem_cons_succ] at c0 c1
 clear hl hb hR he hs
 unfold confV roomV at *
 unfold confCells at HW HK
 go_enter Tryz.func60,Tryz.ntmps60
 go_wp2_with fail
 refine (HN.out _).mono ?_
 rintro r w1 ⟨rfl,hk⟩
 have HK:=hid (HK.out.trans hk)
 clear hk c0 c1
 go_wp2_with fail
 refine (HF.out _).mono ?_
 rintro r w2 ⟨rfl,hk⟩
 have HK:=hid (HK.out.trans hk)
 clear hk
 go_wp2_with fail
 go_ret
 exact ⟨rfl,HK.out⟩
end
section
open Go.RowKit
def addP (r:Rm) (z:Int):Int × Rm:=if fitsP r z=true then (0,takeP r z) else if r.s≤r.num+1 then (7,Rm.none) else (0,takeP (emptyP r.e r.s (r.num+1)) z)
set_option maxHeartbeats 4000000 in
set_option maxRecDepth 10000 in
theorem add_own (r:Rm) (z:Int) (w:World) (hr:r.Real) (hc9:r.count<10000) (hf:fitsP (emptyP r.e r.s (r.s - 1)) z=true) :
  Calls Tryz.prog 91 #[roomV r,.int .i64 z] w fun x w'=>x=.returned (.tuple #[roomV (addP r z).2,.int .i64 (addP r z).1])∧Keeps NoBlock w w':=by
 have HF:=hid (fun w=>fits_own r z w hr)
 have HT:=hid (fun w=>take_own r z w hr hc9)
 have HW:=hid ((Whole.new w 121 (roomCells r)).alloc (.cells (roomCells Rm.none) 121))
 have HZ:=hid (Whole.newAt (w.alloc (.cells (roomCells r) 121)) 121 (roomCells Rm.none) (w.heap.size+1) (by simp))
 have HK:=hid (((Keeps.refl NoBlock w).alloc (.cells (roomCells r) 121)).alloc (.cells (roomCells Rm.none) 121))
 obtain ⟨m1,m2,m3,m4,m5⟩:=mayHead_true.1 hr.may
 unfold addP
 by_cases hfr:fitsP r z=true
 ·rw [if_pos hfr]
  simp only [if_pos hfr] at HT
  rw [hfr] at HF
  obtain ⟨R,hR⟩:∃ R,R=takeP r z:=⟨_,rfl⟩
  rw [← hR] at HT ⊢
  clear hfr hr hc9 hf hR
  obtain ⟨e,s,num,used,count⟩:=r
  obtain ⟨e2,s2,num2,used2,count2⟩:=R
  unfold roomV at *
  unfold roomCells Rm.none at HW HK HZ
  simp only at HW HK HF HZ HT ⊢
  obtain ⟨c0,c1,c2,c3,c4⟩:=room_at5 HW.out
  go_enter Tryz.func91,Tryz.ntmps91
  go_wp2_with fail
  refine (HF.out _).mono ?_
  rintro x w1 ⟨rfl,hk⟩
  have HW:=hid (HW.out.keep hk (fun h=>h))
  have HZ:=hid (HZ.out.keep hk (fun h=>h))
  have HK:=hid (HK.out.trans hk)
  clear hk c0 c1 c2 c3 c4
  obtain ⟨c0,c1,c2,c3,c4⟩:=room_at5 HW.out
  go_wp2_with fail
  refine (HT.out _).mono ?_
  rintro x w2 ⟨rfl,hk⟩
  have HZ:=hid (HZ.out.keep hk (fun h=>h))
  have HK:=hid (HK.out.trans hk)
  clear hk c0 c1 c2 c3 c4
  obtain ⟨y0,y1,y2,y3,y4⟩:=room_at5 HZ.out
  obtain ⟨q0,q1,q2,q3,q4⟩:=room_free HZ.out
  obtain ⟨g0,g1,g2,g3,g4⟩:=room_at5 (Whole.set5 HZ.out (.int .u8 (e2:Int)) (.int .u32 (s2:Int)) (.int .u32 (num2:Int)) (.int .i64 (used2:Int)) (.int .i64 (count2:Int)))
  have HK3:=hid (HK.out.new5 (k:=w.heap.size+1) (by omega) (.int .u8 (e2:Int)) (.int .u32 (s2:Int)) (.int .u32 (num2:Int)) (.int .i64 (used2:Int)) (.int .i64 (count2:Int)))
  go_wp2_with fail
  exact bodyPost_ret (v:=.tuple #[.agg #[.int .u8 (e2:Int),.int .u32 (s2:Int),.int .u32 (num2:Int),.int .i64 (used2:Int),.int .i64 (count2:Int)],.int .i64 0]) (by simp [results,Tryz.results91,go_sem,g0,g1,g2,g3,g4]) rfl ⟨rfl,HK3.out⟩
 rw [if_neg hfr]
 have hfr0:fitsP r z=false:=by simpa using hfr
 rw [hfr0] at HF
 have hws:IntKind.u32.wrap ((r.s:Int) - 1)=((r.s - 1:Nat):Int):=by rw [IntKind.wrap_u32];omega
 obtain ⟨S1,hS1⟩:∃ S1,S1=r.s - 1:=⟨_,rfl⟩
 rw [← hS1] at hws
 by_cases hlast:r.s≤r.num+1
 ·rw [if_pos hlast]
  have hq:S1=r.num:=by omega
  clear HT hfr hfr0 hr hc9 hf
  obtain ⟨e,s,num,used,count⟩:=r
  simp only at hws hq
  obtain rfl:S1=num:=hq
  clear hS1 hlast m1 m2 m3 m4 m5
  unfold roomV at *
  unfold roomCells Rm.none at HW HK HZ
  unfold Rm.none
  simp only at HW HK HF HZ ⊢
  obtain ⟨c0,c1,c2,c3,c4⟩:=room_at5 HW.out
  go_enter Tryz.func91,Tryz.ntmps91
  go_wp2_with fail
  refine (HF.out _).mono ?_
  rintro x w1 ⟨rfl,hk⟩
  have HW:=hid (HW.out.keep hk (fun h=>h))
  have HZ:=hid (HZ.out.keep hk (fun h=>h))
  have HK:=hid (HK.out.trans hk)
  clear hk c0 c1 c2 c3 c4
  obtain ⟨c0,c1,c2,c3,c4⟩:=room_at5 HW.out
  obtain ⟨y0,y1,y2,y3,y4⟩:=room_at5 HZ.out
  obtain ⟨q0,q1,q2,q3,q4⟩:=room_free HZ.out
  obtain ⟨g0,g1,g2,g3,g4⟩:=room_at5 (Whole.set5 HZ.out (.int .u8 0) (.int .u32 0) (.int .u32 0) (.int .i64 0) (.int .i64 0))
  have HK3:=hid (HK.out.new5 (k:=w.heap.size+1) (by omega) (.int .u8 0) (.int .u32 0) (.int .u32 0) (.int .i64 0) (.int .i64 0))
  go_wp2_with fail
  exact bodyPost_ret (v:=.tuple #[.agg #[.int .u8 0,.int .u32 0,.int .u32 0,.int .i64 0,.int .i64 0],.int .i64 7]) (by simp [results,Tryz.results91,go_sem,g0,g1,g2,g3,g4]) rfl ⟨rfl,HK3.out⟩
 rw [if_neg hlast]
 have hne:¬ r.num=S1:=by omega
 have hne2:¬ (r.num:Int)=(S1:Int):=by omega
 have hmay:mayHead r.e r.s (r.num+1)=true:=mayHead_true.2 ⟨m1,m2,m3,m4,by omega⟩
 have hfit:fitsP (emptyP r.e r.s (r.num+1)) z=true:=fits_empty (by omega) (by omega) (by omega) hf
 have HE:=hid (fun w=>empty_own r.e r.s (r.num+1) w (by omega) (by omega) (by omega))
 simp only [if_pos hmay] at HE
 have HT:=hid (fun w=>take_own (emptyP r.e r.s (r.num+1)) z w (real_empty hmay) (by show 0<10000;omega))
 simp only [if_pos hfit] at HT
 have hw1:IntKind.u32.wrap ((r.num:Int)+1)=(r.num:Int)+1:=by rw [IntKind.wrap_u32];omega
 rw [show ((r.num+1:Nat):Int)=(r.num:Int)+1 by omega] at HE
 obtain ⟨R1,hR1⟩:∃ R,R=emptyP r.e r.s (r.num+1):=⟨_,rfl⟩
 rw [← hR1] at HE HT ⊢
 obtain ⟨R,hR⟩:∃ R,R=takeP R1 z:=⟨_,rfl⟩
 rw [← hR] at HT ⊢
 clear hfr hfr0 hr hc9 hf hmay hfit hR1 hR hlast hS1 m1 m2 m3 m4 m5
 obtain ⟨e,s,num,used,count⟩:=r
 obtain ⟨e1,s1,num1,used1,count1⟩:=R1
 obtain ⟨e2,s2,num2,used2,count2⟩:=R
 unfold roomV confV at *
 unfold roomCells Rm.none at HW HK HZ
 simp only at HW HK HF HZ HT HE hws hne hne2 hw1 ⊢
 obtain ⟨c0,c1,c2,c3,c4⟩:=room_at5 HW.out
 go_enter Tryz.func91,Tryz.ntmps91
 go_wp2_with fail
 refine (HF.out _).mono ?_
 rintro x w1 ⟨rfl,hk⟩
 have HW:=hid (HW.out.keep hk (fun h=>h))
 have HZ:=hid (HZ.out.keep hk (fun h=>h))
 have HK:=hid (HK.out.trans hk)
 clear hk c0 c1 c2 c3 c4
 obtain ⟨c0,c1,c2,c3,c4⟩:=room_at5 HW.out
 go_wp2_with fail
 refine (HE.out _).mono ?_
 rintro x w2 ⟨rfl,hk⟩
 have HX:=hid (Whole.new w2 121 #[.int .u8 (e1:Int),.int .u32 (s1:Int),.int .u32 (num1:Int),.int .i64 (used1:Int),.int .i64 (count1:Int)])
 have HZ:=hid ((HZ.out.keep hk (fun h=>h)).alloc (.cells #[.int .u8 (e1:Int),.int .u32 (s1:Int),.int .u32 (num1:Int),.int .i64 (used1:Int),.int .i64 (count1:Int)] 121))
 have HK:=hid ((HK.out.trans hk).alloc (.cells #[.int .u8 (e1:Int),.int .u32 (s1:Int),.int .u32 (num1:Int),.int .i64 (used1:Int),.int .i64 (count1:Int)] 121))
 clear hk c0 c1 c2 c3 c4 hne hne2
 obtain ⟨x0,x1,x2,x3,x4⟩:=room_at5 HX.out
 go_wp2_with fail
 refine (HT.out _).mono ?_
 rintro x w3 ⟨rfl,hk⟩
 have HZ:=hid (HZ.out.keep hk (fun h=>h))
 have HK:=hid (HK.out.trans hk)
 clear hk x0 x1 x2 x3 x4
 obtain ⟨y0,y1,y2,y3,y4⟩:=room_at5 HZ.out
 obtain ⟨q0,q1,q2,q3,q4⟩:=room_free HZ.out
 obtain ⟨g0,g1,g2,g3,g4⟩:=room_at5 (Whole.set5 HZ.out (.int .u8 (e2:Int)) (.int .u32 (s2:Int)) (.int .u32 (num2:Int)) (.int .i64 (used2:Int)) (.int .i64 (count2:Int)))
 have HK3:=hid (HK.out.new5 (k:=w.heap.size+1) (by omega) (.int .u8 (e2:Int)) (.int .u32 (s2:Int)) (.int .u32 (num2:Int)) (.int .i64 (used2:Int)) (.int .i64 (count2:Int)))
 go_wp2_with fail
 exact bodyPost_ret (v:=.tuple #[.agg #[.int .u8 (e2:Int),.int .u32 (s2:Int),.int .u32 (num2:Int),.int .i64 (used2:Int),.int .i64 (count2:Int)],.int .i64 0]) (by simp [results,Tryz.results91,go_sem,g0,g1,g2,g3,g4]) rfl ⟨rfl,HK3.out⟩
end
section
open Go.RowKit
def u32P (x:Nat):Value:=.int .u32 (x:Int)
theorem infoU32P:(Tryz.prog.info? 25).map (fun i=>(i.zero,i.size,i.bytes))=some (some (.int .u32 0),1,4):=by kernel_rfl
theorem ones_apart {w0 wr:World} {l:List Nat} {v:Value} {g:Nat} {t:TypeId} {cs:Array Value} (h:OnesSoFar u32P 25 w0 l v wr) (hw:Whole wr g t cs) (ht:t ≠ 25):v.ownBlock ≠ some g:=fun e=>by
 rcases h.1.2 with ⟨rfl,_⟩|⟨g',cap,cur,rfl,_,hg,_⟩
 ·simp [Value.ownBlock] at e
 ·simp only [Value.ownBlock,Option.some.injEq] at e
  subst e
  have:=(show wr.heap[g']?=_ from hw).symm.trans hg
  simp at this
  exact ht this.2
theorem ones_set5 {w0 wr:World} {l:List Nat} {v:Value} (h:OnesSoFar u32P 25 w0 l v wr) {g:Nat} (hp:v.ownBlock ≠ some g) (hb:w0.heap.size≤g) (a b c d e:Value) :
  OnesSoFar u32P 25 w0 l v (((((wr.setCell ⟨g,0,none⟩ a).setCell ⟨g,1,none⟩ b).setCell ⟨g,2,none⟩ c).setCell ⟨g,3,none⟩ d).setCell ⟨g,4,none⟩ e) :=
 ((((h.setOther (p:=⟨g,0,none⟩) hp hb a).setOther (p:=⟨g,1,none⟩) hp hb b).setOther (p:=⟨g,2,none⟩) hp hb c).setOther (p:=⟨g,3,none⟩) hp hb d).setOther (p:=⟨g,4,none⟩) hp hb e
theorem addP_either (r:Rm) (z:Int):(addP r z).1=0 ∨ (addP r z).1=7:=by
 unfold addP
 split
 ·exact .inl rfl
 ·split
  ·exact .inr rfl
  ·exact .inl rfl
theorem step_add {e s:Nat} {r:Rm} {O:List Nat} {z:Int} (he:r.e=e) (hs:r.s=s) (hf:fitsP (emptyP e s (s - 1)) z=true) :
  stepP e s ⟨0,r,O⟩ z=if (addP r z).1=0 then ⟨0,(addP r z).2,O ++ [(addP r z).2.num]⟩ else ⟨7,Rm.none,[]⟩:=by
 subst he
 subst hs
 unfold stepP addP
 rw [if_neg (by simp),if_pos hf]
 by_cases h1:fitsP r z=true
 ·rw [if_pos h1,if_pos h1]
  rfl
 ·rw [if_neg h1,if_neg h1]
  by_cases h2:r.s≤r.num+1
  ·rw [if_pos h2,if_pos h2]
   rfl
  ·rw [if_neg h2,if_neg h2]
   rfl
theorem NewRow32.none {w w':World} (hk:Keeps NoBlock w w'):NewRow32 w [] (.slice none 0 0) w' :=
 ⟨Option.none,0,0,rfl,rfl,Nat.le_refl _,by decide,fun _=>⟨rfl,rfl⟩,fun i hi=>by simp at hi,hk⟩
set_option maxHeartbeats 4000000 in
set_option maxRecDepth 10000 in
theorem plan_not (e s:Nat) (p:Option Addr) (n c:Nat) (zs:List Int) (he:e<256) (hs:s<4294967296) (hm:mayC e s ≠ true) (w:World) :
  Calls Tryz.prog 58 #[confV e s,.slice p n c] w fun r w'=>∃ v,r=.returned (.tuple #[v,.int .i64 (planP e s zs).1])∧NewRow32 w (planP e s zs).2 v w':=by
 have HE:=hid (fun w=>empty_own e s 0 w he hs (by decide))
 simp only [if_neg (not_head hm 0)] at HE
 rw [show planP e s zs=(1,[]) from by unfold planP;rw [if_neg hm]]
 have HW:=hid (Whole.new w 27 (confCells e s))
 have HK:=hid ((Keeps.refl NoBlock w).alloc (.cells (confCells e s) 27))
 obtain ⟨c0,c1⟩:=And.intro (HW.out.cell 0 rfl) (HW.out.cell 1 rfl)
 simp only [confCells,List.getElem_toArray,List.getElem_cons_zero,List.getElem_cons_succ] at c0 c1
 clear hm he hs
 unfold confV roomV Rm.none at *
 unfold confCells at HW HK
 go_enter Tryz.func58,Tryz.ntmps58
 go_wp2_with fail
 refine (HE.out _).mono ?_
 rintro r w1 ⟨rfl,hk⟩
 have HK:=hid ((HK.out.trans hk).alloc (.cells #[.int .u8 0,.int .u32 0,.int .u32 0,.int .i64 0,.int .i64 0] 121))
 clear hk c0 c1
 go_wp2_with fail
 exact bodyPost_ret (results_tmp2 rfl _ _ _) rfl ⟨_,rfl,NewRow32.none HK.out⟩
set_option maxHeartbeats 16000000 in
set_option maxRecDepth 10000 in
theorem plan_may (e s:Nat) (p:Option Addr) (n c:Nat) (zs:List Int) (he:e<256) (hs:s<4294967296) (hm:mayC e s=true) (hn9:n≤10000) (w:World) (hz:InZ w p n c zs) :
  Calls Tryz.prog 58 #[confV e s,.slice p n c] w fun r w'=>∃ v,r=.returned (.tuple #[v,.int .i64 (planP e s zs).1])∧NewRow32 w (planP e s zs).2 v w':=by
 obtain ⟨m1,m2,m3,m4⟩:=mayC_true.1 hm
 have hzero:mayHead e s 0=true:=mayHead_true.2 ⟨m1,m2,m3,m4,by omega⟩
 have HE:=hid (fun w=>empty_own e s 0 w he hs (by decide))
 simp only [if_pos hzero] at HE
 have HN:=hid (fun w=>narrow_own e s w he hs)
 have HF:=hid (fun z w=>fitsN_own e s z w)
 have HA:=hid (fun r z w (hr:r.Real) (h1:r.count<10000) hf=>add_own r z w hr h1 hf)
 have HStep:=hid (fun j (h:j<zs.length)=>runP_step (e:=e) (s:=s) h)
 have HReal:=hid (fun j (hj:j≤10000)=>runP_real hm (zs.take j) (by rw [List.length_take];omega))
 have HGone:=hid (fun j y (hy:(y:Int) ≠ 0) h=>planP_gone (e:=e) (s:=s) (zs:=zs) (j:=j) hm hy h)
 have HAll:=hid (show planP e s zs=((runP e s zs).y,(runP e s zs).out) from by unfold planP;rw [if_pos hm])
 have HZ0:=hid (runP_zero e s zs)
 have HNar:=hid (fun z (h:fitsN e s z=true)=>(Bool.and_eq_true _ _ ▸ h:mayC e s=true∧fitsP (emptyP e s (s - 1)) z=true).2)
 have HNot:=hid (fun z (h:fitsN e s z ≠ true)=>(show fitsP (emptyP e s (s - 1)) z ≠ true from fun h2=>h (by unfold fitsN;rw [hm,h2];rfl)))
 have HLn:=hid hz.len
 have HFi:=hid hz.fine
 have HAt:=hid hz.at_
 have HC0:=hid (Whole.new w 27 (confCells e s))
 have HK0:=hid ((Keeps.refl NoBlock w).alloc (.cells (confCells e s) 27))
 clear hm hz hzero
 obtain ⟨PL,hPL⟩:∃ P,P=planP e s zs:=⟨_,rfl⟩
 rw [← hPL] at HGone HAll ⊢
 obtain ⟨RM,hRM⟩:∃ R,R=narrowP e s:=⟨_,rfl⟩
 rw [← hRM] at HN HF
 obtain ⟨R0,hR0⟩:∃ R,R=emptyP e s 0:=⟨_,rfl⟩
 rw [← hR0] at HE HZ0
 obtain ⟨i0,hi,hz0,hz1,hz2⟩:=info_parts infoU32P
 clear hPL hRM hR0 m1 m2 m3 m4 he
 unfold confV at HE HN ⊢
 unfold roomV at HE HN HF HA
 go_enter Tryz.func58,Tryz.ntmps58
 obtain ⟨c0,c1⟩:=And.intro (HC0.out.cell 0 rfl) (HC0.out.cell 1 rfl)
 simp only [confCells,List.getElem_toArray,List.getElem_cons_zero,List.getElem_cons_succ] at c0 c1
 go_wp2_with fail
 refine (HE.out _).mono ?_
 rintro r w1 ⟨rfl,hk⟩
 have HC:=hid ((HC0.out.keep hk (fun h=>h)).alloc (.cells (roomCells R0) 121))
 have HR:=hid (Whole.new w1 121 (roomCells R0))
 have HK:=hid ((HK0.out.trans hk).alloc (.cells (roomCells R0) 121))
 have HB:=hid (show w.heap.size<w1.heap.size by have:=hk.size;simp at this;omega)
 clear hk c0 c1 HE HC0 HK0
 obtain ⟨c0,c1⟩:=And.intro (HC.out.cell 0 rfl) (HC.out.cell 1 rfl)
 simp only [confCells,List.getElem_toArray,List.getElem_cons_zero,List.getElem_cons_succ] at c0 c1
 unfold roomCells at c0 c1
 go_wp2_with fail
 refine (HN.out _).mono ?_
 rintro r w2 ⟨rfl,hk⟩
 have HR:=hid ((HR.out.keep hk (fun h=>h)).alloc (.cells (roomCells RM) 121))
 have HX:=hid (Whole.new w2 121 (roomCells RM))
 have HK:=hid ((HK.out.trans hk).alloc (.cells (roomCells RM) 121))
 have HG:=hid (show w1.heap.size<w2.heap.size by have:=hk.size;simp at this;omega)
 clear hk c0 c1 HN HC
 obtain ⟨W0,hW0⟩:∃ W,W=w2.alloc (.cells (roomCells RM) 121):=⟨_,rfl⟩
 rw [← hW0] at HK HR HX
 unfold roomCells at hW0
 go_upto_region 5 with (fail)
 rw [← hW0]
 clear hW0
 go_wp2_with (at_make;refine wpList_make_own _ rfl _ _ 53 rfl w.heap.size 25 i0 (.int .u32 0) 1 Tryz.underlying53 hi hz0 hz1 .i64 .i64 (n:Int) n rfl rfl rfl (by rw [hz2];omega) (by unfold maxLen;omega) (by have:=HK.out.size;omega) ?_)
 intro w3 hrow hgrow
 have hkg:Keeps NoBlock W0 w3:=Keeps.ofBelow ((Below.refl _ W0).grown hgrow (Nat.le_refl _) (fun k hk=>by cases hk))
 have HS0:Hid (OnesSoFar u32P 25 w [] (.slice (some ⟨W0.heap.size,0,none⟩) 0 n) w3):=hid ⟨hrow,(HK.out.trans hkg).below (Nat.le_refl _) (fun _ _ h=>h)⟩
 have HR:=hid (HR.out.keep hkg (fun h=>h))
 have HX:=hid (HX.out.keep hkg (fun h=>h))
 clear hrow hgrow hkg HK
 go_wp2_with fail
 go_loopw [9,27] (fun v i wr=>∃ j:Nat,j≤n∧i=.int .i64 (j:Int)∧Hid ((runP e s (zs.take j)).y=0)∧Hid (OnesSoFar u32P 25 w (runP e s (zs.take j)).out v wr)∧Hid (Whole wr w1.heap.size 121 (roomCells (runP e s (zs.take j)).r))∧Hid (Whole wr w2.heap.size 121 (roomCells RM))) (fun _ i _=>n - (intOf i).toNat)
 case atStart =>
  refine ⟨0,Nat.zero_le _,rfl,hid (by rw [HZ0.out]),hid ?_,?_,HX⟩
  ·rw [HZ0.out]
   exact HS0.out
  ·rw [HZ0.out]
   exact HR
 case round =>
  clear HS0 HR HX HZ0
  obtain ⟨j,hj,rfl,HY,HS,HR,HX⟩:=hrel
  by_cases hlt:j<n
  rotate_left
  ·have hdj:decide ((j:Int)<(n:Int))=false:=decide_eq_false (by omega)
   have hdj2:decide (j<n)=false:=decide_eq_false hlt
   have hT:zs.take j=zs:=List.take_of_length_le (by have:=HLn.out;omega)
   rw [hT] at HY HS
   go_wp2_with fail
   refine bodyPost_ret (results_tmp2 rfl _ _ _) rfl ?_
   obtain ⟨qw,mw,dw,rfl,hmw,hmwd,hdw,hqw,hatw,hkw⟩:=HS.out.new (dd:=0)
   refine ⟨_,by rw [HAll.out,HY.out];rfl,?_⟩
   rw [HAll.out]
   exact ⟨qw,mw,dw,rfl,hmw,hmwd,hdw,hqw,hatw,hkw⟩
  have hdj:decide ((j:Int)<(n:Int))=true:=decide_eq_true (by omega)
  have hdj2:decide (j<n)=true:=decide_eq_true hlt
  have hjl:j<zs.length:=by rw [← HLn.out];exact hlt
  obtain ⟨a,rfl,a0⟩:=(HAt.out.keep HS.out.keeps (fun _ _ h=>h)) j hjl
  have hzr:=HFi.out _ (getI_mem hjl)
  have hstep:=HStep.out j hjl
  obtain ⟨hreal,hre,hrs,hrc⟩:=HReal.out j (by omega) HY.out
  have hol:=runP_out (e:=e) (s:=s) (zs.take j) HY.out
  obtain ⟨z,hz⟩:∃ z,z=zs.getD j 0:=⟨_,rfl⟩
  rw [← hz] at a0 hzr hstep
  obtain ⟨st,hst⟩:∃ st,st=runP e s (zs.take j):=⟨_,rfl⟩
  rw [← hst] at hstep hreal hre hrs hrc HY HS HR hol
  obtain ⟨y,r,O⟩:=st
  obtain rfl:y=0:=HY.out
  simp only at hreal hre hrs hrc HS HR hol
  unfold intV at a0
  have hO9:O.length≤1000000:=by rw [hol,List.length_take];omega
  have hrc9:r.count<10000:=by rw [List.length_take] at hrc;omega
  obtain ⟨c0,c1,c2,c3,c4⟩:=room_at5 HX.out
  clear hz hst hjl hol hrc
  have HJ:=hid (And.intro hj hlt)
  have HFz:=hid (HF.out z)
  by_cases hfm:fitsN e s z=true
  rotate_left
  ·have HG6:=hid (HGone.out (j+1) 6 (by decide) (by rw [hstep];unfold stepP;rw [if_neg (by simp),if_neg (HNot.out z hfm)]))
   have hfm0:fitsN e s z=false:=by simpa using hfm
   rw [hfm0] at HFz
   clear hstep hfm hfm0 hreal HY hre hrs hzr hrc9 hO9
   go_wp2_with fail
   refine (HFz.out _).mono ?_
   rintro x w5 ⟨rfl,hk⟩
   have HK:=hid (OnesSoFar.keeps (HS.out.keep hk))
   clear hk
   go_wp2_with fail
   exact bodyPost_ret (results_tmp2 rfl _ _ _) rfl ⟨_,by rw [HG6.out];rfl,by rw [HG6.out];exact NewRow32.none HK.out⟩
  have hfz:=HNar.out z hfm
  rw [hfm] at HFz
  have HAr:=hid (fun w=>HA.out r z w hreal hrc9 (by rw [hre,hrs];exact hfz))
  rw [step_add hre hrs hfz] at hstep
  have hei:=addP_either r z
  obtain ⟨⟨y,R2⟩,hAd⟩:∃ A,A=addP r z:=⟨_,rfl⟩
  rw [← hAd] at HAr hstep hei
  simp only at HAr hstep hei
  have HSt:=hid hstep
  clear hstep hfm hfz hreal HY hre hrs hzr hrc9 hAd
  go_wp2_with fail
  refine (HFz.out _).mono ?_
  rintro x w5 ⟨rfl,hk⟩
  have HR:=hid (HR.out.keep hk (fun h=>h))
  have HX:=hid (HX.out.keep hk (fun h=>h))
  have HS:=hid (HS.out.keep hk)
  clear hk c0 c1 c2 c3 c4
  obtain ⟨c0,c1,c2,c3,c4⟩:=room_at5 HR.out
  go_wp2_with fail
  refine (HAr.out _).mono ?_
  rintro x wq ⟨rfl,hk⟩
  have HR:=hid (HR.out.keep hk (fun h=>h))
  have HX:=hid (HX.out.keep hk (fun h=>h))
  have HS:=hid (HS.out.keep hk)
  clear hk c0 c1 c2 c3 c4
  obtain ⟨d0,d1,d2,d3,d4⟩:=room_at5 HR.out
  obtain ⟨q0,q1,q2,q3,q4⟩:=room_free HR.out
  have hap:=ones_apart HS.out HR.out (show 121 ≠ 25 by decide)
  have HS:=hid (ones_set5 HS.out hap (Nat.le_of_lt HB.out) (.int .u8 (R2.e:Int)) (.int .u32 (R2.s:Int)) (.int .u32 (R2.num:Int)) (.int .i64 (R2.used:Int)) (.int .i64 (R2.count:Int)))
  have HX:=hid (HX.out.far5 (k:=w1.heap.size) (by have:=HG.out;omega) (.int .u8 (R2.e:Int)) (.int .u32 (R2.s:Int)) (.int .u32 (R2.num:Int)) (.int .i64 (R2.used:Int)) (.int .i64 (R2.count:Int)))
  have HR:=hid (show Whole _ w1.heap.size 121 (roomCells R2) from Whole.set5 HR.out (.int .u8 (R2.e:Int)) (.int .u32 (R2.s:Int)) (.int .u32 (R2.num:Int)) (.int .i64 (R2.used:Int)) (.int .i64 (R2.count:Int)))
  by_cases hy:y=0
  rotate_left
  ·obtain rfl:y=7:=by omega
   have HG7:=hid (HGone.out (j+1) 7 (by decide) (by rw [HSt.out,if_neg hy]))
   have HK:=hid HS.out.keeps
   clear HSt HS HX HR hap hei
   go_wp2_with fail
   exact bodyPost_ret (results_tmp2 rfl _ _ _) rfl ⟨_,by rw [HG7.out];rfl,by rw [HG7.out];exact NewRow32.none HK.out⟩
  subst hy
  have HSu:=hid (show runP e s (zs.take (j+1))=⟨0,R2,O ++ [R2.num]⟩ from by rw [HSt.out,if_pos rfl])
  clear HSt
  obtain ⟨k0,k1,k2,k3,k4⟩:=room_at5 HR.out
  obtain ⟨W9,hW9⟩:∃ W,W=(((((wq.setCell ⟨w1.heap.size,0,none⟩ (.int .u8 (R2.e:Int))).setCell ⟨w1.heap.size,1,none⟩ (.int .u32 (R2.s:Int))).setCell ⟨w1.heap.size,2,none⟩ (.int .u32 (R2.num:Int))).setCell ⟨w1.heap.size,3,none⟩ (.int .i64 (R2.used:Int))).setCell ⟨w1.heap.size,4,none⟩ (.int .i64 (R2.count:Int))):=⟨_,rfl⟩
  rw [← hW9] at HS HX HR k0 k1 k2 k3 k4
  have HS2:=hid (HS.out.alloc (.cells #[.int .u32 (R2.num:Int)] 25))
  have HNw:Hid (Whole (W9.alloc (.cells #[.int .u32 (R2.num:Int)] 25)) W9.heap.size 25 #[.int .u32 (R2.num:Int)]):=hid (Whole.new _ _ _)
  have HX:=hid (HX.out.alloc (.cells #[.int .u32 (R2.num:Int)] 25))
  have HR:=hid (HR.out.alloc (.cells #[.int .u32 (R2.num:Int)] 25))
  have hp1:=ones_apart HS2.out HR.out (show 121 ≠ 25 by decide)
  have hp2:=ones_apart HS2.out HX.out (show 121 ≠ 25 by decide)
  clear hap hei HS
  go_upto_region 14 with (fail)
  rw [← hW9]
  clear hW9
  go_wp2_with (at_builtin;refine wpList_append_oneG (v0:=u32P) rfl _ _ 53 rfl 25 i0 (.int .u32 0) 4 Tryz.underlying53 hi hz0 hz1 hz2 rfl _ O rfl HS2.out W9.heap.size R2.num rfl (HNw.out.cell 0 rfl) rfl (by omega) (by omega) ?_)
  intro v' w10 h10 hg10
  have HR:=hid (HR.out.grown hg10 hp1)
  have HX:=hid (HX.out.grown hg10 hp2)
  have HS:=hid h10
  clear h10 hg10 hp1 hp2 k0 k1 k2 k3 k4
  have hJ:=HJ.out
  go_wp2_with fail
  exact ⟨⟨j+1,by omega,by go_num,hid (by rw [HSu.out]),hid (by rw [HSu.out];exact HS.out),by rw [HSu.out];exact HR,HX⟩,by simp [intOf];omega⟩
theorem plan_own (e s:Nat) (p:Option Addr) (n c:Nat) (zs:List Int) (w:World) (he:e<256) (hs:s<4294967296) (hz:InZ w p n c zs) (hn9:n≤10000) :
  Calls Tryz.prog 58 #[confV e s,.slice p n c] w fun r w'=>∃ v,r=.returned (.tuple #[v,.int .i64 (planP e s zs).1])∧NewRow32 w (planP e s zs).2 v w':=by
 by_cases hm:mayC e s=true
 ·exact plan_may e s p n c zs he hs hm hn9 w hz
 ·exact plan_not e s p n c zs he hs hm w
end
section
open Go.RowKit
end
section
open Go.RowKit
set_option maxHeartbeats 4000000 in
set_option maxRecDepth 10000 in
theorem rrising_own (p:Option Addr) (n c:Nat) (l:List Rec) (w:World) (hn:n=l.length) (hn9:n≤1000000) (hs:∀ r ∈ l,r.Modest) (hl:RecsAt w p l) :
  Calls Tryz.prog 56 #[.slice p n c] w fun e w'=>e=.returned (.int .i64 (risingR l))∧Keeps NoBlock w w':=by
 have HL:=hid hl
 have HN:=hid hn
 have HFi:=hid fun (r:Rec) (hr:r ∈ l)=>(hs r hr).fine
 have HC:=hid (fun (r:Rec) (hr:r ∈ l) w=>check_own r (by have:=(hs r hr).key;omega) (by have:=(hs r hr).val;omega) w)
 clear hl hn hs
 go_enter Tryz.func56,Tryz.ntmps56
 go_wp2_with fail
 go_loopw [9] (fun i wr=>∃ j:Nat,j≤n∧i=.int .i64 (j:Int)∧firstBad (l.take j)=0∧Keeps NoBlock w wr) (fun i _=>n - (intOf i).toNat)
 case atStart=>exact ⟨0,Nat.zero_le _,rfl,rfl,Keeps.refl _ _⟩
 case round =>
  obtain ⟨j,hj,rfl,hall,hk⟩:=hrel
  have HK:=hid hk
  have HA:=hid hall
  clear hk hall
  by_cases hlt:j<n
  ·have hdj:decide ((j:Int)<(n:Int))=true:=decide_eq_true (by omega)
   have hjl:j<l.length:=by rw [← HN.out];exact hlt
   obtain ⟨a,rfl,c0,c1,c2,c3⟩:=(HL.out.keep HK.out (fun _ _ h=>h)) j hjl
   have hmem:l.getD j Rec.none ∈ l:=by simp [hjl]
   have HCr:=hid (HC.out _ hmem)
   have HT:=hid (firstBad_take hjl HA.out)
   obtain ⟨r,hr⟩:∃ r,r=l.getD j Rec.none:=⟨_,rfl⟩
   rw [← hr] at c0 c1 c2 c3 HCr HT
   obtain ⟨z,hz⟩:∃ z,z=checkR r:=⟨_,rfl⟩
   rw [← hz] at HCr HT
   unfold recV at HCr
   clear hr hmem hjl hz
   go_wp2_with fail
   refine (HCr.out _).mono ?_
   rintro e w1 ⟨rfl,hk⟩
   have HK1:=hid ((HK.out.alloc _).trans hk)
   clear hk
   by_cases h0:z=0
   ·have hzb:(z != 0)=false:=by simpa using h0
    have hzd:decide (z=0)=true:=decide_eq_true h0
    have HT0:Hid (firstBad (l.take (j+1))=0):=hid (by rw [HT.out];exact h0)
    subst h0
    clear HT
    go_wp2_with fail
    exact ⟨⟨j+1,by omega,by go_num,HT0.out,HK1.out⟩,by simp [intOf];omega⟩
   ·have hzb:(z != 0)=true:=by simpa using h0
    have hzd:decide (z=0)=false:=decide_eq_false h0
    have HR:Hid (risingR l=z):=hid (by
     have hf:firstBad l=z:=by rw [firstBad_stop (j:=j+1) (by rw [HT.out];exact h0),HT.out]
     unfold risingR
     rw [hf,if_pos h0])
    go_wp2_with fail
    go_ret
    rw [HR.out]
    exact ⟨rfl,HK1.out⟩
  ·have hdj:decide ((j:Int)<(n:Int))=false:=decide_eq_false (by omega)
   have HB:Hid (firstBad l=0):=hid (by
    have:=HA.out
    rwa [List.take_of_length_le (by rw [← HN.out];omega)] at this)
   clear HA
   obtain ⟨wk,hwk⟩:∃ wk,wk=wr:=⟨_,rfl⟩
   subst hwk
   go_wp2_with fail
   go_loopw [6] (fun i wr=>∃ k:Nat,1≤k∧k≤n+1∧i=.int .i64 (k:Int)∧Hid (∀ i,i+1<k→i+1<l.length→(l.getD i Rec.none).seq<(l.getD (i+1) Rec.none).seq)∧Keeps NoBlock w wr) (fun i _=>n+1 - (intOf i).toNat)
   case atStart=>exact ⟨1,Nat.le_refl _,by omega,rfl,hid (fun i h=>by omega),HK.out⟩
   case round =>
    obtain ⟨k,hk1,hk,rfl,HA2,hkk⟩:=hrel
    have HK2:=hid hkk
    clear hkk
    by_cases hlt2:k<n
    ·have hdk:decide ((k:Int)<(n:Int))=true:=decide_eq_true (by omega)
     obtain ⟨m,rfl⟩:∃ m,k=m+1:=⟨k - 1,by omega⟩
     have hkl:m+1<l.length:=by rw [← HN.out];exact hlt2
     obtain ⟨a,rfl,c0,c1,c2,c3⟩:=(HL.out.keep HK2.out (fun _ _ h=>h)) (m+1) hkl
     obtain ⟨b,hb,d0,d1,d2,d3⟩:=(HL.out.keep HK2.out (fun _ _ h=>h)) m (by omega)
     obtain rfl:=Option.some.inj hb
     obtain ⟨r,hr⟩:∃ r,r=l.getD (m+1) Rec.none:=⟨_,rfl⟩
     obtain ⟨s,hs⟩:∃ s,s=l.getD m Rec.none:=⟨_,rfl⟩
     rw [← hr] at c0 c1 c2 c3
     rw [← hs] at d0 d1 d2 d3
     have HRr:=hid hr
     have HSs:=hid hs
     clear hr hs hb c0 c2 c3 d0 d2 d3
     have hdk2:decide ((m:Int)+1<(n:Int))=true:=decide_eq_true (by omega)
     have hmn:(m:Int)<(n:Int):=by omega
     have hmn2:m<n:=by omega
     have w1:IntKind.i64.wrap (m:Int)=(m:Int):=by rw [IntKind.wrap_i64];omega
     have hm0:(0:Int)≤(m:Int):=by omega
     have hm1:(0:Int)≤(m:Int)+1:=by omega
     have hm2:(m:Int)+1<(n:Int):=by omega
     have hm3:((m:Int)+1).toNat=m+1:=by omega
     have hm4:(m:Int)+1 - 1=(m:Int):=by omega
     have hm5:IntKind.i64.wrap ((m:Int)+1 - 1)=(m:Int):=by rw [IntKind.wrap_i64];omega
     have hadj:(∀ i,i+1<m+1+1→i+1<l.length→(l.getD i Rec.none).seq<(l.getD (i+1) Rec.none).seq) ↔ s.seq<r.seq:=by
      constructor
      ·intro h
       have:=h m (by omega) hkl
       rw [← HRr.out,← HSs.out] at this
       exact this
      ·intro h i hi hi2
       by_cases he:i=m
       ·rw [he,← HRr.out,← HSs.out]
        exact h
       ·exact HA2.out i (by omega) hi2
     have hbad:¬ s.seq<r.seq→risingR l=8:=fun h=>by
      have hr:risesR l ≠ true:=fun e=>h (by
       have:=rises_adj.1 e m hkl
       rwa [← HRr.out,← HSs.out] at this)
      unfold risingR
      rw [HB.out,if_neg (by simp),if_neg hr]
     have HAd:=hid hadj
     have HBd:=hid hbad
     clear hadj hbad
     by_cases hsr:s.seq<r.seq
     ·have hdd:decide ((r.seq:Int)≤(s.seq:Int))=false:=decide_eq_false (by omega)
      go_wp2_with fail
      have s0:wr.drew.cell? ⟨(a.add ((m+1)*4)).block,(a.add ((m+1)*4)).off+1,none⟩=some (.int .u64 (r.seq:Int))∧wr.drew.cell? ⟨(a.add (m*4)).block,(a.add (m*4)).off+1,none⟩=some (.int .u64 (s.seq:Int)):=⟨c1,d1⟩
      go_region_held3 (fun w'=>w'.cell? ⟨(a.add ((m+1)*4)).block,(a.add ((m+1)*4)).off+1,none⟩=some (.int .u64 (r.seq:Int))∧w'.cell? ⟨(a.add (m*4)).block,(a.add (m*4)).off+1,none⟩=some (.int .u64 (s.seq:Int)))
       (first|exact s0|exact ⟨c1,d1⟩)
       (fail)
      go_wp2_with fail
      exact ⟨⟨m+1+1,by omega,by omega,by go_num,hid (HAd.out.2 hsr),by first|exact HK2.out|exact HK2.out.drew⟩,by simp [intOf];omega⟩
     ·have hdd:decide ((r.seq:Int)≤(s.seq:Int))=true:=decide_eq_true (by omega)
      have HRz:=hid (HBd.out hsr)
      go_wp2_with fail
      have s0:wr.drew.cell? ⟨(a.add ((m+1)*4)).block,(a.add ((m+1)*4)).off+1,none⟩=some (.int .u64 (r.seq:Int))∧wr.drew.cell? ⟨(a.add (m*4)).block,(a.add (m*4)).off+1,none⟩=some (.int .u64 (s.seq:Int)):=⟨c1,d1⟩
      go_region_held3 (fun w'=>w'.cell? ⟨(a.add ((m+1)*4)).block,(a.add ((m+1)*4)).off+1,none⟩=some (.int .u64 (r.seq:Int))∧w'.cell? ⟨(a.add (m*4)).block,(a.add (m*4)).off+1,none⟩=some (.int .u64 (s.seq:Int)))
       (first|exact s0|exact ⟨c1,d1⟩)
       (fail)
      go_wp2_with fail
      go_ret
      rw [HRz.out]
      exact ⟨rfl,by first|exact HK2.out|exact HK2.out.drew⟩
    ·have hdk:decide ((k:Int)<(n:Int))=false:=decide_eq_false (by omega)
     have HRz:Hid (risingR l=0):=hid (risingR_zero.2 ⟨HB.out,rises_adj.2 (fun i hi=>HA2.out i (by have:=HN.out;omega) hi)⟩)
     go_wp2_with fail
     go_ret
     rw [HRz.out]
     exact ⟨rfl,HK2.out⟩
theorem rises_ok:RisesOk where
 rising:=fun p n c l w hn _ _ hn9 hs hl=>rrising_own p n c l w hn hn9 hs hl
end
section
open Go.RowKit
def sizeF (l:List Rec) (j i:Nat):Value:=if i<j then intV ((sizesR l).getD i 0) else .int .i64 0
theorem sizeF_step (l:List Rec) {j:Nat} (hj:j<l.length) (i:Nat):(if i=j then (.int .i64 (((recB (l.getD j Rec.none)).length:Nat):Int)) else sizeF l j i)=sizeF l (j+1) i:=by
 unfold sizeF
 by_cases h:i=j
 ·subst h
  rw [if_pos rfl,if_pos (by omega)]
  unfold intV sizesR
  simp [hj]
 ·rw [if_neg h]
  by_cases h2:i<j
  ·rw [if_pos h2,if_pos (by omega)]
  ·rw [if_neg h2,if_neg (by omega)]
theorem sizeF_made (n:Nat) (l:List Rec):∀ i,i<n*1→((madeCells #[Value.int .i64 0] n).toList).getD i (.bool false)=sizeF l 0 i:=fun i hi=>by
 unfold sizeF
 rw [if_neg (by omega)]
 have hi2:i<n:=by omega
 simp [madeCells,hi2,Nat.mod_one]
set_option maxHeartbeats 8000000 in
set_option maxRecDepth 10000 in
theorem implan_own (e s:Nat) (p:Option Addr) (n c:Nat) (l:List Rec) (w:World) (he:e<256) (hs:s<4294967296) (hn9:n≤10000) (h:InR w p n c l) :
  Calls Tryz.prog 33 #[confV e s,.slice p n c] w fun r w'=>∃ v,r=.returned (.tuple #[v,.int .i64 (planI e s l).1])∧NewRow32 w (planI e s l).2 v w':=by
 have HM:=hid (fun w=>check_conf e s w)
 have HRs:=hid (fun (w:World) hl=>rises_ok.rising p n c l w h.len h.cap h.room (by omega) (fun r hr=>⟨h.fine r hr,by have:=h.key r hr;omega,by have:=h.val r hr;omega⟩) hl)
 have HI:=hid h
 have HK:=hid ((Keeps.refl NoBlock w).alloc (.cells (confCells e s) 27))
 have HC:=hid (Whole.new w 27 (confCells e s))
 clear h
 by_cases hm:mayC e s=true
 rotate_left
 ·rw [Bool.not_eq_true] at hm
  have hp:planI e s l=(1,[]):=by unfold planI;rw [if_neg (by rw [hm];simp)]
  rw [checkC_not hm] at HM
  rw [hp]
  clear hm hp
  unfold confV at HM ⊢
  go_enter Tryz.func33,Tryz.ntmps33
  go_wp2_with fail
  refine (HM.out _).mono ?_
  rintro e9 w1 ⟨rfl,hk⟩
  have HK:=hid (HK.out.trans hk)
  clear hk
  go_wp2_with fail
  exact bodyPost_ret (results_tmp2 rfl _ _ _) rfl ⟨_,rfl,NewRow32.none HK.out⟩
 rw [checkC_may hm] at HM
 obtain ⟨y,hy⟩:∃ y,y=risingR l:=⟨_,rfl⟩
 rw [← hy] at HRs
 by_cases hr:y=0
 rotate_left
 ·have hp:planI e s l=(y,[]):=by unfold planI;rw [if_pos hm,← hy,if_pos hr]
  have hz0:(y != 0)=true:=by rw [bne_iff_ne];exact hr
  rw [hp]
  clear hm hp hy
  unfold confV at HM ⊢
  go_enter Tryz.func33,Tryz.ntmps33
  go_wp2_with fail
  refine (HM.out _).mono ?_
  rintro e9 w1 ⟨rfl,hk⟩
  have HK:=hid (HK.out.trans hk)
  clear hk
  go_wp2_with fail
  refine (HRs.out _ (HI.out.at_.keep HK.out (fun _ _ h=>h))).mono ?_
  rintro e9 w2 ⟨rfl,hk⟩
  have HK:=hid (HK.out.trans hk)
  clear hk
  go_wp2_with fail
  exact bodyPost_ret (results_tmp2 rfl _ _ _) rfl ⟨_,rfl,NewRow32.none HK.out⟩
 subst hr
 have hp:planI e s l=planP e s (sizesR l):=by unfold planI;rw [if_pos hm,← hy,if_neg (by simp)]
 rw [hp]
 have hck:∀ r ∈ l,checkR r=0:=by
  have h0:risingR l=0:=hy.symm
  unfold risingR at h0
  by_cases hb:firstBad l=0
  ·exact firstBad_zero.1 hb
  ·simp [hb] at h0
 have HPl:=hid (fun q d w (h:InZ w q n d (sizesR l))=>plan_own e s q n d (sizesR l) w he hs h (by omega))
 have HRc:=hid (fun j (hj:j<l.length) w=>putrec_own (l.getD j Rec.none) w ⟨HI.out.fine _ (getR_mem hj),HI.out.key _ (getR_mem hj),HI.out.val _ (getR_mem hj)⟩)
 have HZ:=hid (fun j (hj:j<l.length)=>(show checkR (l.getD j Rec.none)=0∧putR (l.getD j Rec.none)=recB (l.getD j Rec.none) from ⟨hck _ (getR_mem hj),by unfold putR;rw [if_pos (hck _ (getR_mem hj))];rfl⟩))
 have HFi:Hid (∀ z ∈ sizesR l,-9223372036854775808≤z∧z≤9223372036854775807):=hid (fun z hz=>by
  obtain ⟨r,hr,rfl⟩:=List.mem_map.1 hz
  have:=recB_few (HI.out.fine r hr) (HI.out.key r hr) (HI.out.val r hr)
  omega)
 obtain ⟨i0,hi,hz0,hz1,hz2⟩:=info_parts infoInt
 have HN:=hid (show n=l.length from HI.out.len)
 clear hm hp hy hck he hs
 obtain ⟨T,hT⟩:∃ T,T=planP e s (sizesR l):=⟨_,rfl⟩
 rw [← hT] at HPl ⊢
 clear hT
 unfold confV at HM HPl ⊢
 go_enter Tryz.func33,Tryz.ntmps33
 go_wp2_with fail
 refine (HM.out _).mono ?_
 rintro e9 w1 ⟨rfl,hk⟩
 have HK:=hid (HK.out.trans hk)
 have HC:=hid (HC.out.keep hk (fun h=>h))
 clear hk
 go_wp2_with fail
 refine (HRs.out _ (HI.out.at_.keep HK.out (fun _ _ h=>h))).mono ?_
 rintro e9 w2 ⟨rfl,hk⟩
 have HK:=hid (HK.out.trans hk)
 have HC:=hid (HC.out.keep hk (fun h=>h))
 have HG2:=hid HC.out.lt
 clear hk HRs HM
 go_wp2_with (at_make;refine wpList_make_full _ rfl _ _ 117 rfl w2.heap.size 3 i0 (.int .i64 0) 1 Tryz.underlying117 hi hz0 hz1 .i64 .i64 (n:Int) (n:Int) n rfl rfl rfl rfl (by rw [hz2];omega) (by unfold maxLen;omega) (Nat.le_refl _) ?_)
 intro w3 hown hgrow
 have hR0:=(RowV.ofOwn hown).congr (sizeF_made n l)
 rw [Nat.mul_one] at hR0
 have hk3:Keeps NoBlock w2 w3:=(Keeps.refl NoBlock w2).grown hgrow (fun k hk=>by simp at hk)
 have HK:=hid (HK.out.trans hk3)
 have HC:=hid (HC.out.keep hk3 (fun h=>h))
 obtain ⟨g,hgd⟩:∃ g,g=w2.heap.size:=⟨_,rfl⟩
 rw [← hgd] at hR0 ⊢
 have HG:Hid (w.heap.size<g):=hid (by rw [hgd];exact HG2.out)
 have HR:=hid hR0
 clear hown hgrow hR0 hk3 hgd
 go_wp2_with fail
 go_loopw [28] (fun i wr=>∃ j:Nat,j≤n∧i=.int .i64 (j:Int)∧Hid (RowV 3 wr g n (sizeF l j))∧Hid (Whole wr w.heap.size 27 (confCells e s))∧Hid (Keeps NoBlock w wr)) (fun i _=>n - (intOf i).toNat)
 case atStart=>exact ⟨0,Nat.zero_le _,rfl,HR,HC,HK⟩
 case round =>
  clear HR HC HK
  obtain ⟨j,hj,rfl,HR,HC,HK⟩:=hrel
  by_cases hlt:j<n
  ·have hdj:decide ((j:Int)<(n:Int))=true:=decide_eq_true (by omega)
   have hdj2:decide (j<n)=true:=decide_eq_true hlt
   have hjn:(j:Int)<(n:Int):=by omega
   have hjl:j<l.length:=by rw [← HN.out];exact hlt
   obtain ⟨a,rfl,c0,c1,c2,c3⟩:=(HI.out.at_.keep HK.out (fun _ _ h=>h)) j hjl
   have HRj:=hid (HRc.out j hjl)
   obtain ⟨hc0,hpr⟩:=HZ.out j hjl
   have HSt:=hid (fun i=>sizeF_step l hjl i)
   obtain ⟨r,hr⟩:∃ r,r=l.getD j Rec.none:=⟨_,rfl⟩
   rw [← hr] at c0 c1 c2 c3 HRj HSt hc0 hpr
   rw [hc0,hpr] at HRj
   obtain ⟨Z,hZ⟩:∃ Z,Z=(recB r).length:=⟨_,rfl⟩
   rw [← hZ] at HSt
   have HZe:=hid hZ
   have hkA:=(Keeps.refl NoBlock wr).alloc (.cells #[.bool r.del,.int .u64 (r.seq:Int),.string (strOfNums r.key),.string (strOfNums r.val)] 48)
   have HKA:=hid hkA
   unfold recV at HRj
   clear hr hjl hc0 hpr hZ hkA
   go_wp2_with fail
   refine (HRj.out _).mono ?_
   rintro e9 w5 ⟨v5,rfl,q5,m5,d5,rfl,hm5,-,-,-,-,hk⟩
   obtain rfl:m5=Z:=by rw [hm5,HZe.out]
   have hk5:=HKA.out.trans hk
   have HR5:=hid (HR.out.keep hk5 (fun h=>h))
   have HC5:=hid (HC.out.keep hk5 (fun h=>h))
   have HK5:=hid (HK.out.trans hk5)
   have x0:=HR5.out.cell hlt
   have f0:=HR5.out.free j
   have HRn:=hid ((HR5.out.put hlt (.int .i64 (m5:Int))).congr (fun i _=>HSt.out i))
   have HCn:=hid (HC5.out.setOther (p:=⟨g,j,none⟩) (by have:=HG.out;show w.heap.size ≠ g;omega) (.int .i64 (m5:Int)))
   have HKn:=hid (HK5.out.setNew (g:=g) (by have:=HG.out;omega) j (.int .i64 (m5:Int)))
   clear hk hk5 hm5 HRj HKA c0 c1 c2 c3
   go_wp2_with fail
   go_roundw
   case rel=>exact ⟨j+1,by omega,by go_num,HRn,HCn,HKn⟩
   case measure=>simp [intOf];omega
  ·have hdj:decide ((j:Int)<(n:Int))=false:=decide_eq_false (by omega)
   have hdj2:decide (j<n)=false:=decide_eq_false hlt
   obtain rfl:j=n:=by omega
   have hin:InZ wr (some ⟨g,0,none⟩) j j (sizesR l):=⟨by rw [sizesR_length];exact HN.out,Nat.le_refl _,by omega,fun h=>by simp at h,HFi.out,fun i hi=>by
    rw [sizesR_length,← HN.out] at hi
    refine ⟨_,rfl,?_⟩
    rw [addZero]
    have:=HR.out.cell hi
    unfold sizeF at this
    rw [if_pos hi] at this
    exact this⟩
   have HPz:=hid (HPl.out _ _ _ hin)
   have g0:=HC.out.cell 0 rfl
   have g1:=HC.out.cell 1 rfl
   simp only [confCells,List.getElem_toArray,List.getElem_cons_zero,List.getElem_cons_succ] at g0 g1
   clear hin
   go_wp2_with fail
   refine HPz.out.mono ?_
   rintro e9 w7 ⟨v7,rfl,q7,m7,d7,rfl,a1,a2,a3,a4,a5,hk⟩
   have HE:=hid (show NewRow32 w T.2 (.slice q7 m7 d7) w7 from ⟨q7,m7,d7,rfl,a1,a2,a3,a4,a5,HK.out.trans hk⟩)
   clear a1 a2 a3 a4 a5 hk
   go_wp2_with fail
   exact bodyPost_ret (results_tmp2 rfl _ _ _) rfl ⟨_,rfl,HE.out⟩
end
end Go.Proofs.YtehkjkcnigknkaaGreat

/-
  FoSymB.
-/
import Derived.Lib.Hide
import Derived.Test.YtbmhdfjaakkoaaaM17
namespace Go.Proofs.Ytbmhdfjaakkoaaa
open Lib (hid)
section
open Go.RowKit Go.Lib Go.Sort Go.Shelf
set_option maxHeartbeats 4000000 in
set_option maxRecDepth 100000 in
theorem symB_own (cap N:Nat) (w0:World) (g:Nat) (d0:Array Tg) (R:RowK encT 4 w0 g 0 d0) (hN:N=d0.size) (hN9:N≤100000) (a m b:Nat) (dk:Array Tg) (hs:dk.size=d0.size) (hma:a+1<m) (hmb:b=m+1) (hb:b≤N) (hR1:RunT dk a m) (hT:TagsT dk a m b) (W:World) (hW:SWK encT 4 w0 g 0 dk W) :
  Calls Try.prog 44 #[.slice (some ⟨g,0,none⟩) N cap,.int .i64 (a:Int),.int .i64 (m:Int),.int .i64 (b:Int),bySeqV] W (Merged4 w0 g a b dk):=by
 have mixed:Try.prog.follows .mixedOrders=true:=by kernel_rfl
 have HMB:=hid hmb
 have hmb1:b≤m+1:=by omega
 have hmb2:m+1≤b:=by omega
 have HR:Hid (RowK encT 4 w0 g 0 d0):=R
 have HW:=hid hW
 have HS:=hid hs
 have HN:=hid hN
 have HR1:Hid (RunT dk a m):=hR1
 have HT:Hid (TagsT dk a m b):=hT
 obtain ⟨D,hD1,hD2⟩:∃ D,m≤a+D∧a+D≤m:=⟨m - a,by omega,by omega⟩
 have w1:IntKind.i64.wrap ((m:Int) - (a:Int))=(D:Int):=by rw [IntKind.wrap_i64];omega
 have w1a:decide ((D:Int)=1)=false:=decide_eq_false (by omega)
 have w1b:((D:Int) == 1)=false:=by rw [beq_eq_false_iff_ne];omega
 have w2a:IntKind.i64.wrap ((b:Int) - (m:Int))=1:=by rw [IntKind.wrap_i64];omega
 obtain ⟨xa,hxa⟩:∃ x,dk[m]! = x:=⟨_,rfl⟩
 have HXA:=hid hxa
 clear R hW hs hN hR1 hT hxa hmb
 go_enter Try.func44,Try.ntmps44
 go_wp2_with fail
 go_loopw [14,15] (fun u v wr=>∃ (i j:Nat),u=.int .i64 (i:Int)∧v=.int .i64 (j:Int)∧a≤i∧i≤j∧j≤m∧Hid (i=a ∨ 0≤cmpT xa dk[i - 1]!)∧Hid (j=m ∨ cmpT xa dk[j]!<0)∧Hid (SWK encT 4 w0 g 0 dk wr)) (fun u v _=>(intOf v - intOf u).toNat)
 case atStart=>exact ⟨a,m,rfl,rfl,Nat.le_refl _,by omega,Nat.le_refl _,hid (.inl rfl),hid (.inl rfl),HW⟩
 case round =>
  obtain ⟨i,j,rfl,rfl,hi,hij,hj,HLO,HHI,HSW⟩:=hrel
  by_cases hlt:i<j
  ·have hd:decide ((i:Int)<(j:Int))=true:=decide_eq_true (by omega)
   obtain ⟨h,hh1,hh2⟩:∃ h,h*2≤i+j∧i+j≤h*2+1:=⟨(i+j) / 2,by omega,by omega⟩
   have w2:IntKind.i64.wrap ((i:Int)+(j:Int))=((i+j:Nat):Int):=by rw [IntKind.wrap_i64];omega
   have w3:((i:Int)+(j:Int)) / 2=(h:Int):=by omega
   have hhN:h<dk.size:=by rw [HS.out,← HN.out];omega
   have haN:m<dk.size:=by rw [HS.out,← HN.out];omega
   obtain ⟨x,hx⟩:∃ x,dk[h]! = x:=⟨_,rfl⟩
   obtain ⟨x0,x1,x2,x3⟩:=swk_grown_cells HSW.out HR.out HS.out h hhN hx
   obtain ⟨y0,y1,y2,y3⟩:=swk_grown_cells HSW.out HR.out HS.out m haN HXA.out
   have hcall:=cmp_grown xa x wr
   have HX:=hid hx
   have b1:(h:Int)<(N:Int):=by omega
   have b2:(m:Int)<(N:Int):=by omega
   have HH1:=hid hh1
   have HH2:=hid hh2
   clear hx hhN haN hh1 hh2
   by_cases hlv:cmpT xa x<0
   ·have hd5:decide (cmpT xa x<0)=true:=decide_eq_true hlv
    have HLV:=hid hlv
    go_wp2_with fail
    go_quiet_grown ((go_at_call 29;exact Calls.grown_of (hcall _ _)))
    go_wp2_with fail
    have:=HH1.out
    have:=HH2.out
    exact ⟨⟨i,h,rfl,rfl,hi,by omega,by omega,HLO,hid (.inr (by rw [HX.out];have:=HLV.out;omega)),hid (HSW.out.grown nq osq)⟩,by simp [intOf];omega⟩
   ·have hd5:decide (cmpT xa x<0)=false:=decide_eq_false hlv
    have HLV:=hid hlv
    go_wp2_with fail
    go_quiet_grown ((go_at_call 29;exact Calls.grown_of (hcall _ _)))
    go_wp2_with fail
    have:=HH1.out
    have:=HH2.out
    exact ⟨⟨h+1,j,by go_num,rfl,by omega,by omega,hj,hid (.inr (by rw [Nat.add_sub_cancel,HX.out];have:=HLV.out;omega)),HHI,hid (HSW.out.grown nq osq)⟩,by simp [intOf];omega⟩
  ·obtain rfl:i=j:=by omega
   have hd:decide ((i:Int)<(i:Int))=false:=by simp
   go_wp2_with fail
   go_loopw [17] (fun u wr=>∃ (k:Nat) (dq:Array Tg),u=.int .i64 (k:Int)∧i≤k∧k≤m∧Hid (PermIn a b dk dq)∧Hid (∀ x,dq[x]! = rotF (fun x=>dk[x]!) k m (m+1) x)∧Hid (SWK encT 4 w0 g 0 dq wr)) (fun u _=>(intOf u).toNat - i)
   case atStart=>exact ⟨m,dk,rfl,by omega,Nat.le_refl _,hid (permIn_refl _ _ _),hid (fun x=>(rot_none2 _ _ _ _).symm),HSW⟩
   case round =>
    obtain ⟨k1,dq,rfl,hk,hke,HP,HF,HSW2⟩:=hrel
    by_cases hlt2:i<k1
    ·obtain ⟨k,rfl⟩:∃ k,k1=k+1:=⟨k1 - 1,by omega⟩
     have hd6:decide ((i:Int)<((k+1:Nat):Int))=true:=decide_eq_true (by omega)
     have hd7:decide ((i:Int)<(k:Int)+1)=true:=decide_eq_true (by omega)
     have hsz:dq.size=d0.size:=by rw [HP.out.1,HS.out]
     have hi':k+1<dq.size:=by rw [hsz,← HN.out];omega
     have hj':k<dq.size:=by rw [hsz,← HN.out];omega
     obtain ⟨x,hx⟩:∃ x,dq[k+1]! = x:=⟨_,rfl⟩
     obtain ⟨y,hy⟩:∃ y,dq[k]! = y:=⟨_,rfl⟩
     have w7:IntKind.i64.wrap ((k:Int)+1 - 1)=(k:Int):=by rw [IntKind.wrap_i64];omega
     have w8:IntKind.i64.wrap (k:Int)=(k:Int):=by rw [IntKind.wrap_i64];omega
     have b1:(k:Int)<(N:Int):=by omega
     have b2:(k:Int)+1<(N:Int):=by omega
     have b3:(((k+1:Nat)):Int)<(N:Int):=by omega
     have b4:(0:Int)≤(k:Int)+1:=by omega
     have b5:((k:Int)+1).toNat=k+1:=by omega
     have hsd:b≤dq.size:=by rw [hsz,← HN.out];exact hb
     have HSD:=hid hsd
     obtain ⟨x0,x1,x2,x3⟩:=swk_cells (HSW2.out.drewN 1) HR.out hsz _ hi' hx
     obtain ⟨y0,y1,y2,y3⟩:=swk_cells (HSW2.out.drewN 1) HR.out hsz _ hj' hy
     obtain ⟨f0,f1,f2,f3⟩:=swk_free (HSW2.out.drewN 1) HR.out hsz _ hi'
     obtain ⟨g0,g1,g2,g3⟩:=swk_free (HSW2.out.drewN 1) HR.out hsz _ hj'
     have HE2:=hid (swk_swapped HSW2.out HR.out _ _ hi' hj' hx hy)
     have HI:=hid hi'
     have HJ:=hid hj'
     change wr.drew.cell? _=_ at x0 x1 x2 x3 y0 y1 y2 y3
     change wr.drew.frozen? _=_ at f0 f1 f2 f3 g0 g1 g2 g3
     have f0':wr.frozen? ⟨g,(k+1)*4,none⟩=false:=f0
     have x0':wr.cell? ⟨g,(k+1)*4,none⟩=_:=x0
     have g0':wr.frozen? ⟨g,k*4,none⟩=false:=g0
     have yw0:wr.cell? ⟨g,k*4,none⟩=_:=y0
     have y0':=fun a b c d=>cell_set4 (o':=(k+1)*4) yw0 (by omega) a b c d
     have f1':wr.frozen? ⟨g,(k+1)*4+1,none⟩=false:=f1
     have x1':wr.cell? ⟨g,(k+1)*4+1,none⟩=_:=x1
     have g1':wr.frozen? ⟨g,k*4+1,none⟩=false:=g1
     have yw1:wr.cell? ⟨g,k*4+1,none⟩=_:=y1
     have y1':=fun a b c d=>cell_set4 (o':=(k+1)*4) yw1 (by omega) a b c d
     have f2':wr.frozen? ⟨g,(k+1)*4+2,none⟩=false:=f2
     have x2':wr.cell? ⟨g,(k+1)*4+2,none⟩=_:=x2
     have g2':wr.frozen? ⟨g,k*4+2,none⟩=false:=g2
     have yw2:wr.cell? ⟨g,k*4+2,none⟩=_:=y2
     have y2':=fun a b c d=>cell_set4 (o':=(k+1)*4) yw2 (by omega) a b c d
     have f3':wr.frozen? ⟨g,(k+1)*4+3,none⟩=false:=f3
     have x3':wr.cell? ⟨g,(k+1)*4+3,none⟩=_:=x3
     have g3':wr.frozen? ⟨g,k*4+3,none⟩=false:=g3
     have yw3:wr.cell? ⟨g,k*4+3,none⟩=_:=y3
     have y3':=fun a b c d=>cell_set4 (o':=(k+1)*4) yw3 (by omega) a b c d
     clear hx hy hi' hj'
     go_wp2_with fail
     go_big_region_o
     all_goals go_wp2_with fail
     refine ⟨⟨k,swp dq (k+1) k,by go_num,by omega,by omega,hid (permIn_trans _ _ _ _ _ HP.out (swp_permIn dq a b (k+1) k (by omega) (by omega) (by omega) (by omega) HSD.out)),hid (fun z=>?_),hid HE2.out⟩,by simp [intOf];omega⟩
     rw [rot_down _ _ _ _ (by omega),swp_get dq (k+1) k HI.out HJ.out,HF.out,HF.out,HF.out]
    ·have hd6:decide ((i:Int)<(k1:Int))=false:=decide_eq_false (by omega)
     obtain rfl:k1=i:=by omega
     go_wp2_with fail
     go_end0
     refine ⟨rfl,dq,HP.out,?_,HSW2.out⟩
     have hmb:=HMB.out
     subst hmb
     refine one_right HR1.out HT.out hi hj HF.out ?_ ?_
     ·rw [HXA.out];exact HLO.out.imp id Int.not_lt.2
     ·rw [HXA.out];exact HHI.out
end
end Go.Proofs.Ytbmhdfjaakkoaaa

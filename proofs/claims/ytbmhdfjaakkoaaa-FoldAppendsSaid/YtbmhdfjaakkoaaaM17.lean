/-
  FoSymA.
-/
import Derived.Lib.Hide
import Derived.Test.YtbmhdfjaakkoaaaM15
import Derived.Test.YtbmhdfjaakkoaaaM16
namespace Go.Proofs.Ytbmhdfjaakkoaaa
open Lib (hid)
section
open Go.RowKit Go.Lib Go.Sort Go.Shelf
abbrev bySeqV:Value:=.func (.func 29) #[] #[]
def Merged4 (w0:World) (g a b:Nat) (dk:Array Tg) (e:Ending) (w':World):Prop:=e=.returned (.tuple #[])∧∃ d',PermIn a b dk d'∧RunT d' a b∧SWK encT 4 w0 g 0 d' w'
theorem swk_grown_cells {w0 W:World} {g:Nat} {d0 dk:Array Tg} (h:SWK encT 4 w0 g 0 dk W) (R:RowK encT 4 w0 g 0 d0) (hs:dk.size=d0.size) (i:Nat) (hi:i<dk.size) {x:Tg} (hx:dk[i]! = x) :
  (∀ n os,(grow (W.drewN n) os).cell? ⟨g,i*4,none⟩=some (.bool x.r.del))∧(∀ n os,(grow (W.drewN n) os).cell? ⟨g,i*4+1,none⟩=some (.int .u64 (x.r.seq:Int)))∧(∀ n os,(grow (W.drewN n) os).cell? ⟨g,i*4+2,none⟩=some (.string (strOfNums x.r.key)))∧(∀ n os,(grow (W.drewN n) os).cell? ⟨g,i*4+3,none⟩=some (.string (strOfNums x.r.val))) :=
 ⟨fun n os=>(swk_cells (h.grown n os) R hs i hi hx).1,fun n os=>(swk_cells (h.grown n os) R hs i hi hx).2.1,fun n os=>(swk_cells (h.grown n os) R hs i hi hx).2.2.1,fun n os=>(swk_cells (h.grown n os) R hs i hi hx).2.2.2⟩
theorem cmp_grown (x y:Tg) (W:World):∀ n os,Calls Try.prog 29 #[.agg #[.bool x.r.del,.int .u64 (x.r.seq:Int),.string (strOfNums x.r.key),.string (strOfNums x.r.val)],.agg #[.bool y.r.del,.int .u64 (y.r.seq:Int),.string (strOfNums y.r.key),.string (strOfNums y.r.val)]] (grow (W.drewN n) os) fun e w'=>e=.returned (.int .i64 (cmpT x y))∧∃ q os',w'=grow ((grow (W.drewN n) os).drewN q) os' :=
 fun _ _=>bySeq_grown x.r y.r _
set_option maxHeartbeats 4000000 in
set_option maxRecDepth 100000 in
theorem symA_own (cap N:Nat) (w0:World) (g:Nat) (d0:Array Tg) (R:RowK encT 4 w0 g 0 d0) (hN:N=d0.size) (hN9:N≤100000) (a m b:Nat) (dk:Array Tg) (hs:dk.size=d0.size) (hma:m=a+1) (hmb:m<b) (hb:b≤N) (hR2:RunT dk m b) (hT:TagsT dk a m b) (W:World) (hW:SWK encT 4 w0 g 0 dk W) :
  Calls Try.prog 44 #[.slice (some ⟨g,0,none⟩) N cap,.int .i64 (a:Int),.int .i64 (m:Int),.int .i64 (b:Int),bySeqV] W (Merged4 w0 g a b dk):=by
 have mixed:Try.prog.follows .mixedOrders=true:=by kernel_rfl
 have HR:Hid (RowK encT 4 w0 g 0 d0):=R
 have HW:=hid hW
 have HS:=hid hs
 have HN:=hid hN
 have HMA:=hid hma
 have HR2:Hid (RunT dk m b):=hR2
 have HT:Hid (TagsT dk a m b):=hT
 have hma1:m≤a+1:=by omega
 have hma2:a+1≤m:=by omega
 have w1:IntKind.i64.wrap ((m:Int) - (a:Int))=1:=by rw [IntKind.wrap_i64];omega
 obtain ⟨xa,hxa⟩:∃ x,dk[a]! = x:=⟨_,rfl⟩
 have HXA:=hid hxa
 clear R hW hs hN hma hR2 hT hxa
 go_enter Try.func44,Try.ntmps44
 go_wp2_with fail
 go_loopw [10,11] (fun u v wr=>∃ (i j:Nat),u=.int .i64 (i:Int)∧v=.int .i64 (j:Int)∧m≤i∧i≤j∧j≤b∧Hid (i=m ∨ cmpT dk[i - 1]! xa<0)∧Hid (j=b ∨ 0≤cmpT dk[j]! xa)∧Hid (SWK encT 4 w0 g 0 dk wr)) (fun u v _=>(intOf v - intOf u).toNat)
 case atStart=>exact ⟨m,b,rfl,rfl,Nat.le_refl _,by omega,Nat.le_refl _,hid (.inl rfl),hid (.inl rfl),HW⟩
 case round =>
  obtain ⟨i,j,rfl,rfl,hi,hij,hj,HLO,HHI,HSW⟩:=hrel
  by_cases hlt:i<j
  ·have hd:decide ((i:Int)<(j:Int))=true:=decide_eq_true (by omega)
   obtain ⟨h,hh1,hh2⟩:∃ h,h*2≤i+j∧i+j≤h*2+1:=⟨(i+j) / 2,by omega,by omega⟩
   have w2:IntKind.i64.wrap ((i:Int)+(j:Int))=((i+j:Nat):Int):=by rw [IntKind.wrap_i64];omega
   have w3:((i:Int)+(j:Int)) / 2=(h:Int):=by omega
   have hhN:h<dk.size:=by rw [HS.out,← HN.out];omega
   have haN:a<dk.size:=by rw [HS.out,← HN.out];omega
   obtain ⟨x,hx⟩:∃ x,dk[h]! = x:=⟨_,rfl⟩
   obtain ⟨x0,x1,x2,x3⟩:=swk_grown_cells HSW.out HR.out HS.out h hhN hx
   obtain ⟨y0,y1,y2,y3⟩:=swk_grown_cells HSW.out HR.out HS.out a haN HXA.out
   have hcall:=cmp_grown x xa wr
   have HX:=hid hx
   have b1:(h:Int)<(N:Int):=by omega
   have b2:(a:Int)<(N:Int):=by omega
   have HH1:=hid hh1
   have HH2:=hid hh2
   clear hx hhN haN hh1 hh2
   by_cases hlv:cmpT x xa<0
   ·have hd5:decide (cmpT x xa<0)=true:=decide_eq_true hlv
    have HLV:=hid hlv
    go_wp2_with fail
    go_quiet_grown ((go_at_call 29;exact Calls.grown_of (hcall _ _)))
    go_wp2_with fail
    have:=HH1.out
    have:=HH2.out
    exact ⟨⟨h+1,j,by go_num,rfl,by omega,by omega,hj,hid (.inr (by rw [Nat.add_sub_cancel,HX.out];exact HLV.out)),HHI,hid (HSW.out.grown nq osq)⟩,by simp [intOf];omega⟩
   ·have hd5:decide (cmpT x xa<0)=false:=decide_eq_false hlv
    have HLV:=hid hlv
    go_wp2_with fail
    go_quiet_grown ((go_at_call 29;exact Calls.grown_of (hcall _ _)))
    go_wp2_with fail
    have:=HH1.out
    have:=HH2.out
    exact ⟨⟨i,h,rfl,rfl,hi,by omega,by omega,HLO,hid (.inr (by rw [HX.out];have:=HLV.out;omega)),hid (HSW.out.grown nq osq)⟩,by simp [intOf];omega⟩
  ·obtain rfl:i=j:=by omega
   have hd:decide ((i:Int)<(i:Int))=false:=by simp
   have w4:IntKind.i64.wrap ((i:Int) - 1)=((i - 1:Nat):Int):=by rw [IntKind.wrap_i64];omega
   obtain ⟨e,he1,he2⟩:∃ e,i≤e+1∧e+1≤i:=⟨i - 1,by omega,by omega⟩
   have HE:=hid (show i - 1=e by omega)
   rw [HE.out] at w4
   go_wp2_with fail
   go_loopw [13] (fun u wr=>∃ (k:Nat) (dq:Array Tg),u=.int .i64 (k:Int)∧a≤k∧k≤e∧Hid (PermIn a b dk dq)∧Hid (∀ x,dq[x]! = rotF (fun x=>dk[x]!) a (a+1) (k+1) x)∧Hid (SWK encT 4 w0 g 0 dq wr)) (fun u _=>e - (intOf u).toNat)
   case atStart=>exact ⟨a,dk,rfl,Nat.le_refl _,by omega,hid (permIn_refl _ _ _),hid (fun x=>(rot_none _ _ _ _).symm),HSW⟩
   case round =>
    obtain ⟨k,dq,rfl,hk,hke,HP,HF,HSW2⟩:=hrel
    by_cases hlt2:k<e
    ·have hd6:decide ((k:Int)<(e:Int))=true:=decide_eq_true (by omega)
     have hsz:dq.size=d0.size:=by rw [HP.out.1,HS.out]
     have hi':k<dq.size:=by rw [hsz,← HN.out];omega
     have hj':k+1<dq.size:=by rw [hsz,← HN.out];omega
     obtain ⟨x,hx⟩:∃ x,dq[k]! = x:=⟨_,rfl⟩
     obtain ⟨y,hy⟩:∃ y,dq[k+1]! = y:=⟨_,rfl⟩
     have w7:IntKind.i64.wrap ((k:Int)+1)=(((k+1:Nat)):Int):=by rw [IntKind.wrap_i64];omega
     have b1:(k:Int)<(N:Int):=by omega
     have b2:(k:Int)+1<(N:Int):=by omega
     have b3:(((k+1:Nat)):Int)<(N:Int):=by omega
     have hsd:b≤dq.size:=by rw [hsz,← HN.out];exact hb
     have HSD:=hid hsd
     obtain ⟨x0,x1,x2,x3⟩:=swk_cells (HSW2.out.drewN 1) HR.out hsz _ hi' hx
     obtain ⟨y0,y1,y2,y3⟩:=swk_cells (HSW2.out.drewN 1) HR.out hsz _ hj' hy
     obtain ⟨f0,f1,f2,f3⟩:=swk_free (HSW2.out.drewN 1) HR.out hsz _ hi'
     obtain ⟨g0,g1,g2,g3⟩:=swk_free (HSW2.out.drewN 1) HR.out hsz _ hj'
     have HE2:=hid (swk_swapped HSW2.out HR.out _ _ hi' hj' hx hy)
     have HI:=hid hi'
     have HJ:=hid hj'
     change wr.drew.cell? _=_ at x0 x1 x2 x3 y0 y1 y2 y3
     change wr.drew.frozen? _=_ at f0 f1 f2 f3 g0 g1 g2 g3
     have f0':wr.frozen? ⟨g,k*4,none⟩=false:=f0
     have x0':wr.cell? ⟨g,k*4,none⟩=_:=x0
     have g0':wr.frozen? ⟨g,(k+1)*4,none⟩=false:=g0
     have yw0:wr.cell? ⟨g,(k+1)*4,none⟩=_:=y0
     have y0':=fun a b c d=>cell_set4 (o':=k*4) yw0 (by omega) a b c d
     have f1':wr.frozen? ⟨g,k*4+1,none⟩=false:=f1
     have x1':wr.cell? ⟨g,k*4+1,none⟩=_:=x1
     have g1':wr.frozen? ⟨g,(k+1)*4+1,none⟩=false:=g1
     have yw1:wr.cell? ⟨g,(k+1)*4+1,none⟩=_:=y1
     have y1':=fun a b c d=>cell_set4 (o':=k*4) yw1 (by omega) a b c d
     have f2':wr.frozen? ⟨g,k*4+2,none⟩=false:=f2
     have x2':wr.cell? ⟨g,k*4+2,none⟩=_:=x2
     have g2':wr.frozen? ⟨g,(k+1)*4+2,none⟩=false:=g2
     have yw2:wr.cell? ⟨g,(k+1)*4+2,none⟩=_:=y2
     have y2':=fun a b c d=>cell_set4 (o':=k*4) yw2 (by omega) a b c d
     have f3':wr.frozen? ⟨g,k*4+3,none⟩=false:=f3
     have x3':wr.cell? ⟨g,k*4+3,none⟩=_:=x3
     have g3':wr.frozen? ⟨g,(k+1)*4+3,none⟩=false:=g3
     have yw3:wr.cell? ⟨g,(k+1)*4+3,none⟩=_:=y3
     have y3':=fun a b c d=>cell_set4 (o':=k*4) yw3 (by omega) a b c d
     clear hx hy hi' hj'
     go_wp2_with fail
     go_big_region_o
     all_goals go_wp2_with fail
     refine ⟨⟨k+1,swp dq k (k+1),by go_num,by omega,by omega,hid (permIn_trans _ _ _ _ _ HP.out (swp_permIn dq a b k (k+1) (by omega) (by omega) (by omega) (by omega) HSD.out)),hid (fun z=>?_),hid HE2.out⟩,by simp [intOf];omega⟩
     rw [rot_up _ _ _ _ hk,swp_get dq k (k+1) HI.out HJ.out,HF.out,HF.out,HF.out]
    ·have hd6:decide ((k:Int)<(e:Int))=false:=decide_eq_false (by omega)
     obtain rfl:k=e:=by omega
     go_wp2_with fail
     go_end0
     have hke:=HE.out
     refine ⟨rfl,dq,HP.out,?_,HSW2.out⟩
     have hma:=HMA.out
     subst hma
     refine one_left HR2.out HT.out hi hj (fun x=>by rw [HF.out,show k+1=i by omega]) ?_ ?_
     ·rw [HXA.out];exact HLO.out
     ·rw [HXA.out];exact HHI.out.imp id Int.not_lt.2
end
end Go.Proofs.Ytbmhdfjaakkoaaa

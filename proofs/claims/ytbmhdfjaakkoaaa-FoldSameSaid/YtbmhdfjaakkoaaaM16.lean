/-
  FoSwap.
-/
import Derived.Shelf.SlSortCmp.KitK
import Derived.Lib.Hide
import Derived.Test.YtbmhdfjaakkoaaaM15
namespace Go.Proofs.Ytbmhdfjaakkoaaa
open Lib (hid)
section
open Go.RowKit Go.Lib Go.Sort Go.Shelf
theorem swk_cells {w0 W:World} {g:Nat} {d0 dk:Array Tg} (h:SWK encT 4 w0 g 0 dk W) (R:RowK encT 4 w0 g 0 d0) (hs:dk.size=d0.size) (i:Nat) (hi:i<dk.size) {x:Tg} (hx:dk[i]! = x) :
  W.cell? ⟨g,i*4,none⟩=some (.bool x.r.del)∧W.cell? ⟨g,i*4+1,none⟩=some (.int .u64 (x.r.seq:Int))∧W.cell? ⟨g,i*4+2,none⟩=some (.string (strOfNums x.r.key))∧W.cell? ⟨g,i*4+3,none⟩=some (.string (strOfNums x.r.val)):=by
 have hH:=h.holds R.hblk R.hH hs
 have go:∀ q,q<4→W.cell? ⟨g,i*4+q,none⟩=some (encT x)[q]!:=fun q hq=>by
  have:=(hH (i*4+q) (by rw [size_flatK];omega)).1
  rw [get_flatK encT 4 dk _ (by omega),show (i*4+q) / 4=i by omega,show (i*4+q) % 4=q by omega,hx,Nat.zero_add] at this
  exact this
 exact ⟨go 0 (by decide),go 1 (by decide),go 2 (by decide),go 3 (by decide)⟩
theorem swk_free {w0 W:World} {g:Nat} {d0 dk:Array Tg} (h:SWK encT 4 w0 g 0 dk W) (R:RowK encT 4 w0 g 0 d0) (hs:dk.size=d0.size) (i:Nat) (hi:i<dk.size) :
  W.frozen? ⟨g,i*4,none⟩=false∧W.frozen? ⟨g,i*4+1,none⟩=false∧W.frozen? ⟨g,i*4+2,none⟩=false∧W.frozen? ⟨g,i*4+3,none⟩=false:=by
 have hH:=h.holds R.hblk R.hH hs
 have go:∀ q,q<4→W.frozen? ⟨g,i*4+q,none⟩=false:=fun q hq=>by
  have:=(hH (i*4+q) (by rw [size_flatK];omega)).2
  rwa [Nat.zero_add] at this
 exact ⟨go 0 (by decide),go 1 (by decide),go 2 (by decide),go 3 (by decide)⟩
theorem swk_swapped {w0 W:World} {g:Nat} {d0 dk:Array Tg} (h:SWK encT 4 w0 g 0 dk W) (R:RowK encT 4 w0 g 0 d0) (i j:Nat) (hi:i<dk.size) (hj:j<dk.size) {x y:Tg} (hx:dk[i]! = x) (hy:dk[j]! = y) :
  SWK encT 4 w0 g 0 (swp dk i j) (((((((((W.setCell ⟨g,i*4,none⟩ (.bool y.r.del)).setCell ⟨g,i*4+1,none⟩ (.int .u64 (y.r.seq:Int))).setCell ⟨g,i*4+2,none⟩ (.string (strOfNums y.r.key))).setCell ⟨g,i*4+3,none⟩ (.string (strOfNums y.r.val))).setCell ⟨g,j*4,none⟩ (.bool x.r.del)).setCell ⟨g,j*4+1,none⟩ (.int .u64 (x.r.seq:Int))).setCell ⟨g,j*4+2,none⟩ (.string (strOfNums x.r.key))).setCell ⟨g,j*4+3,none⟩ (.string (strOfNums x.r.val))).drew):=by
 have:=h.swap R.hk R.hblk i j hi hj
 rw [hx,hy,Nat.zero_add,Nat.zero_add] at this
 exact this.drew
theorem swp_get (d:Array Tg) (i j:Nat) (hi:i<d.size) (hj:j<d.size) (x:Nat):(swp d i j)[x]! = if x=i then d[j]! else if x=j then d[i]! else d[x]!:=by
 by_cases h2:x=j
 ·subst h2
  rw [swp_right d i x hj]
  by_cases h1:x=i
  ·subst h1;rw [if_pos rfl]
  ·rw [if_neg h1,if_pos rfl]
 ·by_cases h1:x=i
  ·subst h1
   rw [if_pos rfl,swp_left d x j hi h2]
  ·rw [if_neg h1,if_neg h2,swp_other d i j x h1 h2]
theorem cell_set4 {w:World} {g o o':Nat} {v:Value} (h:w.cell? ⟨g,o,none⟩=some v) (hne:o<o' ∨ o'+4≤o) (a b c d:Value) :
  ((((w.setCell ⟨g,o',none⟩ a).setCell ⟨g,o'+1,none⟩ b).setCell ⟨g,o'+2,none⟩ c).setCell ⟨g,o'+3,none⟩ d).cell? ⟨g,o,none⟩=some v:=by
 rw [World.cell?_setCell_other,World.cell?_setCell_other,World.cell?_setCell_other,World.cell?_setCell_other]
 ·exact h
 all_goals (intro e;cases e;omega)
set_option maxHeartbeats 4000000 in
set_option maxRecDepth 100000 in
theorem swap_own (cap N:Nat) (w0:World) (g:Nat) (d0:Array Tg) (R:RowK encT 4 w0 g 0 d0) (hN:N=d0.size) (hN9:N≤100000) (cv:Value) (a b n:Nat) (dk:Array Tg) (hs:dk.size=d0.size) (hab:a+n≤b) (hb:b+n≤N) (W:World) (hW:SWK encT 4 w0 g 0 dk W) :
  Calls Try.prog 60 #[.slice (some ⟨g,0,none⟩) N cap,.int .i64 (a:Int),.int .i64 (b:Int),.int .i64 (n:Int),cv] W fun e w' =>
   e=.returned (.tuple #[])∧∃ d',PermIn a (b+n) dk d'∧(∀ x,d'[x]! = swF (fun x=>dk[x]!) a b n x)∧SWK encT 4 w0 g 0 d' w':=by
 have HR:Hid (RowK encT 4 w0 g 0 d0):=R
 have HW:=hid hW
 have HS:=hid hs
 have HN:=hid hN
 clear R hW hs hN
 go_enter Try.func60,Try.ntmps60
 go_wp2_with fail
 go_loopw [10] (fun v wr=>∃ (q:Nat) (dq:Array Tg),v=.int .i64 (q:Int)∧q≤n∧Hid (PermIn a (b+n) dk dq)∧Hid (∀ x,dq[x]! = swF (fun x=>dk[x]!) a b q x)∧Hid (SWK encT 4 w0 g 0 dq wr)) (fun v _=>n - (intOf v).toNat)
 case atStart=>exact ⟨0,dk,rfl,Nat.zero_le _,hid (permIn_refl _ _ _),hid (fun x=>(swF_zero _ _ _ _).symm),HW⟩
 case round =>
  obtain ⟨q,dq,rfl,hq,HP,HF,HSW⟩:=hrel
  by_cases hlt:q<n
  ·have hd:decide ((q:Int)<(n:Int))=true:=decide_eq_true (by omega)
   have hd2:decide (q<n)=true:=decide_eq_true hlt
   have hsz:dq.size=d0.size:=by rw [HP.out.1,HS.out]
   have hi:a+q<dq.size:=by rw [hsz,← HN.out];omega
   have hj:b+q<dq.size:=by rw [hsz,← HN.out];omega
   obtain ⟨x,hx⟩:∃ x,dq[a+q]! = x:=⟨_,rfl⟩
   obtain ⟨y,hy⟩:∃ y,dq[b+q]! = y:=⟨_,rfl⟩
   obtain ⟨x0,x1,x2,x3⟩:=swk_cells (HSW.out.drewN 1) HR.out hsz _ hi hx
   obtain ⟨y0,y1,y2,y3⟩:=swk_cells (HSW.out.drewN 1) HR.out hsz _ hj hy
   obtain ⟨f0,f1,f2,f3⟩:=swk_free (HSW.out.drewN 1) HR.out hsz _ hi
   obtain ⟨g0,g1,g2,g3⟩:=swk_free (HSW.out.drewN 1) HR.out hsz _ hj
   have HE:=hid (swk_swapped HSW.out HR.out _ _ hi hj hx hy)
   have HI:=hid hi
   have HJ:=hid hj
   change wr.drew.cell? _=_ at x0 x1 x2 x3 y0 y1 y2 y3
   change wr.drew.frozen? _=_ at f0 f1 f2 f3 g0 g1 g2 g3
   have HX:=hid hx
   have HY:=hid hy
   obtain ⟨i,hii⟩:∃ i,i=a+q:=⟨_,rfl⟩
   obtain ⟨j,hjj⟩:∃ j,j=b+q:=⟨_,rfl⟩
   rw [← hii] at x0 x1 x2 x3 f0 f1 f2 f3 HE HI HX
   rw [← hjj] at y0 y1 y2 y3 g0 g1 g2 g3 HE HJ HY
   have w1:IntKind.i64.wrap ((a:Int)+(q:Int))=(i:Int):=by rw [IntKind.wrap_i64];omega
   have w2:IntKind.i64.wrap ((b:Int)+(q:Int))=(j:Int):=by rw [IntKind.wrap_i64];omega
   have b1:(i:Int)<(N:Int):=by omega
   have b2:(j:Int)<(N:Int):=by omega
   have f0':wr.frozen? ⟨g,i*4,none⟩=false:=f0
   have f1':wr.frozen? ⟨g,i*4+1,none⟩=false:=f1
   have f2':wr.frozen? ⟨g,i*4+2,none⟩=false:=f2
   have f3':wr.frozen? ⟨g,i*4+3,none⟩=false:=f3
   have x0':wr.cell? ⟨g,i*4,none⟩=_:=x0
   have x1':wr.cell? ⟨g,i*4+1,none⟩=_:=x1
   have x2':wr.cell? ⟨g,i*4+2,none⟩=_:=x2
   have x3':wr.cell? ⟨g,i*4+3,none⟩=_:=x3
   have hij:i*4+4≤j*4:=by omega
   have g0':wr.frozen? ⟨g,j*4,none⟩=false:=g0
   have g1':wr.frozen? ⟨g,j*4+1,none⟩=false:=g1
   have g2':wr.frozen? ⟨g,j*4+2,none⟩=false:=g2
   have g3':wr.frozen? ⟨g,j*4+3,none⟩=false:=g3
   have yw0:wr.cell? ⟨g,j*4,none⟩=_:=y0
   have yw1:wr.cell? ⟨g,j*4+1,none⟩=_:=y1
   have yw2:wr.cell? ⟨g,j*4+2,none⟩=_:=y2
   have yw3:wr.cell? ⟨g,j*4+3,none⟩=_:=y3
   have y0':=fun a b c d=>cell_set4 yw0 (.inr (by omega:i*4+4≤j*4)) a b c d
   have y1':=fun a b c d=>cell_set4 yw1 (.inr (by omega:i*4+4≤j*4+1)) a b c d
   have y2':=fun a b c d=>cell_set4 yw2 (.inr (by omega:i*4+4≤j*4+2)) a b c d
   have y3':=fun a b c d=>cell_set4 yw3 (.inr (by omega:i*4+4≤j*4+3)) a b c d
   have HII:=hid hii
   have HJJ:=hid hjj
   have HQ:=hid hlt
   clear hx hy hi hj hsz hii hjj hlt
   have mixed:Try.prog.follows .mixedOrders=true:=by kernel_rfl
   go_wp2_with fail
   go_big_region_o
   all_goals go_wp2_with fail
   have hlt:=HQ.out
   have hii:=HII.out
   have hjj:=HJJ.out
   have hsd:b+n≤dq.size:=by rw [HP.out.1,HS.out,← HN.out];exact hb
   refine ⟨⟨q+1,swp dq i j,by go_num,by omega,hid (permIn_trans _ _ _ _ _ HP.out (swp_permIn dq a (b+n) i j (by omega) (by omega) (by omega) (by omega) hsd)),hid (fun z=>?_),hid HE.out⟩,by simp [intOf];omega⟩
   rw [swF_succ _ _ _ _ (by omega),swp_get dq i j HI.out HJ.out,← hii,← hjj,HF.out,HF.out,HF.out]
  ·have hd:decide ((q:Int)<(n:Int))=false:=decide_eq_false (by omega)
   have hd2:decide (q<n)=false:=decide_eq_false hlt
   obtain rfl:q=n:=by omega
   go_wp2_with fail
   go_end0
   exact ⟨rfl,dq,HP.out,HF.out,HSW.out⟩
end
end Go.Proofs.Ytbmhdfjaakkoaaa

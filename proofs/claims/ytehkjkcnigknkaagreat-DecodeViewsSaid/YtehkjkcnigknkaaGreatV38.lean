/-
  FenIter.
-/
import Derived.RangeFuncBox
import Derived.RangeFuncNested
import Derived.RangeFuncBound
import Derived.RangeFuncCalls
import Derived.RangeFuncLeaves
import Derived.Shelf.Abstract
import Derived.Shelf.RegionOpen
import Derived.OwnWalkIn
import Derived.TacticsInMore
import Derived.LoopNIn
import Derived.LoopIn
import Derived.Maps.AppendAt
import Derived.Lib.Hide
import Derived.Test.YtehkjkcnigknkaaGreatV26
namespace Go.Proofs.YtehkjkcnigknkaaGreat
open Lib (hid)
section
open Go.RowKit Go.Shelf
attribute [local go_sem] Oper.semAt_some
structure Blk (w:World) where
 q:Option Addr
 n:Nat
 d:Nat
 h:Nat
 hn:0<n
 hd:n≤d
 hd':d≤9223372036854775807
 hq:∃ a:Addr,q=some a∧w.cell? a=some (.int .u64 (h:Int))
def headsF (l:List En) (j:Nat):List Nat:=(List.range j).map fun i=>(l.getD (16*i) En.none).hash
theorem headsF_snoc (l:List En) (j:Nat):headsF l (j+1)=headsF l j ++ [(l.getD (16*j) En.none).hash]:=by
 unfold headsF
 rw [List.range_succ,List.map_append,List.map_singleton]
theorem headsF_more (l:List En) (e:En) (j:Nat) (hj:16*j<l.length+16):headsF (l ++ [e]) j=headsF l j:=by
 unfold headsF
 apply List.map_congr_left
 intro i hi
 have:=List.mem_range.1 hi
 rw [List.getD_eq_getElem?_getD,List.getD_eq_getElem?_getD,List.getElem?_append_left (by omega)]
theorem ofF_heads_rev:∀ l:List En,ofF l.reverse=headsF l.reverse ((l.length+15) / 16)
 | []=>rfl
 | e :: l=>by
  have ih:=ofF_heads_rev l
  have hl:l.reverse.length=l.length:=List.length_reverse
  rw [List.reverse_cons,ofF_snoc,ih,hl,List.length_cons]
  by_cases h:l.length % 16=0
  ·rw [if_pos h,show (l.length+1+15) / 16=(l.length+15) / 16+1 by omega,headsF_snoc,headsF_more _ e _ (by omega)]
   have e1:16*((l.length+15) / 16)=l.reverse.length:=by omega
   rw [e1]
   simp
  ·rw [if_neg h,show (l.length+1+15) / 16=(l.length+15) / 16 by omega,headsF_more _ e _ (by omega)]
theorem ofF_heads (l:List En):ofF l=headsF l ((l.length+15) / 16):=by
 have:=ofF_heads_rev l.reverse
 rwa [List.reverse_reverse,List.length_reverse] at this
def KeepB (n₀ B:Nat) (W W':World):Prop:=Below n₀ W W'∧W'.heap[B]?=W.heap[B]?
theorem KeepB.refl (n₀ B:Nat) (W:World):KeepB n₀ B W W:=⟨Below.refl _ _,rfl⟩
theorem keepB_t {n₀ B:Nat} {A C D:World} (h:KeepB n₀ B A C) (k:KeepB n₀ B C D):KeepB n₀ B A D:=⟨h.1.trans k.1,k.2.trans h.2⟩
theorem keepB_b {n₀ B:Nat} {w:World} (hn:n₀≤w.heap.size) (hB:B<w.heap.size) (W:World) (l:Nat) (o o':Obj) (hl:w.heap.size≤l) (h:W.heap[l]?=some o) (h1:o.isCells=false) (h2:o.isWalk=false):KeepB n₀ B W (W.putObj l o') :=
 ⟨belowK_b hn W l o o' hl h h1 h2,World.putObj_heap_other (by omega)⟩
set_option maxRecDepth 100000 in
set_option maxHeartbeats 2000000 in
theorem iter_blocks (n:Nat) (hn:1≤n) (l B:Nat) (w0:World) (p:Option Addr) (N c:Nat) (xs:List En) (hx:N=xs.length) (hc:N≤c) (hc':c≤9223372036854775807) (hN9:N≤1000000) (hb:EnsAt w0 p xs)
  (J Jx:List (Blk w0)→World→Prop)
  (hY:∀ pre x W,J pre W→pre.length<N+1→YieldAt Fence.wide (n - 1) Tryz.prog l #[.slice x.q x.n x.d] W fun e W' =>
   (e=.returned (.bool true)∧J (pre ++ [x]) W'∧KeepB w0.heap.size B W W') ∨ (e=.returned (.bool false)∧Jx (pre ++ [x]) W'))
  (W:World) (hB:W.cell? ⟨B,0,none⟩=some (.slice p N c)) (h0:J [] W) :
  CallsIn Fence.wide n Tryz.prog 186 #[.func (.yield l) #[] #[],.pointer (some ⟨B,0,none⟩)] W fun e W'=>(∃ v,e=.returned v) ∧
   ((∃ ys,ys.map Blk.h=ofF xs∧J ys W') ∨ (∃ pre,Jx pre W')):=by
 have HX:=hid hx
 have HBY:=hid hb
 have HB0:=hid hB
 clear hx hb
 refine callsIn_of_wp Tryz.func186 rfl trivial ?_ rfl
 simp only [Tryz.ntmps186,List.size_toArray,List.length_cons,List.length_nil,Nat.reduceAdd,Nat.reduceSub,Array.replicate_succ,Array.replicate_zero,List.push_toArray,List.append_toArray,List.nil_append,List.cons_append]
 gi_wp2
 gi_loopw [3] (fun v wr=>∃ (pre:List (Blk w0)) (j:Nat),v=.int .i64 ((16*j:Nat):Int)∧16*j<N+16∧pre.length=j∧pre.map Blk.h=headsF xs j∧J pre wr∧KeepB w0.heap.size B W wr)
  (fun v _=>N+16 - (intOf v).toNat)
 case atStart =>
  exact ⟨[],0,rfl,by omega,rfl,rfl,h0,KeepB.refl _ _ _⟩
 case round =>
  obtain ⟨pre,j,rfl,hj,hlen,hg,hJ,hBel⟩:=hrel
  have cB:wr.cell? ⟨B,0,none⟩=some (.slice p N c):=(cellOfBlock (a:=⟨B,0,none⟩) hBel.2).trans hB
  by_cases hlt:16*j<N
  ·have hdj:decide (((16*j:Nat):Int)<(N:Int))=true:=decide_eq_true (by omega)
   obtain ⟨a,rfl,c0,_⟩:=HBY.out.at_ (16*j) (by have:=HX.out;omega)
   have hsn:=headsF_snoc xs j
   rw [← hg] at hsn
   obtain ⟨h,hh⟩:∃ h,h=(xs.getD (16*j) En.none).hash:=⟨_,rfl⟩
   rw [← hh] at c0 hsn
   have HSn:=hid hsn
   have hl1:pre.length<N+1:=by omega
   obtain ⟨f,hf⟩:∃ f,f=16*j:=⟨_,rfl⟩
   have HF:=hid hf
   rw [← hf] at hdj hlt hj c0 ⊢
   have HJ:=hid hlen
   clear hf hh hsn hg hlen
   by_cases hm:f+16≤N
   ·obtain ⟨x,hxq,hxn,hxd,hxh⟩:∃ x:Blk w0,x.q=some (a.add (f*2))∧x.n=16∧x.d=c - f∧x.h=h:=⟨{ q:=some (a.add (f*2)),n:=16,d:=c - f,h:=h,hn:=by omega,hd:=by omega,hd':=by omega,hq:=⟨_,rfl,c0⟩ },rfl,rfl,rfl,rfl⟩
    obtain ⟨fn,tmps,assign,body,hy,hR⟩:=hY pre x wr hJ hl1
    rw [hxq,hxn,hxd] at hy
    have HRR:=hid hR
    have HXH:=hid hxh
    have hm1:(f:Int)+16≤(N:Int):=by omega
    clear hR hY hxh hJ hxq hxn hxd c0
    gi_wp2
    refine HRR.out.mono ?_
    rintro e W3 (⟨rfl,hJ3,hk3⟩|⟨rfl,hJx3⟩)
    ·have HJ3:=hid hJ3
     have HB3:=hid (keepB_t hBel hk3)
     clear hJ3 hk3 hBel
     gi_wp2
     exact ⟨⟨pre ++ [x],j+1,by rw [HF.out];go_num,by have:=HF.out;omega,by rw [List.length_append,List.length_singleton,HJ.out],by rw [List.map_append,List.map_singleton,HXH.out,← HSn.out],HJ3.out,HB3.out⟩,by simp [intOf];omega⟩
    ·gi_wp2
     go_returns
     exact ⟨⟨_,rfl⟩,.inr ⟨pre ++ [x],hJx3⟩⟩
   ·obtain ⟨x,hxq,hxn,hxd,hxh⟩:∃ x:Blk w0,x.q=some (a.add (f*2))∧x.n=N - f∧x.d=c - f∧x.h=h:=⟨{ q:=some (a.add (f*2)),n:=N - f,d:=c - f,h:=h,hn:=by omega,hd:=by omega,hd':=by omega,hq:=⟨_,rfl,c0⟩ },rfl,rfl,rfl,rfl⟩
    obtain ⟨fn,tmps,assign,body,hy,hR⟩:=hY pre x wr hJ hl1
    rw [hxq,hxn,hxd] at hy
    have HRR:=hid hR
    have HXH:=hid hxh
    have hm1:¬ (f:Int)+16≤(N:Int):=by omega
    clear hR hY hxh hJ hxq hxn hxd c0
    gi_wp2
    refine HRR.out.mono ?_
    rintro e W3 (⟨rfl,hJ3,hk3⟩|⟨rfl,hJx3⟩)
    ·have HJ3:=hid hJ3
     have HB3:=hid (keepB_t hBel hk3)
     clear hJ3 hk3 hBel
     gi_wp2
     exact ⟨⟨pre ++ [x],j+1,by rw [HF.out];go_num,by have:=HF.out;omega,by rw [List.length_append,List.length_singleton,HJ.out],by rw [List.map_append,List.map_singleton,HXH.out,← HSn.out],HJ3.out,HB3.out⟩,by simp [intOf];omega⟩
    ·gi_wp2
     go_returns
     exact ⟨⟨_,rfl⟩,.inr ⟨pre ++ [x],hJx3⟩⟩
  ·have hdj:decide (((16*j:Nat):Int)<(N:Int))=false:=decide_eq_false (by omega)
   have HE:Hid (pre.map Blk.h=ofF xs):=hid (by rw [hg,ofF_heads];congr 1;have:=HX.out;omega)
   obtain ⟨f,hf⟩:∃ f,f=16*j:=⟨_,rfl⟩
   rw [← hf] at hdj hlt hj ⊢
   clear hf hlen hg
   gi_wp2
   go_returns
   exact ⟨⟨_,rfl⟩,.inl ⟨pre,HE.out,hJ⟩⟩
end
end Go.Proofs.YtehkjkcnigknkaaGreat

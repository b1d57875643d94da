/-
  FenOfOwn.
-/
import Derived.Lib.Hide
import Derived.Test.YtehkjkcnigknkaaGreatV09
import Derived.Test.YtehkjkcnigknkaaGreatV28
import Derived.Test.YtehkjkcnigknkaaGreatV38
import Derived.Test.YtehkjkcnigknkaaGreatV39
namespace Go.Proofs.YtehkjkcnigknkaaGreat
open Lib (hid)
section
open Go.RowKit Go.Shelf
attribute [local go_sem] Oper.semAt_some
set_option maxHeartbeats 1000000 in
set_option maxRecDepth 10000 in
theorem blocks_own (n:Nat) (p:Option Addr) (N c:Nat) (w:World) :
  CallsIn Fence.wide n Tryz.prog 156 #[.slice p N c] w fun e w'=>e=.returned (.func (.func 186) #[] #[.pointer (some ⟨w.heap.size,0,none⟩)])∧w'=w.alloc (.cells #[.slice p N c] 124):=by
 refine callsIn_of_wp Tryz.func156 rfl trivial ?_ rfl
 simp only [Tryz.ntmps156,List.size_toArray,List.length_cons,List.length_nil,Nat.reduceAdd,Nat.reduceSub,Array.replicate_succ,Array.replicate_zero,List.push_toArray,List.append_toArray,List.nil_append,List.cons_append]
 gi_wp2
 go_ret
 exact ⟨rfl,rfl⟩
theorem blocks_stops (n:Nat) (hn:1≤n) (B:Nat) (w0 w:World) (p:Option Addr) (N c:Nat) (xs:List En) (hx:N=xs.length) (hc:N≤c) (hc':c≤9223372036854775807) (hN9:N≤1000000) (hb:EnsAt w0 p xs)
  (hB:w.cell? ⟨B,0,none⟩=some (.slice p N c)) (hBw:B<w.heap.size) :
  SeqStopsK Fence.wide n Tryz.prog 186 #[.pointer (some ⟨B,0,none⟩)] (fun x:Blk w0=>#[.slice x.q x.n x.d]) (KeepB w0.heap.size B) (fun ys=>ys.map Blk.h=ofF xs) (fun _=>True) (N+1) w :=
 fun l J Jx W hWB _ _ hY h0=>by
  have hB':=(hWB.cell (p:=⟨B,0,none⟩) hBw).trans hB
  refine (iter_blocks n hn l B w0 p N c xs hx hc hc' hN9 hb J Jx hY W hB' h0).mono ?_
  rintro e W' ⟨he,⟨ys,h1,h2⟩|⟨pre,h⟩⟩
  ·exact ⟨he,.inl ⟨ys,h1,h2⟩⟩
  ·exact ⟨he,.inr ⟨pre,trivial,h⟩⟩
theorem from_drew {B:Nat} {W X:World} (h:KeepsFrom B W.drew X):KeepsFrom B W X:=⟨h.size,h.same⟩
theorem below_drew {B:Nat} {W X:World} (h:Below B W.drew X):Below B W X:=⟨h.os,h.tape,h.output,h.size,h.block⟩
theorem own_lower {w:World} {b b' size k:Nat} {e:TypeId} {v:Value} {xs:List Value} (h:w.ownsRow b e size v k xs) (hb:b'≤b):w.ownsRow b' e size v k xs:=by
 rcases h with ⟨h1,h2|⟨g,cap,cur,rfl,hg,h3⟩⟩
 ·exact ⟨h1,.inl h2⟩
 ·exact ⟨h1,.inr ⟨g,cap,cur,rfl,Nat.le_trans hb hg,h3⟩⟩
set_option maxRecDepth 100000 in
set_option maxHeartbeats 2000000 in
theorem of_in (n:Nat) (hn:3≤n) (p:Option Addr) (N c:Nat) (xs:List En) (w:World) (hx:N=xs.length) (hc:N≤c) (hc':c≤9223372036854775807) (hN:N≤100000) (hb:EnsAt w p xs) :
  CallsIn Fence.wide n Tryz.prog 124 #[.slice p N c] w fun e W'=>∃ v,e=.returned v∧NumsSoFar w (ofF xs) v W':=by
 obtain ⟨i0,hi,hy0,hy1,hy2⟩:=info_parts infoU64
 have h1:1≤n:=by omega
 obtain ⟨M,hM⟩:∃ M,M=countF (N:Int):=⟨_,rfl⟩
 have hM1:M≤100000:=by rw [hM];unfold countF;omega
 have HM:=hid (fun w=>fcount_own (N:Int) w (by omega) (by omega))
 rw [← hM] at HM
 have HX:=hid hx
 have HBY:=hid hb
 clear hM hx hb
 refine callsIn_of_wp_marks Tryz.func124 rfl trivial ?_ rfl
 simp only [Tryz.ntmps124,List.size_toArray,List.length_cons,List.length_nil,Nat.reduceAdd,Nat.reduceSub,Array.replicate_succ,Array.replicate_zero,List.push_toArray,List.append_toArray,List.nil_append,List.cons_append]
 gi_wp2
 refine ⟨trivial,?_⟩
 refine (callsIn_wide.2 (HM.out _)).mono ?_
 rintro e w1 ⟨rfl,hk1⟩
 have hB1:Below w.heap.size w w1:=hk1.below (Nat.le_refl _) (fun _ _ h=>h)
 gi_wp2_with (gi_at_make;refine wpListIn_make_own _ rfl _ _ 98 rfl w1.heap.size 46 i0 (.int .u64 0) 1 Tryz.underlying98 hi hy0 hy1 .i64 .i64 (M:Int) M rfl rfl rfl (by rw [hy2];omega) (by unfold maxLen;omega) (Nat.le_refl _) ?_)
 intro w2 hrow hgrow
 have hB2:Below w1.heap.size w1 w2:=(Below.refl _ w1).grown hgrow (Nat.le_refl _) (fun k hk=>by cases hk)
 have hle:w1.heap.size≤w2.heap.size:=hB2.size
 gi_wp2
 refine ⟨trivial,?_⟩
 refine (blocks_own _ _ _ _ _).mono ?_
 rintro e w' ⟨rfl,rfl⟩
 gi_wp2
 have bS:=Boxed.new w2 98 (.slice (some ⟨w1.heap.size,0,none⟩) 0 M)
 have bN:=Boxed.new (w2.alloc (.cells #[.slice (some ⟨w1.heap.size,0,none⟩) 0 M] 98)) 124 (.slice p N c)
 rw [World.size_alloc] at bN
 have hB0:Below w1.heap.size w1 ((w2.alloc (.cells #[.slice (some ⟨w1.heap.size,0,none⟩) 0 M] 98)).alloc (.cells #[.slice p N c] 124)):=(hB2.alloc hle _).alloc (by simp;omega) _
 have hE1:=EnsAt.keep HBY.out hk1
 have HK1:=hid hk1
 clear hk1
 refine wpIn_rangeFunc_ownG rfl h1 (gf:=186) (lb:=#[.pointer (some ⟨w2.heap.size+1,0,none⟩)]) rfl trivial (enters_of Tryz.func186 (by kernel_rfl) rfl)
  (blocks_stops (n - 1) (by omega) (w2.heap.size+1) w1 _ p N c xs HX.out hc hc' (by omega) hE1 bN.cell (by simp)) keepB_t (keepB_b (by simp;omega) (by simp)) (Below.refl _ _) (fun _=>rfl)
  (fun pre W=>((∃ v,Boxed W w2.heap.size 98 v∧W.ownsRow w1.heap.size 46 1 v pre.length ((pre.map Blk.h).map numV)∧True)∧Boxed W (w2.heap.size+1) 124 (.slice p N c))∧Below w1.heap.size w1 W)
  (fun _ _ _=>False)
  (OwnFrom.and (OwnFrom.and (Own.from (holdsRow_own w1.heap.size w2.heap.size 98 46 1 (fun pre:List (Blk w1)=>pre.length) (fun pre=>(pre.map Blk.h).map numV) (fun _ _=>True)) _) (Own.from (boxed_own (w2.heap.size+1) 124 (fun _:List (Blk w1)=>.slice p N c)) _)) (ownFrom_below (Nat.le_refl _) (by simp;omega)))
  (fun _ _ _ _ _ hs _ _=>hs)
  ⟨⟨⟨_,bS.alloc _,(hrow.alloc _).alloc _,trivial⟩,bN⟩,hB0⟩
  (fun x=>{ tmps:=#[.slice p N c,undef,.slice none 0 0,.pointer (some ⟨w2.heap.size,0,none⟩),.slice x.q x.n x.d,.slice p N c,.int .i64 (N:Int),.int .i64 (M:Int),.slice (some ⟨w1.heap.size,0,none⟩) 0 M,.slice p N c,.func (.func 186) #[] #[.pointer (some ⟨w2.heap.size+1,0,none⟩)],.slice x.q x.n x.d,undef,undef,undef,undef,undef,undef,undef,undef],defers:=[] }) ?assign ?body ?done ?stop
 case assign =>
  intro l x W K hK
  gi_wp2
  exact hK
 case body =>
  rintro l pre x W ⟨⟨⟨v,hv,hrow,_⟩,hbx⟩,hB⟩ hlt
  obtain ⟨Kn,hKe⟩:∃ K,K=pre.length:=⟨_,rfl⟩
  rw [← hKe] at hrow hlt
  have HKE:=hid hKe
  clear hKe
  obtain ⟨a,haq,hca⟩:=x.hq
  have hn0:=x.hn
  have hn1:(0:Int)<(x.n:Int):=by omega
  have hca2:W.cell? a=some (.int .u64 (x.h:Int)):=(Keeps.ofBelow (S:=NoBlock) hB).cell hca (fun h=>h)
  rw [haq]
  gi_wp2
  have hv0:Boxed W.drew w2.heap.size 98 v:=hv
  have hrow0:W.drew.ownsRow w1.heap.size 46 1 v Kn ((pre.map Blk.h).map numV):=hrow
  have hbx0:Boxed W.drew (w2.heap.size+1) 124 (.slice p N c):=hbx
  have hB0':Below w1.heap.size w1 W.drew:=⟨hB.os,hB.tape,hB.output,hB.size,hB.block⟩
  clear hrow hbx
  refine wpIn_region_plain (S:=fun w':World=>w'.cell? a=some (.int .u64 (x.h:Int))) (by kernel_rfl) (by kernel_rfl) (by rintro ⟨_,_,h⟩;exact h) hca2 (fun hS=>?_)
  refine wpAnyH_take (i:=1) (v:=?vT1) rfl ?aT1 ?bT1 ?cT1 ?dT1 (Or.inl ⟨?eT1,?fT1⟩) hS ?gT1
  case fT1=>intro w hSw;(try dsimp only at hSw);go_simp;(try with_reducible rfl)
  case aT1=>kernel_rfl
  case bT1=>kernel_rfl
  case cT1=>kernel_rfl
  case dT1=>exact fun _ _ _ h=>h
  case eT1=>rfl
  simp only [Act.put,List.getElem_toArray,List.getElem_cons_zero,List.getElem_cons_succ,List.setIfInBounds_toArray,List.set_cons_zero,List.set_cons_succ]
  refine wpAnyH_take (i:=2) (v:=?vT2) rfl ?aT2 ?bT2 ?cT2 ?dT2 (Or.inl ⟨?eT2,?fT2⟩) hS ?gT2
  case fT2=>intro w hSw;(try dsimp only at hSw);go_simp;(try with_reducible rfl)
  case aT2=>kernel_rfl
  case bT2=>kernel_rfl
  case cT2=>kernel_rfl
  case dT2=>exact fun _ _ _ h=>h
  case eT2=>rfl
  simp only [Act.put,List.getElem_toArray,List.getElem_cons_zero,List.getElem_cons_succ,List.setIfInBounds_toArray,List.set_cons_zero,List.set_cons_succ]
  refine wpAnyH_take (i:=3) (v:=?vT3) rfl ?aT3 ?bT3 ?cT3 ?dT3 (Or.inl ⟨?eT3,?fT3⟩) hS ?gT3
  case fT3=>intro w hSw;(try dsimp only at hSw);go_simp;(try with_reducible rfl)
  case aT3=>kernel_rfl
  case bT3=>kernel_rfl
  case cT3=>kernel_rfl
  case dT3=>exact fun _ _ _ h=>h
  case eT3=>rfl
  simp only [Act.put,List.getElem_toArray,List.getElem_cons_zero,List.getElem_cons_succ,List.setIfInBounds_toArray,List.set_cons_zero,List.set_cons_succ]
  refine wpAnyH_take (i:=4) (v:=?vT4) rfl ?aT4 ?bT4 ?cT4 ?dT4 (Or.inl ⟨?eT4,?fT4⟩) hS ?gT4
  case fT4=>intro w hSw;(try dsimp only at hSw);go_simp;(try with_reducible rfl)
  case aT4=>kernel_rfl
  case bT4=>kernel_rfl
  case cT4=>kernel_rfl
  case dT4=>exact fun _ _ _ h=>h
  case eT4=>rfl
  simp only [Act.put,List.getElem_toArray,List.getElem_cons_zero,List.getElem_cons_succ,List.setIfInBounds_toArray,List.set_cons_zero,List.set_cons_succ]
  refine wpAnyH_ready (rs:=[0,5]) (by kernel_rfl) (by simp) ?_
  refine (AllReadyH.cons (o:=_) rfl (fun K hK=>?_) (AllReadyH.cons (o:=_) rfl (fun K hK=>?_) AllReadyH.nil))
  ·have hc0:=hv0.cell
   go_simp
   refine hK.out _ _ hS (fun _=>?_)
   clear hK K hc0
   refine wpAnyH_ready (rs:=[5]) (by kernel_rfl) (by simp) ?_
   refine (AllReadyH.cons (o:=_) rfl (fun K hK=>?_) AllReadyH.nil)
   go_simp
   have hS:(fun w':World=>w'.cell? a=some (.int .u64 (x.h:Int))) (W.drew.alloc (.cells #[.int .u64 (x.h:Int)] 46)):=((Keeps.refl NoBlock W).drew.alloc _).cell hca2 (fun h=>h)
   have hvA:Boxed (W.drew.alloc (.cells #[.int .u64 (x.h:Int)] 46)) w2.heap.size 98 v:=Boxed.alloc hv0 _
   have hRA:(W.drew.alloc (.cells #[.int .u64 (x.h:Int)] 46)).ownsRow w1.heap.size 46 1 v Kn ((pre.map Blk.h).map numV):=hrow0.alloc _
   have hbA:Boxed (W.drew.alloc (.cells #[.int .u64 (x.h:Int)] 46)) (w2.heap.size+1) 124 (.slice p N c):=Boxed.alloc hbx0 _
   refine hK.out _ _ hS (fun _=>?_)
   clear hK K
   refine wpAnyH_ready (rs:=[6]) (by kernel_rfl) (by simp) ?_
   refine (AllReadyH.cons (o:=_) rfl (fun K hK=>?_) AllReadyH.nil)
   refine step_append_own rfl _ _ 98 rfl w1.heap.size 46 i0 (.int .u64 0) 1 8 Tryz.underlying98 hi hy0 hy1 hy2 rfl (by decide) v Kn ((pre.map Blk.h).map numV) rfl hRA ⟨W.heap.size,0,none⟩ 1 1 [.int .u64 (x.h:Int)] rfl rfl (cell_one_new _ _ _) (by simp [Value.oneCell']) (by unfold maxLen;omega) (by omega) (by have:=hB.size;simp;omega) ?_
   intro v' wA hown' hgrow' _
   have hbB:=hbA.kept hgrow' (hbA.not_row (by decide) hRA)
   obtain ⟨g',cap',rfl⟩:=ownsRow_succ hown'
   obtain ⟨hv1,hv2,hr2,hk2,hb2⟩:=hv0.appended (by decide) hrow0 hB0'.size hle hown' hgrow'
   have hBA:Below w1.heap.size w1 wA:=(hB0'.alloc hB0'.size _).trans ((Below.refl _ _).grown hgrow' (by have:=hB.size;simp;omega) (fun k hk=>own_from hRA hk))
   have hS:(fun w':World=>w'.cell? a=some (.int .u64 (x.h:Int))) wA:=(Keeps.ofBelow (S:=NoBlock) hBA).cell hca (fun h=>h)
   have hc1:=hv1.cell
   have hf1:=hv1.frozen
   refine hK.out _ _ hS (fun _=>?_)
   clear hK K
   refine wpAnyH_ready (rs:=[7]) (by kernel_rfl) (by simp) ?_
   refine (AllReadyH.cons (o:=_) rfl (fun K hK=>?_) AllReadyH.nil)
   go_simp
   refine hK.out _ _ ((Keeps.ofBelow (S:=NoBlock) (hB0'.trans hb2)).cell hca (fun h=>h)) (fun _=>?_)
   clear hK K
   refine wpAnyH_done (by kernel_rfl) ?_ _
   have hbF:=hbB.other (show w2.heap.size+1 ≠ w2.heap.size by omega) (.slice (some ⟨g',0,none⟩) (Kn+1) cap')
   refine ⟨from_drew (hk2.from _),⟨below_drew hb2,hbF.trans hbx0.symm⟩,⟨⟨_,hv2,?_,trivial⟩,hbF⟩,hB0'.trans hb2⟩
   rw [List.length_append,List.length_singleton,← HKE.out,List.map_append,List.map_append]
   exact hr2
  ·go_simp
   have hS:(fun w':World=>w'.cell? a=some (.int .u64 (x.h:Int))) (W.drew.alloc (.cells #[.int .u64 (x.h:Int)] 46)):=((Keeps.refl NoBlock W).drew.alloc _).cell hca2 (fun h=>h)
   have hvA:Boxed (W.drew.alloc (.cells #[.int .u64 (x.h:Int)] 46)) w2.heap.size 98 v:=Boxed.alloc hv0 _
   have hRA:(W.drew.alloc (.cells #[.int .u64 (x.h:Int)] 46)).ownsRow w1.heap.size 46 1 v Kn ((pre.map Blk.h).map numV):=hrow0.alloc _
   have hbA:Boxed (W.drew.alloc (.cells #[.int .u64 (x.h:Int)] 46)) (w2.heap.size+1) 124 (.slice p N c):=Boxed.alloc hbx0 _
   refine hK.out _ _ hS (fun _=>?_)
   clear hK K
   refine wpAnyH_ready (rs:=[0]) (by kernel_rfl) (by simp) ?_
   refine (AllReadyH.cons (o:=_) rfl (fun K hK=>?_) AllReadyH.nil)
   have hc0:(W.alloc (.cells #[.int .u64 (x.h:Int)] 46)).cell? ⟨w2.heap.size,0,none⟩=some v:=(Boxed.alloc hv _).cell
   go_simp
   refine hK.out _ _ hS (fun _=>?_)
   clear hK K hc0
   refine wpAnyH_ready (rs:=[6]) (by kernel_rfl) (by simp) ?_
   refine (AllReadyH.cons (o:=_) rfl (fun K hK=>?_) AllReadyH.nil)
   refine step_append_own rfl _ _ 98 rfl w1.heap.size 46 i0 (.int .u64 0) 1 8 Tryz.underlying98 hi hy0 hy1 hy2 rfl (by decide) v Kn ((pre.map Blk.h).map numV) rfl hRA ⟨W.heap.size,0,none⟩ 1 1 [.int .u64 (x.h:Int)] rfl rfl (cell_one_new _ _ _) (by simp [Value.oneCell']) (by unfold maxLen;omega) (by omega) (by have:=hB.size;simp;omega) ?_
   intro v' wA hown' hgrow' _
   have hbB:=hbA.kept hgrow' (hbA.not_row (by decide) hRA)
   obtain ⟨g',cap',rfl⟩:=ownsRow_succ hown'
   obtain ⟨hv1,hv2,hr2,hk2,hb2⟩:=hv0.appended (by decide) hrow0 hB0'.size hle hown' hgrow'
   have hBA:Below w1.heap.size w1 wA:=(hB0'.alloc hB0'.size _).trans ((Below.refl _ _).grown hgrow' (by have:=hB.size;simp;omega) (fun k hk=>own_from hRA hk))
   have hS:(fun w':World=>w'.cell? a=some (.int .u64 (x.h:Int))) wA:=(Keeps.ofBelow (S:=NoBlock) hBA).cell hca (fun h=>h)
   have hc1:=hv1.cell
   have hf1:=hv1.frozen
   refine hK.out _ _ hS (fun _=>?_)
   clear hK K
   refine wpAnyH_ready (rs:=[7]) (by kernel_rfl) (by simp) ?_
   refine (AllReadyH.cons (o:=_) rfl (fun K hK=>?_) AllReadyH.nil)
   go_simp
   refine hK.out _ _ ((Keeps.ofBelow (S:=NoBlock) (hB0'.trans hb2)).cell hca (fun h=>h)) (fun _=>?_)
   clear hK K
   refine wpAnyH_done (by kernel_rfl) ?_ _
   have hbF:=hbB.other (show w2.heap.size+1 ≠ w2.heap.size by omega) (.slice (some ⟨g',0,none⟩) (Kn+1) cap')
   refine ⟨from_drew (hk2.from _),⟨below_drew hb2,hbF.trans hbx0.symm⟩,⟨⟨_,hv2,?_,trivial⟩,hbF⟩,hB0'.trans hb2⟩
   rw [List.length_append,List.length_singleton,← HKE.out,List.map_append,List.map_append]
   exact hr2
 case done =>
  rintro D ys W hD hS ⟨⟨⟨v,hv,hrow,_⟩,_⟩,hB⟩ hK
  have hc0:=hv.cell
  rw [hS] at hrow
  have hlen:ys.length=(ofF xs).length:=by rw [← hS,List.length_map]
  rw [hlen] at hrow
  gi_wp2
  refine ⟨by simp,.inl ⟨_,_,rfl,run_takeDeferred hK,?_⟩⟩
  have hle1:=HK1.out.size
  exact ⟨_,results_tmp rfl _ _ _,v,rfl,own_lower (ownsRow_putObj hrow _ hK rfl) hle1,hB1.trans ((hB.trans (belowK_b (w:=w1) (Nat.le_refl _) W D _ _ (by simp at hD;omega) hK rfl rfl)).mono hle1)⟩
 case stop =>
  rintro D c pre W _ _ h _
  exact h.elim
end
end Go.Proofs.YtehkjkcnigknkaaGreat

/-
  FoEqLay; FoSame; FoStep; FoApWalk.
-/
import Derived.Test.YtbmhdfjaakkoaaaProg
import Derived.Shelf.SlMaps.Equal
import Derived.Deep.Cut
import Derived.Laws.AppendOwnNone
import Derived.Deep.RegionHeld
import Derived.Deep.RegionHeld3
import Derived.Lib.Hide
import Derived.Test.YtbmhdfjaakkoaaaM07
import Derived.Test.YtbmhdfjaakkoaaaM08
import Derived.Test.YtbmhdfjaakkoaaaM15
import Derived.Test.YtbmhdfjaakkoaaaM23
namespace Go.Proofs.Ytbmhdfjaakkoaaa
open Lib (hid)
section
open Go.Shelf Go.RowKit Go.Lib
def eqLay_ren:Go.Shelf.Ren:=⟨fun|7=>33|n=>n,fun|23=>43|29=>43|26=>9|27=>3|31=>3|32=>56|4=>4|3=>3|0=>0|37=>61|n=>n,fun|n=>n⟩
theorem eqLay:SlLaysEq.n7 Try.prog eqLay_ren:={
 mixed:=by kernel_rfl
 f7:=⟨Try.f33.name,by decide,Try.func33.trans (congrArg some (by kernel_rfl))⟩
 t0:=Try.underlying0
 a0:=Try.isAgg0
 z0:=Try.sizeOf0
 v0:=Try.zeroValue0
 t3:=Try.underlying3
 a3:=Try.isAgg3
 z3:=Try.sizeOf3
 v3:=Try.zeroValue3
 t4:=Try.underlying4
 a4:=Try.isAgg4
 z4:=Try.sizeOf4
 v4:=Try.zeroValue4
 t23:=Try.underlying43
 a23:=Try.isAgg43
 z23:=Try.sizeOf43
 v23:=Try.zeroValue43
 a26:=Try.isAgg9
 z26:=Try.sizeOf9
 a27:=Try.isAgg3
 z27:=Try.sizeOf3
 t29:=Try.underlying43
 a29:=Try.isAgg43
 z29:=Try.sizeOf43
 v29:=Try.zeroValue43
 a31:=Try.isAgg3
 z31:=Try.sizeOf3
 t32:=Try.underlying56
 a32:=Try.isAgg56
 z32:=Try.sizeOf56
 v32:=Try.zeroValue56
 t37:=Try.underlying61
 a37:=Try.isAgg61
 z37:=Try.sizeOf61 }
end
section
open Go.RowKit Go.ChangeShapes Go.WideShapes Go.Maps Go.Shelf
theorem grown_trans {a b c:World} (h:a.grownBy b none) (g:b.grownBy c none):a.grownBy c none :=
 ⟨g.os.trans h.os,g.tape.trans h.tape,g.output.trans h.output,Nat.le_trans h.size g.size,fun k hk hn=>(g.block k (Nat.lt_of_lt_of_le hk h.size) hn).trans (h.block k hk hn)⟩
set_option maxHeartbeats 4000000 in
set_option maxRecDepth 100000 in
theorem say_same (p:Option Addr) (n c:Nat) (l:List Rec) (q:Option Addr) (m d:Nat) (k:List Rec) (B i j:Nat) (W:World) (hB:W.cell? ⟨B,0,none⟩=some (.slice p n c)) (hB2:W.cell? ⟨B+1,0,none⟩=some (.slice q m d))
  (h1:InR W p n c l) (h2:InR W q m d k) (hi:i<n) (hj:j<m) :
  Calls Try.prog 34 #[.int .i64 (i:Int),.int .i64 (j:Int),.pointer (some ⟨B,0,none⟩),.pointer (some ⟨B+1,0,none⟩)] W fun e w' =>
   e=.returned (.bool (decide (sayR (l.getD i Rec.none)=sayR (k.getD j Rec.none))))∧W.grownBy w' none:=by
 have H2:=hid h2
 have hil:i<l.length:=by rw [← h1.len];exact hi
 have hjl:j<k.length:=by rw [← h2.len];exact hj
 obtain ⟨a,rfl,x0,x1,x2,x3⟩:=h1.at_ i hil
 have HB2:=hid hB2
 have hfr:=h1.fine _ (getR_mem hil)
 have hfs:=h2.fine _ (getR_mem hjl)
 have HJL:=hid hjl
 obtain ⟨r,hr⟩:∃ r,r=l.getD i Rec.none:=⟨_,rfl⟩
 obtain ⟨s,hs⟩:∃ s,s=k.getD j Rec.none:=⟨_,rfl⟩
 rw [← hr] at x0 x1 x2 x3 hfr ⊢
 rw [← hs] at hfs ⊢
 have HSr:=hid (fun w=>says_own r w)
 have HSs:=hid (fun w=>says_own s w)
 unfold recV at HSr HSs
 have b1:(i:Int)<(n:Int):=by omega
 have b2:(j:Int)<(m:Int):=by omega
 have hor:Octets (sayR r).2:=by unfold sayR;split;exact (fun b hb=>by simp at hb);exact hfr.val
 have hos:Octets (sayR s).2:=by unfold sayR;split;exact (fun b hb=>by simp at hb);exact hfs.val
 have hsame:=same_str hor hos
 obtain ⟨u,hu⟩:∃ u,u=sayR r:=⟨_,rfl⟩
 obtain ⟨v,hv⟩:∃ v,v=sayR s:=⟨_,rfl⟩
 rw [← hu,← hv] at hsame
 rw [← hu] at HSr ⊢
 rw [← hv] at HSs ⊢
 obtain ⟨R,hR⟩:∃ R,R=decide (u=v):=⟨_,rfl⟩
 rw [← hR]
 have HRv:=hid hR
 have HS:=hid hs
 clear hR h1 h2 hil hjl hr hu hv hfr hfs hor hos hi hj hB2 hs
 go_enter Try.func34,Try.ntmps34
 go_wp2_with fail
 refine (HSr.out _).mono ?_
 rintro e w1 ⟨rfl,hg⟩
 have HG:=hid hg
 have hb2:w1.cell? ⟨B+1,0,none⟩=some (.slice q m d):=(grown_keeps hg).cell HB2.out (fun h=>h)
 obtain ⟨a2,rfl,y0,y1,y2,y3⟩:=(H2.out.keep (grown_keeps hg)).at_ j HJL.out
 rw [← HS.out] at y0 y1 y2 y3
 clear hg HSr x0 x1 x2 x3 hB
 go_wp2_with fail
 refine (HSs.out _).mono ?_
 rintro e w2 ⟨rfl,hg⟩
 have HG2:=hid (grown_trans HG.out hg)
 clear hg HSs y0 y1 y2 y3 hb2
 by_cases e1:u.1=v.1
 ·have d1:decide (u.1=v.1)=true:=decide_eq_true e1
  have d2:(u.1 == v.1)=true:=by simp [e1]
  by_cases e2:u.2=v.2
  ·rw [decide_eq_true e2] at hsame
   have HE:=hid (show decide (u=v)=true from decide_eq_true (Prod.ext e1 e2))
   clear e1 e2
   go_wp2_with fail
   go_ret
   exact ⟨by rw [HRv.out,HE.out];rfl,HG2.out⟩
  ·rw [decide_eq_false e2] at hsame
   have HE:=hid (show decide (u=v)=false from decide_eq_false (fun h=>e2 (congrArg Prod.snd h)))
   clear e1 e2
   go_wp2_with fail
   go_ret
   exact ⟨by rw [HRv.out,HE.out];rfl,HG2.out⟩
 ·have d1:decide (u.1=v.1)=false:=decide_eq_false e1
  have d2:(u.1 == v.1)=false:=by rw [beq_eq_false_iff_ne];exact e1
  have HE:=hid (show decide (u=v)=false from decide_eq_false (fun h=>e1 (congrArg Prod.fst h)))
  clear e1 hsame
  go_wp2_with fail
  go_ret
  exact ⟨by rw [HRv.out,HE.out];rfl,HG2.out⟩
set_option maxHeartbeats 4000000 in
set_option maxRecDepth 100000 in
theorem equal_own (p:Option Addr) (n c:Nat) (l:List Rec) (q:Option Addr) (m d:Nat) (k:List Rec) (B b1 b2:Nat) (W:World) (hB:W.cell? ⟨B,0,none⟩=some (.slice p n c)) (hB2:W.cell? ⟨B+1,0,none⟩=some (.slice q m d))
  (h1:InR W p n c l) (h2:InR W q m d k) (hn9:n≤10000) (hm9:m≤10000) (p1:PlAt W b1 n n (placeF l)) (p2:PlAt W b2 m m (placeF k)) :
  Calls Try.prog 33 #[.map (some b1),.map (some b2),.func (.func 34) #[] #[.pointer (some ⟨B,0,none⟩),.pointer (some ⟨B+1,0,none⟩)]] W fun e w' =>
   e=.returned (.bool (sameF l k))∧W.grownBy w' none:=by
 have ho1:∀ r ∈ l,Octets r.key:=fun r hr=>(h1.fine r hr).key
 have ho2:∀ r ∈ k,Octets r.key:=fun r hr=>(h2.fine r hr).key
 have eg:∀ args w,(callFunc 34 args).run Try.prog w=.ok (.enter 34 args) w:=enters_of Try.func34 (by kernel_rfl) rfl
 obtain ⟨D1,o1,d1⟩:=p1
 obtain ⟨D2,o2,d2⟩:=p2
 rw [h1.len] at o1
 rw [h2.len] at o2
 rw [← equal_same o1 o2 d1 d2 ho1 ho2]
 rw [← h1.len] at o1
 rw [← h2.len] at o2
 by_cases hm:0<m
 ·refine AnyEq.maps_EqualFunc_opt eqLay str_keyed (idxE n) (idxE m) (eqdR l k) 34 #[.pointer (some ⟨B,0,none⟩),.pointer (some ⟨B+1,0,none⟩)] (some b1) (some b2) D1 D2 W eg (.inr ⟨b1,_,rfl,o1⟩) (.inr ⟨b2,_,rfl,o2⟩) (.int .i64 0) Try.zeroValue3 (.lit (.int .i64 0)) [] (idxE_at hm) ?_
  intro W' x y xd yd xp yp hg hx hy
  obtain ⟨i,hi,rfl,e1⟩:=idxE_some hx
  obtain ⟨j,hj,rfl,e2⟩:=idxE_some hy
  obtain ⟨rfl,_⟩:=Prod.mk.inj e1
  obtain ⟨rfl,_⟩:=Prod.mk.inj e2
  have hk:=grown_keeps hg
  exact say_same p n c l q m d k B i j W' (hk.cell hB (fun h=>h)) (hk.cell hB2 (fun h=>h)) (h1.keep hk) (h2.keep hk) hi hj
 ·have hm0:m=0:=by omega
  subst hm0
  have hk0:k=[]:=List.length_eq_zero_iff.1 h2.len.symm
  subst hk0
  by_cases hn:n=0
  ·subst hn
   refine AnyEq.maps_EqualFunc_opt eqLay str_keyed (idxE 0) (plainElem Try.prog 3) (eqdR l []) 34 #[.pointer (some ⟨B,0,none⟩),.pointer (some ⟨B+1,0,none⟩)] (some b1) (some b2) D1 D2 W eg (.inr ⟨b1,_,rfl,o1⟩) (.inr ⟨b2,_,rfl,idx_plain o2 (by omega)⟩) (.int .i64 0) Try.zeroValue3 (.lit (.int .i64 0)) [] (plainElem_int intSU (by decide)) ?_
   intro W' x y xd yd xp yp hg hx hy
   obtain ⟨i,hi,_⟩:=idxE_some hx
   omega
  ·have hl:0<l.length:=by rw [← h1.len];omega
   have hs1:0<Maps.size D1:=by
    obtain ⟨n1,m1⟩:=strKeys_chars o1
    obtain ⟨es,hD,_⟩:=o1.entries str_keyed
    have hm:(strOfNums (l.getD 0 Rec.none).key).data.toList ∈ strKeys D1:=by
     rw [m1]
     have h3:=(d1 _ (ho1 _ (getR_mem hl))).1
     have h4:(placeF l (l.getD 0 Rec.none).key).isSome=true:=placeF_isSome.2 ⟨_,getR_mem hl,rfl⟩
     rw [h4] at h3
     exact h3
    have:Maps.size D1=(strKeys D1).length:=by rw [hD];exact (List.length_map ..).symm
    rw [this]
    exact List.length_pos_of_mem hm
   have hs2:Maps.size D2=0:=by
    obtain ⟨n2,m2⟩:=strKeys_chars o2
    obtain ⟨es,hD,_⟩:=o2.entries str_keyed
    have:Maps.size D2=(strKeys D2).length:=by rw [hD];exact (List.length_map ..).symm
    rw [this,List.length_eq_zero_iff]
    refine List.eq_nil_iff_forall_not_mem.2 (fun x hx=>?_)
    have h3:=(m2 x).1 hx
    rw [← kL_nB,(d2 _ (nB_oct x)).1] at h3
    obtain ⟨r,hr,_⟩:=placeF_isSome.1 h3
    simp at hr
   rw [sizes_false (by omega)]
   have hl1:=fun ty=>o1.len mapSU ty
   have hl2:=fun ty=>o2.len mapSU ty
   rw [hs2] at hl2
   obtain ⟨S,hS⟩:∃ S,S=Maps.size D1:=⟨_,rfl⟩
   rw [← hS] at hl1 hs1
   have hd1:((S:Int) != ((0:Nat):Int))=true:=by rw [bne_iff_ne];omega
   have hd2:((S:Int) == ((0:Nat):Int))=false:=by rw [beq_eq_false_iff_ne];omega
   have hd3:decide ((S:Int)=((0:Nat):Int))=false:=decide_eq_false (by omega)
   have hd4:((S:Int) != 0)=true:=by rw [bne_iff_ne];omega
   have hgr:W.grownBy W none:=⟨rfl,rfl,rfl,Nat.le_refl _,fun _ _ _=>rfl⟩
   have HGr:=hid hgr
   clear o1 o2 d1 d2 h1 h2 hB hB2 ho1 ho2 hS hgr hs2
   go_enter Try.func33,Try.ntmps33
   go_wp2_with fail
   go_ret
   exact ⟨rfl,HGr.out⟩
set_option maxHeartbeats 8000000 in
set_option maxRecDepth 100000 in
theorem same_own (p:Option Addr) (n c:Nat) (l:List Rec) (q:Option Addr) (m d:Nat) (k:List Rec) (w:World) (h1:InR w p n c l) (h2:InR w q m d k) (hn9:n≤10000) (hm9:m≤10000) :
  Calls Try.prog 21 #[.slice p n c,.slice q m d] w fun e w'=>e=.returned (.bool (sameF l k))∧Keeps NoBlock w w':=by
 have mixed:Try.prog.follows .mixedOrders=true:=by kernel_rfl
 obtain ⟨wB,hwB⟩:∃ wB,wB=(w.alloc (.cells #[.slice p n c] 22)).alloc (.cells #[.slice q m d] 22):=⟨_,rfl⟩
 have hkB:Keeps NoBlock w wB:=by rw [hwB];exact ((Keeps.refl NoBlock w).alloc _).alloc _
 have hca:wB.cell? ⟨w.heap.size,0,none⟩=some (.slice p n c):=by rw [hwB];exact ((Whole.new w 22 #[.slice p n c]).alloc _).cell 0 rfl
 have hcb:wB.cell? ⟨w.heap.size+1,0,none⟩=some (.slice q m d):=by rw [hwB];exact (Whole.newAt (w.alloc (.cells #[.slice p n c] 22)) 22 #[.slice q m d] (w.heap.size+1) (by simp)).cell 0 rfl
 have HPa:=hid (fun W (hk:Keeps NoBlock wB W)=>places_own p n c l W (h1.keep (hkB.trans hk)) (by omega))
 have HPb:=hid (fun W (hk:Keeps NoBlock wB W)=>places_own q m d k W (h2.keep (hkB.trans hk)) (by omega))
 have HEq:=hid (fun b1 b2 W (hk:Keeps NoBlock wB W) (p1:PlAt W b1 n n (placeF l)) (p2:PlAt W b2 m m (placeF k))=>equal_own p n c l q m d k w.heap.size b1 b2 W (hk.cell hca (fun h=>h)) (hk.cell hcb (fun h=>h)) (h1.keep (hkB.trans hk)) (h2.keep (hkB.trans hk)) hn9 hm9 p1 p2)
 have HKB:=hid hkB
 have HWB:=hid hwB
 have HKa:=hid (show Keeps NoBlock wB wB.drew from (Keeps.refl NoBlock wB).drewN 1)
 obtain ⟨R,hR⟩:∃ R,R=sameF l k:=⟨_,rfl⟩
 rw [← hR] at HEq ⊢
 clear h1 h2 hkB hwB hR
 go_enter Try.func21,Try.ntmps21
 go_upto_region 1 with (fail)
 rw [← HWB.out]
 have s0:(fun w':World=>w'.cell? ⟨w.heap.size,0,none⟩=some (.slice p n c)∧w'.cell? ⟨w.heap.size+1,0,none⟩=some (.slice q m d)) wB.drew:=And.intro hca hcb
 refine wp_region_held_drew (S:=fun w':World=>w'.cell? ⟨w.heap.size,0,none⟩=some (.slice p n c)∧w'.cell? ⟨w.heap.size+1,0,none⟩=some (.slice q m d)) (by kernel_rfl) s0 (fun hHeld=>?_)
 obtain ⟨Wc,hW⟩:∃ W,W=wB.drew:=⟨_,rfl⟩
 rw [← hW] at hHeld HKa s0 ⊢
 clear hW
 refine wpAnyH_take (i:=0) (v:=?vT1) rfl ?aT1 ?bT1 ?cT1 ?dT1 (Or.inl ⟨?eT1,?fT1⟩) hHeld ?gT1
 case fT1=>intro w hSw;(try dsimp only at hSw);go_simp;(try with_reducible rfl)
 case aT1=>kernel_rfl
 case bT1=>kernel_rfl
 case cT1=>kernel_rfl
 case dT1=>exact fun _ _ _ h=>h
 case eT1=>rfl
 simp only [Act.put,List.getElem_toArray,List.getElem_cons_zero,List.setIfInBounds_toArray,List.set_cons_zero,List.set_cons_succ]
 refine wpAnyH_take (i:=2) (v:=?vT2) rfl ?aT2 ?bT2 ?cT2 ?dT2 (Or.inl ⟨?eT2,?fT2⟩) hHeld ?gT2
 case fT2=>intro w hSw;(try dsimp only at hSw);go_simp;(try with_reducible rfl)
 case aT2=>kernel_rfl
 case bT2=>kernel_rfl
 case cT2=>kernel_rfl
 case dT2=>exact fun _ _ _ h=>h
 case eT2=>rfl
 simp only [Act.put,List.getElem_toArray,List.getElem_cons_zero,List.getElem_cons_succ,List.setIfInBounds_toArray,List.set_cons_zero,List.set_cons_succ]
 refine wpAnyH_take (i:=4) (v:=?vT3) rfl ?aT3 ?bT3 ?cT3 ?dT3 (Or.inl ⟨?eT3,?fT3⟩) hHeld ?gT3
 case fT3=>intro w hSw;(try dsimp only at hSw);go_simp;(try with_reducible rfl)
 case aT3=>kernel_rfl
 case bT3=>kernel_rfl
 case cT3=>kernel_rfl
 case dT3=>exact fun _ _ _ h=>h
 case eT3=>rfl
 simp only [Act.put,List.getElem_toArray,List.getElem_cons_zero,List.getElem_cons_succ,List.setIfInBounds_toArray,List.set_cons_zero,List.set_cons_succ]
 refine wpAnyH_ready (rs:=[1]) (by kernel_rfl) (by simp) ?_
 refine (AllReadyH.cons (o:=_) rfl (fun K hK=>?_) AllReadyH.nil)
 go_simp
 refine (HPa.out _ HKa.out).mono ?_
 rintro e v1 ⟨rfl,hp,hk⟩
 have HKb:=hid (HKa.out.trans hk)
 have HP1:=hid hp
 have hS:(fun w':World=>w'.cell? ⟨w.heap.size,0,none⟩=some (.slice p n c)∧w'.cell? ⟨w.heap.size+1,0,none⟩=some (.slice q m d)) v1:=And.intro (hk.cell s0.1 (fun h=>h)) (hk.cell s0.2 (fun h=>h))
 clear hp hk
 go_wp2_with fail
 refine hK.out _ _ hS (fun _=>?_)
 clear hK K
 refine wpAnyH_ready (rs:=[3]) (by kernel_rfl) (by simp) ?_
 refine (AllReadyH.cons (o:=_) rfl (fun K hK=>?_) AllReadyH.nil)
 go_simp
 refine (HPb.out _ HKb.out).mono ?_
 rintro e v2 ⟨rfl,hp,hk⟩
 have HKc:=hid (HKb.out.trans hk)
 have HP3:=hid (HP1.out.keep hk (fun h=>h))
 have HP2:=hid hp
 have hS:(fun w':World=>w'.cell? ⟨w.heap.size,0,none⟩=some (.slice p n c)∧w'.cell? ⟨w.heap.size+1,0,none⟩=some (.slice q m d)) v2:=And.intro (hk.cell hS.1 (fun h=>h)) (hk.cell hS.2 (fun h=>h))
 clear hp hk
 go_wp2_with fail
 refine hK.out _ _ hS (fun _=>?_)
 clear hK K
 refine wpAnyH_ready (rs:=[5]) (by kernel_rfl) (by simp) ?_
 refine (AllReadyH.cons (o:=_) rfl (fun K hK=>?_) AllReadyH.nil)
 go_simp
 refine (HEq.out _ _ _ HKc.out HP3.out HP2.out).mono ?_
 rintro e v3 ⟨rfl,hg⟩
 have HKd:=hid (HKc.out.trans (grown_keeps hg))
 have hS:(fun w':World=>w'.cell? ⟨w.heap.size,0,none⟩=some (.slice p n c)∧w'.cell? ⟨w.heap.size+1,0,none⟩=some (.slice q m d)) v3:=And.intro ((grown_keeps hg).cell hS.1 (fun h=>h)) ((grown_keeps hg).cell hS.2 (fun h=>h))
 clear hg
 go_wp2_with fail
 refine hK.out _ _ hS (fun _=>?_)
 clear hK K
 refine wpAnyH_take (i:=6) (v:=?vT4) rfl ?aT4 ?bT4 ?cT4 ?dT4 (Or.inl ⟨?eT4,?fT4⟩) hS ?gT4
 case fT4=>intro w hSw;(try dsimp only at hSw);go_simp;(try with_reducible rfl)
 case aT4=>kernel_rfl
 case bT4=>kernel_rfl
 case cT4=>kernel_rfl
 case dT4=>exact fun _ _ _ h=>h
 case eT4=>rfl
 simp only [Act.put,List.getElem_toArray,List.getElem_cons_zero,List.getElem_cons_succ,List.setIfInBounds_toArray,List.set_cons_zero,List.set_cons_succ]
 refine wpAnyH_done (by kernel_rfl) ?_ _
 clear hS s0
 go_wp2_with fail
 go_ret
 exact ⟨rfl,HKB.out.trans HKd.out⟩
theorem fosame_ok:FoSameOk:=⟨fun p n c l q m d k w h1 h2 hn hm=>same_own p n c l q m d k w h1 h2 hn hm⟩
end
section
open Go.RowKit
theorem wp_append_recs {o:Oper} {a:Act} {w w0:World} {K:Act→World→Prop} {Q:Exit→Act→World→Prop} (s x:Operand)
  (hop:o.op=.call { callee:=.builtin .append,args:=#[s,x],argTypes:=#[22,22] })
  (v:Value) (l:List Rec) (hs:a.eval s=v) (hown:RecsSoFar w0 l v w) (p:Option Addr) (m c:Nat) (l2:List Rec) (hx:a.eval x=.slice p m c) (hp0:p=none→m=0∧c=0) (hm:m=l2.length) (hat:RecsAt w p l2)
  (hroom:(l.length+m)*48≤140737488355328)
  (hK:∀ v' w',RecsSoFar w0 (l ++ l2) v' w'→w.grownBy w' v.ownBlock→K (a.put o.dst v') w') :
  Oper.wp Try.prog o a w K Q:=by
 obtain ⟨i0,hi,hz0,hz1,hz2⟩:=info_parts infoRc
 cases p with
 | none =>
  obtain ⟨rfl,rfl⟩:=hp0 rfl
  obtain rfl:l2=[]:=List.length_eq_zero_iff.1 hm.symm
  have hrun:=run_append_owned_none (P:=Try.prog) (w:=w) w0.heap.size 22 o.type 30 i0 4 Try.underlying22 hi v l.length (rcFlat l) hown.1
  unfold Oper.wp
  simp [execOp,hop,resolve,invoke,builtin,hs,hx,hrun,Result.andThen]
  exact hK v w (by rw [List.append_nil];exact hown) ⟨rfl,rfl,rfl,Nat.le_refl _,fun _ _ _=>rfl⟩
 | some ad =>
  obtain ⟨v',w',hrun,r1,r2,_⟩:=run_append_own (P:=Try.prog) w w0.heap.size 22 o.type 30 i0 (.agg #[.bool false,.int .u64 0,.string ⟨#[]⟩,.string ⟨#[]⟩]) 4 48 Try.underlying22 hi hz0 hz1 hz2 rfl (by decide) v l.length (rcFlat l) hown.1 ad m c (rcFlat l2) (by rw [rcFlat_len,hm]) (fun j u hj=>RecsAt.flat hat hj) (fun u hu=>by
   obtain ⟨r,_,hr⟩:=List.mem_flatMap.1 hu
   simp only [rcFour,List.mem_cons,List.not_mem_nil,or_false] at hr
   rcases hr with rfl|rfl|rfl|rfl <;> rfl) (by unfold maxLen;omega) (by omega) hown.2.size
  unfold Oper.wp
  simp [execOp,hop,resolve,invoke,builtin,hs,hx,hrun,Result.andThen]
  refine hK v' w' ⟨?_,hown.2.trans ((Below.refl _ w).grown r2 hown.2.size (fun k hk=>own_from hown.1 hk))⟩ r2
  rw [rcFlat_append,List.length_append,← hm]
  exact r1
theorem step_append_recs {ops:Array Oper} {o:Oper} {a:Act} {w w0:World} {K:Act→World→Prop} {Q:Exit→Act→World→Prop} {E:Prop} (hg:o.guard=none) (s x:Operand)
  (hop:o.op=.call { callee:=.builtin .append,args:=#[s,x],argTypes:=#[22,22] })
  (v:Value) (l:List Rec) (hs:a.eval s=v) (hown:RecsSoFar w0 l v w) (p:Option Addr) (m c:Nat) (l2:List Rec) (hx:a.eval x=.slice p m c) (hp0:p=none→m=0∧c=0) (hm:m=l2.length) (hat:RecsAt w p l2)
  (hroom:(l.length+m)*48≤140737488355328)
  (hK:∀ v' w',RecsSoFar w0 (l ++ l2) v' w'→w.grownBy w' v.ownBlock→K (a.put o.dst v') w') :
  if Region.wanted o (yielded ops a.tmps)=true then Oper.wp Try.prog o a w K Q else E:=by
 rw [if_pos (by simp [Region.wanted,hg])]
 exact wp_append_recs s x hop v l hs hown p m c l2 hx hp0 hm hat hroom hK
theorem wpList_append_recsW {ops:Array Oper} {rest:List Oper} {o:Oper} {a:Act} {w w0:World} {Q:Exit→Act→World→Prop} (hw:Region.wanted o (yielded ops a.tmps)=true) (s x:Operand)
  (hop:o.op=.call { callee:=.builtin .append,args:=#[s,x],argTypes:=#[22,22] })
  (v:Value) (l:List Rec) (hs:a.eval s=v) (hown:RecsSoFar w0 l v w) (p:Option Addr) (m c:Nat) (l2:List Rec) (hx:a.eval x=.slice p m c) (hp0:p=none→m=0∧c=0) (hm:m=l2.length) (hat:RecsAt w p l2)
  (hroom:(l.length+m)*48≤140737488355328)
  (hK:∀ v' w',RecsSoFar w0 (l ++ l2) v' w'→w.grownBy w' v.ownBlock→wpList Try.prog ops Q rest (a.put o.dst v') w') :
  wpList Try.prog ops Q (o :: rest) a w :=
 wpList_step fun K hK2=>by
  rw [if_pos hw]
  exact wp_append_recs s x hop v l hs hown p m c l2 hx hp0 hm hat hroom (fun v' w' h1 h2=>hK2 _ _ (hK v' w' h1 h2))
theorem RecsAt.single18 {w:World} {g:Nat} {r:Rec} (h:Whole w g 30 (recCells r)):RecsAt w (some ⟨g,0,none⟩) [r]:=fun i hi=>by
 obtain rfl:i=0:=by simpa using hi
 exact ⟨_,rfl,h.cell 0 rfl,h.cell 1 rfl,h.cell 2 rfl,h.cell 3 rfl⟩
theorem RecsSoFar.made1 (w:World) (r:Rec):RecsSoFar w [r] (.slice (some ⟨w.heap.size,0,none⟩) 1 1) (w.alloc (.cells (recCells r) 30)) :=
 ⟨⟨rfl,.inr ⟨w.heap.size,1,recCells r,rfl,Nat.le_refl _,heap_alloc_new w _,Nat.le_refl _,by decide,rfl,rfl⟩⟩,(Below.refl _ w).alloc (Nat.le_refl _) _⟩
end
section
open Go.RowKit
theorem few_more18 {l:List Rec} {r:Rec} {a b:Nat} (h:fewR ([r] ++ l) (a+1) b=true):l.length≤a∧(∀ x ∈ l,x.key.length≤b∧x.val.length≤b)∧r.key.length≤b∧r.val.length≤b:=by
 obtain ⟨h1,h2⟩:=few_rows18 h
 exact ⟨by simp at h1;omega,fun x hx=>h2 x (by simp [hx]),h2 r (by simp)⟩
set_option maxHeartbeats 16000000 in
set_option maxRecDepth 10000 in
theorem foldappends_walk (HA:FoAtOk) (p:Option Addr) (n c:Nat) (l:List Rec) (r:Rec) (w:World) (hn:n=l.length) (hc:n≤c) (hc':c≤9223372036854775807) (hbare:p=none→n=0∧c=0) (hf:∀ r ∈ l,r.Fine) (hb:∀ r ∈ l,r.key.length≤9223372036854775807∧r.val.length≤9223372036854775807) (hl:RecsAt w p l) (hrf:r.Fine) (hrl:r.key.length≤9223372036854775807∧r.val.length≤9223372036854775807) (hn9:n*48≤140737488351232) :
  Calls Try.prog 6 #[.slice p n c,recV r] w fun e w'=>e=.returned (.bool true)∧Keeps NoBlock w w':=by
 have HLv:=hid (fun w=>lives18_true HA w)
 have HL:=hid hl
 have HBr:=hid hbare
 have HN:=hid hn
 have HFw:=hid (fun q m d (W:World) (hm:m=1+n) hl=>few_any q m d ([r] ++ l) 61 300 61 300 rfl rfl (by rw [hm,hn];simp;omega) (by omega) (fun x hx=>by
  rcases List.mem_append.1 hx with h|h
  ·rw [List.mem_singleton.1 h];exact hrl
  ·exact hb x h) W hl)
 have HBx:=hid (Whole.new w 30 (recCells r))
 have HK:=hid ((Keeps.refl NoBlock w).alloc (.cells (recCells r) 30))
 have HFe:=hid (fun (h:fewR ([r] ++ l) 61 300=true)=>few_more18 h)
 have HFi:=hid (And.intro hf hrf)
 have HCc:=hid (And.intro hc hc')
 obtain ⟨fe,hfe⟩:∃ fe,fe=fewR ([r] ++ l) 61 300:=⟨_,rfl⟩
 rw [← hfe] at HFw HFe
 clear hn hc hc' hf hb hl hrf hrl hbare hfe
 unfold recV at *
 unfold recCells at HBx HK
 obtain ⟨g,hg⟩:∃ g,g=w.heap.size:=⟨_,rfl⟩
 rw [← hg] at HBx
 go_enter Try.func6,Try.ntmps6
 go_wp2_with fail
 rw [← hg]
 clear hg
 refine (HLv.out _).mono ?_
 rintro e w1 ⟨rfl,hk⟩
 have HK:=hid (HK.out.trans hk)
 have HBx:=hid (HBx.out.keep hk (fun h=>h))
 have HL:=hid (HL.out.keep HK.out (fun _ _ h=>h))
 clear hk
 obtain ⟨x0,x1,x2,x3⟩:=rec_cells HBx.out
 have HO1:=hid (RecsSoFar.made1 w1 r)
 have HLa:=hid (HL.out.keep ((Keeps.refl NoBlock w1).alloc (.cells (recCells r) 30)) (fun _ _ h=>h))
 unfold recCells at HO1 HLa
 go_wp2_with (at_builtin;refine wpList_append_recsW (by rfl) _ _ rfl _ [r] rfl HO1.out p n c l rfl HBr.out HN.out HLa.out (by simp;omega) ?_)
 intro v2 w2 h2 _
 obtain ⟨q2,m2,d2,rfl,hm2,_,_,_,hat2,hk⟩:=h2.new
 have HK:=hid (HK.out.trans hk)
 have HBx:=hid (HBx.out.keep hk (fun h=>h))
 have HL:=hid (HL.out.keep hk (fun _ _ h=>h))
 have HFx:=hid (HFw.out q2 m2 d2 w2 (by rw [hm2,List.length_cons,← HN.out,Nat.add_comm]) hat2)
 clear hk h2 hm2 hat2 HO1 HLa x0 x1 x2 x3 HFw
 go_wp2_with fail
 refine HFx.out.mono ?_
 rintro e w3 ⟨rfl,hk⟩
 have HK:=hid (HK.out.trans hk)
 have HBx:=hid (HBx.out.keep hk (fun h=>h))
 have HL:=hid (HL.out.keep hk (fun _ _ h=>h))
 clear hk HFx
 cases fe with
 | false =>
  clear HFe
  go_wp2_with fail
  refine (HLv.out _).mono ?_
  rintro e w4 ⟨rfl,hk⟩
  have HK:=hid (HK.out.trans hk)
  clear hk
  go_wp2_with fail
  go_ret
  exact ⟨rfl,HK.out⟩
 | true =>
  obtain ⟨f1,f2,f3⟩:=HFe.out rfl
  have HI:=hid (show InR w3 p n c l from ⟨HN.out,HCc.out.1,HCc.out.2,HFi.out.1,fun x hx=>by have:=(f2 x hx).1;omega,fun x hx=>by have:=(f2 x hx).2;omega,HL.out⟩)
  have hn60:n≤60:=by rw [HN.out];exact f1
  have HMo:=hid (show ∀ w v w',NewRecs w (l ++ [r]) v w'→∃ q m d,v=.slice q m d∧m≤61∧InR w' q m d (l ++ [r])∧Keeps NoBlock w w' from fun w v w' h=>by
   obtain ⟨q,m,d,rfl,hm,hmd,hd,_,hat,hk⟩:=h
   have hall:∀ x ∈ l ++ [r],x.Fine∧x.key.length≤100000∧x.val.length≤100000:=fun x hx=>by
    rcases List.mem_append.1 hx with h|h
    ·exact ⟨HFi.out.1 x h,by have:=(f2 x h).1;omega,by have:=(f2 x h).2;omega⟩
    ·rw [List.mem_singleton.1 h]
     exact ⟨HFi.out.2,by have:=f3.1;omega,by have:=f3.2;omega⟩
   exact ⟨q,m,d,rfl,by rw [hm,List.length_append,← HN.out];simp;omega,⟨hm,hmd,hd,fun x hx=>(hall x hx).1,fun x hx=>(hall x hx).2.1,fun x hx=>(hall x hx).2.2,hat⟩,hk⟩)
  have HKey:=hid (And.intro (fun x hx=>And.intro (HFi.out.1 x hx).key (f2 x hx).1) (And.intro HFi.out.2.key f3.1))
  have HA1:=hid (fun x W (h:InR W p n c l) h1 h2=>HA.at_ p n c l x W h (by omega) h1 h2)
  have HA2:=hid (fun x W q m d (h:InR W q m d (l ++ [r])) (h9:m≤100000) h1 h2=>HA.at_ q m d (l ++ [r]) x W h h9 h1 h2)
  have HSn:=hid (fun k=>atF_snoc l r k)
  obtain ⟨LR,hLR⟩:∃ LR,LR=l ++ [r]:=⟨_,rfl⟩
  rw [← hLR] at HMo HA2 HSn
  have HLR:=hid hLR
  clear f1 f2 f3 HFe HA HLv HFi HCc hLR hn9 HL
  go_wp2_with fail
  obtain ⟨X0,hX0⟩:∃ W,W=w3.drew:=⟨_,rfl⟩
  have HKx:Hid (Keeps NoBlock w3 X0):=hid (by rw [hX0];exact (Keeps.refl _ _).drew)
  have HB30:=HBx
  have HBx:Hid (Whole X0 g 30 #[.bool r.del,.int .u64 (r.seq:Int),.string (strOfNums r.key),.string (strOfNums r.val)]):=hid (HBx.out.keep HKx.out (fun h=>h))
  have hS:=rec_cells HBx.out
  have HB3:Hid (Whole w3 g 30 #[.bool r.del,.int .u64 (r.seq:Int),.string (strOfNums r.key),.string (strOfNums r.val)]):=HB30
  refine wp_region_held_drew (S:=fun w':World=>w'.cell? ⟨g,0,none⟩=some (.bool r.del)∧w'.cell? ⟨g,1,none⟩=some (.int .u64 (r.seq:Int))∧w'.cell? ⟨g,2,none⟩=some (.string (strOfNums r.key))∧w'.cell? ⟨g,3,none⟩=some (.string (strOfNums r.val))) (by kernel_rfl) (by rw [← hX0];exact hS) (fun _=>?_)
  rw [← hX0]
  clear hX0
  refine wpAnyH_take (i:=1) (v:=?vT1) rfl ?aT1 ?bT1 ?cT1 ?dT1 (Or.inl ⟨?eT1,?fT1⟩) hS ?gT1
  case fT1=>intro w hSw;(try dsimp only at hSw);go_simp;(try with_reducible rfl)
  case aT1=>kernel_rfl
  case bT1=>kernel_rfl
  case cT1=>kernel_rfl
  case dT1=>exact fun _ _ _ h=>h
  case eT1=>rfl
  simp only [Act.put,List.getElem_toArray,List.getElem_cons_zero,List.getElem_cons_succ,List.setIfInBounds_toArray,List.set_cons_zero,List.set_cons_succ]
  refine wpAnyH_take (i:=3) (v:=?vT2) rfl ?aT2 ?bT2 ?cT2 ?dT2 (Or.inl ⟨?eT2,?fT2⟩) hS ?gT2
  case fT2=>intro w hSw;(try dsimp only at hSw);go_simp;(try with_reducible rfl)
  case aT2=>kernel_rfl
  case bT2=>kernel_rfl
  case cT2=>kernel_rfl
  case dT2=>exact fun _ _ _ h=>h
  case eT2=>rfl
  simp only [Act.put,List.getElem_toArray,List.getElem_cons_zero,List.getElem_cons_succ,List.setIfInBounds_toArray,List.set_cons_zero,List.set_cons_succ]
  refine wpAnyH_ready (rs:=[0,4]) (by kernel_rfl) (by simp) ?_
  refine (AllReadyH.cons (o:=_) rfl (fun K hK=>?_) (AllReadyH.cons (o:=_) rfl (fun K hK=>?_) AllReadyH.nil))
  ·obtain ⟨ge,hge⟩:∃ g,g=X0.heap.size:=⟨_,rfl⟩
   obtain ⟨X1,hwx⟩:∃ W,W=X0.alloc (.cells #[] 30):=⟨_,rfl⟩
   have hka:Keeps NoBlock X0 X1:=by rw [hwx];exact (Keeps.refl _ _).alloc _
   have HE:Hid (RecsSoFar w3 [] (.slice (some ⟨ge,0,none⟩) 0 0) X1):=hid (by rw [hwx,hge];exact (RecsSoFar.made X0).lower HKx.out)
   have HBx:=hid (HBx.out.keep hka (fun h=>h))
   have HKx:=hid (HKx.out.trans hka)
   have hS:(fun w':World=>w'.cell? ⟨g,0,none⟩=some (.bool r.del)∧w'.cell? ⟨g,1,none⟩=some (.int .u64 (r.seq:Int))∧w'.cell? ⟨g,2,none⟩=some (.string (strOfNums r.key))∧w'.cell? ⟨g,3,none⟩=some (.string (strOfNums r.val))) X1:=rec_cells HBx.out
   go_simp
   rw [← hwx,← hge]
   refine hK.out _ _ hS (fun _=>?_)
   clear hK K hwx hge hka
   refine wpAnyH_ready (rs:=[2,4]) (by kernel_rfl) (by simp) ?_
   refine (AllReadyH.cons (o:=_) rfl (fun K hK=>?_) (AllReadyH.cons (o:=_) rfl (fun K hK=>?_) AllReadyH.nil))
   ·refine step_append_recs rfl _ _ rfl _ [] rfl HE.out p n c l rfl HBr.out HN.out (HI.out.keep HKx.out).at_ (by simp;omega) ?_
    intro ve X2 hrow hgrow
    have hk2:=hrow.keeps
    have HE:=hid (show RecsSoFar w3 l ve X2 from hrow)
    have HBx:Hid (Whole X2 g 30 #[.bool r.del,.int .u64 (r.seq:Int),.string (strOfNums r.key),.string (strOfNums r.val)]):=hid (HB3.out.keep hk2 (fun h=>h))
    have HKx:=hid hk2
    have hS:(fun w':World=>w'.cell? ⟨g,0,none⟩=some (.bool r.del)∧w'.cell? ⟨g,1,none⟩=some (.int .u64 (r.seq:Int))∧w'.cell? ⟨g,2,none⟩=some (.string (strOfNums r.key))∧w'.cell? ⟨g,3,none⟩=some (.string (strOfNums r.val))) X2:=rec_cells HBx.out
    refine hK.out _ _ hS (fun _=>?_)
    clear hK K hrow hgrow hk2
    refine wpAnyH_ready (rs:=[4]) (by kernel_rfl) (by simp) ?_
    refine (AllReadyH.cons (o:=_) rfl (fun K hK=>?_) AllReadyH.nil)
    obtain ⟨gn,hgn⟩:∃ g,g=X2.heap.size:=⟨_,rfl⟩
    obtain ⟨X3,hwx⟩:∃ W,W=X2.alloc (.cells #[.bool r.del,.int .u64 (r.seq:Int),.string (strOfNums r.key),.string (strOfNums r.val)] 30):=⟨_,rfl⟩
    have hka:Keeps NoBlock X2 X3:=by rw [hwx];exact (Keeps.refl _ _).alloc _
    have HNb:Hid (Whole X3 gn 30 (recCells r)):=hid (by rw [hwx,hgn];exact Whole.new _ _ _)
    have hap:=HE.out.apart (Nat.le_of_eq hgn.symm)
    have HE:=hid (HE.out.keep hka)
    have HBx:=hid (HBx.out.keep hka (fun h=>h))
    have HKx:=hid (HKx.out.trans hka)
    have hS:(fun w':World=>w'.cell? ⟨g,0,none⟩=some (.bool r.del)∧w'.cell? ⟨g,1,none⟩=some (.int .u64 (r.seq:Int))∧w'.cell? ⟨g,2,none⟩=some (.string (strOfNums r.key))∧w'.cell? ⟨g,3,none⟩=some (.string (strOfNums r.val))) X3:=rec_cells HBx.out
    go_simp
    rw [← hwx,← hgn]
    refine hK.out _ _ hS (fun _=>?_)
    clear hK K hwx hgn hka
    refine wpAnyH_ready (rs:=[5]) (by kernel_rfl) (by simp) ?_
    refine (AllReadyH.cons (o:=_) rfl (fun K hK=>?_) AllReadyH.nil)
    refine step_append_recs rfl _ _ rfl _ l rfl HE.out (some ⟨gn,0,none⟩) 1 1 [r] rfl (fun h=>by simp at h) rfl (RecsAt.single18 HNb.out) (by have:=HN.out;omega) ?_
    intro vf X4 hrow _
    rw [← HLR.out] at hrow
    obtain ⟨qM,mM,dM,rfl,hmM,hIM,hk2⟩:=HMo.out _ _ _ hrow.new
    have HIM:=hid hIM
    have HKx:=hid hk2
    have HBx:Hid (Whole X4 g 30 #[.bool r.del,.int .u64 (r.seq:Int),.string (strOfNums r.key),.string (strOfNums r.val)]):=hid (HB3.out.keep hk2 (fun h=>h))
    have hS:(fun w':World=>w'.cell? ⟨g,0,none⟩=some (.bool r.del)∧w'.cell? ⟨g,1,none⟩=some (.int .u64 (r.seq:Int))∧w'.cell? ⟨g,2,none⟩=some (.string (strOfNums r.key))∧w'.cell? ⟨g,3,none⟩=some (.string (strOfNums r.val))) X4:=rec_cells HBx.out
    refine hK.out _ _ hS (fun _=>?_)
    clear hK K hrow hk2 hIM HNb HE
    refine wpAnyH_take (i:=6) (v:=?vT3) rfl ?aT3 ?bT3 ?cT3 ?dT3 (Or.inl ⟨?eT3,?fT3⟩) hS ?gT3
    case fT3=>intro w hSw;(try dsimp only at hSw);go_simp;(try with_reducible rfl)
    case aT3=>kernel_rfl
    case bT3=>kernel_rfl
    case cT3=>kernel_rfl
    case dT3=>exact fun _ _ _ h=>h
    case eT3=>rfl
    simp only [Act.put,List.getElem_toArray,List.getElem_cons_zero,List.getElem_cons_succ,List.setIfInBounds_toArray,List.set_cons_zero,List.set_cons_succ]
    refine wpAnyH_done (by kernel_rfl) ?_ _
    have HI:=hid (HI.out.keep HKx.out)
    have HK:=hid (HK.out.trans HKx.out)
    clear HKx hS HB3
    obtain ⟨y0,y1,y2,y3⟩:=rec_cells HBx.out
    have HAr:=hid (fun W h=>HA2.out r.key W qM mM dM h (by omega) HKey.out.2.1 (by have:=HKey.out.2.2;omega))
    rw [HSn.out,if_pos rfl] at HAr
    go_wp2_with fail
    refine (HAr.out _ HIM.out).mono ?_
    rintro e w6 ⟨rfl,hk⟩
    have HI:=hid (HI.out.keep hk)
    have HIM:=hid (HIM.out.keep hk)
    have HBx:=hid (HBx.out.keep hk (fun h=>h))
    have HK:=hid (HK.out.trans hk)
    clear hk y0 y1 y2 y3 HAr
    obtain ⟨y0,y1,y2,y3⟩:=rec_cells HBx.out
    have hsay:(r.del=true∧sayR r=(1,[])) ∨ (r.del=false∧sayR r=(2,r.val)):=by
     unfold sayR
     cases r.del
     ·exact .inr ⟨rfl,rfl⟩
     ·exact .inl ⟨rfl,rfl⟩
    rcases hsay with ⟨hd,hs⟩|⟨hd,hs⟩
    all_goals
     rw [hs]
     rw [hd] at y0
     have he0:strOfNums []=⟨#[]⟩:=rfl
     try rw [he0]
     have HSy:=hid hs
     clear hs he0
     go_wp2_with fail
     go_loopw [65] (fun x wr=>∃ i:Nat,i≤n∧x=.int .i64 (i:Int)∧Hid (Keeps NoBlock w6 wr)) (fun x _=>n - (intOf x).toNat)
     case atStart=>exact ⟨0,Nat.zero_le _,rfl,hid (Keeps.refl _ _)⟩
     case round =>
      clear y0 y1 y2 y3
      obtain ⟨i,hi,rfl,HKq⟩:=hrel
      by_cases hli:i<n
      rotate_left
      ·have hdi:decide ((i:Int)<(n:Int))=false:=decide_eq_false (by omega)
       have hdi2:decide (i<n)=false:=decide_eq_false hli
       go_wp2_with fail
       go_ret
       exact ⟨rfl,HK.out.trans HKq.out⟩
      have hdi:decide ((i:Int)<(n:Int))=true:=decide_eq_true (by omega)
      have hdi2:decide (i<n)=true:=decide_eq_true hli
      have hil:i<l.length:=by rw [← HN.out];exact hli
      have hIq:=HI.out.keep HKq.out
      obtain ⟨a,hqa,x0,x1,x2,x3⟩:=hIq.at_ i hil
      obtain rfl:=hqa
      have hfi:=HKey.out.1 _ (getR_mem hil)
      have hcmp:=same_str hfi.1 HKey.out.2.1
      obtain ⟨x,hx⟩:∃ x,x=l.getD i Rec.none:=⟨_,rfl⟩
      rw [← hx] at x0 x1 x2 x3 hfi hcmp
      have hka:Keeps NoBlock wr (wr.alloc (.cells (recCells x) 30)):=(Keeps.refl NoBlock wr).alloc _
      have HIa:=hid (hIq.keep hka)
      have HMa:=hid ((HIM.out.keep HKq.out).keep hka)
      have HBa:=hid (Whole.new wr 30 (recCells x))
      have HBr2:=hid ((HBx.out.keep HKq.out (fun h=>h)).keep hka (fun h=>h))
      have HKa:=hid (HKq.out.trans hka)
      have HA1x:=hid (fun W h=>HA1.out x.key W h hfi.1 (by omega))
      have HA2x:=hid (fun W h=>HA2.out x.key W qM mM dM h (by omega) hfi.1 (by omega))
      rw [HSn.out] at HA2x
      unfold recCells at HIa HMa HBa HKa HBr2
      have HJl:=hid (And.intro hi hli)
      clear hx hil hfi hIq hka HKq
      by_cases hek:r.key=x.key
      ·rw [decide_eq_true hek.symm] at hcmp
       rw [if_pos hek] at HA2x
       obtain ⟨⟨a1,s1⟩,hs1⟩:∃ s,s=atF l x.key:=⟨_,rfl⟩
       obtain ⟨⟨a2,s2⟩,hs2⟩:∃ s,s=sayR r:=⟨_,rfl⟩
       rw [← hs1] at HA1x
       rw [← hs2] at HA2x
       simp only at HA1x HA2x
       clear hs1 hs2 hek
       go_wp2_with fail
       refine (HA1x.out _ HIa.out).mono ?_
       rintro e w7 ⟨rfl,hk⟩
       have HKa:=hid (HKa.out.trans hk)
       have HMa:=hid (HMa.out.keep hk)
       have HBa:=hid (HBa.out.keep hk (fun h=>h))
       have HBr2:=hid (HBr2.out.keep hk (fun h=>h))
       clear hk HIa x0 x1 x2 x3
       have y2:w7.cell? ⟨wr.heap.size,2,none⟩=some (.string (strOfNums x.key)):=HBa.out.cell 2 rfl
       go_wp2_with fail
       refine (HA2x.out _ HMa.out).mono ?_
       rintro e w8 ⟨rfl,hk⟩
       have HKa:=hid (HKa.out.trans hk)
       have HBa:=hid (HBa.out.keep hk (fun h=>h))
       have HBr2:=hid (HBr2.out.keep hk (fun h=>h))
       clear hk HMa y2
       have y2:w8.cell? ⟨wr.heap.size,2,none⟩=some (.string (strOfNums x.key)):=HBa.out.cell 2 rfl
       have y3:w8.cell? ⟨g,2,none⟩=some (.string (strOfNums r.key)):=HBr2.out.cell 2 rfl
       go_wp2_with fail
       go_roundw
       case rel=>exact ⟨i+1,by have:=HJl.out;omega,by go_num,HKa⟩
       case measure=>have:=HJl.out;simp [intOf];omega
      ·rw [decide_eq_false (fun h=>hek h.symm)] at hcmp
       rw [if_neg hek] at HA2x
       obtain ⟨⟨a1,s1⟩,hs1⟩:∃ s,s=atF l x.key:=⟨_,rfl⟩
       rw [← hs1] at HA1x HA2x
       simp only at HA1x HA2x
       clear hs1 hek
       go_wp2_with fail
       refine (HA1x.out _ HIa.out).mono ?_
       rintro e w7 ⟨rfl,hk⟩
       have HKa:=hid (HKa.out.trans hk)
       have HMa:=hid (HMa.out.keep hk)
       have HBa:=hid (HBa.out.keep hk (fun h=>h))
       have HBr2:=hid (HBr2.out.keep hk (fun h=>h))
       clear hk HIa x0 x1 x2 x3
       have y2:w7.cell? ⟨wr.heap.size,2,none⟩=some (.string (strOfNums x.key)):=HBa.out.cell 2 rfl
       go_wp2_with fail
       refine (HA2x.out _ HMa.out).mono ?_
       rintro e w8 ⟨rfl,hk⟩
       have HKa:=hid (HKa.out.trans hk)
       have HBa:=hid (HBa.out.keep hk (fun h=>h))
       have HBr2:=hid (HBr2.out.keep hk (fun h=>h))
       clear hk HMa y2
       have y2:w8.cell? ⟨wr.heap.size,2,none⟩=some (.string (strOfNums x.key)):=HBa.out.cell 2 rfl
       have y3:w8.cell? ⟨g,2,none⟩=some (.string (strOfNums r.key)):=HBr2.out.cell 2 rfl
       go_wp2_with fail
       go_roundw
       case rel=>exact ⟨i+1,by have:=HJl.out;omega,by go_num,HKa⟩
       case measure=>have:=HJl.out;simp [intOf];omega
   ·obtain ⟨gn,hgn⟩:∃ g,g=X1.heap.size:=⟨_,rfl⟩
    obtain ⟨X2,hwx⟩:∃ W,W=X1.alloc (.cells #[.bool r.del,.int .u64 (r.seq:Int),.string (strOfNums r.key),.string (strOfNums r.val)] 30):=⟨_,rfl⟩
    have hka:Keeps NoBlock X1 X2:=by rw [hwx];exact (Keeps.refl _ _).alloc _
    have HNb:Hid (Whole X2 gn 30 (recCells r)):=hid (by rw [hwx,hgn];exact Whole.new _ _ _)
    have hap:=HE.out.apart (Nat.le_of_eq hgn.symm)
    have HE:=hid (HE.out.keep hka)
    have HBx:=hid (HBx.out.keep hka (fun h=>h))
    have HKx:=hid (HKx.out.trans hka)
    have hS:(fun w':World=>w'.cell? ⟨g,0,none⟩=some (.bool r.del)∧w'.cell? ⟨g,1,none⟩=some (.int .u64 (r.seq:Int))∧w'.cell? ⟨g,2,none⟩=some (.string (strOfNums r.key))∧w'.cell? ⟨g,3,none⟩=some (.string (strOfNums r.val))) X2:=rec_cells HBx.out
    go_simp
    rw [← hwx,← hgn]
    refine hK.out _ _ hS (fun _=>?_)
    clear hK K hwx hgn hka
    refine wpAnyH_ready (rs:=[2]) (by kernel_rfl) (by simp) ?_
    refine (AllReadyH.cons (o:=_) rfl (fun K hK=>?_) AllReadyH.nil)
    refine step_append_recs rfl _ _ rfl _ [] rfl HE.out p n c l rfl HBr.out HN.out (HI.out.keep HKx.out).at_ (by simp;omega) ?_
    intro ve X3 hrow hgrow
    have HNb:=hid (HNb.out.grown hgrow hap)
    clear hap
    have hk2:=hrow.keeps
    have HE:=hid (show RecsSoFar w3 l ve X3 from hrow)
    have HBx:Hid (Whole X3 g 30 #[.bool r.del,.int .u64 (r.seq:Int),.string (strOfNums r.key),.string (strOfNums r.val)]):=hid (HB3.out.keep hk2 (fun h=>h))
    have HKx:=hid hk2
    have hS:(fun w':World=>w'.cell? ⟨g,0,none⟩=some (.bool r.del)∧w'.cell? ⟨g,1,none⟩=some (.int .u64 (r.seq:Int))∧w'.cell? ⟨g,2,none⟩=some (.string (strOfNums r.key))∧w'.cell? ⟨g,3,none⟩=some (.string (strOfNums r.val))) X3:=rec_cells HBx.out
    refine hK.out _ _ hS (fun _=>?_)
    clear hK K hrow hgrow hk2
    refine wpAnyH_ready (rs:=[5]) (by kernel_rfl) (by simp) ?_
    refine (AllReadyH.cons (o:=_) rfl (fun K hK=>?_) AllReadyH.nil)
    refine step_append_recs rfl _ _ rfl _ l rfl HE.out (some ⟨gn,0,none⟩) 1 1 [r] rfl (fun h=>by simp at h) rfl (RecsAt.single18 HNb.out) (by have:=HN.out;omega) ?_
    intro vf X4 hrow _
    rw [← HLR.out] at hrow
    obtain ⟨qM,mM,dM,rfl,hmM,hIM,hk2⟩:=HMo.out _ _ _ hrow.new
    have HIM:=hid hIM
    have HKx:=hid hk2
    have HBx:Hid (Whole X4 g 30 #[.bool r.del,.int .u64 (r.seq:Int),.string (strOfNums r.key),.string (strOfNums r.val)]):=hid (HB3.out.keep hk2 (fun h=>h))
    have hS:(fun w':World=>w'.cell? ⟨g,0,none⟩=some (.bool r.del)∧w'.cell? ⟨g,1,none⟩=some (.int .u64 (r.seq:Int))∧w'.cell? ⟨g,2,none⟩=some (.string (strOfNums r.key))∧w'.cell? ⟨g,3,none⟩=some (.string (strOfNums r.val))) X4:=rec_cells HBx.out
    refine hK.out _ _ hS (fun _=>?_)
    clear hK K hrow hk2 hIM HNb HE
    refine wpAnyH_take (i:=6) (v:=?vT4) rfl ?aT4 ?bT4 ?cT4 ?dT4 (Or.inl ⟨?eT4,?fT4⟩) hS ?gT4
    case fT4=>intro w hSw;(try dsimp only at hSw);go_simp;(try with_reducible rfl)
    case aT4=>kernel_rfl
    case bT4=>kernel_rfl
    case cT4=>kernel_rfl
    case dT4=>exact fun _ _ _ h=>h
    case eT4=>rfl
    simp only [Act.put,List.getElem_toArray,List.getElem_cons_zero,List.getElem_cons_succ,List.setIfInBounds_toArray,List.set_cons_zero,List.set_cons_succ]
    refine wpAnyH_done (by kernel_rfl) ?_ _
    have HI:=hid (HI.out.keep HKx.out)
    have HK:=hid (HK.out.trans HKx.out)
    clear HKx hS HB3
    obtain ⟨y0,y1,y2,y3⟩:=rec_cells HBx.out
    have HAr:=hid (fun W h=>HA2.out r.key W qM mM dM h (by omega) HKey.out.2.1 (by have:=HKey.out.2.2;omega))
    rw [HSn.out,if_pos rfl] at HAr
    go_wp2_with fail
    refine (HAr.out _ HIM.out).mono ?_
    rintro e w6 ⟨rfl,hk⟩
    have HI:=hid (HI.out.keep hk)
    have HIM:=hid (HIM.out.keep hk)
    have HBx:=hid (HBx.out.keep hk (fun h=>h))
    have HK:=hid (HK.out.trans hk)
    clear hk y0 y1 y2 y3 HAr
    obtain ⟨y0,y1,y2,y3⟩:=rec_cells HBx.out
    have hsay:(r.del=true∧sayR r=(1,[])) ∨ (r.del=false∧sayR r=(2,r.val)):=by
     unfold sayR
     cases r.del
     ·exact .inr ⟨rfl,rfl⟩
     ·exact .inl ⟨rfl,rfl⟩
    rcases hsay with ⟨hd,hs⟩|⟨hd,hs⟩
    all_goals
     rw [hs]
     rw [hd] at y0
     have he0:strOfNums []=⟨#[]⟩:=rfl
     try rw [he0]
     have HSy:=hid hs
     clear hs he0
     go_wp2_with fail
     go_loopw [65] (fun x wr=>∃ i:Nat,i≤n∧x=.int .i64 (i:Int)∧Hid (Keeps NoBlock w6 wr)) (fun x _=>n - (intOf x).toNat)
     case atStart=>exact ⟨0,Nat.zero_le _,rfl,hid (Keeps.refl _ _)⟩
     case round =>
      clear y0 y1 y2 y3
      obtain ⟨i,hi,rfl,HKq⟩:=hrel
      by_cases hli:i<n
      rotate_left
      ·have hdi:decide ((i:Int)<(n:Int))=false:=decide_eq_false (by omega)
       have hdi2:decide (i<n)=false:=decide_eq_false hli
       go_wp2_with fail
       go_ret
       exact ⟨rfl,HK.out.trans HKq.out⟩
      have hdi:decide ((i:Int)<(n:Int))=true:=decide_eq_true (by omega)
      have hdi2:decide (i<n)=true:=decide_eq_true hli
      have hil:i<l.length:=by rw [← HN.out];exact hli
      have hIq:=HI.out.keep HKq.out
      obtain ⟨a,hqa,x0,x1,x2,x3⟩:=hIq.at_ i hil
      obtain rfl:=hqa
      have hfi:=HKey.out.1 _ (getR_mem hil)
      have hcmp:=same_str hfi.1 HKey.out.2.1
      obtain ⟨x,hx⟩:∃ x,x=l.getD i Rec.none:=⟨_,rfl⟩
      rw [← hx] at x0 x1 x2 x3 hfi hcmp
      have hka:Keeps NoBlock wr (wr.alloc (.cells (recCells x) 30)):=(Keeps.refl NoBlock wr).alloc _
      have HIa:=hid (hIq.keep hka)
      have HMa:=hid ((HIM.out.keep HKq.out).keep hka)
      have HBa:=hid (Whole.new wr 30 (recCells x))
      have HBr2:=hid ((HBx.out.keep HKq.out (fun h=>h)).keep hka (fun h=>h))
      have HKa:=hid (HKq.out.trans hka)
      have HA1x:=hid (fun W h=>HA1.out x.key W h hfi.1 (by omega))
      have HA2x:=hid (fun W h=>HA2.out x.key W qM mM dM h (by omega) hfi.1 (by omega))
      rw [HSn.out] at HA2x
      unfold recCells at HIa HMa HBa HKa HBr2
      have HJl:=hid (And.intro hi hli)
      clear hx hil hfi hIq hka HKq
      by_cases hek:r.key=x.key
      ·rw [decide_eq_true hek.symm] at hcmp
       rw [if_pos hek] at HA2x
       obtain ⟨⟨a1,s1⟩,hs1⟩:∃ s,s=atF l x.key:=⟨_,rfl⟩
       obtain ⟨⟨a2,s2⟩,hs2⟩:∃ s,s=sayR r:=⟨_,rfl⟩
       rw [← hs1] at HA1x
       rw [← hs2] at HA2x
       simp only at HA1x HA2x
       clear hs1 hs2 hek
       go_wp2_with fail
       refine (HA1x.out _ HIa.out).mono ?_
       rintro e w7 ⟨rfl,hk⟩
       have HKa:=hid (HKa.out.trans hk)
       have HMa:=hid (HMa.out.keep hk)
       have HBa:=hid (HBa.out.keep hk (fun h=>h))
       have HBr2:=hid (HBr2.out.keep hk (fun h=>h))
       clear hk HIa x0 x1 x2 x3
       have y2:w7.cell? ⟨wr.heap.size,2,none⟩=some (.string (strOfNums x.key)):=HBa.out.cell 2 rfl
       go_wp2_with fail
       refine (HA2x.out _ HMa.out).mono ?_
       rintro e w8 ⟨rfl,hk⟩
       have HKa:=hid (HKa.out.trans hk)
       have HBa:=hid (HBa.out.keep hk (fun h=>h))
       have HBr2:=hid (HBr2.out.keep hk (fun h=>h))
       clear hk HMa y2
       have y2:w8.cell? ⟨wr.heap.size,2,none⟩=some (.string (strOfNums x.key)):=HBa.out.cell 2 rfl
       have y3:w8.cell? ⟨g,2,none⟩=some (.string (strOfNums r.key)):=HBr2.out.cell 2 rfl
       go_wp2_with fail
       go_roundw
       case rel=>exact ⟨i+1,by have:=HJl.out;omega,by go_num,HKa⟩
       case measure=>have:=HJl.out;simp [intOf];omega
      ·rw [decide_eq_false (fun h=>hek h.symm)] at hcmp
       rw [if_neg hek] at HA2x
       obtain ⟨⟨a1,s1⟩,hs1⟩:∃ s,s=atF l x.key:=⟨_,rfl⟩
       rw [← hs1] at HA1x HA2x
       simp only at HA1x HA2x
       clear hs1 hek
       go_wp2_with fail
       refine (HA1x.out _ HIa.out).mono ?_
       rintro e w7 ⟨rfl,hk⟩
       have HKa:=hid (HKa.out.trans hk)
       have HMa:=hid (HMa.out.keep hk)
       have HBa:=hid (HBa.out.keep hk (fun h=>h))
       have HBr2:=hid (HBr2.out.keep hk (fun h=>h))
       clear hk HIa x0 x1 x2 x3
       have y2:w7.cell? ⟨wr.heap.size,2,none⟩=some (.string (strOfNums x.key)):=HBa.out.cell 2 rfl
       go_wp2_with fail
       refine (HA2x.out _ HMa.out).mono ?_
       rintro e w8 ⟨rfl,hk⟩
       have HKa:=hid (HKa.out.trans hk)
       have HBa:=hid (HBa.out.keep hk (fun h=>h))
       have HBr2:=hid (HBr2.out.keep hk (fun h=>h))
       clear hk HMa y2
       have y2:w8.cell? ⟨wr.heap.size,2,none⟩=some (.string (strOfNums x.key)):=HBa.out.cell 2 rfl
       have y3:w8.cell? ⟨g,2,none⟩=some (.string (strOfNums r.key)):=HBr2.out.cell 2 rfl
       go_wp2_with fail
       go_roundw
       case rel=>exact ⟨i+1,by have:=HJl.out;omega,by go_num,HKa⟩
       case measure=>have:=HJl.out;simp [intOf];omega
  ·obtain ⟨gn,hgn⟩:∃ g,g=X0.heap.size:=⟨_,rfl⟩
   obtain ⟨X1,hwx⟩:∃ W,W=X0.alloc (.cells #[.bool r.del,.int .u64 (r.seq:Int),.string (strOfNums r.key),.string (strOfNums r.val)] 30):=⟨_,rfl⟩
   have hka:Keeps NoBlock X0 X1:=by rw [hwx];exact (Keeps.refl _ _).alloc _
   have HNb:Hid (Whole X1 gn 30 (recCells r)):=hid (by rw [hwx,hgn];exact Whole.new _ _ _)
   have HBx:=hid (HBx.out.keep hka (fun h=>h))
   have HKx:=hid (HKx.out.trans hka)
   have hS:(fun w':World=>w'.cell? ⟨g,0,none⟩=some (.bool r.del)∧w'.cell? ⟨g,1,none⟩=some (.int .u64 (r.seq:Int))∧w'.cell? ⟨g,2,none⟩=some (.string (strOfNums r.key))∧w'.cell? ⟨g,3,none⟩=some (.string (strOfNums r.val))) X1:=rec_cells HBx.out
   go_simp
   rw [← hwx,← hgn]
   refine hK.out _ _ hS (fun _=>?_)
   clear hK K hwx hgn hka
   refine wpAnyH_ready (rs:=[0]) (by kernel_rfl) (by simp) ?_
   refine (AllReadyH.cons (o:=_) rfl (fun K hK=>?_) AllReadyH.nil)
   obtain ⟨ge,hge⟩:∃ g,g=X1.heap.size:=⟨_,rfl⟩
   obtain ⟨X2,hwx⟩:∃ W,W=X1.alloc (.cells #[] 30):=⟨_,rfl⟩
   have hka:Keeps NoBlock X1 X2:=by rw [hwx];exact (Keeps.refl _ _).alloc _
   have HE:Hid (RecsSoFar w3 [] (.slice (some ⟨ge,0,none⟩) 0 0) X2):=hid (by rw [hwx,hge];exact (RecsSoFar.made X1).lower HKx.out)
   have HBx:=hid (HBx.out.keep hka (fun h=>h))
   have HKx:=hid (HKx.out.trans hka)
   have hap:(Value.slice (some ⟨ge,0,none⟩) 0 0).ownBlock ≠ some gn:=fun e=>by have h1:=HNb.out.lt;simp [Value.ownBlock] at e;omega
   have HNb:=hid (HNb.out.keep hka (fun h=>h))
   have hS:(fun w':World=>w'.cell? ⟨g,0,none⟩=some (.bool r.del)∧w'.cell? ⟨g,1,none⟩=some (.int .u64 (r.seq:Int))∧w'.cell? ⟨g,2,none⟩=some (.string (strOfNums r.key))∧w'.cell? ⟨g,3,none⟩=some (.string (strOfNums r.val))) X2:=rec_cells HBx.out
   go_simp
   rw [← hwx,← hge]
   refine hK.out _ _ hS (fun _=>?_)
   clear hK K hwx hge hka
   refine wpAnyH_ready (rs:=[2]) (by kernel_rfl) (by simp) ?_
   refine (AllReadyH.cons (o:=_) rfl (fun K hK=>?_) AllReadyH.nil)
   refine step_append_recs rfl _ _ rfl _ [] rfl HE.out p n c l rfl HBr.out HN.out (HI.out.keep HKx.out).at_ (by simp;omega) ?_
   intro ve X3 hrow hgrow
   have HNb:=hid (HNb.out.grown hgrow hap)
   clear hap
   have hk2:=hrow.keeps
   have HE:=hid (show RecsSoFar w3 l ve X3 from hrow)
   have HBx:Hid (Whole X3 g 30 #[.bool r.del,.int .u64 (r.seq:Int),.string (strOfNums r.key),.string (strOfNums r.val)]):=hid (HB3.out.keep hk2 (fun h=>h))
   have HKx:=hid hk2
   have hS:(fun w':World=>w'.cell? ⟨g,0,none⟩=some (.bool r.del)∧w'.cell? ⟨g,1,none⟩=some (.int .u64 (r.seq:Int))∧w'.cell? ⟨g,2,none⟩=some (.string (strOfNums r.key))∧w'.cell? ⟨g,3,none⟩=some (.string (strOfNums r.val))) X3:=rec_cells HBx.out
   refine hK.out _ _ hS (fun _=>?_)
   clear hK K hrow hgrow hk2
   refine wpAnyH_ready (rs:=[5]) (by kernel_rfl) (by simp) ?_
   refine (AllReadyH.cons (o:=_) rfl (fun K hK=>?_) AllReadyH.nil)
   refine step_append_recs rfl _ _ rfl _ l rfl HE.out (some ⟨gn,0,none⟩) 1 1 [r] rfl (fun h=>by simp at h) rfl (RecsAt.single18 HNb.out) (by have:=HN.out;omega) ?_
   intro vf X4 hrow _
   rw [← HLR.out] at hrow
   obtain ⟨qM,mM,dM,rfl,hmM,hIM,hk2⟩:=HMo.out _ _ _ hrow.new
   have HIM:=hid hIM
   have HKx:=hid hk2
   have HBx:Hid (Whole X4 g 30 #[.bool r.del,.int .u64 (r.seq:Int),.string (strOfNums r.key),.string (strOfNums r.val)]):=hid (HB3.out.keep hk2 (fun h=>h))
   have hS:(fun w':World=>w'.cell? ⟨g,0,none⟩=some (.bool r.del)∧w'.cell? ⟨g,1,none⟩=some (.int .u64 (r.seq:Int))∧w'.cell? ⟨g,2,none⟩=some (.string (strOfNums r.key))∧w'.cell? ⟨g,3,none⟩=some (.string (strOfNums r.val))) X4:=rec_cells HBx.out
   refine hK.out _ _ hS (fun _=>?_)
   clear hK K hrow hk2 hIM HNb HE
   refine wpAnyH_take (i:=6) (v:=?vT5) rfl ?aT5 ?bT5 ?cT5 ?dT5 (Or.inl ⟨?eT5,?fT5⟩) hS ?gT5
   case fT5=>intro w hSw;(try dsimp only at hSw);go_simp;(try with_reducible rfl)
   case aT5=>kernel_rfl
   case bT5=>kernel_rfl
   case cT5=>kernel_rfl
   case dT5=>exact fun _ _ _ h=>h
   case eT5=>rfl
   simp only [Act.put,List.getElem_toArray,List.getElem_cons_zero,List.getElem_cons_succ,List.setIfInBounds_toArray,List.set_cons_zero,List.set_cons_succ]
   refine wpAnyH_done (by kernel_rfl) ?_ _
   have HI:=hid (HI.out.keep HKx.out)
   have HK:=hid (HK.out.trans HKx.out)
   clear HKx hS HB3
   obtain ⟨y0,y1,y2,y3⟩:=rec_cells HBx.out
   have HAr:=hid (fun W h=>HA2.out r.key W qM mM dM h (by omega) HKey.out.2.1 (by have:=HKey.out.2.2;omega))
   rw [HSn.out,if_pos rfl] at HAr
   go_wp2_with fail
   refine (HAr.out _ HIM.out).mono ?_
   rintro e w6 ⟨rfl,hk⟩
   have HI:=hid (HI.out.keep hk)
   have HIM:=hid (HIM.out.keep hk)
   have HBx:=hid (HBx.out.keep hk (fun h=>h))
   have HK:=hid (HK.out.trans hk)
   clear hk y0 y1 y2 y3 HAr
   obtain ⟨y0,y1,y2,y3⟩:=rec_cells HBx.out
   have hsay:(r.del=true∧sayR r=(1,[])) ∨ (r.del=false∧sayR r=(2,r.val)):=by
    unfold sayR
    cases r.del
    ·exact .inr ⟨rfl,rfl⟩
    ·exact .inl ⟨rfl,rfl⟩
   rcases hsay with ⟨hd,hs⟩|⟨hd,hs⟩
   all_goals
    rw [hs]
    rw [hd] at y0
    have he0:strOfNums []=⟨#[]⟩:=rfl
    try rw [he0]
    have HSy:=hid hs
    clear hs he0
    go_wp2_with fail
    go_loopw [65] (fun x wr=>∃ i:Nat,i≤n∧x=.int .i64 (i:Int)∧Hid (Keeps NoBlock w6 wr)) (fun x _=>n - (intOf x).toNat)
    case atStart=>exact ⟨0,Nat.zero_le _,rfl,hid (Keeps.refl _ _)⟩
    case round =>
     clear y0 y1 y2 y3
     obtain ⟨i,hi,rfl,HKq⟩:=hrel
     by_cases hli:i<n
     rotate_left
     ·have hdi:decide ((i:Int)<(n:Int))=false:=decide_eq_false (by omega)
      have hdi2:decide (i<n)=false:=decide_eq_false hli
      go_wp2_with fail
      go_ret
      exact ⟨rfl,HK.out.trans HKq.out⟩
     have hdi:decide ((i:Int)<(n:Int))=true:=decide_eq_true (by omega)
     have hdi2:decide (i<n)=true:=decide_eq_true hli
     have hil:i<l.length:=by rw [← HN.out];exact hli
     have hIq:=HI.out.keep HKq.out
     obtain ⟨a,hqa,x0,x1,x2,x3⟩:=hIq.at_ i hil
     obtain rfl:=hqa
     have hfi:=HKey.out.1 _ (getR_mem hil)
     have hcmp:=same_str hfi.1 HKey.out.2.1
     obtain ⟨x,hx⟩:∃ x,x=l.getD i Rec.none:=⟨_,rfl⟩
     rw [← hx] at x0 x1 x2 x3 hfi hcmp
     have hka:Keeps NoBlock wr (wr.alloc (.cells (recCells x) 30)):=(Keeps.refl NoBlock wr).alloc _
     have HIa:=hid (hIq.keep hka)
     have HMa:=hid ((HIM.out.keep HKq.out).keep hka)
     have HBa:=hid (Whole.new wr 30 (recCells x))
     have HBr2:=hid ((HBx.out.keep HKq.out (fun h=>h)).keep hka (fun h=>h))
     have HKa:=hid (HKq.out.trans hka)
     have HA1x:=hid (fun W h=>HA1.out x.key W h hfi.1 (by omega))
     have HA2x:=hid (fun W h=>HA2.out x.key W qM mM dM h (by omega) hfi.1 (by omega))
     rw [HSn.out] at HA2x
     unfold recCells at HIa HMa HBa HKa HBr2
     have HJl:=hid (And.intro hi hli)
     clear hx hil hfi hIq hka HKq
     by_cases hek:r.key=x.key
     ·rw [decide_eq_true hek.symm] at hcmp
      rw [if_pos hek] at HA2x
      obtain ⟨⟨a1,s1⟩,hs1⟩:∃ s,s=atF l x.key:=⟨_,rfl⟩
      obtain ⟨⟨a2,s2⟩,hs2⟩:∃ s,s=sayR r:=⟨_,rfl⟩
      rw [← hs1] at HA1x
      rw [← hs2] at HA2x
      simp only at HA1x HA2x
      clear hs1 hs2 hek
      go_wp2_with fail
      refine (HA1x.out _ HIa.out).mono ?_
      rintro e w7 ⟨rfl,hk⟩
      have HKa:=hid (HKa.out.trans hk)
      have HMa:=hid (HMa.out.keep hk)
      have HBa:=hid (HBa.out.keep hk (fun h=>h))
      have HBr2:=hid (HBr2.out.keep hk (fun h=>h))
      clear hk HIa x0 x1 x2 x3
      have y2:w7.cell? ⟨wr.heap.size,2,none⟩=some (.string (strOfNums x.key)):=HBa.out.cell 2 rfl
      go_wp2_with fail
      refine (HA2x.out _ HMa.out).mono ?_
      rintro e w8 ⟨rfl,hk⟩
      have HKa:=hid (HKa.out.trans hk)
      have HBa:=hid (HBa.out.keep hk (fun h=>h))
      have HBr2:=hid (HBr2.out.keep hk (fun h=>h))
      clear hk HMa y2
      have y2:w8.cell? ⟨wr.heap.size,2,none⟩=some (.string (strOfNums x.key)):=HBa.out.cell 2 rfl
      have y3:w8.cell? ⟨g,2,none⟩=some (.string (strOfNums r.key)):=HBr2.out.cell 2 rfl
      go_wp2_with fail
      go_roundw
      case rel=>exact ⟨i+1,by have:=HJl.out;omega,by go_num,HKa⟩
      case measure=>have:=HJl.out;simp [intOf];omega
     ·rw [decide_eq_false (fun h=>hek h.symm)] at hcmp
      rw [if_neg hek] at HA2x
      obtain ⟨⟨a1,s1⟩,hs1⟩:∃ s,s=atF l x.key:=⟨_,rfl⟩
      rw [← hs1] at HA1x HA2x
      simp only at HA1x HA2x
      clear hs1 hek
      go_wp2_with fail
      refine (HA1x.out _ HIa.out).mono ?_
      rintro e w7 ⟨rfl,hk⟩
      have HKa:=hid (HKa.out.trans hk)
      have HMa:=hid (HMa.out.keep hk)
      have HBa:=hid (HBa.out.keep hk (fun h=>h))
      have HBr2:=hid (HBr2.out.keep hk (fun h=>h))
      clear hk HIa x0 x1 x2 x3
      have y2:w7.cell? ⟨wr.heap.size,2,none⟩=some (.string (strOfNums x.key)):=HBa.out.cell 2 rfl
      go_wp2_with fail
      refine (HA2x.out _ HMa.out).mono ?_
      rintro e w8 ⟨rfl,hk⟩
      have HKa:=hid (HKa.out.trans hk)
      have HBa:=hid (HBa.out.keep hk (fun h=>h))
      have HBr2:=hid (HBr2.out.keep hk (fun h=>h))
      clear hk HMa y2
      have y2:w8.cell? ⟨wr.heap.size,2,none⟩=some (.string (strOfNums x.key)):=HBa.out.cell 2 rfl
      have y3:w8.cell? ⟨g,2,none⟩=some (.string (strOfNums r.key)):=HBr2.out.cell 2 rfl
      go_wp2_with fail
      go_roundw
      case rel=>exact ⟨i+1,by have:=HJl.out;omega,by go_num,HKa⟩
      case measure=>have:=HJl.out;simp [intOf];omega
end
end Go.Proofs.Ytbmhdfjaakkoaaa

/-
  ImParts; ImEnc; DeDec; SgPaNum; SgBaNum.
-/
import Derived.Deep.RegionHeld3
import Derived.Lib.Hide
import Derived.Test.YtehkjkcnigknkaaGreatM07
import Derived.Test.YtehkjkcnigknkaaGreatM14
import Derived.Test.YtehkjkcnigknkaaGreatM15
import Derived.Test.YtehkjkcnigknkaaGreatM18
import Derived.Test.YtehkjkcnigknkaaGreatM19
namespace Go.Proofs.YtehkjkcnigknkaaGreat
open Lib (hid)
section
open Go.RowKit
theorem putPart_length (out:List (List Rec)) (k:Nat) (r:Rec):(putPart out k r).length=if out.length≤k then out.length+1 else out.length:=by
 unfold putPart
 split <;> simp
theorem partsGo_snoc:∀ (l:List Rec) (ks:List Nat) (out:List (List Rec)) (r:Rec) (k:Nat),l.length=ks.length→partsGo out (l ++ [r]) (ks ++ [k])=putPart (partsGo out l ks) k r
 | [],[],out,r,k,_=>by simp [partsGo]
 | [],_ :: _,_,_,_,h=>by simp at h
 | _ :: _,[],_,_,_,h=>by simp at h
 | x :: l,y :: ks,out,r,k,h=>by
  rw [List.cons_append,List.cons_append,partsGo,partsGo,partsGo_snoc l ks _ r k (by simpa using h)]
def partsTo (l:List Rec) (ks:List Nat) (j:Nat):List (List Rec):=partsGo [] (l.take j) (ks.take j)
theorem partsTo_step {l:List Rec} {ks:List Nat} {j:Nat} (h:l.length=ks.length) (hj:j<l.length):partsTo l ks (j+1)=putPart (partsTo l ks j) (ks.getD j 0) (l.getD j Rec.none):=by
 unfold partsTo
 rw [List.take_succ_eq_append_getElem hj,List.take_succ_eq_append_getElem (by omega:j<ks.length),partsGo_snoc _ _ _ _ _ (by rw [List.length_take,List.length_take];omega)]
 simp [hj,show j<ks.length by omega]
theorem steps_at:∀ (ks:List Nat) (l:List Rec) (out:List (List Rec)) (j:Nat),Steps out.length ks→l.length=ks.length→j<ks.length →
  ks.getD j 0=(partsGo out (l.take j) (ks.take j)).length ∨ ks.getD j 0+1=(partsGo out (l.take j) (ks.take j)).length
 | [],_,_,_,_,_,h=>by simp at h
 | k :: ks,[],_,_,_,h,_=>by simp at h
 | k :: ks,r :: l,out,0,hs,_,_=>by
  rcases hs with ⟨h,_⟩|⟨h,_⟩
  ·exact .inl h
  ·exact .inr h
 | k :: ks,r :: l,out,j+1,hs,hl,hj=>by
  rw [List.take_succ_cons,List.take_succ_cons,partsGo,List.getD_cons_succ]
  refine steps_at ks l _ j ?_ (by simpa using hl) (by simpa using hj)
  rw [putPart_length]
  rcases hs with ⟨h,h2⟩|⟨h,h2⟩
  ·rw [if_pos (by omega)];exact h2
  ·rw [if_neg (by omega)];exact h2
theorem partsTo_few {l:List Rec} {ks:List Nat} (h:l.length=ks.length):∀ j,j≤l.length→(partsTo l ks j).length≤j∧∀ p ∈ partsTo l ks j,p.length≤j
 | 0,_=>by simp [partsTo,partsGo]
 | j+1,hj=>by
  obtain ⟨h1,h2⟩:=partsTo_few h j (by omega)
  rw [partsTo_step h (by omega)]
  refine ⟨by rw [putPart_length];split <;> omega,fun p hp=>?_⟩
  have hg:∀ (o:List (List Rec)) x,(∀ p ∈ o,p.length≤j)→(o.getD x []).length≤j:=fun o x ho=>by
   rw [List.getD_eq_getElem?_getD]
   rcases Nat.lt_or_ge x o.length with hx|hx
   ·rw [List.getElem?_eq_getElem hx]
    exact ho _ (List.getElem_mem _)
   ·rw [List.getElem?_eq_none hx]
    simp
  have h3:∀ p ∈ partsTo l ks j ++ [[]],p.length≤j:=fun p hp=>by
   rcases List.mem_append.1 hp with hp|hp
   ·exact h2 p hp
   ·rw [List.mem_singleton.1 hp]
    simp
  unfold putPart at hp
  split at hp
  ·rcases List.mem_or_eq_of_mem_set hp with hp|hp
   ·have:=h3 p hp;omega
   ·rw [hp,List.length_append]
    have:=hg _ (ks.getD j 0) h3
    simp at this ⊢
    omega
  ·rcases List.mem_or_eq_of_mem_set hp with hp|hp
   ·have:=h2 p hp;omega
   ·rw [hp,List.length_append]
    have:=hg _ (ks.getD j 0) h2
    simp at this ⊢
    omega
theorem own_set1 {w:World} {base g n cap k:Nat} {e:TypeId} {xs:List Value} (h:w.ownsRow base e 1 (.slice (some ⟨g,0,none⟩) n cap) n xs) (_hk:k<n) (u:Value):(w.setCell ⟨g,k,none⟩ u).ownsRow base e 1 (.slice (some ⟨g,0,none⟩) n cap) n (xs.set k u):=by
 rcases h with ⟨hl,⟨hv,_⟩|⟨g',cap',cur,hv,hb,hg,h1,h2,h3,h4⟩⟩
 ·simp at hv
 ·simp only [Value.slice.injEq,Option.some.injEq,Addr.mk.injEq,and_true,true_and] at hv
  obtain ⟨rfl,rfl⟩:=hv
  refine ⟨by rw [List.length_set];exact hl,.inr ⟨g,cap,cur.setIfInBounds k u,rfl,hb,Whole.set (show Whole w g e cur from hg) k u,h1,h2,by simpa using h3,?_⟩⟩
  rw [Array.toList_setIfInBounds,← h4,List.take_set]
theorem own_head {w:World} {base n:Nat} {e:TypeId} {v:Value} {xs:List Value} (h:w.ownsRow base e 1 v n xs) (hn:0<n):∃ g cap cur,v=.slice (some ⟨g,0,none⟩) n cap∧base≤g∧Whole w g e cur∧n≤cap∧cap≤9223372036854775807:=by
 rcases h with ⟨hl,⟨hv,h0⟩|⟨g',cap',cur,hv,hb,hg,h1,h2,h3,h4⟩⟩
 ·omega
 ·unfold maxLen at h2
  exact ⟨g',cap',cur,hv,hb,hg,h1,by omega⟩
theorem PartsSoFar.slice {w0 wr:World} {ps:List (List Rec)} {hs:List Value} {v:Value} (h:PartsSoFar w0 ps hs v wr):∃ qo co,v=.slice qo hs.length co:=by
 rcases h.own.2 with ⟨rfl,h0⟩|⟨g,cap,cur,rfl,_⟩
 ·exact ⟨none,0,by rw [h0]⟩
 ·exact ⟨_,_,rfl⟩
theorem PartsSoFar.cell {w0 wr:World} {ps:List (List Rec)} {hs:List Value} {g cap i:Nat} (h:PartsSoFar w0 ps hs (.slice (some ⟨g,0,none⟩) hs.length cap) wr) (hi:i<hs.length):wr.cell? ⟨g,i,none⟩=some (hs.getD i nilS):=by
 have:=h.own.cells (g:=g) rfl i (hs.getD i nilS) (by simp [hi])
 rwa [Addr.add_lit,Nat.zero_add] at this
theorem PartsSoFar.putIn {w0 wr w':World} {ps:List (List Rec)} {hs:List Value} {go co m g cap:Nat} (h:PartsSoFar w0 ps hs (.slice (some ⟨go,0,none⟩) hs.length co) wr) (hm:m<ps.length) (r:Rec)
  (hr:w'.ownsRow w0.heap.size 48 4 (.slice (some ⟨g,0,none⟩) ((ps.getD m []).length+1) cap) ((ps.getD m []).length+1) (rcFlat (ps.getD m []) ++ rcFour r))
  (hg:wr.grownBy w' (hs.getD m nilS).ownBlock) (hn:(hs.getD m nilS).ownBlock=some g ∨ wr.heap.size≤g) (_hgl:g<w'.heap.size) :
  w'.ownsRow w0.heap.size 22 1 (.slice (some ⟨go,0,none⟩) hs.length co) hs.length hs∧Below w0.heap.size w0 w' ∧
  PartsSoFar w0 (ps.set m (ps.getD m [] ++ [r])) (hs.set m (.slice (some ⟨g,0,none⟩) ((ps.getD m []).length+1) cap)) (.slice (some ⟨go,0,none⟩) (hs.set m (.slice (some ⟨g,0,none⟩) ((ps.getD m []).length+1) cap)).length co) (w'.setCell ⟨go,m,none⟩ (.slice (some ⟨g,0,none⟩) ((ps.getD m []).length+1) cap)):=by
 have hrow:=h.heads.row m hm
 have hO:w'.ownsRow w0.heap.size 22 1 (.slice (some ⟨go,0,none⟩) hs.length co) hs.length hs:=ownBlocks h.own (fun k hk=>hg.block k (h.own.lt k hk).2 (fun e=>rows_apart (by decide) h.own hrow k hk e.symm))
 have hB:Below w0.heap.size w0 w':=h.below.trans ((Below.refl _ wr).grown hg h.below.size (fun k hk=>own_from hrow hk))
 have hH:=h.heads.put hm r hr hg hn
 have hl:=h.heads.len
 refine ⟨hO,hB,hH.kept (fun i k hi hk=>?_),by rw [List.length_set];exact own_set1 hO (by omega) _,hB.setCell (p:=⟨go,m,none⟩) (own_from h.own rfl) _⟩
 refine Below.heap_setCell w' ⟨go,m,none⟩ _ k (fun e=>?_)
 have e':k=go:=e
 subst e'
 exact rows_apart (by decide) (hH.row i hi) hO k hk rfl
set_option maxHeartbeats 16000000 in
set_option maxRecDepth 10000 in
theorem parts16_ref (p:Option Addr) (n c:Nat) (l:List Rec) (q:Option Addr) (d:Nat) (ks:List Nat) (hn:n=l.length) (hks:l.length=ks.length) (hst:Steps 0 ks) (hn9:n≤10000) (w:World) (hl:RecsAt w p l) (hq:RowN w q ks) :
  Calls Tryz.prog 43 #[.slice p n c,.slice q n d] w fun e w'=>∃ hs v,e=.returned v∧PartsSoFar w (partsGo [] l ks) hs v w':=by
 have HL:=hid hl
 have HQ:=hid hq
 have HN:=hid (And.intro hn hks)
 have HSt:=hid (fun j (hj:j<ks.length)=>steps_at ks l [] j hst hks hj)
 obtain ⟨i0,hi,hi0,hi1,hi2⟩:=info_parts infoRc
 obtain ⟨j0,ki,kz0,kz1,kz2⟩:=info_parts infoRcs
 clear hl hq hn hks hst
 go_enter Tryz.func43,Tryz.ntmps43
 go_wp2_with fail
 go_loopw [5,10] (fun v i wr=>∃ (j:Nat) (hs:List Value),j≤n∧i=.int .i64 (j:Int)∧Hid (PartsSoFar w (partsTo l ks j) hs v wr)) (fun _ i _=>n - (intOf i).toNat)
 case atStart=>exact ⟨0,[],Nat.zero_le _,rfl,hid (PartsSoFar.start w)⟩
 case round =>
  obtain ⟨j,hs,hj,rfl,HP⟩:=hrel
  by_cases hlt:j<n
  ·have hdj:decide ((j:Int)<(n:Int))=true:=decide_eq_true (by omega)
   have hdj2:decide (j<n)=true:=decide_eq_true hlt
   have hjl:j<l.length:=by rw [← HN.out.1];exact hlt
   have hjk:j<ks.length:=by rw [← HN.out.2];exact hjl
   have HPT:=hid (partsTo_step HN.out.2 hjl)
   have hfew:=partsTo_few HN.out.2 j (by omega)
   have hsa:=HSt.out j hjk
   change ks.getD j 0=(partsTo l ks j).length ∨ ks.getD j 0+1=(partsTo l ks j).length at hsa
   obtain ⟨a,rfl,c0,c1,c2,c3⟩:=(HL.out.keep HP.out.keeps (fun _ _ h=>h)) j hjl
   obtain ⟨b,rfl,x0⟩:=HQ.out j hjk
   obtain ⟨r,hr⟩:∃ r,r=l.getD j Rec.none:=⟨_,rfl⟩
   obtain ⟨k,hk⟩:∃ k,k=ks.getD j 0:=⟨_,rfl⟩
   obtain ⟨ps,hps⟩:∃ ps,ps=partsTo l ks j:=⟨_,rfl⟩
   rw [← hr] at c0 c1 c2 c3 HPT
   rw [← hk] at x0 HPT hsa
   rw [← hps] at HP HPT hfew hsa
   have HX0:=hid x0
   have x1:wr.cell? (b.add j)=some (.int .u64 (k:Int)):=HP.out.keeps.cell x0 (fun h=>h)
   have xl:=ltOfCell x1
   have HFe:=hid hfew
   have hhl:=HP.out.heads.len
   obtain ⟨qo,co,rfl⟩:=HP.out.slice
   obtain ⟨O,hO⟩:∃ O,O=hs.length:=⟨_,rfl⟩
   rw [← hO] at HP ⊢
   have hO9:O≤10000:=by omega
   have hOp:O=ps.length:=by omega
   have hwO:IntKind.u64.wrap (O:Int)=(O:Int):=by rw [IntKind.wrap_u64];omega
   have hwO2:(O:Int) % 18446744073709551616=(O:Int):=by omega
   rw [← hOp] at hsa
   have HOd:=hid (And.intro hO hOp)
   have HP1:=hid (HP.out.keep ((Keeps.refl NoBlock wr).alloc (.cells #[.bool r.del,.int .u64 (r.seq:Int),.string (strOfNums r.key),.string (strOfNums r.val)] 48)))
   have HBx:=hid (show Whole (wr.alloc (.cells #[.bool r.del,.int .u64 (r.seq:Int),.string (strOfNums r.key),.string (strOfNums r.val)] 48)) wr.heap.size 48 (recCells r) from Whole.new wr _ _)
   have HBn:=hid (fun i (hi:i<ps.length)=>show (hs.getD i nilS).ownBlock ≠ some wr.heap.size from fun e=>by have:=((HP.out.heads.row i hi).lt _ e).2;omega)
   clear hr hk hps hjl hjk hfew x0 hhl hO hOp HP
   by_cases hkO:k+1=O
   ·have hle:¬ O≤k:=by omega
    have hle2:decide ((O:Int)≤(k:Int))=false:=decide_eq_false (by omega)
    have hle3:decide (O≤k)=false:=decide_eq_false hle
    have hkp:k<ps.length:=by have:=HOd.out;omega
    have hkM:k<O:=by omega
    have hkI:(k:Int)<(O:Int):=by omega
    have HPe:=hid (show putPart ps k r=ps.set k (ps.getD k [] ++ [r]) by unfold putPart;rw [if_neg (by have:=HOd.out;omega)])
    obtain ⟨ML,hML⟩:∃ x,x=(ps.getD k []).length:=⟨_,rfl⟩
    have HML:=hid hML
    have HPl:=hid (show ML≤10000 by rw [hML];have:=(HFe.out).2 _ (show ps.getD k [] ∈ ps by simp [hkp]);omega)
    have HLn:=hid (HOd.out.1.symm)
    obtain ⟨go,cap,cur,hv,_,hwg,_⟩:=own_head HP1.out.own (by rw [HLn.out];omega)
    simp only [Value.slice.injEq] at hv
    obtain ⟨rfl,hv2,rfl⟩:=hv
    clear hv2
    have HP:=hid (show PartsSoFar w ps hs (.slice (some ⟨go,0,none⟩) hs.length co) _ by rw [← HOd.out.1];exact HP1.out)
    have HBg:=hid (show go ≠ wr.heap.size from fun e=>by
     subst e
     exact absurd (Whole.unique hwg HBx.out).1 (by decide))
    obtain ⟨wa,hwa⟩:∃ W,W=wr.alloc (.cells #[.bool r.del,.int .u64 (r.seq:Int),.string (strOfNums r.key),.string (strOfNums r.val)] 48):=⟨_,rfl⟩
    rw [← hwa] at HP HBx
    clear hwg HP1 hsa hML
    go_upto_region 7 with (fail)
    rw [← hwa]
    clear hwa c0 c1 c2 c3 x1
    go_wp2_with fail
    obtain ⟨wp0,hwx⟩:∃ W,W=wa.drew:=⟨_,rfl⟩
    have HP:=hid (HP.out.keep (show Keeps NoBlock wa wp0 by rw [hwx];exact (Keeps.refl _ _).drew))
    have HBx:Hid (Whole wp0 wr.heap.size 48 (recCells r)):=hid (by rw [hwx];exact HBx.out)
    have hS:(fun w':World=>w'.cell? (b.add j)=some (.int .u64 (k:Int))∧w'.cell? ⟨wr.heap.size,0,none⟩=some (.bool r.del)∧w'.cell? ⟨wr.heap.size,1,none⟩=some (.int .u64 (r.seq:Int))∧w'.cell? ⟨wr.heap.size,2,none⟩=some (.string (strOfNums r.key))∧w'.cell? ⟨wr.heap.size,3,none⟩=some (.string (strOfNums r.val))) wp0:=⟨(Keeps.ofBelow (S:=NoBlock) HP.out.below).cell HX0.out (fun h=>h),HBx.out.cell 0 rfl,HBx.out.cell 1 rfl,HBx.out.cell 2 rfl,HBx.out.cell 3 rfl⟩
    refine wp_region_held_drew (S:=fun w':World=>w'.cell? (b.add j)=some (.int .u64 (k:Int))∧w'.cell? ⟨wr.heap.size,0,none⟩=some (.bool r.del)∧w'.cell? ⟨wr.heap.size,1,none⟩=some (.int .u64 (r.seq:Int))∧w'.cell? ⟨wr.heap.size,2,none⟩=some (.string (strOfNums r.key))∧w'.cell? ⟨wr.heap.size,3,none⟩=some (.string (strOfNums r.val))) (by kernel_rfl) (by rw [← hwx];exact hS) (fun _=>?_)
    rw [← hwx]
    clear hwx
    refine wpAnyH_take (i:=0) (v:=?vT1) rfl ?aT1 ?bT1 ?cT1 ?dT1 (Or.inl ⟨?eT1,?fT1⟩) hS ?gT1
    case fT1=>intro w hSw;(try dsimp only at hSw);go_simp;(try with_reducible rfl)
    case aT1=>kernel_rfl
    case bT1=>kernel_rfl
    case cT1=>kernel_rfl
    case dT1=>exact fun _ _ _ h=>h
    case eT1=>rfl
    simp only [Act.put,List.getElem_toArray,List.getElem_cons_zero,List.setIfInBounds_toArray,List.set_cons_zero,List.set_cons_succ]
    refine wpAnyH_take (i:=1) (v:=?vT2) rfl ?aT2 ?bT2 ?cT2 ?dT2 (Or.inl ⟨?eT2,?fT2⟩) hS ?gT2
    case fT2=>intro w hSw;(try dsimp only at hSw);go_simp;(try with_reducible rfl)
    case aT2=>kernel_rfl
    case bT2=>kernel_rfl
    case cT2=>kernel_rfl
    case dT2=>exact fun _ _ _ h=>h
    case eT2=>rfl
    simp only [Act.put,List.getElem_toArray,List.getElem_cons_zero,List.getElem_cons_succ,List.setIfInBounds_toArray,List.set_cons_zero,List.set_cons_succ]
    refine wpAnyH_take (i:=2) (v:=?vT3) rfl ?aT3 ?bT3 ?cT3 ?dT3 (Or.inl ⟨?eT3,?fT3⟩) hS ?gT3
    case fT3=>intro w hSw;(try dsimp only at hSw);go_simp;(try with_reducible rfl)
    case aT3=>kernel_rfl
    case bT3=>kernel_rfl
    case cT3=>kernel_rfl
    case dT3=>exact fun _ _ _ h=>h
    case eT3=>rfl
    simp only [Act.put,List.getElem_toArray,List.getElem_cons_zero,List.getElem_cons_succ,List.setIfInBounds_toArray,List.set_cons_zero,List.set_cons_succ]
    refine wpAnyH_take (i:=3) (v:=?vT4) rfl ?aT4 ?bT4 ?cT4 ?dT4 (Or.inl ⟨?eT4,?fT4⟩) hS ?gT4
    case fT4=>intro w hSw;(try dsimp only at hSw);go_simp;(try with_reducible rfl)
    case aT4=>kernel_rfl
    case bT4=>kernel_rfl
    case cT4=>kernel_rfl
    case dT4=>exact fun _ _ _ h=>h
    case eT4=>rfl
    simp only [Act.put,List.getElem_toArray,List.getElem_cons_zero,List.getElem_cons_succ,List.setIfInBounds_toArray,List.set_cons_zero,List.set_cons_succ]
    refine wpAnyH_take (i:=4) (v:=?vT5) rfl ?aT5 ?bT5 ?cT5 ?dT5 (Or.inl ⟨?eT5,?fT5⟩) hS ?gT5
    case fT5=>intro w hSw;(try dsimp only at hSw);go_simp;(try with_reducible rfl)
    case aT5=>kernel_rfl
    case bT5=>kernel_rfl
    case cT5=>kernel_rfl
    case dT5=>exact fun _ _ _ h=>h
    case eT5=>rfl
    simp only [Act.put,List.getElem_toArray,List.getElem_cons_zero,List.getElem_cons_succ,List.setIfInBounds_toArray,List.set_cons_zero,List.set_cons_succ]
    refine wpAnyH_take (i:=5) (v:=?vT6) rfl ?aT6 ?bT6 ?cT6 ?dT6 (Or.inl ⟨?eT6,?fT6⟩) hS ?gT6
    case fT6=>intro w hSw;(try dsimp only at hSw);go_simp;(try with_reducible rfl)
    case aT6=>kernel_rfl
    case bT6=>kernel_rfl
    case cT6=>kernel_rfl
    case dT6=>exact fun _ _ _ h=>h
    case eT6=>rfl
    simp only [Act.put,List.getElem_toArray,List.getElem_cons_zero,List.getElem_cons_succ,List.setIfInBounds_toArray,List.set_cons_zero,List.set_cons_succ]
    refine wpAnyH_take (i:=6) (v:=?vT7) rfl ?aT7 ?bT7 ?cT7 ?dT7 (Or.inl ⟨?eT7,?fT7⟩) hS ?gT7
    case fT7=>intro w hSw;(try dsimp only at hSw);go_simp;(try with_reducible rfl)
    case aT7=>kernel_rfl
    case bT7=>kernel_rfl
    case cT7=>kernel_rfl
    case dT7=>exact fun _ _ _ h=>h
    case eT7=>rfl
    simp only [Act.put,List.getElem_toArray,List.getElem_cons_zero,List.getElem_cons_succ,List.setIfInBounds_toArray,List.set_cons_zero,List.set_cons_succ]
    refine wpAnyH_take (i:=7) (v:=?vT8) rfl ?aT8 ?bT8 ?cT8 ?dT8 (Or.inl ⟨?eT8,?fT8⟩) hS ?gT8
    case fT8=>intro w hSw;(try dsimp only at hSw);go_simp;(try with_reducible rfl)
    case aT8=>kernel_rfl
    case bT8=>kernel_rfl
    case cT8=>kernel_rfl
    case dT8=>exact fun _ _ _ h=>h
    case eT8=>rfl
    simp only [Act.put,List.getElem_toArray,List.getElem_cons_zero,List.getElem_cons_succ,List.setIfInBounds_toArray,List.set_cons_zero,List.set_cons_succ]
    refine wpAnyH_take (i:=8) (v:=?vT9) rfl ?aT9 ?bT9 ?cT9 ?dT9 (Or.inl ⟨?eT9,?fT9⟩) hS ?gT9
    case fT9=>intro w hSw;(try dsimp only at hSw);go_simp;(try with_reducible rfl)
    case aT9=>kernel_rfl
    case bT9=>kernel_rfl
    case cT9=>kernel_rfl
    case dT9=>exact fun _ _ _ h=>h
    case eT9=>rfl
    simp only [Act.put,List.getElem_toArray,List.getElem_cons_zero,List.getElem_cons_succ,List.setIfInBounds_toArray,List.set_cons_zero,List.set_cons_succ]
    refine wpAnyH_take (i:=9) (v:=?vT10) rfl ?aT10 ?bT10 ?cT10 ?dT10 (Or.inl ⟨?eT10,?fT10⟩) hS ?gT10
    case fT10=>intro w hSw;(try dsimp only at hSw);go_simp;(try with_reducible rfl)
    case aT10=>kernel_rfl
    case bT10=>kernel_rfl
    case cT10=>kernel_rfl
    case dT10=>exact fun _ _ _ h=>h
    case eT10=>rfl
    simp only [Act.put,List.getElem_toArray,List.getElem_cons_zero,List.getElem_cons_succ,List.setIfInBounds_toArray,List.set_cons_zero,List.set_cons_succ]
    refine wpAnyH_take (i:=10) (v:=?vT11) rfl ?aT11 ?bT11 ?cT11 ?dT11 (Or.inl ⟨?eT11,?fT11⟩) hS ?gT11
    case fT11=>intro w hSw;(try dsimp only at hSw);go_simp;(try with_reducible rfl)
    case aT11=>kernel_rfl
    case bT11=>kernel_rfl
    case cT11=>kernel_rfl
    case dT11=>exact fun _ _ _ h=>h
    case eT11=>rfl
    simp only [Act.put,List.getElem_toArray,List.getElem_cons_zero,List.getElem_cons_succ,List.setIfInBounds_toArray,List.set_cons_zero,List.set_cons_succ]
    refine wpAnyH_take (i:=12) (v:=?vT12) rfl ?aT12 ?bT12 ?cT12 ?dT12 (Or.inl ⟨?eT12,?fT12⟩) hS ?gT12
    case fT12=>intro w hSw;(try dsimp only at hSw);go_simp;(try with_reducible rfl)
    case aT12=>kernel_rfl
    case bT12=>kernel_rfl
    case cT12=>kernel_rfl
    case dT12=>exact fun _ _ _ h=>h
    case eT12=>rfl
    simp only [Act.put,List.getElem_toArray,List.getElem_cons_zero,List.getElem_cons_succ,List.setIfInBounds_toArray,List.set_cons_zero,List.set_cons_succ]
    refine wpAnyH_ready (rs:=[11,13]) (by kernel_rfl) (by simp) ?_
    refine (AllReadyH.cons (o:=_) rfl (fun K hK=>?_) (AllReadyH.cons (o:=_) rfl (fun K hK=>?_) AllReadyH.nil))
    ·have hc:=HP.out.cell (i:=k) (by rw [HLn.out];exact hkM)
     go_simp
     refine hK.out _ _ hS (fun _=>?_)
     clear hK K hc
     refine wpAnyH_ready (rs:=[13]) (by kernel_rfl) (by simp) ?_
     refine (AllReadyH.cons (o:=_) rfl (fun K hK=>?_) AllReadyH.nil)
     obtain ⟨gn,hgn⟩:∃ g,g=wp0.heap.size:=⟨_,rfl⟩
     obtain ⟨wp1,hwx⟩:∃ W,W=wp0.alloc (.cells #[.bool r.del,.int .u64 (r.seq:Int),.string (strOfNums r.key),.string (strOfNums r.val)] 48):=⟨_,rfl⟩
     have HNb:Hid (Whole wp1 gn 48 (recCells r)):=hid (by rw [hwx,hgn];exact Whole.new _ _ _)
     have HP:=hid (HP.out.keep (show Keeps NoBlock wp0 wp1 by rw [hwx];exact (Keeps.refl _ _).alloc _))
     have HBx:Hid (Whole wp1 wr.heap.size 48 (recCells r)):=hid (by rw [hwx];exact HBx.out.alloc _)
     have hS:(fun w':World=>w'.cell? (b.add j)=some (.int .u64 (k:Int))∧w'.cell? ⟨wr.heap.size,0,none⟩=some (.bool r.del)∧w'.cell? ⟨wr.heap.size,1,none⟩=some (.int .u64 (r.seq:Int))∧w'.cell? ⟨wr.heap.size,2,none⟩=some (.string (strOfNums r.key))∧w'.cell? ⟨wr.heap.size,3,none⟩=some (.string (strOfNums r.val))) wp1:=⟨(Keeps.ofBelow (S:=NoBlock) HP.out.below).cell HX0.out (fun h=>h),HBx.out.cell 0 rfl,HBx.out.cell 1 rfl,HBx.out.cell 2 rfl,HBx.out.cell 3 rfl⟩
     go_simp
     rw [← hwx,← hgn]
     refine hK.out _ _ hS (fun _=>?_)
     clear hK K hwx hgn
     refine wpAnyH_ready (rs:=[14]) (by kernel_rfl) (by simp) ?_
     refine (AllReadyH.cons (o:=_) rfl (fun K hK=>?_) AllReadyH.nil)
     refine step_append_lies _ rfl _ _ 22 rfl w.heap.size 48 i0 (.agg #[.bool false,.int .u64 0,.string ⟨#[]⟩,.string ⟨#[]⟩]) 4 48 Tryz.underlying22 hi hi0 hi1 hi2 rfl (by decide) (hs.getD k nilS) ML (rcFlat (ps.getD k [])) rfl (by rw [HML.out];exact HP.out.heads.row k hkp) ⟨gn,0,none⟩ 1 1 (rcFour r) rfl rfl ?wp1c1 ?wp1c2 (by decide) ?wp1c3 ?wp1c4 ?wp1c5 _ rfl ?_
     case wp1c1=>exact fun i u hu=>World.news_of_block HNb.out i u hu
     case wp1c2 =>
      intro u hu
      simp only [rcFour,List.mem_cons,List.not_mem_nil,or_false] at hu
      rcases hu with rfl|rfl|rfl|rfl <;> rfl
     case wp1c3=>have:=HPl.out;unfold maxLen;omega
     case wp1c4=>have:=HPl.out;omega
     case wp1c5=>exact HP.out.below.size
     intro g7 cap7 wp2 hown hgrow hlie hg7
     obtain ⟨hO7,hB7,hP7⟩:=HP.out.putIn (g:=g7) (cap:=cap7) hkp r (by rw [← HML.out];exact hown) hgrow (hlie.imp id (fun h=>by omega)) hg7
     rw [← HML.out] at hP7
     have HBx:=hid (HBx.out.grown hgrow (HBn.out k hkp))
     obtain ⟨_,_,cur7,hv7,_,hw7,_⟩:=own_head hO7 (by rw [HLn.out];omega)
     simp only [Value.slice.injEq,Option.some.injEq,Addr.mk.injEq,and_true,true_and] at hv7
     obtain ⟨rfl,rfl⟩:=hv7
     have hc7:∃ u,wp2.cell? ⟨go,k,none⟩=some u:=⟨_,by have:=hO7.cells (g:=go) rfl k (hs.getD k nilS) (by simp [HLn.out,hkM]);rwa [Addr.add_lit,Nat.zero_add] at this⟩
     obtain ⟨u7,hc7⟩:=hc7
     have hf7:=hw7.free k
     have HP7:=hid hP7
     have HB7:=hid hB7
     have hS:(fun w':World=>w'.cell? (b.add j)=some (.int .u64 (k:Int))∧w'.cell? ⟨wr.heap.size,0,none⟩=some (.bool r.del)∧w'.cell? ⟨wr.heap.size,1,none⟩=some (.int .u64 (r.seq:Int))∧w'.cell? ⟨wr.heap.size,2,none⟩=some (.string (strOfNums r.key))∧w'.cell? ⟨wr.heap.size,3,none⟩=some (.string (strOfNums r.val))) wp2:=⟨(Keeps.ofBelow (S:=NoBlock) HB7.out).cell HX0.out (fun h=>h),HBx.out.cell 0 rfl,HBx.out.cell 1 rfl,HBx.out.cell 2 rfl,HBx.out.cell 3 rfl⟩
     clear hown hgrow hlie hg7 hO7 hB7 hP7 hw7
     refine hK.out _ _ hS (fun _=>?_)
     clear hK K
     refine wpAnyH_take (i:=15) (v:=?vT13) rfl ?aT13 ?bT13 ?cT13 ?dT13 (Or.inl ⟨?eT13,?fT13⟩) hS ?gT13
     case fT13=>intro w hSw;(try dsimp only at hSw);go_simp;(try with_reducible rfl)
     case aT13=>kernel_rfl
     case bT13=>kernel_rfl
     case cT13=>kernel_rfl
     case dT13=>exact fun _ _ _ h=>h
     case eT13=>rfl
     simp only [Act.put,List.getElem_toArray,List.getElem_cons_zero,List.getElem_cons_succ,List.setIfInBounds_toArray,List.set_cons_zero,List.set_cons_succ]
     refine wpAnyH_ready (rs:=[16]) (by kernel_rfl) (by simp) ?_
     refine (AllReadyH.cons (o:=_) rfl (fun K hK=>?_) AllReadyH.nil)
     go_simp
     refine hK.out _ _ ⟨(Keeps.ofBelow (S:=NoBlock) HP7.out.below).cell HX0.out (fun h=>h),(HBx.out.setOther (p:=⟨go,k,none⟩) (fun e=>HBg.out e.symm) _).cell 0 rfl,(HBx.out.setOther (p:=⟨go,k,none⟩) (fun e=>HBg.out e.symm) _).cell 1 rfl,(HBx.out.setOther (p:=⟨go,k,none⟩) (fun e=>HBg.out e.symm) _).cell 2 rfl,(HBx.out.setOther (p:=⟨go,k,none⟩) (fun e=>HBg.out e.symm) _).cell 3 rfl⟩ (fun _=>?_)
     clear hK K
     refine wpAnyH_done (by kernel_rfl) ?_ _
     go_wp2_with fail
     exact ⟨⟨j+1,_,by omega,by go_num,hid (by rw [HPT.out,HPe.out];have h7:=HP7.out;rw [List.length_set,HLn.out] at h7;exact h7)⟩,by simp [intOf];omega⟩
    ·obtain ⟨gn,hgn⟩:∃ g,g=wp0.heap.size:=⟨_,rfl⟩
     obtain ⟨wp1,hwx⟩:∃ W,W=wp0.alloc (.cells #[.bool r.del,.int .u64 (r.seq:Int),.string (strOfNums r.key),.string (strOfNums r.val)] 48):=⟨_,rfl⟩
     have HNb:Hid (Whole wp1 gn 48 (recCells r)):=hid (by rw [hwx,hgn];exact Whole.new _ _ _)
     have HP:=hid (HP.out.keep (show Keeps NoBlock wp0 wp1 by rw [hwx];exact (Keeps.refl _ _).alloc _))
     have HBx:Hid (Whole wp1 wr.heap.size 48 (recCells r)):=hid (by rw [hwx];exact HBx.out.alloc _)
     have hS:(fun w':World=>w'.cell? (b.add j)=some (.int .u64 (k:Int))∧w'.cell? ⟨wr.heap.size,0,none⟩=some (.bool r.del)∧w'.cell? ⟨wr.heap.size,1,none⟩=some (.int .u64 (r.seq:Int))∧w'.cell? ⟨wr.heap.size,2,none⟩=some (.string (strOfNums r.key))∧w'.cell? ⟨wr.heap.size,3,none⟩=some (.string (strOfNums r.val))) wp1:=⟨(Keeps.ofBelow (S:=NoBlock) HP.out.below).cell HX0.out (fun h=>h),HBx.out.cell 0 rfl,HBx.out.cell 1 rfl,HBx.out.cell 2 rfl,HBx.out.cell 3 rfl⟩
     go_simp
     rw [← hwx,← hgn]
     refine hK.out _ _ hS (fun _=>?_)
     clear hK K hwx hgn
     refine wpAnyH_ready (rs:=[11]) (by kernel_rfl) (by simp) ?_
     refine (AllReadyH.cons (o:=_) rfl (fun K hK=>?_) AllReadyH.nil)
     have hc:=HP.out.cell (i:=k) (by rw [HLn.out];exact hkM)
     go_simp
     refine hK.out _ _ hS (fun _=>?_)
     clear hK K hc
     refine wpAnyH_ready (rs:=[14]) (by kernel_rfl) (by simp) ?_
     refine (AllReadyH.cons (o:=_) rfl (fun K hK=>?_) AllReadyH.nil)
     refine step_append_lies _ rfl _ _ 22 rfl w.heap.size 48 i0 (.agg #[.bool false,.int .u64 0,.string ⟨#[]⟩,.string ⟨#[]⟩]) 4 48 Tryz.underlying22 hi hi0 hi1 hi2 rfl (by decide) (hs.getD k nilS) ML (rcFlat (ps.getD k [])) rfl (by rw [HML.out];exact HP.out.heads.row k hkp) ⟨gn,0,none⟩ 1 1 (rcFour r) rfl rfl ?wp2c1 ?wp2c2 (by decide) ?wp2c3 ?wp2c4 ?wp2c5 _ rfl ?_
     case wp2c1=>exact fun i u hu=>World.news_of_block HNb.out i u hu
     case wp2c2 =>
      intro u hu
      simp only [rcFour,List.mem_cons,List.not_mem_nil,or_false] at hu
      rcases hu with rfl|rfl|rfl|rfl <;> rfl
     case wp2c3=>have:=HPl.out;unfold maxLen;omega
     case wp2c4=>have:=HPl.out;omega
     case wp2c5=>exact HP.out.below.size
     intro g7 cap7 wp2 hown hgrow hlie hg7
     obtain ⟨hO7,hB7,hP7⟩:=HP.out.putIn (g:=g7) (cap:=cap7) hkp r (by rw [← HML.out];exact hown) hgrow (hlie.imp id (fun h=>by omega)) hg7
     rw [← HML.out] at hP7
     have HBx:=hid (HBx.out.grown hgrow (HBn.out k hkp))
     obtain ⟨_,_,cur7,hv7,_,hw7,_⟩:=own_head hO7 (by rw [HLn.out];omega)
     simp only [Value.slice.injEq,Option.some.injEq,Addr.mk.injEq,and_true,true_and] at hv7
     obtain ⟨rfl,rfl⟩:=hv7
     have hc7:∃ u,wp2.cell? ⟨go,k,none⟩=some u:=⟨_,by have:=hO7.cells (g:=go) rfl k (hs.getD k nilS) (by simp [HLn.out,hkM]);rwa [Addr.add_lit,Nat.zero_add] at this⟩
     obtain ⟨u7,hc7⟩:=hc7
     have hf7:=hw7.free k
     have HP7:=hid hP7
     have HB7:=hid hB7
     have hS:(fun w':World=>w'.cell? (b.add j)=some (.int .u64 (k:Int))∧w'.cell? ⟨wr.heap.size,0,none⟩=some (.bool r.del)∧w'.cell? ⟨wr.heap.size,1,none⟩=some (.int .u64 (r.seq:Int))∧w'.cell? ⟨wr.heap.size,2,none⟩=some (.string (strOfNums r.key))∧w'.cell? ⟨wr.heap.size,3,none⟩=some (.string (strOfNums r.val))) wp2:=⟨(Keeps.ofBelow (S:=NoBlock) HB7.out).cell HX0.out (fun h=>h),HBx.out.cell 0 rfl,HBx.out.cell 1 rfl,HBx.out.cell 2 rfl,HBx.out.cell 3 rfl⟩
     clear hown hgrow hlie hg7 hO7 hB7 hP7 hw7
     refine hK.out _ _ hS (fun _=>?_)
     clear hK K
     refine wpAnyH_take (i:=15) (v:=?vT14) rfl ?aT14 ?bT14 ?cT14 ?dT14 (Or.inl ⟨?eT14,?fT14⟩) hS ?gT14
     case fT14=>intro w hSw;(try dsimp only at hSw);go_simp;(try with_reducible rfl)
     case aT14=>kernel_rfl
     case bT14=>kernel_rfl
     case cT14=>kernel_rfl
     case dT14=>exact fun _ _ _ h=>h
     case eT14=>rfl
     simp only [Act.put,List.getElem_toArray,List.getElem_cons_zero,List.getElem_cons_succ,List.setIfInBounds_toArray,List.set_cons_zero,List.set_cons_succ]
     refine wpAnyH_ready (rs:=[16]) (by kernel_rfl) (by simp) ?_
     refine (AllReadyH.cons (o:=_) rfl (fun K hK=>?_) AllReadyH.nil)
     go_simp
     refine hK.out _ _ ⟨(Keeps.ofBelow (S:=NoBlock) HP7.out.below).cell HX0.out (fun h=>h),(HBx.out.setOther (p:=⟨go,k,none⟩) (fun e=>HBg.out e.symm) _).cell 0 rfl,(HBx.out.setOther (p:=⟨go,k,none⟩) (fun e=>HBg.out e.symm) _).cell 1 rfl,(HBx.out.setOther (p:=⟨go,k,none⟩) (fun e=>HBg.out e.symm) _).cell 2 rfl,(HBx.out.setOther (p:=⟨go,k,none⟩) (fun e=>HBg.out e.symm) _).cell 3 rfl⟩ (fun _=>?_)
     clear hK K
     refine wpAnyH_done (by kernel_rfl) ?_ _
     go_wp2_with fail
     exact ⟨⟨j+1,_,by omega,by go_num,hid (by rw [HPT.out,HPe.out];have h7:=HP7.out;rw [List.length_set,HLn.out] at h7;exact h7)⟩,by simp [intOf];omega⟩
   ·have hkO2:k=O:=by omega
    have hle:O≤k:=by omega
    have hle2:decide ((O:Int)≤(k:Int))=true:=decide_eq_true (by omega)
    have hle3:decide (O≤k)=true:=decide_eq_true hle
    have HPe:=hid (show putPart ps k r=(ps ++ [[]]).set k ((ps ++ [[]]).getD k [] ++ [r]) by unfold putPart;rw [if_pos (by have:=HOd.out;omega)])
    have HOk:=hid hkO2
    have HP2:=hid (HP1.out.keep ((Keeps.refl NoBlock _).alloc (.cells #[.slice none 0 0] 22)))
    have HBx:=hid (HBx.out.alloc (.cells #[.slice none 0 0] 22))
    have HNw:Hid (Whole ((wr.alloc (.cells #[.bool r.del,.int .u64 (r.seq:Int),.string (strOfNums r.key),.string (strOfNums r.val)] 48)).alloc (.cells #[.slice none 0 0] 22)) (wr.heap.size+1) 22 #[.slice none 0 0]):=hid (Whole.newAt _ _ _ _ (by simp))
    have HFa:=hid (And.intro hO9 hO9)
    have HXr:=hid xl
    clear HP1 hsa hkO hkO2
    go_wp2_with (at_builtin;refine wpList_append_own _ rfl _ _ 45 rfl w.heap.size 22 j0 (.slice none 0 0) 1 24 Tryz.underlying45 ki kz0 kz1 kz2 rfl (by decide) _ O hs rfl (by have h:=HP2.out.own;rw [← HOd.out.1] at h;exact h) ⟨wr.heap.size+1,0,none⟩ 1 1 [nilS] rfl rfl ?c1 ?c2 ?c3 ?c4 ?c5 ?_)
    case c1 =>
     intro i u hu
     rw [Addr.add_lit,Nat.zero_add]
     match i,hu with
     | 0,hu=>obtain rfl:=Option.some.inj hu;exact HNw.out.cell 0 rfl
     | i+1,hu=>simp at hu
    case c2 =>
     intro u hu
     obtain rfl:=List.mem_singleton.1 hu
     rfl
    case c3=>have:=HFa.out.1;unfold maxLen;omega
    case c4=>have:=HFa.out.1;omega
    case c5=>exact HP2.out.below.size
    intro v' w6 hown hgrow _
    obtain ⟨go,co',_,rfl,_⟩:=own_head hown (by omega)
    have HPn:=hid (HP2.out.snoc (by rw [← HOd.out.1];exact hown) hgrow)
    have HBx:=hid (HBx.out.grown hgrow (fun e=>by
     have h2:=HP2.out.own
     exact own_apart (by decide) h2 HBx.out e))
    have HBn2:=hid (fun i (hi:i<(ps ++ [[]]).length)=>show ((hs ++ [nilS]).getD i nilS).ownBlock ≠ some wr.heap.size from fun e=>by
     rw [List.length_append,List.length_singleton] at hi
     by_cases hi2:i<ps.length
     ·rw [getD_app _ _ _ (by have:=HOd.out;omega)] at e
      exact HBn.out i hi2 e
     ·have e1:(hs ++ [nilS]).getD i nilS=nilS:=by
       rw [List.getD_eq_getElem?_getD,List.getElem?_append_right (by have:=HOd.out;omega),show i - hs.length=0 by have:=HOd.out;omega]
       rfl
      rw [e1] at e
      simp [nilS,Value.ownBlock] at e)
    obtain ⟨hs2,hh2⟩:∃ x,x=hs ++ [nilS]:=⟨_,rfl⟩
    obtain ⟨ps2,hp2⟩:∃ x,x=ps ++ [[]]:=⟨_,rfl⟩
    have HLp:=hid (show ps2.length=O+1 by rw [hp2,List.length_append,List.length_singleton];have:=HOd.out;omega)
    have HLn:=hid (show hs2.length=O+1 by rw [hh2,List.length_append,List.length_singleton];have:=HOd.out;omega)
    have HFp:=hid (show ∀ p ∈ ps2,p.length≤10000 by
     intro p hp
     rw [hp2] at hp
     rcases List.mem_append.1 hp with hp|hp
     ·have:=HFe.out.2 p hp;omega
     ·rw [List.mem_singleton.1 hp];simp)
    rw [← hh2,← hp2] at HPn HBn2
    rw [← hp2] at HPe
    obtain ⟨O2,hO2⟩:∃ x,x=O+1:=⟨_,rfl⟩
    rw [← hO2] at HLp HLn ⊢
    have hkM:k<O2:=by have:=HOk.out;omega
    have hkp:k<ps2.length:=by rw [HLp.out];exact hkM
    have hkI:(k:Int)<(O2:Int):=by omega
    obtain ⟨ML,hML⟩:∃ x,x=(ps2.getD k []).length:=⟨_,rfl⟩
    have HML:=hid hML
    have HPl:=hid (show ML≤10000 by rw [hML];exact HFp.out _ (by simp [hkp]))
    have HP:=hid (show PartsSoFar w ps2 hs2 (.slice (some ⟨go,0,none⟩) hs2.length co') w6 by rw [HLn.out,hO2];exact HPn.out)
    have HO2:=hid hO2
    obtain ⟨_,_,curg,hvg,_,hwg,_⟩:=own_head HP.out.own (by rw [HLn.out];omega)
    simp only [Value.slice.injEq,Option.some.injEq,Addr.mk.injEq,and_true,true_and] at hvg
    obtain ⟨rfl,rfl⟩:=hvg
    have HBg:=hid (show go ≠ wr.heap.size from fun e=>by
     subst e
     exact absurd (Whole.unique hwg HBx.out).1 (by decide))
    have HBn:=HBn2
    clear hown hgrow hh2 hp2 hML hwg HPn HBn2 HP2 c0 c1 c2 c3 x1 hO2
    go_upto_region 7 with (fail)
    go_wp2_with fail
    obtain ⟨wq0,hwx⟩:∃ W,W=w6.drew:=⟨_,rfl⟩
    have HP:=hid (HP.out.keep (show Keeps NoBlock w6 wq0 by rw [hwx];exact (Keeps.refl _ _).drew))
    have HBx:Hid (Whole wq0 wr.heap.size 48 (recCells r)):=hid (by rw [hwx];exact HBx.out)
    have hS:(fun w':World=>w'.cell? (b.add j)=some (.int .u64 (k:Int))∧w'.cell? ⟨wr.heap.size,0,none⟩=some (.bool r.del)∧w'.cell? ⟨wr.heap.size,1,none⟩=some (.int .u64 (r.seq:Int))∧w'.cell? ⟨wr.heap.size,2,none⟩=some (.string (strOfNums r.key))∧w'.cell? ⟨wr.heap.size,3,none⟩=some (.string (strOfNums r.val))) wq0:=⟨(Keeps.ofBelow (S:=NoBlock) HP.out.below).cell HX0.out (fun h=>h),HBx.out.cell 0 rfl,HBx.out.cell 1 rfl,HBx.out.cell 2 rfl,HBx.out.cell 3 rfl⟩
    refine wp_region_held_drew (S:=fun w':World=>w'.cell? (b.add j)=some (.int .u64 (k:Int))∧w'.cell? ⟨wr.heap.size,0,none⟩=some (.bool r.del)∧w'.cell? ⟨wr.heap.size,1,none⟩=some (.int .u64 (r.seq:Int))∧w'.cell? ⟨wr.heap.size,2,none⟩=some (.string (strOfNums r.key))∧w'.cell? ⟨wr.heap.size,3,none⟩=some (.string (strOfNums r.val))) (by kernel_rfl) (by rw [← hwx];exact hS) (fun _=>?_)
    rw [← hwx]
    clear hwx
    refine wpAnyH_take (i:=0) (v:=?vT15) rfl ?aT15 ?bT15 ?cT15 ?dT15 (Or.inl ⟨?eT15,?fT15⟩) hS ?gT15
    case fT15=>intro w hSw;(try dsimp only at hSw);go_simp;(try with_reducible rfl)
    case aT15=>kernel_rfl
    case bT15=>kernel_rfl
    case cT15=>kernel_rfl
    case dT15=>exact fun _ _ _ h=>h
    case eT15=>rfl
    simp only [Act.put,List.getElem_toArray,List.getElem_cons_zero,List.setIfInBounds_toArray,List.set_cons_zero,List.set_cons_succ]
    refine wpAnyH_take (i:=1) (v:=?vT16) rfl ?aT16 ?bT16 ?cT16 ?dT16 (Or.inl ⟨?eT16,?fT16⟩) hS ?gT16
    case fT16=>intro w hSw;(try dsimp only at hSw);go_simp;(try with_reducible rfl)
    case aT16=>kernel_rfl
    case bT16=>kernel_rfl
    case cT16=>kernel_rfl
    case dT16=>exact fun _ _ _ h=>h
    case eT16=>rfl
    simp only [Act.put,List.getElem_toArray,List.getElem_cons_zero,List.getElem_cons_succ,List.setIfInBounds_toArray,List.set_cons_zero,List.set_cons_succ]
    refine wpAnyH_take (i:=2) (v:=?vT17) rfl ?aT17 ?bT17 ?cT17 ?dT17 (Or.inl ⟨?eT17,?fT17⟩) hS ?gT17
    case fT17=>intro w hSw;(try dsimp only at hSw);go_simp;(try with_reducible rfl)
    case aT17=>kernel_rfl
    case bT17=>kernel_rfl
    case cT17=>kernel_rfl
    case dT17=>exact fun _ _ _ h=>h
    case eT17=>rfl
    simp only [Act.put,List.getElem_toArray,List.getElem_cons_zero,List.getElem_cons_succ,List.setIfInBounds_toArray,List.set_cons_zero,List.set_cons_succ]
    refine wpAnyH_take (i:=3) (v:=?vT18) rfl ?aT18 ?bT18 ?cT18 ?dT18 (Or.inl ⟨?eT18,?fT18⟩) hS ?gT18
    case fT18=>intro w hSw;(try dsimp only at hSw);go_simp;(try with_reducible rfl)
    case aT18=>kernel_rfl
    case bT18=>kernel_rfl
    case cT18=>kernel_rfl
    case dT18=>exact fun _ _ _ h=>h
    case eT18=>rfl
    simp only [Act.put,List.getElem_toArray,List.getElem_cons_zero,List.getElem_cons_succ,List.setIfInBounds_toArray,List.set_cons_zero,List.set_cons_succ]
    refine wpAnyH_take (i:=4) (v:=?vT19) rfl ?aT19 ?bT19 ?cT19 ?dT19 (Or.inl ⟨?eT19,?fT19⟩) hS ?gT19
    case fT19=>intro w hSw;(try dsimp only at hSw);go_simp;(try with_reducible rfl)
    case aT19=>kernel_rfl
    case bT19=>kernel_rfl
    case cT19=>kernel_rfl
    case dT19=>exact fun _ _ _ h=>h
    case eT19=>rfl
    simp only [Act.put,List.getElem_toArray,List.getElem_cons_zero,List.getElem_cons_succ,List.setIfInBounds_toArray,List.set_cons_zero,List.set_cons_succ]
    refine wpAnyH_take (i:=5) (v:=?vT20) rfl ?aT20 ?bT20 ?cT20 ?dT20 (Or.inl ⟨?eT20,?fT20⟩) hS ?gT20
    case fT20=>intro w hSw;(try dsimp only at hSw);go_simp;(try with_reducible rfl)
    case aT20=>kernel_rfl
    case bT20=>kernel_rfl
    case cT20=>kernel_rfl
    case dT20=>exact fun _ _ _ h=>h
    case eT20=>rfl
    simp only [Act.put,List.getElem_toArray,List.getElem_cons_zero,List.getElem_cons_succ,List.setIfInBounds_toArray,List.set_cons_zero,List.set_cons_succ]
    refine wpAnyH_take (i:=6) (v:=?vT21) rfl ?aT21 ?bT21 ?cT21 ?dT21 (Or.inl ⟨?eT21,?fT21⟩) hS ?gT21
    case fT21=>intro w hSw;(try dsimp only at hSw);go_simp;(try with_reducible rfl)
    case aT21=>kernel_rfl
    case bT21=>kernel_rfl
    case cT21=>kernel_rfl
    case dT21=>exact fun _ _ _ h=>h
    case eT21=>rfl
    simp only [Act.put,List.getElem_toArray,List.getElem_cons_zero,List.getElem_cons_succ,List.setIfInBounds_toArray,List.set_cons_zero,List.set_cons_succ]
    refine wpAnyH_take (i:=7) (v:=?vT22) rfl ?aT22 ?bT22 ?cT22 ?dT22 (Or.inl ⟨?eT22,?fT22⟩) hS ?gT22
    case fT22=>intro w hSw;(try dsimp only at hSw);go_simp;(try with_reducible rfl)
    case aT22=>kernel_rfl
    case bT22=>kernel_rfl
    case cT22=>kernel_rfl
    case dT22=>exact fun _ _ _ h=>h
    case eT22=>rfl
    simp only [Act.put,List.getElem_toArray,List.getElem_cons_zero,List.getElem_cons_succ,List.setIfInBounds_toArray,List.set_cons_zero,List.set_cons_succ]
    refine wpAnyH_take (i:=8) (v:=?vT23) rfl ?aT23 ?bT23 ?cT23 ?dT23 (Or.inl ⟨?eT23,?fT23⟩) hS ?gT23
    case fT23=>intro w hSw;(try dsimp only at hSw);go_simp;(try with_reducible rfl)
    case aT23=>kernel_rfl
    case bT23=>kernel_rfl
    case cT23=>kernel_rfl
    case dT23=>exact fun _ _ _ h=>h
    case eT23=>rfl
    simp only [Act.put,List.getElem_toArray,List.getElem_cons_zero,List.getElem_cons_succ,List.setIfInBounds_toArray,List.set_cons_zero,List.set_cons_succ]
    refine wpAnyH_take (i:=9) (v:=?vT24) rfl ?aT24 ?bT24 ?cT24 ?dT24 (Or.inl ⟨?eT24,?fT24⟩) hS ?gT24
    case fT24=>intro w hSw;(try dsimp only at hSw);go_simp;(try with_reducible rfl)
    case aT24=>kernel_rfl
    case bT24=>kernel_rfl
    case cT24=>kernel_rfl
    case dT24=>exact fun _ _ _ h=>h
    case eT24=>rfl
    simp only [Act.put,List.getElem_toArray,List.getElem_cons_zero,List.getElem_cons_succ,List.setIfInBounds_toArray,List.set_cons_zero,List.set_cons_succ]
    refine wpAnyH_take (i:=10) (v:=?vT25) rfl ?aT25 ?bT25 ?cT25 ?dT25 (Or.inl ⟨?eT25,?fT25⟩) hS ?gT25
    case fT25=>intro w hSw;(try dsimp only at hSw);go_simp;(try with_reducible rfl)
    case aT25=>kernel_rfl
    case bT25=>kernel_rfl
    case cT25=>kernel_rfl
    case dT25=>exact fun _ _ _ h=>h
    case eT25=>rfl
    simp only [Act.put,List.getElem_toArray,List.getElem_cons_zero,List.getElem_cons_succ,List.setIfInBounds_toArray,List.set_cons_zero,List.set_cons_succ]
    refine wpAnyH_take (i:=12) (v:=?vT26) rfl ?aT26 ?bT26 ?cT26 ?dT26 (Or.inl ⟨?eT26,?fT26⟩) hS ?gT26
    case fT26=>intro w hSw;(try dsimp only at hSw);go_simp;(try with_reducible rfl)
    case aT26=>kernel_rfl
    case bT26=>kernel_rfl
    case cT26=>kernel_rfl
    case dT26=>exact fun _ _ _ h=>h
    case eT26=>rfl
    simp only [Act.put,List.getElem_toArray,List.getElem_cons_zero,List.getElem_cons_succ,List.setIfInBounds_toArray,List.set_cons_zero,List.set_cons_succ]
    refine wpAnyH_ready (rs:=[11,13]) (by kernel_rfl) (by simp) ?_
    refine (AllReadyH.cons (o:=_) rfl (fun K hK=>?_) (AllReadyH.cons (o:=_) rfl (fun K hK=>?_) AllReadyH.nil))
    ·have hc:=HP.out.cell (i:=k) (by rw [HLn.out];exact hkM)
     go_simp
     refine hK.out _ _ hS (fun _=>?_)
     clear hK K hc
     refine wpAnyH_ready (rs:=[13]) (by kernel_rfl) (by simp) ?_
     refine (AllReadyH.cons (o:=_) rfl (fun K hK=>?_) AllReadyH.nil)
     obtain ⟨gn,hgn⟩:∃ g,g=wq0.heap.size:=⟨_,rfl⟩
     obtain ⟨wq1,hwx⟩:∃ W,W=wq0.alloc (.cells #[.bool r.del,.int .u64 (r.seq:Int),.string (strOfNums r.key),.string (strOfNums r.val)] 48):=⟨_,rfl⟩
     have HNb:Hid (Whole wq1 gn 48 (recCells r)):=hid (by rw [hwx,hgn];exact Whole.new _ _ _)
     have HP:=hid (HP.out.keep (show Keeps NoBlock wq0 wq1 by rw [hwx];exact (Keeps.refl _ _).alloc _))
     have HBx:Hid (Whole wq1 wr.heap.size 48 (recCells r)):=hid (by rw [hwx];exact HBx.out.alloc _)
     have hS:(fun w':World=>w'.cell? (b.add j)=some (.int .u64 (k:Int))∧w'.cell? ⟨wr.heap.size,0,none⟩=some (.bool r.del)∧w'.cell? ⟨wr.heap.size,1,none⟩=some (.int .u64 (r.seq:Int))∧w'.cell? ⟨wr.heap.size,2,none⟩=some (.string (strOfNums r.key))∧w'.cell? ⟨wr.heap.size,3,none⟩=some (.string (strOfNums r.val))) wq1:=⟨(Keeps.ofBelow (S:=NoBlock) HP.out.below).cell HX0.out (fun h=>h),HBx.out.cell 0 rfl,HBx.out.cell 1 rfl,HBx.out.cell 2 rfl,HBx.out.cell 3 rfl⟩
     go_simp
     rw [← hwx,← hgn]
     refine hK.out _ _ hS (fun _=>?_)
     clear hK K hwx hgn
     refine wpAnyH_ready (rs:=[14]) (by kernel_rfl) (by simp) ?_
     refine (AllReadyH.cons (o:=_) rfl (fun K hK=>?_) AllReadyH.nil)
     refine step_append_lies _ rfl _ _ 22 rfl w.heap.size 48 i0 (.agg #[.bool false,.int .u64 0,.string ⟨#[]⟩,.string ⟨#[]⟩]) 4 48 Tryz.underlying22 hi hi0 hi1 hi2 rfl (by decide) (hs2.getD k nilS) ML (rcFlat (ps2.getD k [])) rfl (by rw [HML.out];exact HP.out.heads.row k hkp) ⟨gn,0,none⟩ 1 1 (rcFour r) rfl rfl ?wq1c1 ?wq1c2 (by decide) ?wq1c3 ?wq1c4 ?wq1c5 _ rfl ?_
     case wq1c1=>exact fun i u hu=>World.news_of_block HNb.out i u hu
     case wq1c2 =>
      intro u hu
      simp only [rcFour,List.mem_cons,List.not_mem_nil,or_false] at hu
      rcases hu with rfl|rfl|rfl|rfl <;> rfl
     case wq1c3=>have:=HPl.out;unfold maxLen;omega
     case wq1c4=>have:=HPl.out;omega
     case wq1c5=>exact HP.out.below.size
     intro g7 cap7 wq2 hown hgrow hlie hg7
     obtain ⟨hO7,hB7,hP7⟩:=HP.out.putIn (g:=g7) (cap:=cap7) hkp r (by rw [← HML.out];exact hown) hgrow (hlie.imp id (fun h=>by omega)) hg7
     rw [← HML.out] at hP7
     have HBx:=hid (HBx.out.grown hgrow (HBn.out k hkp))
     obtain ⟨_,_,cur7,hv7,_,hw7,_⟩:=own_head hO7 (by rw [HLn.out];omega)
     simp only [Value.slice.injEq,Option.some.injEq,Addr.mk.injEq,and_true,true_and] at hv7
     obtain ⟨rfl,rfl⟩:=hv7
     have hc7:∃ u,wq2.cell? ⟨go,k,none⟩=some u:=⟨_,by have:=hO7.cells (g:=go) rfl k (hs2.getD k nilS) (by simp [HLn.out,hkM]);rwa [Addr.add_lit,Nat.zero_add] at this⟩
     obtain ⟨u7,hc7⟩:=hc7
     have hf7:=hw7.free k
     have HP7:=hid hP7
     have HB7:=hid hB7
     have hS:(fun w':World=>w'.cell? (b.add j)=some (.int .u64 (k:Int))∧w'.cell? ⟨wr.heap.size,0,none⟩=some (.bool r.del)∧w'.cell? ⟨wr.heap.size,1,none⟩=some (.int .u64 (r.seq:Int))∧w'.cell? ⟨wr.heap.size,2,none⟩=some (.string (strOfNums r.key))∧w'.cell? ⟨wr.heap.size,3,none⟩=some (.string (strOfNums r.val))) wq2:=⟨(Keeps.ofBelow (S:=NoBlock) HB7.out).cell HX0.out (fun h=>h),HBx.out.cell 0 rfl,HBx.out.cell 1 rfl,HBx.out.cell 2 rfl,HBx.out.cell 3 rfl⟩
     clear hown hgrow hlie hg7 hO7 hB7 hP7 hw7
     refine hK.out _ _ hS (fun _=>?_)
     clear hK K
     refine wpAnyH_take (i:=15) (v:=?vT27) rfl ?aT27 ?bT27 ?cT27 ?dT27 (Or.inl ⟨?eT27,?fT27⟩) hS ?gT27
     case fT27=>intro w hSw;(try dsimp only at hSw);go_simp;(try with_reducible rfl)
     case aT27=>kernel_rfl
     case bT27=>kernel_rfl
     case cT27=>kernel_rfl
     case dT27=>exact fun _ _ _ h=>h
     case eT27=>rfl
     simp only [Act.put,List.getElem_toArray,List.getElem_cons_zero,List.getElem_cons_succ,List.setIfInBounds_toArray,List.set_cons_zero,List.set_cons_succ]
     refine wpAnyH_ready (rs:=[16]) (by kernel_rfl) (by simp) ?_
     refine (AllReadyH.cons (o:=_) rfl (fun K hK=>?_) AllReadyH.nil)
     go_simp
     refine hK.out _ _ ⟨(Keeps.ofBelow (S:=NoBlock) HP7.out.below).cell HX0.out (fun h=>h),(HBx.out.setOther (p:=⟨go,k,none⟩) (fun e=>HBg.out e.symm) _).cell 0 rfl,(HBx.out.setOther (p:=⟨go,k,none⟩) (fun e=>HBg.out e.symm) _).cell 1 rfl,(HBx.out.setOther (p:=⟨go,k,none⟩) (fun e=>HBg.out e.symm) _).cell 2 rfl,(HBx.out.setOther (p:=⟨go,k,none⟩) (fun e=>HBg.out e.symm) _).cell 3 rfl⟩ (fun _=>?_)
     clear hK K
     refine wpAnyH_done (by kernel_rfl) ?_ _
     go_wp2_with fail
     exact ⟨⟨j+1,_,by omega,by go_num,hid (by rw [HPT.out,HPe.out];have h7:=HP7.out;rw [List.length_set,HLn.out] at h7;exact h7)⟩,by simp [intOf];omega⟩
    ·obtain ⟨gn,hgn⟩:∃ g,g=wq0.heap.size:=⟨_,rfl⟩
     obtain ⟨wq1,hwx⟩:∃ W,W=wq0.alloc (.cells #[.bool r.del,.int .u64 (r.seq:Int),.string (strOfNums r.key),.string (strOfNums r.val)] 48):=⟨_,rfl⟩
     have HNb:Hid (Whole wq1 gn 48 (recCells r)):=hid (by rw [hwx,hgn];exact Whole.new _ _ _)
     have HP:=hid (HP.out.keep (show Keeps NoBlock wq0 wq1 by rw [hwx];exact (Keeps.refl _ _).alloc _))
     have HBx:Hid (Whole wq1 wr.heap.size 48 (recCells r)):=hid (by rw [hwx];exact HBx.out.alloc _)
     have hS:(fun w':World=>w'.cell? (b.add j)=some (.int .u64 (k:Int))∧w'.cell? ⟨wr.heap.size,0,none⟩=some (.bool r.del)∧w'.cell? ⟨wr.heap.size,1,none⟩=some (.int .u64 (r.seq:Int))∧w'.cell? ⟨wr.heap.size,2,none⟩=some (.string (strOfNums r.key))∧w'.cell? ⟨wr.heap.size,3,none⟩=some (.string (strOfNums r.val))) wq1:=⟨(Keeps.ofBelow (S:=NoBlock) HP.out.below).cell HX0.out (fun h=>h),HBx.out.cell 0 rfl,HBx.out.cell 1 rfl,HBx.out.cell 2 rfl,HBx.out.cell 3 rfl⟩
     go_simp
     rw [← hwx,← hgn]
     refine hK.out _ _ hS (fun _=>?_)
     clear hK K hwx hgn
     refine wpAnyH_ready (rs:=[11]) (by kernel_rfl) (by simp) ?_
     refine (AllReadyH.cons (o:=_) rfl (fun K hK=>?_) AllReadyH.nil)
     have hc:=HP.out.cell (i:=k) (by rw [HLn.out];exact hkM)
     go_simp
     refine hK.out _ _ hS (fun _=>?_)
     clear hK K hc
     refine wpAnyH_ready (rs:=[14]) (by kernel_rfl) (by simp) ?_
     refine (AllReadyH.cons (o:=_) rfl (fun K hK=>?_) AllReadyH.nil)
     refine step_append_lies _ rfl _ _ 22 rfl w.heap.size 48 i0 (.agg #[.bool false,.int .u64 0,.string ⟨#[]⟩,.string ⟨#[]⟩]) 4 48 Tryz.underlying22 hi hi0 hi1 hi2 rfl (by decide) (hs2.getD k nilS) ML (rcFlat (ps2.getD k [])) rfl (by rw [HML.out];exact HP.out.heads.row k hkp) ⟨gn,0,none⟩ 1 1 (rcFour r) rfl rfl ?wq2c1 ?wq2c2 (by decide) ?wq2c3 ?wq2c4 ?wq2c5 _ rfl ?_
     case wq2c1=>exact fun i u hu=>World.news_of_block HNb.out i u hu
     case wq2c2 =>
      intro u hu
      simp only [rcFour,List.mem_cons,List.not_mem_nil,or_false] at hu
      rcases hu with rfl|rfl|rfl|rfl <;> rfl
     case wq2c3=>have:=HPl.out;unfold maxLen;omega
     case wq2c4=>have:=HPl.out;omega
     case wq2c5=>exact HP.out.below.size
     intro g7 cap7 wq2 hown hgrow hlie hg7
     obtain ⟨hO7,hB7,hP7⟩:=HP.out.putIn (g:=g7) (cap:=cap7) hkp r (by rw [← HML.out];exact hown) hgrow (hlie.imp id (fun h=>by omega)) hg7
     rw [← HML.out] at hP7
     have HBx:=hid (HBx.out.grown hgrow (HBn.out k hkp))
     obtain ⟨_,_,cur7,hv7,_,hw7,_⟩:=own_head hO7 (by rw [HLn.out];omega)
     simp only [Value.slice.injEq,Option.some.injEq,Addr.mk.injEq,and_true,true_and] at hv7
     obtain ⟨rfl,rfl⟩:=hv7
     have hc7:∃ u,wq2.cell? ⟨go,k,none⟩=some u:=⟨_,by have:=hO7.cells (g:=go) rfl k (hs2.getD k nilS) (by simp [HLn.out,hkM]);rwa [Addr.add_lit,Nat.zero_add] at this⟩
     obtain ⟨u7,hc7⟩:=hc7
     have hf7:=hw7.free k
     have HP7:=hid hP7
     have HB7:=hid hB7
     have hS:(fun w':World=>w'.cell? (b.add j)=some (.int .u64 (k:Int))∧w'.cell? ⟨wr.heap.size,0,none⟩=some (.bool r.del)∧w'.cell? ⟨wr.heap.size,1,none⟩=some (.int .u64 (r.seq:Int))∧w'.cell? ⟨wr.heap.size,2,none⟩=some (.string (strOfNums r.key))∧w'.cell? ⟨wr.heap.size,3,none⟩=some (.string (strOfNums r.val))) wq2:=⟨(Keeps.ofBelow (S:=NoBlock) HB7.out).cell HX0.out (fun h=>h),HBx.out.cell 0 rfl,HBx.out.cell 1 rfl,HBx.out.cell 2 rfl,HBx.out.cell 3 rfl⟩
     clear hown hgrow hlie hg7 hO7 hB7 hP7 hw7
     refine hK.out _ _ hS (fun _=>?_)
     clear hK K
     refine wpAnyH_take (i:=15) (v:=?vT28) rfl ?aT28 ?bT28 ?cT28 ?dT28 (Or.inl ⟨?eT28,?fT28⟩) hS ?gT28
     case fT28=>intro w hSw;(try dsimp only at hSw);go_simp;(try with_reducible rfl)
     case aT28=>kernel_rfl
     case bT28=>kernel_rfl
     case cT28=>kernel_rfl
     case dT28=>exact fun _ _ _ h=>h
     case eT28=>rfl
     simp only [Act.put,List.getElem_toArray,List.getElem_cons_zero,List.getElem_cons_succ,List.setIfInBounds_toArray,List.set_cons_zero,List.set_cons_succ]
     refine wpAnyH_ready (rs:=[16]) (by kernel_rfl) (by simp) ?_
     refine (AllReadyH.cons (o:=_) rfl (fun K hK=>?_) AllReadyH.nil)
     go_simp
     refine hK.out _ _ ⟨(Keeps.ofBelow (S:=NoBlock) HP7.out.below).cell HX0.out (fun h=>h),(HBx.out.setOther (p:=⟨go,k,none⟩) (fun e=>HBg.out e.symm) _).cell 0 rfl,(HBx.out.setOther (p:=⟨go,k,none⟩) (fun e=>HBg.out e.symm) _).cell 1 rfl,(HBx.out.setOther (p:=⟨go,k,none⟩) (fun e=>HBg.out e.symm) _).cell 2 rfl,(HBx.out.setOther (p:=⟨go,k,none⟩) (fun e=>HBg.out e.symm) _).cell 3 rfl⟩ (fun _=>?_)
     clear hK K
     refine wpAnyH_done (by kernel_rfl) ?_ _
     go_wp2_with fail
     exact ⟨⟨j+1,_,by omega,by go_num,hid (by rw [HPT.out,HPe.out];have h7:=HP7.out;rw [List.length_set,HLn.out] at h7;exact h7)⟩,by simp [intOf];omega⟩
  ·have hdj:decide ((j:Int)<(n:Int))=false:=decide_eq_false (by omega)
   have hdj2:decide (j<n)=false:=decide_eq_false hlt
   have HP2:=HP
   unfold partsTo at HP2
   rw [List.take_of_length_le (by have:=HN.out;omega),List.take_of_length_le (by have:=HN.out;omega)] at HP2
   go_wp2_with fail
   go_ret
   exact ⟨hs,_,rfl,HP2.out⟩
end
section
open Go.RowKit
theorem planI_steps {e s:Nat} {l:List Rec} (h:(planI e s l).1=0):Steps 0 (planI e s l).2∧l.length=(planI e s l).2.length:=by
 have hp:planI e s l=planP e s (sizesR l):=by
  unfold planI at h ⊢
  split at h
  ·rename_i hm
   rw [if_pos hm]
   split at h
   ·rename_i hr;exact absurd h hr
   ·rename_i hr;rw [if_neg hr]
  ·exact absurd h (by decide)
 rw [hp] at h ⊢
 obtain ⟨h1,h2⟩:=plan_steps h
 exact ⟨h1,by rw [h2,sizesR_length]⟩
theorem segsGo_snoc (e s m:Nat):∀ (ps:List (List Rec)) (i:Nat) (p:List Rec),segsGo e s m i (ps ++ [p])=segsGo e s m i ps ++ textS e s (i+ps.length) p (decide (i+ps.length+1<m))
 | [],i,p=>by simp [segsGo]
 | a :: ps,i,p=>by
  rw [List.cons_append,segsGo,segsGo,segsGo_snoc e s m ps (i+1) p,List.length_cons,List.append_assoc,show i+1+ps.length=i+(ps.length+1) by omega]
theorem segsGo_take {e s m:Nat} {ps:List (List Rec)} {j:Nat} (hj:j<ps.length):segsGo e s m 0 (ps.take (j+1))=segsGo e s m 0 (ps.take j) ++ textS e s j (ps.getD j []) (decide (j+1<m)):=by
 rw [List.take_succ_eq_append_getElem hj,segsGo_snoc,List.length_take,Nat.min_eq_left (by omega),Nat.zero_add]
 simp [hj]
theorem PartsSoFar.part {w0 wr:World} {ps:List (List Rec)} {hs:List Value} {v:Value} (h:PartsSoFar w0 ps hs v wr) {i:Nat} (hi:i<ps.length):∃ q d,hs.getD i nilS=.slice q (ps.getD i []).length d∧RecsAt wr q (ps.getD i []):=by
 obtain ⟨q,m,d,hv,rfl,_,_,_,hr,_⟩:=RecsSoFar.new (show RecsSoFar w0 (ps.getD i []) (hs.getD i nilS) wr from ⟨h.heads.row i hi,h.below⟩)
 exact ⟨q,d,hv,hr⟩
theorem part_mem {l:List Rec} {ps:List (List Rec)} (hf:ps.flatten=l) {i:Nat} (hi:i<ps.length):∀ r ∈ ps.getD i [],r ∈ l:=fun r hr=>by
 rw [← hf]
 refine List.mem_flatten.2 ⟨ps.getD i [],?_,hr⟩
 simp [hi]
theorem part_few {l:List Rec} {ps:List (List Rec)} (hf:ps.flatten=l) {i:Nat} (hi:i<ps.length):(ps.getD i []).length≤l.length:=by
 rw [← hf]
 have h1:ps.getD i []=ps[i]:=by simp [hi]
 rw [h1]
 have h2:=List.sublist_flatten_of_mem (List.getElem_mem hi)
 exact h2.length_le
theorem part_seg {e s:Nat} {l:List Rec} (h9:l.length≤10000) (hl:∀ r ∈ l,r.Fine∧r.key.length≤100000∧r.val.length≤100000) (h:(planI e s l).1=0) {i:Nat} (hi:i<(partsGo [] l (planI e s l).2).length) :
  SegIn e s i ((partsGo [] l (planI e s l).2).getD i [])∧e≤24∧(∀ b,(textS e s i ((partsGo [] l (planI e s l).2).getD i []) b).length≤16777216):=by
 obtain ⟨hf,_⟩:=parts_all h
 obtain ⟨hm,hp⟩:=plan_parts (by omega) h
 obtain ⟨m1,m2,m3,m4⟩:=mayC_true.1 hm
 have hpi:=hp i ((partsGo [] l (planI e s l).2).getD i []) (by simp [hi])
 have h24:2 ^ e≤16777216:=by
  have:=Nat.pow_le_pow_right (n:=2) (by omega) m2
  simpa using this
 have hfr:=(hpi.length false).2
 have hin:i<s:=by
  obtain ⟨r,h1,h2,h3,h4⟩:=hpi.room
  have:=mayHead_true.1 h1.real.may
  rw [h2,h3,h4] at this
  exact this.2.2.2.2
 refine ⟨⟨by omega,by omega,by omega,fun r hr=>(hl r (part_mem hf hi r hr)).1,fun r hr=>by have:=(hl r (part_mem hf hi r hr)).2.1;omega,fun r hr=>by have:=(hl r (part_mem hf hi r hr)).2.2;omega,by have:=part_few hf hi;omega,?_⟩,m2,fun b=>by rw [(hpi.length b).1];exact h24⟩
 have:(outS e s i ((partsGo [] l (planI e s l).2).getD i [])).length≤(framesS e s i ((partsGo [] l (planI e s l).2).getD i []) false).length:=by unfold framesS;simp
 omega
theorem str_none16:strOfNums []=ByteArray.mk #[]:=rfl
set_option maxHeartbeats 8000000 in
set_option maxRecDepth 10000 in
theorem enc16_ref (e s:Nat) (p:Option Addr) (n c:Nat) (l:List Rec) (hn9:n≤10000) (w:World) (hi:InR w p n c l) :
  Calls Tryz.prog 25 #[confV e s,.slice p n c] w fun r w'=>r=.returned (.tuple #[.string (strOfNums (encI e s l).2),.int .i64 (encI e s l).1])∧Keeps NoBlock w w':=by
 have HP:=hid (fun w hi=>plan16_ref e s p n c l hn9 w hi)
 have HI:=hid hi
 have HK:=hid ((Keeps.refl NoBlock w).alloc (.cells (confCells e s) 27))
 have HC:=hid (Whole.new w 27 (confCells e s))
 have hE:encI e s l=if (planI e s l).1 ≠ 0 then ((planI e s l).1,[]) else (0,segsGo e s (partsGo [] l (planI e s l).2).length 0 (partsGo [] l (planI e s l).2)):=rfl
 have hst:=planI_steps (e:=e) (s:=s) (l:=l)
 have hsg:=fun h i hi'=>part_seg (e:=e) (s:=s) (l:=l) (by have:=hi.len;omega) (fun r hr=>⟨hi.fine r hr,hi.key r hr,hi.val r hr⟩) h (i:=i) hi'
 have hfw:=fun h=>partsTo_few (l:=l) (ks:=(planI e s l).2) (hst h).2 l.length (Nat.le_refl _)
 clear hi
 obtain ⟨T,hT⟩:∃ T,T=planI e s l:=⟨_,rfl⟩
 rw [← hT] at HP hE hst hsg hfw
 obtain ⟨R,hR⟩:∃ R,R=encI e s l:=⟨_,rfl⟩
 rw [← hR] at hE ⊢
 clear hT hR
 obtain ⟨y,ks⟩:=T
 simp only at hE hst hsg hfw
 by_cases hy:y=0
 rotate_left
 ·have HE:=hid (hE.trans (if_pos hy))
  have hz0:(y == 0)=false:=beq_eq_false_iff_ne.2 hy
  unfold confV at HP ⊢
  unfold PlanPost at HP
  simp only at HP
  clear hy hE hst hsg hfw
  go_enter Tryz.func25,Tryz.ntmps25
  go_wp2_with fail
  refine (HP.out _ (HI.out.keep HK.out)).mono ?_
  rintro e9 w1 ⟨q2,m2,d2,rfl,_,_,hk⟩
  have HK:=hid (HK.out.trans hk)
  clear hk
  go_wp2_with fail
  rw [HE.out]
  exact bodyPost_ret (v:=.tuple #[.string (strOfNums []),.int .i64 y]) (by simp [results,Tryz.results25,go_sem,str_none16]) rfl ⟨rfl,HK.out⟩
 subst hy
 have HE:=hid (hE.trans (if_neg (by simp)))
 obtain ⟨hst1,hst2⟩:=hst rfl
 have HSt:=hid (And.intro hst1 hst2)
 have HSg:=hid (fun i hi'=>hsg rfl i hi')
 have hfw1:=(hfw rfl).1
 unfold partsTo at hfw1
 rw [List.take_of_length_le (Nat.le_refl _),List.take_of_length_le (by omega)] at hfw1
 obtain ⟨PS,hPS⟩:∃ PS,PS=partsGo [] l ks:=⟨_,rfl⟩
 have HPs:=hid hPS
 rw [← hPS] at HE HSg hfw1
 have hM9:PS.length≤10000:=by have:=HI.out.len;omega
 unfold confV at HP ⊢
 unfold PlanPost at HP
 simp only at HP
 clear hE hst hsg hfw hst1 hst2 hPS hfw1
 have HN:=hid (show n=l.length from HI.out.len)
 go_enter Tryz.func25,Tryz.ntmps25
 go_wp2_with fail
 refine (HP.out _ (HI.out.keep HK.out)).mono ?_
 rintro e9 w1 ⟨q2,m2,d2,rfl,hm2,hrow,hk⟩
 have hm2':n=m2:=by rw [HN.out,hm2];exact HSt.out.2
 clear hm2
 subst hm2'
 have HK:=hid (HK.out.trans hk)
 have HC:=hid (HC.out.keep hk (fun h=>h))
 have HPa:=hid (parts16_ref p n c l q2 d2 ks HN.out HSt.out.2 HSt.out.1 hn9 w1 (HI.out.at_.keep HK.out (fun _ _ h=>h)) hrow)
 clear hk hrow
 go_wp2_with fail
 refine HPa.out.mono ?_
 rintro e9 w2 ⟨hs,v,rfl,hps⟩
 rw [← HPs.out] at hps
 obtain ⟨qo,co,rfl⟩:=hps.slice
 have hhl:=hps.heads.len
 obtain ⟨M,hM⟩:∃ M,M=hs.length:=⟨_,rfl⟩
 rw [← hM] at hps ⊢
 have HPq:=hid hps
 have HMd:=hid (And.intro hM (show M=PS.length by omega))
 have hM1:M≤10000:=by omega
 have HK:=hid (HK.out.trans hps.keeps)
 have HC:=hid (HC.out.keep hps.keeps (fun h=>h))
 rw [← HMd.out.2] at HE
 clear hps hhl hM HPa HP
 go_wp2_with fail
 go_loopw [8,26] (fun x i wr=>∃ j:Nat,j≤M∧i=.int .i64 (j:Int)∧x=.string (strOfNums (segsGo e s M 0 (PS.take j)))∧Hid ((segsGo e s M 0 (PS.take j)).length≤j*16777216)∧Hid (Keeps NoBlock w2 wr)) (fun _ i _=>M - (intOf i).toNat)
 case atStart=>exact ⟨0,Nat.zero_le _,rfl,rfl,hid (by simp [segsGo]),hid (Keeps.refl _ _)⟩
 case round =>
  obtain ⟨j,hj,rfl,rfl,HLg,HKw⟩:=hrel
  by_cases hlt:j<M
  ·have hdj:decide ((j:Int)<(M:Int))=true:=decide_eq_true (by omega)
   have hdj2:decide (j<M)=true:=decide_eq_true hlt
   have hjp:j<PS.length:=by rw [← HMd.out.2];exact hlt
   have HPw:=hid (HPq.out.keep HKw.out)
   obtain ⟨qi,di,hv,hrec⟩:=HPw.out.part hjp
   obtain ⟨go,cap,cur,hvo,_,_,_⟩:=own_head HPw.out.own (by rw [← HMd.out.1];omega)
   simp only [Value.slice.injEq] at hvo
   obtain ⟨rfl,hv2,rfl⟩:=hvo
   have hc:=PartsSoFar.cell (i:=j) (show PartsSoFar w1 PS hs (.slice (some ⟨go,0,none⟩) hs.length co) wr by rw [← HMd.out.1];exact HPw.out) (by rw [← HMd.out.1];exact hlt)
   rw [hv] at hc
   clear hv hv2
   have hdb:decide ((j:Int)<(M:Int) - 1)=decide (j+1<M):=by rw [decide_eq_decide];omega
   obtain ⟨hseg,he24,hlong⟩:=HSg.out j hjp
   obtain ⟨b,hb⟩:∃ b,b=decide (j+1<M):=⟨_,rfl⟩
   have HTx:=hid (fun w h=>text15_ref e s j he24 qi (PS.getD j []).length di (PS.getD j []) b hseg rfl w h)
   have hst:=segsGo_take (e:=e) (s:=s) (m:=M) hjp
   rw [← hb] at hdb hst
   have hl2:=hlong b
   obtain ⟨Q,hQ⟩:∃ Q,Q=textS e s j (PS.getD j []) b:=⟨_,rfl⟩
   obtain ⟨O,hO⟩:∃ O,O=segsGo e s M 0 (PS.take j):=⟨_,rfl⟩
   obtain ⟨mi,hmi⟩:∃ m,m=(PS.getD j []).length:=⟨_,rfl⟩
   rw [← hQ] at HTx hst hl2
   rw [← hO] at HLg hst ⊢
   rw [← hmi] at HTx hc
   have hap:=str_append O Q
   rw [← hst] at hap
   have z1:=str_size O
   have z2:=str_size Q
   have hOl:=HLg.out
   have r1:¬ 9223372036854775807<O.length+Q.length:=by
    have:j*16777216≤10000*16777216:=Nat.mul_le_mul_right _ (by omega)
    omega
   have HLn:Hid ((segsGo e s M 0 (PS.take (j+1))).length≤(j+1)*16777216):=hid (by rw [hst,List.length_append,Nat.add_mul];omega)
   obtain ⟨O2,hO2⟩:∃ O,O=segsGo e s M 0 (PS.take (j+1)):=⟨_,rfl⟩
   rw [← hO2] at hap HLn
   have HO2:=hid hO2
   obtain ⟨N1,hN1⟩:∃ N,N=O.length:=⟨_,rfl⟩
   obtain ⟨N2,hN2⟩:∃ N,N=Q.length:=⟨_,rfl⟩
   rw [← hN1] at z1 r1
   rw [← hN2] at z2 r1
   have HRec:=hid hrec
   have HC9:=hid (HC.out.keep HKw.out (fun h=>h))
   have g0:=HC9.out.cell 0 rfl
   have g1:=HC9.out.cell 1 rfl
   simp only [confCells,List.getElem_toArray,List.getElem_cons_zero,List.getElem_cons_succ] at g0 g1
   have hwj:IntKind.u64.wrap (j:Int)=(j:Int):=by rw [IntKind.wrap_u64];omega
   have hwj2:(j:Int) % 18446744073709551616=(j:Int):=by omega
   unfold confV at HTx
   clear hb hst hl2 hQ hO hmi hOl hO2 hN1 hN2 hrec hseg hlong he24 hjp
   go_wp2_with fail
   refine (HTx.out _ HRec.out).mono ?_
   rintro e9 w5 ⟨rfl,hk⟩
   have HKn:=hid (HKw.out.trans hk)
   clear hk HTx
   go_wp2_with fail
   exact ⟨⟨j+1,by omega,by go_num,by rw [← HO2.out],by rw [← HO2.out];exact HLn,HKn⟩,by simp [intOf];omega⟩
  ·have hdj:decide ((j:Int)<(M:Int))=false:=decide_eq_false (by omega)
   have hdj2:decide (j<M)=false:=decide_eq_false hlt
   have hall:segsGo e s M 0 (PS.take j)=segsGo e s M 0 PS:=by rw [List.take_of_length_le (by have:=HMd.out.2;omega)]
   rw [hall]
   have HKn:=hid (HK.out.trans HKw.out)
   clear hall
   go_wp2_with fail
   rw [HE.out]
   exact bodyPost_ret (v:=.tuple #[.string (strOfNums (segsGo e s M 0 PS)),.int .i64 0]) (by simp [results,Tryz.results25,go_sem]) rfl ⟨rfl,HKn.out⟩
end
section
open Go.RowKit
theorem segs_octets {e s m:Nat} (he:e<256):∀ (ps:List (List Rec)) (i:Nat),(∀ p ∈ ps,∀ r ∈ p,r.Fine)→Octets (segsGo e s m i ps)
 | [],_,_=>fun b hb=>by simp [segsGo] at hb
 | p :: ps,i,h=>by
  rw [segsGo]
  exact (textS_octets he (h p List.mem_cons_self) _).app (segs_octets he ps (i+1) (fun q hq=>h q (List.mem_cons_of_mem _ hq)))
theorem enc_octets {e s:Nat} (he:e<256) {l:List Rec} (hf:∀ r ∈ l,r.Fine):Octets (encI e s l).2:=by
 unfold encI
 by_cases h:(planI e s l).1 ≠ 0
 ·rw [if_pos h]
  exact fun b hb=>by simp at hb
 ·rw [if_neg h]
  have hp:=(parts_all (e:=e) (s:=s) (l:=l) (by simpa using h)).1
  refine segs_octets he _ _ (fun p hp' r hr=>hf r ?_)
  rw [← hp]
  exact List.mem_flatten.2 ⟨p,hp',hr⟩
set_option maxHeartbeats 4000000 in
set_option maxRecDepth 10000 in
theorem dec17_ref (e s:Nat) (he:e<256) (hs:s<4294967296) (ys:List Int) (ho:Octets ys) (hl:ys.length≤100000) (w:World) :
  Calls Tryz.prog 13 #[confV e s,.string (strOfNums ys)] w fun r w'=>∃ v,r=.returned (.tuple #[v,.int .i64 (decI e s ys).1])∧NewRecs w (decI e s ys).2 v w':=by
 have HC0:=hid (Whole.new w 27 (confCells e s))
 have HK0:=hid ((Keeps.refl NoBlock w).alloc (.cells (confCells e s) 27))
 have HCt:=hid (fun w=>count_ref e s ys.length hs (by omega) w)
 have hsz:=str_size ys
 have wn:IntKind.u64.wrap ((ys.length:Nat):Int)=((ys.length:Nat):Int):=by rw [IntKind.wrap_u64];omega
 unfold countOut at HCt
 by_cases hc:(countC e s ys.length).2 ≠ 0
 ·have hd:decI e s ys=((countC e s ys.length).2,[]):=by unfold decI;rw [if_pos hc]
  rw [hd]
  obtain ⟨y,hy⟩:∃ y,y=(countC e s ys.length).2:=⟨_,rfl⟩
  obtain ⟨k,hk⟩:∃ k,k=(countC e s ys.length).1:=⟨_,rfl⟩
  rw [← hy] at HCt hc ⊢
  rw [← hk] at HCt
  have hne:(y != 0)=true:=by rw [bne_iff_ne];exact hc
  clear hd hy hk hc ho
  unfold confV at HCt ⊢
  go_enter Tryz.func13,Tryz.ntmps13
  go_wp2_with fail
  refine (HCt.out _).mono ?_
  rintro r w1 ⟨rfl,hk1⟩
  have HK:=hid (HK0.out.trans hk1)
  clear hk1
  go_wp2_with fail
  refine bodyPost_ret (results_tmp2 rfl _ _ _) rfl ?_
  exact ⟨_,rfl,none,0,0,rfl,rfl,Nat.le_refl _,by decide,fun _=>⟨rfl,rfl⟩,RecsAt.nil _ _,HK.out⟩
 have hc0:(countC e s ys.length).2=0:=by simpa using hc
 have hd:decI e s ys=if encI e s (guessI ys)=(0,ys) then (0,guessI ys) else (4,[]):=by unfold decI;rw [if_neg hc]
 rw [hd]
 rw [hc0] at HCt
 obtain ⟨g1,g2⟩:=guess_fine ho
 have HGu:=hid (fun w=>guess17_ref ys ho hl w)
 have hxo:=enc_octets (e:=e) (s:=s) he (l:=guessI ys) (fun r hr=>(g1 r hr).1)
 have hst:=str_same hxo ho
 obtain ⟨L,hL⟩:∃ L,L=guessI ys:=⟨_,rfl⟩
 rw [← hL] at g1 g2 HGu hst ⊢
 have HEn:=hid (fun q m d w (hm:m=L.length) (hmd:m≤d) (hd:d≤9223372036854775807) (h:RecsAt w q L)=>enc16_ref e s q m d L (by omega) w ⟨hm,hmd,hd,fun r hr=>(g1 r hr).1,fun r hr=>by have:=(g1 r hr).2.2;omega,fun r hr=>by have:=(g1 r hr).2.2;omega,h⟩)
 have hp:encI e s L=((encI e s L).1,(encI e s L).2):=rfl
 obtain ⟨X,hX⟩:∃ X,X=(encI e s L).2:=⟨_,rfl⟩
 obtain ⟨y,hy⟩:∃ y,y=(encI e s L).1:=⟨_,rfl⟩
 rw [← hX] at HEn hst hp
 rw [← hy] at HEn hp
 rw [hp]
 obtain ⟨k,hk⟩:∃ k,k=(countC e s ys.length).1:=⟨_,rfl⟩
 rw [← hk] at HCt
 clear hd hc hc0 g1 g2 hxo hL hX hy hp hk ho
 obtain ⟨U,hU⟩:∃ U:Int × List Rec,U=if (y,X)=(0,ys) then (0,L) else (4,[]):=⟨_,rfl⟩
 rw [← hU]
 have HU:=hid hU
 clear hU
 unfold confV at HCt HEn ⊢
 go_enter Tryz.func13,Tryz.ntmps13
 go_wp2_with fail
 refine (HCt.out _).mono ?_
 rintro r w1 ⟨rfl,hk1⟩
 have HK:=hid (HK0.out.trans hk1)
 have HC:=hid (HC0.out.keep hk1 (fun h=>h))
 clear hk1
 go_wp2_with fail
 refine (HGu.out _).mono ?_
 rintro r w2 ⟨v,rfl,q,m,d,rfl,hm,hmd,hd,hq,hat,hk1⟩
 have HK:=hid (HK.out.trans hk1)
 have HC:=hid (HC.out.keep hk1 (fun h=>h))
 have HAt:=hid hat
 have HM:=hid (And.intro hm (And.intro hmd (And.intro hd hq)))
 clear hk1 hat hm hmd hd hq
 have g0:=HC.out.cell 0 rfl
 have g1:=HC.out.cell 1 rfl
 simp only [confCells,List.getElem_toArray,List.getElem_cons_zero,List.getElem_cons_succ] at g0 g1
 go_wp2_with fail
 refine (HEn.out q m d _ HM.out.1 HM.out.2.1 HM.out.2.2.1 HAt.out).mono ?_
 rintro r w3 ⟨rfl,hk1⟩
 have HK:=hid (HK.out.trans hk1)
 have HAt:=hid (HAt.out.keep hk1 (fun _ _ h=>h))
 clear hk1 g0 g1
 by_cases hy0:y=0
 ·subst hy0
  by_cases hX0:X=ys
  ·have HU2:Hid (U=(0,L)):=hid (by rw [HU.out,if_pos (by rw [hX0])])
   rw [decide_eq_true hX0] at hst
   clear hX0
   go_wp2_with fail
   refine bodyPost_ret (results_tmp2 rfl _ _ _) rfl ?_
   rw [HU2.out]
   exact ⟨_,rfl,q,m,d,rfl,HM.out.1,HM.out.2.1,HM.out.2.2.1,HM.out.2.2.2,HAt.out,HK.out⟩
  ·have HU2:Hid (U=(4,[])):=hid (by rw [HU.out,if_neg (fun h=>hX0 (Prod.mk.inj h).2)])
   rw [decide_eq_false hX0] at hst
   clear hX0
   go_wp2_with fail
   refine bodyPost_ret (results_tmp2 rfl _ _ _) rfl ?_
   rw [HU2.out]
   exact ⟨_,rfl,none,0,0,rfl,rfl,Nat.le_refl _,by decide,fun _=>⟨rfl,rfl⟩,RecsAt.nil _ _,HK.out⟩
 ·have hne:(y != 0)=true:=by rw [bne_iff_ne];exact hy0
  have HU2:Hid (U=(4,[])):=hid (by rw [HU.out,if_neg (fun h=>hy0 (Prod.mk.inj h).1)])
  clear hst
  go_wp2_with fail
  refine bodyPost_ret (results_tmp2 rfl _ _ _) rfl ?_
  rw [HU2.out]
  exact ⟨_,rfl,none,0,0,rfl,rfl,Nat.le_refl _,by decide,fun _=>⟨rfl,rfl⟩,RecsAt.nil _ _,HK.out⟩
end
section
open Go.RowKit
theorem entsGo_at:∀ (l:List Rec) (k i:Nat),i<l.length→((entsGo k l).getD i En.none).at_=k+(recsB (l.take i)).length
 | [],_,_,h=>by simp at h
 | r :: l,k,0,_=>by simp [entsGo,recsB]
 | r :: l,k,i+1,h=>by
  have e:recsB ((r :: l).take (i+1))=recB r ++ recsB (l.take i):=by unfold recsB;rw [List.take_succ_cons,List.flatMap_cons]
  rw [entsGo,List.getD_cons_succ,entsGo_at l _ i (by simpa using h),e,List.length_append,Nat.add_assoc]
theorem places_length (e s n:Nat) (l:List Rec):(placesS e s n l).length=l.length:=by
 unfold placesS entsS
 rw [List.length_map,entsGo_length]
theorem places_at {e s n:Nat} {l:List Rec} {i:Nat} (h:i<l.length):(placesS e s n l).getD i 0=(outS e s n (l.take i)).length:=by
 have h2:i<(entsGo (headLen e s n) l).length:=by rw [entsGo_length];exact h
 have h1:=entsGo_at l (headLen e s n) i h
 unfold placesS entsS
 rw [List.getD_eq_getElem?_getD,List.getElem?_map,List.getElem?_eq_getElem h2]
 rw [List.getD_eq_getElem?_getD,List.getElem?_eq_getElem h2] at h1
 show ((entsGo (headLen e s n) l)[i]).at_=_
 simp only [Option.getD_some] at h1
 rw [h1]
 unfold outS headLen
 rw [List.length_append]
theorem two15 (k:Nat):4096≤2 ^ smallE k∧2 ^ smallE k≤8192:=by
 have:=small_room k
 have h:smallE k=12 ∨ smallE k=13:=by omega
 rcases h with h|h <;> rw [h] <;> decide
end
section
open Go.RowKit
def u32V (x:Nat):Value:=.int .u32 (x:Int)
theorem out_fits {e s n:Nat} {l:List Rec} (h:InRoom (sgRoom e s n l) l):(outS e s n l).length≤2 ^ e:=by
 have:=frames_fit h false (fun h=>by simp at h)
 simpa [framesS,sgRoom] using this
theorem OwnR.recs {w0 wr:World} {F:Nat→Prop} {hv:Value} {l:List Rec} (h:OwnR w0 F 48 4 hv l.length (rcFlat l) wr) (hk:Keeps NoBlock w0 wr):NewRecs w0 l hv wr:=RecsSoFar.new ⟨h.1,hk.below (Nat.le_refl _) (fun _ _ h=>h)⟩
theorem addBlk (a:Addr) (i:Nat):(a.add i).block=a.block:=by unfold Addr.add;split <;> rfl
theorem recs_far {w w':World} {p:Option Addr} {l:List Rec} (h:RecsAt w p l) {S:Nat→Prop} (hk:Keeps S w w') (hs:∀ a,p=some a→¬ S a.block):RecsAt w' p l:=fun i hi=>by
 obtain ⟨a,rfl,c0,c1,c2,c3⟩:=h i hi
 have h1:¬ S (a.add (i*4)).block:=by rw [addBlk];exact hs a rfl
 exact ⟨a,rfl,hk.cell c0 h1,hk.cell c1 h1,hk.cell c2 h1,hk.cell c3 h1⟩
theorem row32_far {w w':World} {p:Option Addr} {l:List Nat} (h:Row32 w p l) {S:Nat→Prop} (hk:Keeps S w w') (hs:∀ a,p=some a→¬ S a.block):Row32 w' p l:=fun i hi=>by
 obtain ⟨a,rfl,c0⟩:=h i hi
 exact ⟨a,rfl,hk.cell c0 (by rw [addBlk];exact hs a rfl)⟩
end
end Go.Proofs.YtehkjkcnigknkaaGreat

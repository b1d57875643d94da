/-
  FoSorted; FoComp; FoLiv; FoSameN; FoSaWalk; FoSameD.
-/
import Derived.Lib.SlMapEqual
import Derived.Lib.Hide
import Derived.Test.YtbmhdfjaakkoaaaM05
import Derived.Test.YtbmhdfjaakkoaaaM07
import Derived.Test.YtbmhdfjaakkoaaaM08
import Derived.Test.YtbmhdfjaakkoaaaM09
import Derived.Test.YtbmhdfjaakkoaaaM21
import Derived.Test.YtbmhdfjaakkoaaaM22
namespace Go.Proofs.Ytbmhdfjaakkoaaa
open Lib (hid)
section
open Go.RowKit Go.Lib Go.Sort Go.Shelf
def tagged (l:List Rec):Array Tg:=((List.range l.length).map fun i=>(⟨l.getD i Rec.none,i⟩:Tg)).toArray
theorem tagged_size (l:List Rec):(tagged l).size=l.length:=by simp [tagged]
theorem tagged_at (l:List Rec) (i:Nat) (hi:i<l.length):(tagged l)[i]! = ⟨l.getD i Rec.none,i⟩:=by
 rw [getElem!_pos _ i (by rw [tagged_size];exact hi)]
 simp [tagged]
theorem RowR.holds {w:World} {g d:Nat} {l:List Rec} (h:RowR w g d l.length (fun i=>l.getD i Rec.none)):HoldsK encT 4 w g 0 (tagged l):=by
 intro j hj
 rw [size_flatK,tagged_size] at hj
 refine ⟨?_,h.free _⟩
 rw [get_flatK encT 4 (tagged l) j (by rw [tagged_size];exact hj),tagged_at l (j / 4) (by omega)]
 obtain ⟨c0,c1,c2,c3⟩:=h.cell (i:=j / 4) (by omega)
 have:j % 4=0 ∨ j % 4=1 ∨ j % 4=2 ∨ j % 4=3:=by omega
 rcases this with e|e|e|e
 ·rw [show 0+j=j / 4*4 by omega,c0,e];rfl
 ·rw [show 0+j=j / 4*4+1 by omega,c1,e];rfl
 ·rw [show 0+j=j / 4*4+2 by omega,c2,e];rfl
 ·rw [show 0+j=j / 4*4+3 by omega,c3,e];rfl
theorem RowR.sorted {w W:World} {g d n:Nat} {f:Nat→Rec} (h:RowR w g d n f) (A:Array Tg) (hA:A.size=n) (hW:SWK encT 4 w g 0 A W):RowR W g d n (fun i=>A[i]!.r):=by
 obtain ⟨m,os,rfl⟩:=hW
 obtain ⟨cur,hw,h1,h2,h3⟩:=h
 have hlt:=hw.lt
 refine ⟨putCells id 0 (flatK encT 4 A) cur,?_,by simpa [putCells] using h1,h2,fun i hi q hq=>?_⟩
 ·show ((w.heap.modify g _) ++ os)[g]?=_
  rw [Array.getElem?_append_left (by simpa using hlt),Array.getElem?_modify,if_pos rfl,show w.heap[g]?=_ from hw]
  rfl
 ·have hsz:(flatK encT 4 A).size=n*4:=by rw [size_flatK,hA]
  have g0:=get_flatK encT 4 A (i*4+q) (by rw [hA];omega)
  rw [show (i*4+q) / 4=i by omega,show (i*4+q) % 4=q by omega] at g0
  unfold putCells
  rw [Array.getElem?_mapIdx,h3 i hi q hq]
  have hq4:q=0 ∨ q=1 ∨ q=2 ∨ q=3:=by omega
  rcases hq4 with rfl|rfl|rfl|rfl
  all_goals
   simp only [rcFour,List.getElem?_cons_zero,List.getElem?_cons_succ,Option.map_some]
   rw [if_pos ⟨Nat.zero_le _,by omega⟩,Nat.sub_zero,g0]
   rfl
theorem swk_keeps {w W:World} {g:Nat} {A:Array Tg} (h:SWK encT 4 w g 0 A W):Keeps (Just g) w W:=by
 obtain ⟨m,os,rfl⟩:=h
 refine ⟨rfl,rfl,rfl,?_,fun k hk hn=>?_⟩
 ·show w.heap.size≤((w.heap.modify g _) ++ os).size
  simp
 ·show ((w.heap.modify g _) ++ os)[k]?=_
  rw [Array.getElem?_append_left (by simpa using hk),Array.getElem?_modify,if_neg (fun e=>hn e.symm)]
set_option maxHeartbeats 2000000 in
set_option maxRecDepth 10000 in
theorem sortstable_own (g cap n:Nat) (l:List Rec) (hl:n=l.length) (hn9:n≤100000) (w:World) (h:RowR w g cap n (fun i=>l.getD i Rec.none)) :
  Calls Try.prog 28 #[.slice (some ⟨g,0,none⟩) n cap,bySeqV] w fun e w' =>
   e=.returned (.tuple #[])∧∃ A:Nat→Rec,compS A n=sortedF l∧RowR w' g cap n A∧Keeps (Just g) w w':=by
 subst hl
 have R:RowK encT 4 w g 0 (tagged l):=⟨encT_len,encT_one,h.holds,h.lt⟩
 have HC:=hid (stable_own cap l.length w g (tagged l) R (tagged_size l).symm hn9 (fun i hi=>by rw [tagged_at l i hi]))
 have HR:=hid h
 clear h R
 obtain ⟨n,hn⟩:∃ n,n=l.length:=⟨_,rfl⟩
 have HN:=hid hn
 rw [← hn] at HC HR hn9 ⊢
 clear hn
 go_enter Try.func28,Try.ntmps28
 go_wp2_with fail
 refine HC.out.mono ?_
 rintro e w1 ⟨rfl,d',hp,hr,hsw⟩
 have HP:Hid (PermIn 0 n (tagged l) d'):=hp
 have HRn:Hid (RunT d' 0 n):=hr
 have HSW:=hid hsw
 clear hp hr hsw HC
 go_wp2_with fail
 go_end0
 have hsz:d'.size=n:=by rw [HP.out.1,tagged_size];exact HN.out.symm
 refine ⟨rfl,fun i=>d'[i]!.r,?_,HR.out.sorted d' hsz HSW.out,swk_keeps HSW.out⟩
 have hp:=HP.out
 have hr:=HRn.out
 rw [HN.out] at hp hr ⊢
 exact compS_sorted l (tagged l) d' (tagged_size l) (tagged_at l) hp hr
set_option maxHeartbeats 2000000 in
set_option maxRecDepth 10000 in
theorem clone_recs (p:Option Addr) (n c:Nat) (l:List Rec) (w:World) (hi:InR w p n c l) (hn9:n≤100000) :
  Calls Try.prog 27 #[.slice p n c] w fun e w'=>∃ v,e=.returned v∧RecsSoFar w l v w':=by
 have q22:∀ (w:World) (a:Option Addr) (n c n' c':Nat),(binOp .eql 22 (.slice a n c) (.slice none n' c')).run Try.prog w=.ok (.bool a.isNone) w:=fun w a n c n' c'=>Lib.run_eql_slice_nil w _ _ a n c n' c' Try.underlying22
 have HI:=hid hi
 cases p with
 | none =>
  obtain rfl:l=[]:=by
   cases l with
   | nil=>rfl
   | cons r l =>
    obtain ⟨a,ha,_⟩:=hi.at_ 0 (by simp)
    cases ha
  obtain rfl:n=0:=hi.len
  clear hi
  go_enter Try.func27,Try.ntmps27
  go_wp2_with fail
  go_ret
  exact ⟨_,rfl,RecsSoFar.start w⟩
 | some a =>
  have HO0:=hid (RecsSoFar.made w)
  clear hi
  go_enter Try.func27,Try.ntmps27
  go_wp2_with (at_builtin;refine wpList_append_recs rfl _ _ rfl _ [] rfl HO0.out (some a) n c l rfl (fun h=>by simp at h) HI.out.len (HI.out.at_.keep ((Keeps.refl NoBlock w).alloc _) (fun _ _ h=>h)) (by simp;omega) ?_)
  intro v w1 hv _
  have HV:=hid hv
  clear hv
  go_wp2_with fail
  go_ret
  exact ⟨_,rfl,HV.out⟩
set_option maxHeartbeats 2000000 in
set_option maxRecDepth 100000 in
theorem insertion_none (cap:Nat) (w:World):Calls Try.prog 43 #[.slice none 0 cap,.int .i64 0,.int .i64 0,bySeqV] w fun e w'=>e=.returned (.tuple #[])∧w'=w:=by
 go_enter Try.func43,Try.ntmps43
 go_wp2_with fail
 refine wp_loop_rounds 1 ?_
 rw [rounds_succ]
 go_wp2_with fail
 go_end0
 exact ⟨rfl,rfl⟩
set_option maxHeartbeats 2000000 in
set_option maxRecDepth 100000 in
theorem stable_none (cap:Nat) (w:World):Calls Try.prog 38 #[.slice none 0 cap,.int .i64 0,bySeqV] w fun e w'=>e=.returned (.tuple #[])∧w'=w:=by
 have HC:=hid (fun w=>insertion_none cap w)
 go_enter Try.func38,Try.ntmps38
 go_wp2_with fail
 refine wp_loop_rounds 1 ?_
 rw [rounds_succ]
 go_wp2_with fail
 refine (HC.out _).mono ?_
 rintro e w1 ⟨rfl,rfl⟩
 go_wp2_with fail
 refine wp_loop_rounds 1 ?_
 rw [rounds_succ]
 go_wp2_with fail
 go_end0
 exact ⟨rfl,rfl⟩
set_option maxHeartbeats 2000000 in
theorem sortstable_none (cap:Nat) (w:World):Calls Try.prog 28 #[.slice none 0 cap,bySeqV] w fun e w'=>e=.returned (.tuple #[])∧w'=w:=by
 have HC:=hid (fun w=>stable_none cap w)
 go_enter Try.func28,Try.ntmps28
 go_wp2_with fail
 refine (HC.out _).mono ?_
 rintro e w1 ⟨rfl,rfl⟩
 go_wp2_with fail
 go_end0
 exact ⟨rfl,rfl⟩
set_option maxHeartbeats 2000000 in
theorem compactF_none (w:World):Calls Try.prog 31 #[.slice none 0 0,.func (.func 32) #[] #[]] w fun e w'=>e=.returned (.slice none 0 0)∧w'=w:=by
 go_enter Try.func31,Try.ntmps31
 go_wp2_with fail
 go_ret
 exact ⟨rfl,rfl⟩
set_option maxHeartbeats 2000000 in
set_option maxRecDepth 10000 in
theorem sorted_own (p:Option Addr) (n c:Nat) (l:List Rec) (w:World) (hi:InR w p n c l) (hn9:n≤100000) :
  Calls Try.prog 19 #[.slice p n c] w fun e w'=>∃ v,e=.returned v∧RecsSoFar w (sortedF l) v w':=by
 have HCl:=hid (clone_recs p n c l w hi hn9)
 have HNo:=hid (fun w=>sortstable_none 0 w)
 have HCn:=hid (fun w=>compactF_none w)
 have HLn:=hid hi.len
 clear hi
 go_enter Try.func19,Try.ntmps19
 go_wp2_with fail
 refine HCl.out.mono ?_
 rintro e w1 ⟨v,rfl,hown,hbel⟩
 have HB:=hid hbel
 rcases id hown with ⟨_,⟨rfl,h0⟩|⟨g,cap,cur,rfl,hb,hg,h1,h2,h3,h4⟩⟩
 ·obtain rfl:l=[]:=List.length_eq_zero_iff.1 h0
  clear hown hbel HCl
  go_wp2_with fail
  refine (HNo.out _).mono ?_
  rintro e w2 ⟨rfl,rfl⟩
  go_wp2_with fail
  refine (HCn.out _).mono ?_
  rintro e w2 ⟨rfl,rfl⟩
  go_wp2_with fail
  go_ret
  exact ⟨_,rfl,RecsSoFar.startAt HB.out⟩
 ·obtain ⟨hR,hbg,hcap⟩:=RowR.ofOwn hown rfl
  have HS:=hid (sortstable_own g cap l.length l rfl (by rw [← HLn.out];exact hn9) _ hR)
  have HBg:=hid hbg
  have HCap:=hid hcap
  have HL9:=hid (show l.length≤100000 by rw [← HLn.out];exact hn9)
  clear hown hbel HCl hR hbg hcap hb hg h1 h2 h3 h4
  go_wp2_with fail
  refine HS.out.mono ?_
  rintro e w2 ⟨rfl,A,hAs,hR2,hk2⟩
  have HC:=hid (compactF_own g cap l.length A w2 hR2 (by have:=HCap.out;unfold maxLen at this;exact this) (by have:=HL9.out;omega))
  have HK2:=hid hk2
  have HAs:=hid hAs
  clear hR2 hk2 hAs HS
  go_wp2_with fail
  refine HC.out.mono ?_
  rintro e w3 ⟨m,hm,rfl,hR3,hk3⟩
  rw [HAs.out] at hm hR3
  have HR3:=hid hR3
  have HM:=hid hm
  have HK3:=hid (HK2.out.trans hk3)
  clear hR3 hm hk3 HC
  go_wp2_with fail
  go_ret
  have hm:=HM.out
  subst hm
  exact ⟨_,rfl,HR3.out.own (Nat.le_refl _) (fun _ _=>rfl) HBg.out HCap.out,HB.out.trans (HK3.out.below HB.out.size (fun k hk e=>by have:=HBg.out;have e':k=g:=e;omega))⟩
theorem fosorted_ok:FoSortedOk:=⟨fun p n c l w hi hn=>(sorted_own p n c l w hi (by omega)).mono fun _ _ ⟨v,he,hv⟩=>⟨v,he,hv.new⟩⟩
end
section
open Go.RowKit
theorem RecsSoFar.made0 {w0 w1:World} {M:Nat} (h:w1.ownsRow w0.heap.size 30 4 (.slice (some ⟨w0.heap.size,0,none⟩) 0 M) 0 []) (hg:w0.grownBy w1 none):RecsSoFar w0 [] (.slice (some ⟨w0.heap.size,0,none⟩) 0 M) w1 :=
 ⟨h,(Below.refl _ w0).grown hg (Nat.le_refl _) (fun k e=>by cases e)⟩
set_option maxHeartbeats 4000000 in
set_option maxRecDepth 10000 in
theorem compact_own (p:Option Addr) (n c:Nat) (l:List Rec) (hn9:n≤100000) (w:World) (hi:InR w p n c l) :
  Calls Try.prog 17 #[.slice p n c] w fun e w'=>∃ v,e=.returned v∧NewRecs w (compactF l) v w':=by
 obtain ⟨i0,hi0,hz0,hz1,hz2⟩:=info_parts infoRc
 have HPl:=hid (places_own p n c l w hi hn9)
 have HI0:=hid hi
 clear hi
 go_enter Try.func17,Try.ntmps17
 go_wp2_with fail
 refine HPl.out.mono ?_
 rintro e w1 ⟨rfl,hpl,hk1⟩
 have HI:=hid (HI0.out.keep hk1)
 have HK1:=hid hk1
 have HP:=hid hpl
 obtain ⟨M,hM,hlen⟩:=hpl.len
 obtain ⟨b,hb⟩:∃ b,b=w.heap.size:=⟨_,rfl⟩
 rw [← hb] at hlen HP ⊢
 have HM:=hid hM
 clear hk1 hpl HPl hM hb
 go_wp2_with (at_make;refine wpList_make_own _ rfl _ _ 22 rfl w1.heap.size 30 i0 (.agg #[.bool false,.int .u64 0,.string ⟨#[]⟩,.string ⟨#[]⟩]) 4 Try.underlying22 hi0 hz0 hz1 .i64 .i64 (M:Int) M rfl rfl rfl (by rw [hz2];have:=HM.out;omega) (by have:=HM.out;unfold maxLen;omega) (Nat.le_refl _) ?_)
 intro w2 hrow hgrow
 have HS0:=hid (RecsSoFar.made0 hrow hgrow)
 clear hrow hgrow hlen
 go_wp2_with fail
 go_loopw [4,14] (fun v x wr=>∃ (j:Nat) (P:List Rec),j≤n∧x=.int .i64 (j:Int)∧P.length≤j∧Hid (compactF l=P ++ compactF (l.drop j))∧Hid (RecsSoFar w1 P v wr)) (fun _ x _=>n - (intOf x).toNat)
 case atStart=>exact ⟨0,[],Nat.zero_le _,rfl,Nat.le_refl _,hid rfl,HS0⟩
 case round =>
  obtain ⟨j,P,hj,rfl,hP,HC,HS⟩:=hrel
  by_cases hlt:j<n
  rotate_left
  ·have hdj:decide ((j:Int)<(n:Int))=false:=decide_eq_false (by omega)
   have hdj2:decide (j<n)=false:=decide_eq_false hlt
   have HE:=hid (show compactF l=P by
    have h:=HC.out
    rw [List.drop_eq_nil_of_le (by have:=HI.out.len;omega),compactF,List.append_nil] at h
    exact h)
   obtain ⟨L,hL⟩:∃ L,L=compactF l:=⟨_,rfl⟩
   rw [← hL] at HE
   obtain rfl:=HE.out
   clear HC HE
   go_wp2_with fail
   go_ret
   rw [← hL]
   exact ⟨_,rfl,(HS.out.lower HK1.out).new⟩
  have hdj:decide ((j:Int)<(n:Int))=true:=decide_eq_true (by omega)
  have hdj2:decide (j<n)=true:=decide_eq_true hlt
  have hjl:j<l.length:=by rw [← HI.out.len];exact hlt
  have HIr:=hid (HI.out.keep HS.out.keeps)
  obtain ⟨a,rfl,x0,x1,x2,x3⟩:=HIr.out.at_ j hjl
  have hst:=compact_step hjl HC.out
  have hmem:l.getD j Rec.none ∈ l:=getR_mem hjl
  obtain ⟨q,hq,hjq,hql⟩:=placeF_at j hjl
  have hpj:=placeF_later j hjl
  have hlook:=(((HP.out.keep HS.out.keeps (fun h=>h)).keep ((Keeps.refl NoBlock wr).alloc (.cells (recCells (l.getD j Rec.none)) 30)) (fun h=>h))).look (by omega) (HI0.out.fine _ hmem).key (HI0.out.key _ hmem)
  rw [hq] at hpj hlook
  simp only [Option.getD_some] at hlook
  obtain ⟨bb,hbb⟩:∃ b,b=laterF (l.getD j Rec.none).key (l.drop (j+1)):=⟨_,rfl⟩
  rw [← hbb] at hst hpj
  obtain ⟨r,hr⟩:∃ r,r=l.getD j Rec.none:=⟨_,rfl⟩
  rw [← hr] at x0 x1 x2 x3 hst hlook
  have HS1:=hid (HS.out.alloc (.cells (recCells r) 30))
  have HW1:=hid (Whole.new wr 30 (recCells r))
  unfold recCells at HS1 HW1 hlook
  have hlt2:=hid hlt
  clear hbb hr hjl HC HIr HS hmem
  cases bb with
  | true =>
   have hne:¬ (q:Int)=(j:Int):=fun e=>by
    have e2:q=j:=by omega
    have:=hpj.1 (by rw [e2])
    cases this
   have hd1:((q:Int) == (j:Int))=false:=by rw [beq_eq_false_iff_ne];exact hne
   have hd2:decide ((q:Int)=(j:Int))=false:=decide_eq_false hne
   rw [if_pos rfl] at hst
   have HE:=hid hst
   clear hst hpj hne hq
   go_wp2_with fail
   go_roundw
   case rel=>exact ⟨j+1,P,by omega,by go_num,by omega,HE,HS1⟩
   case measure=>simp [intOf];omega
  | false =>
   have hqj:q=j:=Option.some.inj (hpj.2 rfl)
   rw [hqj] at hlook
   have hd1:((j:Int) == (j:Int))=true:=by simp
   rw [if_neg (by simp)] at hst
   have HE:=hid hst
   obtain ⟨y0,y1,y2,y3⟩:=rec_cells HW1.out
   have HS3:=hid (HS1.out.alloc (.cells (recCells r) 30))
   have HW3:=hid (Whole.new (wr.alloc (.cells (recCells r) 30)) 30 (recCells r))
   rw [World.size_alloc] at HW3
   unfold recCells at HS3 HW3
   clear hst hpj hq hqj
   go_wp2_with (at_builtin;refine wpList_append_rec rfl _ _ rfl _ P rfl HS3.out (wr.heap.size+1) r rfl HW3.out (by omega) ?_)
   intro v' w2 h2 _
   have HS4:=hid h2
   clear h2 HS3 HW3 y0 y1 y2 y3
   go_wp2_with fail
   exact ⟨⟨j+1,P ++ [r],by omega,by go_num,by simp;omega,HE,HS4⟩,by simp [intOf];omega⟩
theorem focompact_ok:FoCompactOk:=⟨fun p n c l w hi hn=>compact_own p n c l (by omega) w hi⟩
end
section
open Go.RowKit
theorem compactF_at:∀ {l:List Rec} {y:Rec},y ∈ compactF l→∃ i,i<l.length∧l.getD i Rec.none=y∧laterF y.key (l.drop (i+1))=false
 | [],y,h=>by simp [compactF] at h
 | r :: l,y,h=>by
  unfold compactF at h
  by_cases hc:laterF r.key l=true
  ·rw [if_pos hc] at h
   obtain ⟨i,h1,h2,h3⟩:=compactF_at h
   exact ⟨i+1,by simp;omega,by simpa using h2,by simpa using h3⟩
  ·rw [if_neg hc] at h
   rcases List.mem_cons.1 h with rfl|h
   ·exact ⟨0,by simp,by simp,by simpa using Bool.eq_false_iff.2 hc⟩
   ·obtain ⟨i,h1,h2,h3⟩:=compactF_at h
    exact ⟨i+1,by simp;omega,by simpa using h2,by simpa using h3⟩
theorem compactF_place {l:List Rec} {y:Rec} (h:y ∈ compactF l):∃ i,i<l.length∧l.getD i Rec.none=y∧placeF l y.key=some i:=by
 obtain ⟨i,h1,h2,h3⟩:=compactF_at h
 rw [← h2] at h3
 exact ⟨i,h1,h2,by rw [← h2];exact (placeF_later i h1).2 h3⟩
set_option maxHeartbeats 4000000 in
set_option maxRecDepth 10000 in
theorem live_own (p:Option Addr) (n c:Nat) (l:List Rec) (hn9:n≤10000) (w:World) (hi:InR w p n c l) :
  Calls Try.prog 15 #[.slice p n c] w fun e w'=>∃ v,e=.returned v∧NewRecs w (liveF l) v w':=by
 have HPl:=hid (places_own p n c l w hi (by omega))
 have HI0:=hid hi
 have HRi:=hid (fun w' (h:PlAt w' w.heap.size n n (placeF l))=>rising_own w.heap.size n n l w' h (by omega) (fun r hr=>(hi.fine r hr).key))
 have hcl:(byKeyF l).length≤n:=by rw [hi.len];exact byKeyF_length l
 obtain ⟨C,hC⟩:∃ C,C=byKeyF l:=⟨_,rfl⟩
 have HAt:=hid (show ∀ j,j<C.length→∃ i,i<l.length∧l.getD i Rec.none=C.getD j Rec.none∧placeF l (C.getD j Rec.none).key=some i from fun j hj =>
  compactF_place (byKeyF_mem.1 (by rw [← hC];exact getR_mem hj)))
 obtain ⟨R,hR⟩:∃ R,R=liveF l:=⟨_,rfl⟩
 have HR:=hid (show R=C.filter fun r=>!r.del from by rw [hR,hC];rfl)
 rw [← hR]
 rw [← hC] at HRi hcl
 clear hi hC hR
 go_enter Try.func15,Try.ntmps15
 go_wp2_with fail
 refine HPl.out.mono ?_
 rintro e w1 ⟨rfl,hpl,hk1⟩
 have HC:=hid (HRi.out w1 hpl)
 have HI1:=hid (HI0.out.keep hk1)
 have HK1:=hid hk1
 have HP1:=hid hpl
 clear hpl hk1 HPl HRi
 go_wp2_with fail
 refine HC.out.mono ?_
 rintro e w2 ⟨v,rfl,hnew⟩
 obtain ⟨q,m,d,rfl,hm,hmd,hd9,hq0,hat,hk2⟩:=hnew.new (dd:=([]:List Int))
 have HI:=hid (HI1.out.keep hk2)
 have HP:=hid (HP1.out.keep hk2 (fun h=>h))
 have HK:=hid (HK1.out.trans hk2)
 have HA:=hid hat
 have HM:=hid (show m=C.length by rw [hm,List.length_map])
 obtain ⟨b,hb⟩:∃ b,b=w.heap.size:=⟨_,rfl⟩
 rw [← hb] at HP ⊢
 have hm9:m≤10000:=by rw [HM.out];omega
 clear hnew hat hk2 hm hq0 HC HI1 HP1 HK1 hb
 go_wp2_with fail
 go_loopw [4,13] (fun v x wr=>∃ j:Nat,j≤m∧x=.int .i64 (j:Int)∧Hid (RecsSoFar w2 ((C.take j).filter fun r=>!r.del) v wr)) (fun _ x _=>m - (intOf x).toNat)
 case atStart=>exact ⟨0,Nat.zero_le _,rfl,hid (RecsSoFar.start w2)⟩
 case round =>
  obtain ⟨j,hj,rfl,HS⟩:=hrel
  by_cases hlt:j<m
  rotate_left
  ·have hdj:decide ((j:Int)<(m:Int))=false:=decide_eq_false (by omega)
   have hdj2:decide (j<m)=false:=decide_eq_false hlt
   have HS2:=hid HS.out
   rw [List.take_of_length_le (by have:=HM.out;omega),← HR.out] at HS2
   clear HS
   go_wp2_with fail
   go_ret
   exact ⟨_,rfl,(HS2.out.lower HK.out).new⟩
  have hdj:decide ((j:Int)<(m:Int))=true:=decide_eq_true (by omega)
  have hdj2:decide (j<m)=true:=decide_eq_true hlt
  have hjl:j<C.length:=by rw [← HM.out];exact hlt
  obtain ⟨i,hil,hie,hip⟩:=HAt.out j hjl
  obtain ⟨a,hqa,k0⟩:=(HA.out.keep HS.out.keeps (fun _ _ h=>h)) j (by rw [List.length_map];exact hjl)
  obtain rfl:=hqa
  have hkj:(C.map Rec.key).getD j []=(C.getD j Rec.none).key:=by
   rw [List.getD_eq_getElem?_getD,List.getD_eq_getElem?_getD,List.getElem?_map,List.getElem?_eq_getElem hjl]
   rfl
  rw [hkj] at k0
  unfold strV at k0
  have hmem:C.getD j Rec.none ∈ l:=by rw [← hie];exact getR_mem hil
  have hlook:=(HP.out.keep HS.out.keeps (fun h=>h)).look (by omega) (HI0.out.fine _ hmem).key (HI0.out.key _ hmem)
  rw [hip] at hlook
  simp only [Option.getD_some] at hlook
  obtain ⟨a2,rfl,x0,x1,x2,x3⟩:=(HI.out.keep HS.out.keeps).at_ i hil
  rw [hie] at x0 x1 x2 x3
  have hin:(i:Int)<(n:Int):=by have:=HI0.out.len;omega
  have HSn:=hid (filter_snoc (f:=fun r=>!r.del) hjl)
  have hpl:((C.take j).filter fun r=>!r.del).length≤100000:=Nat.le_trans (List.length_filter_le _ _) (by rw [List.length_take];omega)
  obtain ⟨P,hP⟩:∃ P,P=(C.take j).filter fun r=>!r.del:=⟨_,rfl⟩
  obtain ⟨r,hr⟩:∃ r,r=C.getD j Rec.none:=⟨_,rfl⟩
  rw [← hr] at x0 x1 x2 x3 HSn k0 hlook
  rw [← hP] at HS HSn hpl
  have HS1:=hid (HS.out.alloc (.cells (recCells r) 30))
  have HW1:=hid (Whole.new wr 30 (recCells r))
  have HJ:=hid (And.intro hj hlt)
  clear hr hP hjl HS hie hip hil hmem hkj
  cases hd:r.del with
  | true =>
   have HE:=hid (show (C.take (j+1)).filter (fun r=>!r.del)=P by rw [HSn.out];simp [hd])
   rw [hd] at x0
   unfold recCells at HS1 HW1
   rw [hd] at HS1 HW1
   clear hd HSn
   go_wp2_with fail
   have hJ:=HJ.out
   go_roundw
   case rel=>exact ⟨j+1,by omega,by go_num,by rw [HE.out];exact HS1⟩
   case measure=>simp [intOf];omega
  | false =>
   have HE:=hid (show (C.take (j+1)).filter (fun r=>!r.del)=P ++ [r] by rw [HSn.out];simp [hd])
   obtain ⟨y0,y1,y2,y3⟩:=rec_cells HW1.out
   have HS3:=hid (HS1.out.alloc (.cells (recCells r) 30))
   have HW3:=hid (Whole.new (wr.alloc (.cells (recCells r) 30)) 30 (recCells r))
   rw [World.size_alloc] at HW3
   have HWr:=hid (show recCells r=#[.bool false,.int .u64 (r.seq:Int),.string (strOfNums r.key),.string (strOfNums r.val)] from by unfold recCells;rw [hd])
   rw [HWr.out] at HS3 y0 y1 y2 y3
   rw [hd] at x0 y0
   clear HS1 HW1 HSn hd
   go_wp2_with (at_builtin;refine wpList_append_rec rfl _ _ rfl _ P rfl HS3.out (wr.heap.size+1) r rfl (by have h:=HW3.out;rw [HWr.out] at h ⊢;exact h) (by omega) ?_)
   intro v' w2 h2 _
   have HS4:=hid h2
   have hJ:=HJ.out
   clear h2 HS3 HW3 y0 y1 y2 y3
   go_wp2_with fail
   go_roundw
   case rel=>exact ⟨j+1,by omega,by go_num,by rw [HE.out];exact HS4⟩
   case measure=>simp [intOf];omega
theorem folive_ok:FoLiveOk:=⟨fun p n c l w hi hn=>live_own p n c l hn w hi⟩
end
section
theorem lastF_gone {k:List Int}:∀ (l:List Rec) (o:Option Rec),l.foldl (fun st r=>if r.key=k then some r else st) o=none→o=none∧∀ x ∈ l,x.key ≠ k
 | [],o,h=>⟨h,fun x hx=>by simp at hx⟩
 | r :: l,o,h=>by
  rw [List.foldl_cons] at h
  obtain ⟨h1,h2⟩:=lastF_gone l _ h
  by_cases hr:r.key=k
  ·rw [if_pos hr] at h1
   cases h1
  ·rw [if_neg hr] at h1
   refine ⟨h1,fun x hx=>?_⟩
   rcases List.mem_cons.1 hx with rfl|hx
   ·exact hr
   ·exact h2 x hx
theorem lastF_no {l:List Rec} {k:List Int} (h:lastF l k=none):∀ x ∈ l,x.key ≠ k:=(lastF_gone l none h).2
theorem at_none {l:List Rec} {k:List Int} (h:∀ x ∈ l,x.key ≠ k):atF l k=(0,[]):=atStep_other h _
theorem at_one {l:List Rec} {k:List Int} {r:Rec} (hr:r ∈ l) (hk:r.key=k) (hu:∀ x ∈ l,x.key=k→x=r):atF l k=sayR r:=by
 cases h:lastF l k with
 | none=>exact absurd hk (lastF_no h r hr)
 | some x =>
  obtain ⟨h1,h2⟩:=lastF_some h
  rw [h2,hu x (lastF_in h) h1]
theorem compact_one:∀ (l:List Rec) {x y:Rec},x ∈ compactF l→y ∈ compactF l→x.key=y.key→x=y
 | [],x,y,hx,_,_=>by simp [compactF] at hx
 | r :: l,x,y,hx,hy,hk=>by
  rw [compactF] at hx hy
  by_cases h:laterF r.key l=true
  ·rw [if_pos h] at hx hy
   exact compact_one l hx hy hk
  ·rw [if_neg h] at hx hy
   rw [Bool.not_eq_true] at h
   have h2:=laterF_false.1 h
   rcases List.mem_cons.1 hx with ex|hx1
   ·rcases List.mem_cons.1 hy with ey|hy1
    ·rw [ex,ey]
    ·rw [ex] at hk
     exact absurd hk.symm (h2 y (compactF_mem hy1))
   ·rcases List.mem_cons.1 hy with ey|hy1
    ·rw [ey] at hk
     exact absurd hk (h2 x (compactF_mem hx1))
    ·exact compact_one l hx1 hy1 hk
theorem liveF_iff {l:List Rec} {r:Rec}:r ∈ liveF l ↔ r ∈ compactF l∧r.del=false:=by
 unfold liveF
 rw [List.mem_filter,byKeyF_mem]
 simp
theorem at_live (l:List Rec) (k:List Int):(atF l k).1=2∧atF (liveF l) k=atF l k ∨ ((atF l k).1=1 ∨ (atF l k).1=0)∧(atF l k).2=[]∧atF (liveF l) k=(0,[]):=by
 rw [← atF_compact l k]
 cases h:lastF (compactF l) k with
 | none =>
  refine .inr ?_
  have h2:=lastF_no h
  rw [at_none h2,at_none (l:=liveF l) (fun x hx=>h2 x (liveF_iff.1 hx).1)]
  exact ⟨.inr rfl,rfl,rfl⟩
 | some r =>
  obtain ⟨h1,h2⟩:=lastF_some h
  have h3:=lastF_in h
  rw [h2]
  cases hd:r.del with
  | true =>
   refine .inr ?_
   rw [at_none (l:=liveF l) (fun x hx e=>?_)]
   ·unfold sayR
    rw [if_pos hd]
    exact ⟨.inl rfl,rfl,rfl⟩
   ·obtain ⟨a,b⟩:=liveF_iff.1 hx
    rw [compact_one l a h3 (e.trans h1.symm),hd] at b
    cases b
  | false =>
   refine .inl ⟨by unfold sayR;rw [if_neg (by rw [hd];simp)],?_⟩
   exact at_one (liveF_iff.2 ⟨h3,hd⟩) h1 (fun x hx e=>compact_one l (liveF_iff.1 hx).1 h3 (e.trans h1.symm))
theorem atF_oct {l:List Rec} (hf:∀ r ∈ l,r.Fine) (k:List Int):Octets (atF l k).2:=by
 cases h:lastF l k with
 | none=>rw [lastF_none h];intro b hb;simp at hb
 | some r =>
  rw [(lastF_some h).2]
  unfold sayR
  split
  ·intro b hb;simp at hb
  ·exact (hf r (lastF_in h)).val
def asF (l m:List Rec) (r:Rec):Bool:=decide (atF l r.key=atF m r.key)
theorem sameF_eq (l m:List Rec):sameF l m=(l ++ m).all (asF l m):=rfl
theorem sameF_comm (l m:List Rec):sameF m l=sameF l m:=by
 unfold sameF
 rw [List.all_append,List.all_append,Bool.and_comm]
 congr 1 <;> exact congrArg (fun f=>List.all _ f) (funext fun r=>by rw [decide_eq_decide];exact eq_comm)
theorem sameF_compact (l:List Rec):sameF l (compactF l)=true:=by
 unfold sameF
 rw [List.all_eq_true]
 intro r _
 rw [atF_compact]
 exact decide_eq_true rfl
theorem asF_two (l m:List Rec) (r:Rec):asF l m r=(decide ((atF l r.key).1=(atF m r.key).1) && decide ((atF l r.key).2=(atF m r.key).2)):=by
 unfold asF
 rw [Bool.eq_iff_iff,Bool.and_eq_true,decide_eq_true_iff,decide_eq_true_iff,decide_eq_true_iff,Prod.ext_iff]
theorem all_snoc {f:Rec→Bool} {l:List Rec} {j:Nat} (hj:j<l.length):(l.take (j+1)).all f=((l.take j).all f && f (l.getD j Rec.none)):=by
 rw [List.take_succ_eq_append_getElem hj,List.all_append]
 simp [hj]
end
section
open Go.RowKit
set_option maxHeartbeats 4000000 in
set_option maxRecDepth 10000 in
theorem foldsame_many (HA:FoAtOk) (p:Option Addr) (n c:Nat) (l:List Rec) (q:Option Addr) (m d:Nat) (k:List Rec) (w:World) (hn:n=l.length) (hc:n≤c) (hc':c≤9223372036854775807) (hb:∀ r ∈ l,r.key.length≤9223372036854775807∧r.val.length≤9223372036854775807) (hl:RecsAt w p l)
  (hm:m=k.length) (hd:m≤d) (hd':d≤9223372036854775807) (hg:∀ r ∈ k,r.key.length≤9223372036854775807∧r.val.length≤9223372036854775807) (hk:RecsAt w q k) (hfe:fewR l 60 300=false ∨ fewR k 60 300=false) :
  Calls Try.prog 5 #[.slice p n c,.slice q m d] w fun e w'=>e=.returned (.bool true)∧Keeps NoBlock w w':=by
 have HLv:=hid (fun w=>lives18_true HA w)
 have HFw:=hid (fun (w:World) hl=>few_any p n c l 60 300 60 300 rfl rfl hn (by omega) hb w hl)
 have HFk:=hid (fun (w:World) hl=>few_any q m d k 60 300 60 300 rfl rfl hm (by omega) hg w hl)
 have HL:=hid hl
 have HKr:=hid hk
 clear hn hb hl hm hg hk HA
 cases hfl:fewR l 60 300 with
 | false =>
  rw [hfl] at HFw
  clear hfl hfe HFk
  go_enter Try.func5,Try.ntmps5
  go_wp2_with fail
  refine (HLv.out _).mono ?_
  rintro e w1 ⟨rfl,hk⟩
  have HK:=hid hk
  have HL:=hid (HL.out.keep hk (fun _ _ h=>h))
  clear hk
  go_wp2_with fail
  refine (HFw.out _ HL.out).mono ?_
  rintro e w2 ⟨rfl,hk⟩
  have HK:=hid (HK.out.trans hk)
  clear hk
  go_wp2_with fail
  refine (HLv.out _).mono ?_
  rintro e w3 ⟨rfl,hk⟩
  have HK:=hid (HK.out.trans hk)
  clear hk
  go_wp2_with fail
  go_ret
  exact ⟨rfl,HK.out⟩
 | true =>
  have hfk:fewR k 60 300=false:=by
   rcases hfe with h|h
   ·rw [hfl] at h;cases h
   ·exact h
  rw [hfl] at HFw
  rw [hfk] at HFk
  clear hfl hfk hfe
  go_enter Try.func5,Try.ntmps5
  go_wp2_with fail
  refine (HLv.out _).mono ?_
  rintro e w1 ⟨rfl,hk⟩
  have HK:=hid hk
  have HL:=hid (HL.out.keep hk (fun _ _ h=>h))
  have HKr:=hid (HKr.out.keep hk (fun _ _ h=>h))
  clear hk
  go_wp2_with fail
  refine (HFw.out _ HL.out).mono ?_
  rintro e w2 ⟨rfl,hk⟩
  have HK:=hid (HK.out.trans hk)
  have HKr:=hid (HKr.out.keep hk (fun _ _ h=>h))
  clear hk
  go_wp2_with fail
  refine (HFk.out _ HKr.out).mono ?_
  rintro e w2 ⟨rfl,hk⟩
  have HK:=hid (HK.out.trans hk)
  clear hk
  go_wp2_with fail
  refine (HLv.out _).mono ?_
  rintro e w3 ⟨rfl,hk⟩
  have HK:=hid (HK.out.trans hk)
  clear hk
  go_wp2_with fail
  go_ret
  exact ⟨rfl,HK.out⟩
set_option maxHeartbeats 16000000 in
set_option maxRecDepth 10000 in
theorem foldsame_few (HA:FoAtOk) (HSa:FoSameOk) (HCo:FoCompactOk) (HLi:FoLiveOk) (p:Option Addr) (n c:Nat) (l:List Rec) (q:Option Addr) (m d:Nat) (k:List Rec) (w:World) (hi:InR w p n c l) (hj:InR w q m d k) (hp:p=none→n=0∧c=0) (hq:q=none→m=0∧d=0) (hfl:fewR l 60 300=true) (hfk:fewR k 60 300=true) :
  Calls Try.prog 5 #[.slice p n c,.slice q m d] w fun e w'=>e=.returned (.bool true)∧Keeps NoBlock w w':=by
 have HLv:=hid (fun w=>lives18_true HA w)
 obtain ⟨hlen,hlit⟩:=few_rows18 hfl
 obtain ⟨hlen2,hlit2⟩:=few_rows18 hfk
 have hc':=hi.room
 have hcap:=hi.cap
 have hd':=hj.room
 have hdap:=hj.cap
 have HFw:=hid (fun (w:World) hl=>few_any p n c l 60 300 60 300 rfl rfl hi.len (by omega) (fun r hr=>by have:=hi.key r hr;have:=hi.val r hr;omega) w hl)
 have HFk:=hid (fun (w:World) hl=>few_any q m d k 60 300 60 300 rfl rfl hj.len (by omega) (fun r hr=>by have:=hj.key r hr;have:=hj.val r hr;omega) w hl)
 rw [hfl] at HFw
 rw [hfk] at HFk
 have hn60:n≤60:=by rw [hi.len];exact hlen
 have hm60:m≤60:=by rw [hj.len];exact hlen2
 have HI:=hid hi
 have HJ:=hid hj
 have HBr:=hid (And.intro hp hq)
 have HN:=hid (And.intro hi.len hj.len)
 have HR1:=hid (fun x W (h:InR W p n c l) hk=>at18_ref p n c l x hk W h)
 have HR2:=hid (fun x W (h:InR W q m d k) hk=>at18_ref q m d k x hk W h)
 have HS1:=hid (fun W (h:InR W p n c l) (h2:InR W q m d k)=>HSa.same p n c l q m d k W h h2 (by omega) (by omega))
 have HS2:=hid (fun W (h:InR W p n c l) (h2:InR W q m d k)=>HSa.same q m d k p n c l W h2 h (by omega) (by omega))
 have HS3:=hid (fun W a b e (h:InR W p n c l) (h2:InR W a b e (compactF l)) (h9:b≤10000)=>HSa.same p n c l a b e (compactF l) W h h2 (by omega) h9)
 rw [sameF_comm] at HS2
 rw [sameF_compact] at HS3
 have HC1:=hid (fun W (h:InR W p n c l)=>HCo.compact p n c l W h (by omega))
 have HL1:=hid (fun W (h:InR W p n c l)=>HLi.live p n c l W h (by omega))
 have HA1:=hid (fun x W (h:InR W p n c l) h1 h2=>HA.at_ p n c l x W h (by omega) h1 h2)
 have HA2:=hid (fun x W a b e (h:InR W a b e (liveF l)) (h9:b≤100000) h1 h2=>HA.at_ a b e (liveF l) x W h h9 h1 h2)
 have HM1:=hid (And.intro (fun (r:Rec) (h:r ∈ liveF l)=>liveF_mem h) (show (liveF l).length≤60 by have:=liveF_length l;omega))
 have HM2:=hid (And.intro (fun (r:Rec) (h:r ∈ compactF l)=>compactF_mem h) (show (compactF l).length≤60 by have:=compactF_length l;omega))
 have HOc:=hid (And.intro (fun x=>atF_oct hi.fine x) (fun x=>atF_oct hj.fine x))
 have HFi:=hid (show ∀ r ∈ l ++ k,Octets r.key∧r.key.length≤300 from fun r hr=>by
  rcases List.mem_append.1 hr with hr|hr
  ·exact ⟨(hi.fine r hr).key,(hlit r hr).1⟩
  ·exact ⟨(hj.fine r hr).key,(hlit2 r hr).1⟩)
 have HWant:=hid (sameF_eq l k)
 obtain ⟨B,hB⟩:∃ B,B=sameF l k:=⟨_,rfl⟩
 rw [← hB] at HS1 HS2 HWant
 obtain ⟨LK,hLK⟩:∃ LK,LK=l ++ k:=⟨_,rfl⟩
 rw [← hLK] at HFi HWant
 have HLK:=hid hLK
 have hll:LK.length=n+m:=by rw [hLK,List.length_append,hi.len,hj.len]
 clear hi hj hp hq hfl hfk hlen hlit hlen2 hlit2 HA HSa HCo HLi hB hLK
 go_enter Try.func5,Try.ntmps5
 go_wp2_with fail
 refine (HLv.out _).mono ?_
 rintro e w1 ⟨rfl,hk⟩
 have HK:=hid hk
 have HI:=hid (HI.out.keep hk)
 have HJ:=hid (HJ.out.keep hk)
 clear hk
 go_wp2_with fail
 refine (HFw.out _ HI.out.at_).mono ?_
 rintro e w2 ⟨rfl,hk⟩
 have HK:=hid (HK.out.trans hk)
 have HI:=hid (HI.out.keep hk)
 have HJ:=hid (HJ.out.keep hk)
 clear hk
 go_wp2_with fail
 refine (HFk.out _ HJ.out.at_).mono ?_
 rintro e w3 ⟨rfl,hk⟩
 have HK:=hid (HK.out.trans hk)
 have HI:=hid (HI.out.keep hk)
 have HJ:=hid (HJ.out.keep hk)
 clear hk HFw HFk HLv
 have HW2:=hid (RecsSoFar.made w3)
 have hka:Keeps NoBlock w3 (w3.alloc (.cells #[] 30)):=(Keeps.refl NoBlock w3).alloc _
 have HI2:=hid (HI.out.at_.keep hka (fun _ _ h=>h))
 have HJ2:=hid (HJ.out.at_.keep hka (fun _ _ h=>h))
 clear hka
 go_wp2_with (at_builtin;refine wpList_append_recs rfl _ _ rfl _ [] rfl HW2.out p n c l rfl HBr.out.1 HN.out.1 HI2.out (by simp;omega) ?_)
 intro v4 w4 h4 hb4
 have HJ4:=hid ((HJ.out.keep h4.keeps).at_)
 have HS4:=hid h4
 clear h4 hb4 HW2 HI2 HJ2
 go_wp2_with (at_builtin;refine wpList_append_recs rfl _ _ rfl _ l rfl HS4.out q m d k rfl HBr.out.2 HN.out.2 HJ4.out (by have:=HN.out.1;omega) ?_)
 intro v5 w5 h5 _
 rw [← HLK.out] at h5
 obtain ⟨qO,mO,dO,rfl,hmO,hmdO,hdO,_,hatO,hk⟩:=h5.new
 have HK:=hid (HK.out.trans hk)
 have HI:=hid (HI.out.keep hk)
 have HJ:=hid (HJ.out.keep hk)
 have HAtO:=hid hatO
 have HmO:=hid hmO
 have hmO9:mO≤120:=by omega
 clear hk hatO hmO hmdO hdO h5 HS4 HJ4 hll HN HBr
 go_wp2_with fail
 go_loopw [5,38] (fun b x wr=>∃ (j:Nat) (bb:Bool),j≤mO∧x=.int .i64 (j:Int)∧b=.bool bb∧Hid ((LK.take j).all (asF l k)=bb)∧Hid (Keeps NoBlock w5 wr)) (fun _ x _=>mO - (intOf x).toNat)
 case atStart=>exact ⟨0,true,Nat.zero_le _,rfl,rfl,hid rfl,hid (Keeps.refl _ _)⟩
 case round =>
  obtain ⟨j,bb,hj,rfl,rfl,HF,HKr⟩:=hrel
  by_cases hlt:j<mO
  ·have hdj:decide ((j:Int)<(mO:Int))=true:=decide_eq_true (by omega)
   have hdj2:decide (j<mO)=true:=decide_eq_true hlt
   have hjl:j<LK.length:=by rw [← HmO.out];exact hlt
   obtain ⟨a,hqa,x0,x1,x2,x3⟩:=(HAtO.out.keep HKr.out (fun _ _ h=>h)) j hjl
   obtain rfl:=hqa
   have hfi:=HFi.out _ (getR_mem hjl)
   have hsn:=all_snoc (f:=asF l k) hjl
   rw [HF.out,asF_two] at hsn
   obtain ⟨r,hr⟩:∃ r,r=LK.getD j Rec.none:=⟨_,rfl⟩
   rw [← hr] at x0 x1 x2 x3 hfi hsn
   have HIa:=hid ((HI.out.keep HKr.out).keep ((Keeps.refl NoBlock wr).alloc (.cells (recCells r) 30)))
   have HJa:=hid ((HJ.out.keep HKr.out).keep ((Keeps.refl NoBlock wr).alloc (.cells (recCells r) 30)))
   have HBx:=hid (Whole.new wr 30 (recCells r))
   have HKa:=hid (HKr.out.alloc (.cells (recCells r) 30))
   have HR1x:=hid (fun W h=>HR1.out r.key W h hfi.1)
   have HR2x:=hid (fun W h=>HR2.out r.key W h hfi.1)
   have hcmp:=same_str (HOc.out.1 r.key) (HOc.out.2 r.key)
   obtain ⟨⟨a1,s1⟩,hs1⟩:∃ s,s=atF l r.key:=⟨_,rfl⟩
   obtain ⟨⟨a2,s2⟩,hs2⟩:∃ s,s=atF k r.key:=⟨_,rfl⟩
   rw [← hs1] at HR1x hcmp hsn
   rw [← hs2] at HR2x hcmp hsn
   simp only at HR1x HR2x hcmp hsn
   unfold recCells at HIa HJa HBx HKa
   have HJl:=hid (And.intro hj hlt)
   have HSn:=hid hsn
   clear hr hjl hfi hsn hs1 hs2 HF HKr
   go_wp2_with fail
   refine (HR1x.out _ HIa.out).mono ?_
   rintro e w6 ⟨rfl,hk⟩
   have HKa:=hid (HKa.out.trans hk)
   have HJa:=hid (HJa.out.keep hk)
   have HBx:=hid (HBx.out.keep hk (fun h=>h))
   clear hk HIa x0 x1 x2 x3
   have y2:w6.cell? ⟨wr.heap.size,2,none⟩=some (.string (strOfNums r.key)):=HBx.out.cell 2 rfl
   go_wp2_with fail
   refine (HR2x.out _ HJa.out).mono ?_
   rintro e w7 ⟨rfl,hk⟩
   have HKa:=hid (HKa.out.trans hk)
   clear hk HJa HBx y2
   have e1:((a1:Int) == a2)=decide (a1=a2):=by rw [Bool.eq_iff_iff,beq_iff_eq,decide_eq_true_iff]
   obtain ⟨u1,hu1⟩:∃ u,u=decide (a1=a2):=⟨_,rfl⟩
   obtain ⟨u2,hu2⟩:∃ u,u=decide (s1=s2):=⟨_,rfl⟩
   rw [← hu1] at e1 HSn
   rw [← hu2] at hcmp HSn
   clear hu1 hu2
   cases bb <;> cases u1 <;> cases u2 <;> (go_wp2_with fail;go_roundw;(case rel=>exact ⟨j+1,_,by have:=HJl.out;omega,by go_num,rfl,hid (by rw [HSn.out];rfl),HKa⟩);(case measure=>have:=HJl.out;simp [intOf];omega))
  have hdj:decide ((j:Int)<(mO:Int))=false:=decide_eq_false (by omega)
  have hdj2:decide (j<mO)=false:=decide_eq_false hlt
  have hbb:bb=B:=by
   have h:=HF.out
   rw [List.take_of_length_le (by have:=HmO.out;omega)] at h
   rw [HWant.out,h]
  subst hbb
  have HKw:=hid (HK.out.trans HKr.out)
  have HI:=hid (HI.out.keep HKr.out)
  have HJ:=hid (HJ.out.keep HKr.out)
  clear HK HKr HF HAtO HmO
  go_wp2_with fail
  refine (HS1.out _ HI.out HJ.out).mono ?_
  rintro e w6 ⟨rfl,hk⟩
  have HKw:=hid (HKw.out.trans hk)
  have HI:=hid (HI.out.keep hk)
  have HJ:=hid (HJ.out.keep hk)
  clear hk
  have hbb:(bb != bb)=false:=by simp
  have hbe:(bb == bb)=true:=by simp
  go_wp2_with fail
  refine (HS2.out _ HI.out HJ.out).mono ?_
  rintro e w7 ⟨rfl,hk⟩
  have HKw:=hid (HKw.out.trans hk)
  have HI:=hid (HI.out.keep hk)
  clear hk HJ
  go_wp2_with fail
  refine (HC1.out _ HI.out).mono ?_
  rintro e w8 ⟨v,rfl,hnew⟩
  obtain ⟨q1,m1,d1,rfl,hI1,hk⟩:=hnew.inR HI.out HM2.out.1
  have HKw:=hid (HKw.out.trans hk)
  have HI:=hid (HI.out.keep hk)
  have HI1:=hid hI1
  have hm1:m1≤60:=by rw [hI1.len];exact HM2.out.2
  clear hk hI1 hnew
  go_wp2_with fail
  refine (HS3.out _ _ _ _ HI.out HI1.out (by omega)).mono ?_
  rintro e w9 ⟨rfl,hk⟩
  have HKw:=hid (HKw.out.trans hk)
  have HI:=hid (HI.out.keep hk)
  clear hk HI1 hm1
  go_wp2_with fail
  refine (HL1.out _ HI.out).mono ?_
  rintro e wl ⟨v,rfl,hnew⟩
  obtain ⟨q1,m1,d1,rfl,hI1,hk⟩:=hnew.inR HI.out HM1.out.1
  have HKw:=hid (HKw.out.trans hk)
  have HI:=hid (HI.out.keep hk)
  have HI1:=hid hI1
  have hm1:m1≤60:=by rw [hI1.len];exact HM1.out.2
  clear hk hI1 hnew hbb hbe
  go_wp2_with fail
  go_loopw [91] (fun x wr=>∃ i:Nat,i≤n∧x=.int .i64 (i:Int)∧Hid (Keeps NoBlock wl wr)) (fun x _=>n - (intOf x).toNat)
  case atStart=>exact ⟨0,Nat.zero_le _,rfl,hid (Keeps.refl _ _)⟩
  case round =>
   obtain ⟨i,hi,rfl,HKq⟩:=hrel
   by_cases hli:i<n
   rotate_left
   ·have hdi:decide ((i:Int)<(n:Int))=false:=decide_eq_false (by omega)
    have hdi2:decide (i<n)=false:=decide_eq_false hli
    go_wp2_with fail
    go_ret
    exact ⟨rfl,HKw.out.trans HKq.out⟩
   have hdi:decide ((i:Int)<(n:Int))=true:=decide_eq_true (by omega)
   have hdi2:decide (i<n)=true:=decide_eq_true hli
   have hil:i<l.length:=by rw [← HI.out.len];exact hli
   have hIq:=HI.out.keep HKq.out
   obtain ⟨a,hqa,x0,x1,x2,x3⟩:=hIq.at_ i hil
   obtain rfl:=hqa
   have hfi:=HFi.out (l.getD i Rec.none) (by rw [HLK.out];exact List.mem_append_left _ (getR_mem hil))
   obtain ⟨r,hr⟩:∃ r,r=l.getD i Rec.none:=⟨_,rfl⟩
   rw [← hr] at x0 x1 x2 x3 hfi
   have hka:Keeps NoBlock wr (wr.alloc (.cells (recCells r) 30)):=(Keeps.refl NoBlock wr).alloc _
   have HIa:=hid (hIq.keep hka)
   have HJa:=hid ((HI1.out.keep HKq.out).keep hka)
   have HBx:=hid (Whole.new wr 30 (recCells r))
   have HKa:=hid (HKq.out.trans hka)
   have HA1x:=hid (fun W h=>HA1.out r.key W h hfi.1 (by omega))
   have HA2x:=hid (fun W h=>HA2.out r.key W q1 m1 d1 h (by omega) hfi.1 (by omega))
   have hlv:=at_live l r.key
   obtain ⟨⟨a1,s1⟩,hs1⟩:∃ s,s=atF l r.key:=⟨_,rfl⟩
   rw [← hs1] at HA1x hlv
   simp only at HA1x hlv
   unfold recCells at HIa HJa HBx HKa
   have HJl:=hid (And.intro hi hli)
   clear hr hil hfi hs1 hIq hka HKq
   have hways:∃ a2 s2,atF (liveF l) r.key=(a2,s2)∧(a1=2∧a2=2∧s2=s1 ∨ a1=1∧a2=0∧s1=[]∧s2=[] ∨ a1=0∧a2=0∧s1=[]∧s2=[]):=by
    rcases hlv with ⟨h1,h2⟩|⟨h1|h1,h2,h3⟩
    ·exact ⟨a1,s1,h2,.inl ⟨h1,h1,rfl⟩⟩
    ·exact ⟨0,[],h3,.inr (.inl ⟨h1,rfl,h2,rfl⟩)⟩
    ·exact ⟨0,[],h3,.inr (.inr ⟨h1,rfl,h2,rfl⟩)⟩
   clear hlv
   obtain ⟨a2,s2,h2,hw⟩:=hways
   rw [h2] at HA2x
   simp only at HA2x
   clear h2
   go_wp2_with fail
   refine (HA1x.out _ HIa.out).mono ?_
   rintro e w6 ⟨rfl,hk⟩
   have HKa:=hid (HKa.out.trans hk)
   have HJa:=hid (HJa.out.keep hk)
   have HBx:=hid (HBx.out.keep hk (fun h=>h))
   clear hk HIa x0 x1 x2 x3
   have y2:w6.cell? ⟨wr.heap.size,2,none⟩=some (.string (strOfNums r.key)):=HBx.out.cell 2 rfl
   go_wp2_with fail
   refine (HA2x.out _ HJa.out).mono ?_
   rintro e w7 ⟨rfl,hk⟩
   have HKa:=hid (HKa.out.trans hk)
   clear hk HJa HBx y2
   rcases hw with ⟨rfl,rfl,rfl⟩|⟨rfl,rfl,rfl,rfl⟩|⟨rfl,rfl,rfl,rfl⟩ <;> (go_wp2_with fail;go_roundw;(case rel=>exact ⟨i+1,by have:=HJl.out;omega,by go_num,HKa⟩);(case measure=>have:=HJl.out;simp [intOf];omega))
theorem foldsame_walk (HA:FoAtOk) (HSa:FoSameOk) (HCo:FoCompactOk) (HLi:FoLiveOk) (p:Option Addr) (n c:Nat) (l:List Rec) (q:Option Addr) (m d:Nat) (k:List Rec) (w:World) (hn:n=l.length) (hc:n≤c) (hc':c≤9223372036854775807) (hp:p=none→n=0∧c=0) (hf:∀ r ∈ l,r.Fine) (hb:∀ r ∈ l,r.key.length≤9223372036854775807∧r.val.length≤9223372036854775807) (hl:RecsAt w p l)
  (hm:m=k.length) (hd:m≤d) (hd':d≤9223372036854775807) (hq:q=none→m=0∧d=0) (hf2:∀ r ∈ k,r.Fine) (hg:∀ r ∈ k,r.key.length≤9223372036854775807∧r.val.length≤9223372036854775807) (hk:RecsAt w q k) :
  Calls Try.prog 5 #[.slice p n c,.slice q m d] w fun e w'=>e=.returned (.bool true)∧Keeps NoBlock w w':=by
 by_cases h1:fewR l 60 300=true
 ·by_cases h2:fewR k 60 300=true
  ·have a1:=(few_rows18 h1).2
   have a2:=(few_rows18 h2).2
   exact foldsame_few HA HSa HCo HLi p n c l q m d k w ⟨hn,hc,hc',hf,fun r hr=>by have:=(a1 r hr).1;omega,fun r hr=>by have:=(a1 r hr).2;omega,hl⟩ ⟨hm,hd,hd',hf2,fun r hr=>by have:=(a2 r hr).1;omega,fun r hr=>by have:=(a2 r hr).2;omega,hk⟩ hp hq h1 h2
  ·exact foldsame_many HA p n c l q m d k w hn hc hc' hb hl hm hd hd' hg hk (.inr (by simpa using h2))
 ·exact foldsame_many HA p n c l q m d k w hn hc hc' hb hl hm hd hd' hg hk (.inl (by simpa using h1))
end
section
open Go.RowKit Go.ChangeShapes Go.WideShapes Go.Maps Go.Sort
def eqdR (l m:List Rec):DataW Unit→DataW Unit→Bool
 | .lit (.int .i64 i),.lit (.int .i64 j)=>decide (sayR (l.getD i.toNat Rec.none)=sayR (m.getD j.toNat Rec.none))
 | _,_=>false
theorem nodup_le {α:Type} [DecidableEq α]:∀ {l m:List α},l.Nodup→(∀ x ∈ l,x ∈ m)→l.length≤m.length
 | [],_,_,_=>Nat.zero_le _
 | a :: l,m,hn,hs=>by
  obtain ⟨h1,h2⟩:=List.nodup_cons.1 hn
  have ha:a ∈ m:=hs a (by simp)
  have:=nodup_le (m:=m.erase a) h2 (fun x hx=>(List.mem_erase_of_ne (fun e=>h1 (by rw [← e];exact hx))).2 (hs x (by simp [hx])))
  rw [List.length_erase_of_mem ha] at this
  have h3:0<m.length:=List.length_pos_of_mem ha
  rw [List.length_cons]
  omega
theorem nodup_back {α:Type} [DecidableEq α] {l m:List α} (hn:l.Nodup) (hs:∀ x ∈ l,x ∈ m) (hle:m.length≤l.length):∀ x ∈ m,x ∈ l:=by
 intro x hx
 by_cases h:x ∈ l
 ·exact h
 ·have:=nodup_le (l:=x :: l) (m:=m) (List.nodup_cons.2 ⟨h,hn⟩) (fun y hy=>by
   rcases List.mem_cons.1 hy with rfl|hy
   ·exact hx
   ·exact hs y hy)
  rw [List.length_cons] at this
  omega
theorem sayR_pos (r:Rec):(sayR r).1 ≠ 0:=by
 unfold sayR
 split <;> simp
theorem atF_place (l:List Rec) (k:List Int):atF l k=match placeF l k with|some i=>sayR (l.getD i Rec.none)|none=>(0,[]):=by
 have h:=lastF_place l k
 cases hp:placeF l k with
 | none =>
  rw [hp] at h
  exact lastF_none h
 | some i =>
  rw [hp] at h
  exact (lastF_some h).2
theorem sameF_iff (l m:List Rec):sameF l m=true ↔ (∀ k,(placeF l k).isSome=(placeF m k).isSome)∧∀ k i j,placeF l k=some i→placeF m k=some j→sayR (l.getD i Rec.none)=sayR (m.getD j Rec.none):=by
 unfold sameF
 rw [List.all_eq_true]
 constructor
 ·intro h
  have hk:∀ k,(placeF l k).isSome=true ∨ (placeF m k).isSome=true→atF l k=atF m k:=fun k hk=>by
   rcases hk with hk|hk
   ·obtain ⟨r,hr,rfl⟩:=placeF_isSome.1 hk
    exact of_decide_eq_true (h r (List.mem_append_left _ hr))
   ·obtain ⟨r,hr,rfl⟩:=placeF_isSome.1 hk
    exact of_decide_eq_true (h r (List.mem_append_right _ hr))
  refine ⟨fun k=>?_,fun k i j hi hj=>?_⟩
  ·cases h1:placeF l k with
   | some i =>
    cases h2:placeF m k with
    | some j=>rfl
    | none =>
     have:=hk k (.inl (by rw [h1];rfl))
     rw [atF_place,atF_place,h1,h2] at this
     exact absurd (congrArg Prod.fst this) (sayR_pos _)
   | none =>
    cases h2:placeF m k with
    | none=>rfl
    | some j =>
     have:=hk k (.inr (by rw [h2];rfl))
     rw [atF_place,atF_place,h1,h2] at this
     exact absurd (congrArg Prod.fst this).symm (sayR_pos _)
  ·have:=hk k (.inl (by rw [hi];rfl))
   rw [atF_place,atF_place,hi,hj] at this
   exact this
 ·rintro ⟨h1,h2⟩ r _
  refine decide_eq_true ?_
  have hs:=h1 r.key
  rw [atF_place,atF_place]
  cases hl:placeF l r.key with
  | some i =>
   cases hm:placeF m r.key with
   | some j=>exact h2 _ i j hl hm
   | none=>rw [hl,hm] at hs;cases hs
  | none =>
   cases hm:placeF m r.key with
   | some j=>rw [hl,hm] at hs;cases hs
   | none=>rfl
theorem equal_same {l m:List Rec} {w w':World} {b n b' n':Nat} {D1 D2:DataW Unit} (o1:w.ownsMap Try.prog 9 (idxE l.length) b n D1) (o2:w'.ownsMap Try.prog 9 (idxE m.length) b' n' D2)
  (h1:∀ k,Octets k→has D1 (kL k)=(placeF l k).isSome∧D1.atKey (kL k) (.lit (.int .i64 0))=.lit (.int .i64 (((placeF l k).getD 0:Nat):Int)))
  (h2:∀ k,Octets k→has D2 (kL k)=(placeF m k).isSome∧D2.atKey (kL k) (.lit (.int .i64 0))=.lit (.int .i64 (((placeF m k).getD 0:Nat):Int)))
  (ho1:∀ r ∈ l,Octets r.key) (ho2:∀ r ∈ m,Octets r.key):Lib.equalFuncD (eqdR l m) D1 D2=sameF l m:=by
 obtain ⟨n1,m1⟩:=strKeys_chars o1
 obtain ⟨n2,m2⟩:=strKeys_chars o2
 obtain ⟨es,hD,hap,hkl⟩:=o1.entries str_keyed
 obtain ⟨es',hD',hko⟩:=o1.keysOf
 obtain rfl:es=es':=by rw [hD] at hD';simpa using hD'
 have hs1:Maps.size D1=(strKeys D1).length:=by rw [hD];exact (List.length_map ..).symm
 have hs2:Maps.size D2=(strKeys D2).length:=by
  obtain ⟨e2,hD2,_⟩:=o2.entries str_keyed
  rw [hD2];exact (List.length_map ..).symm
 have hoct:∀ k,(placeF l k).isSome=true ∨ (placeF m k).isSome=true→Octets k:=fun k hk=>by
  rcases hk with hk|hk
  ·obtain ⟨r,hr,rfl⟩:=placeF_isSome.1 hk
   exact ho1 r hr
  ·obtain ⟨r,hr,rfl⟩:=placeF_isSome.1 hk
   exact ho2 r hr
 have hstr:∀ k,Octets k→∃ x,k=nB x:=fun k hk=>⟨_,(nB_str hk).symm⟩
 have hv1:∀ x i,placeF l (nB x)=some i→∀ z,D1.atKey (.string x) z=.lit (.int .i64 (i:Int)):=fun x i hi z=>by
  have h:=h1 (nB x) (nB_oct x)
  rw [kL_nB,hi] at h
  rw [← atKey_indep h.1 (.lit (.int .i64 0)) z]
  exact h.2
 have hv2:∀ x i,placeF m (nB x)=some i→∀ z,D2.atKey (.string x) z=.lit (.int .i64 (i:Int)):=fun x i hi z=>by
  have h:=h2 (nB x) (nB_oct x)
  rw [kL_nB,hi] at h
  rw [← atKey_indep h.1 (.lit (.int .i64 0)) z]
  exact h.2
 rw [Bool.eq_iff_iff,sameF_iff]
 unfold Lib.equalFuncD
 rw [Bool.and_eq_true,decide_eq_true_eq,List.all_eq_true]
 constructor
 ·rintro ⟨hsz,hall⟩
  have hg:∀ x,x ∈ strKeys D1→has D2 (.string x)=true∧∀ i j,placeF l (nB x)=some i→placeF m (nB x)=some j→sayR (l.getD i Rec.none)=sayR (m.getD j Rec.none):=fun x hx=>by
   rw [hD] at hx
   obtain ⟨p,hp,rfl⟩:=List.mem_map.1 hx
   obtain ⟨v,hv⟩:=hko p hp
   obtain ⟨y,_,hy,_⟩:=Maps.keyOf_str Try.underlying9 hv
   have hgood:=hall p (by rw [hD];exact hp)
   have he:strOf p.1=y:=by rw [hy];rfl
   unfold Lib.goodD at hgood
   rw [Bool.and_eq_true,hy] at hgood
   rw [he]
   refine ⟨hgood.1,fun i j hi hj=>?_⟩
   have hpv:p.2=.lit (.int .i64 (i:Int)):=by
    rw [← hv1 y i hi .nil,hD]
    exact (WideAt.atKey_mem .nil (by rw [← hy];exact hkl p hp) hap (by rw [← hy];exact hp)).symm
   have h3:=hgood.2
   rw [hpv,hv2 y j hj] at h3
   have h4:=of_decide_eq_true (show decide (sayR (l.getD ((i:Int)).toNat Rec.none)=sayR (m.getD ((j:Int)).toNat Rec.none))=true from h3)
   simpa using h4
  have hback:=nodup_back n1 (fun x hx=>(m2 x).2 (hg x hx).1) (by omega)
  refine ⟨fun k=>?_,fun k i j hi hj=>?_⟩
  ·rw [Bool.eq_iff_iff]
   constructor
   ·intro hk
    obtain ⟨x,rfl⟩:=hstr k (hoct k (.inl hk))
    have hx:x ∈ strKeys D1:=(m1 x).2 (by rw [← kL_nB,(h1 _ (nB_oct x)).1];exact hk)
    have:=(hg x hx).1
    rw [← kL_nB,(h2 _ (nB_oct x)).1] at this
    exact this
   ·intro hk
    obtain ⟨x,rfl⟩:=hstr k (hoct k (.inr hk))
    have hx:x ∈ strKeys D2:=(m2 x).2 (by rw [← kL_nB,(h2 _ (nB_oct x)).1];exact hk)
    have:=(m1 x).1 (hback x hx)
    rw [← kL_nB,(h1 _ (nB_oct x)).1] at this
    exact this
  ·obtain ⟨x,rfl⟩:=hstr k (hoct k (.inl (by rw [hi];rfl)))
   have hx:x ∈ strKeys D1:=(m1 x).2 (by rw [← kL_nB,(h1 _ (nB_oct x)).1,hi];rfl)
   exact (hg x hx).2 i j hi hj
 ·rintro ⟨hsome,hsay⟩
  have hsub:∀ x,x ∈ strKeys D1 ↔ x ∈ strKeys D2:=fun x=>by
   rw [m1,m2,← kL_nB,(h1 _ (nB_oct x)).1,(h2 _ (nB_oct x)).1,hsome]
  refine ⟨?_,fun p hp=>?_⟩
  ·have a1:=nodup_le n1 (fun x hx=>(hsub x).1 hx)
   have a2:=nodup_le n2 (fun x hx=>(hsub x).2 hx)
   omega
  ·rw [hD] at hp
   obtain ⟨v,hv⟩:=hko p hp
   obtain ⟨y,_,hy,_⟩:=Maps.keyOf_str Try.underlying9 hv
   have hy1:y ∈ strKeys D1:=by rw [hD];exact List.mem_map.2 ⟨p,hp,by rw [hy];rfl⟩
   have hh1:=(m1 y).1 hy1
   have hh2:=(m2 y).1 ((hsub y).1 hy1)
   have hp1:=hh1
   have hp2:=hh2
   rw [← kL_nB,(h1 _ (nB_oct y)).1] at hp1
   rw [← kL_nB,(h2 _ (nB_oct y)).1] at hp2
   obtain ⟨i,hi⟩:=Option.isSome_iff_exists.1 hp1
   obtain ⟨j,hj⟩:=Option.isSome_iff_exists.1 hp2
   have hpv:p.2=.lit (.int .i64 (i:Int)):=by
    rw [← hv1 y i hi .nil,hD]
    exact (WideAt.atKey_mem .nil (by rw [← hy];exact hkl p hp) hap (by rw [← hy];exact hp)).symm
   unfold Lib.goodD
   rw [hy,hh2,Bool.true_and,hpv,hv2 y j hj]
   show decide (sayR (l.getD ((i:Int)).toNat Rec.none)=sayR (m.getD ((j:Int)).toNat Rec.none))=true
   refine decide_eq_true ?_
   simpa using hsay _ i j hi hj
end
end Go.Proofs.Ytbmhdfjaakkoaaa

/-
  DeNum3; RecsApp; DeOwnRecs; DeOwnViews; DeOwnDec; SgEra.
-/
import Derived.Deep.RegionHeld3
import Derived.Deep.Cut
import Derived.Lib.Hide
import Derived.Test.YtehkjkcnigknkaaGreatV03
import Derived.Test.YtehkjkcnigknkaaGreatV11
import Derived.Test.YtehkjkcnigknkaaGreatV14
import Derived.Test.YtehkjkcnigknkaaGreatV16
import Derived.Test.YtehkjkcnigknkaaGreatV18
import Derived.Test.YtehkjkcnigknkaaGreatV20
import Derived.Test.YtehkjkcnigknkaaGreatV21
import Derived.Test.YtehkjkcnigknkaaGreatV26
import Derived.Test.YtehkjkcnigknkaaGreatV34
import Derived.Test.YtehkjkcnigknkaaGreatV35
import Derived.Test.YtehkjkcnigknkaaGreatV41
namespace Go.Proofs.YtehkjkcnigknkaaGreat
open Lib (hid)
section
open Go.RowKit
theorem chunksGo_octets:∀ (ys cur:List Int),Octets cur→Octets ys→∀ c ∈ chunksGo cur ys,Octets c
 | [],_,_,_,c,hc=>by simp [chunksGo] at hc
 | b :: ys,cur,h1,h2,c,hc=>by
  have h3:Octets ys:=fun x hx=>h2 x (List.mem_cons_of_mem _ hx)
  rw [chunksGo] at hc
  split at hc
  ·rcases List.mem_cons.1 hc with rfl|hc
   ·exact h1
   ·exact chunksGo_octets ys [] (fun x hx=>by simp at hx) h3 c hc
  ·exact chunksGo_octets ys _ (h1.app (fun x hx=>by obtain rfl:x=b:=(by simpa using hx);exact h2 x List.mem_cons_self)) h3 c hc
theorem recsTake_fine:∀ (cs:List (List Int)),(∀ c ∈ cs,Octets c)→∀ r ∈ recsTake cs,r.Fine∧checkR r=0
 | [],_,r,hr=>by simp [recsTake] at hr
 | c :: cs,h,r,hr=>by
  rw [recsTake] at hr
  split at hr
  ·rename_i hg
   rcases List.mem_cons.1 hr with rfl|hr
   ·obtain ⟨g1,g2,_⟩:=getR_only (h c List.mem_cons_self) (r:=(getR c).2) (by rw [← hg])
    exact ⟨g1,g2⟩
   ·exact recsTake_fine cs (fun c hc=>h c (List.mem_cons_of_mem _ hc)) r hr
  ·simp at hr
theorem parse_fine {e s n:Nat} {ys:List Int} (ho:Octets ys) {l:List Rec} {b:Bool} (h:parseS e s n ys=some (l,b)) :
  (∀ r ∈ l,(r.Fine∧checkR r=0)∧r.key.length+r.val.length≤ys.length)∧l.length*10≤ys.length:=by
 have hl:l=scanS ys:=by
  unfold parseS at h
  split at h
  ·exact ((Prod.mk.inj (Option.some.inj h)).1).symm
  ·split at h
   ·exact ((Prod.mk.inj (Option.some.inj h)).1).symm
   ·simp at h
 have hf:∀ r ∈ l,r.Fine∧checkR r=0:=by
  rw [hl]
  exact recsTake_fine _ fun c hc=>chunksGo_octets ys [] (fun x hx=>by simp at hx) ho c (List.mem_of_mem_drop hc)
 have h1:=recsB_dear l hf
 have h2:(recsB l).length≤ys.length:=by
  rw [← (parse_only h).1]
  unfold textS framesS outS
  simp only [List.length_append]
  omega
 refine ⟨fun r hr=>⟨hf r hr,?_⟩,by omega⟩
 have:=(recB_big (hf r hr).1 (hf r hr).2).1
 have:=recsB_mem hr
 omega
theorem piece_octets {e i:Nat} {ys:List Int} (ho:Octets ys):Octets (pieceS e i ys):=fun b hb=>ho b (List.mem_of_mem_drop (List.mem_of_mem_take hb))
theorem piece_few {e i:Nat} {ys:List Int}:(pieceS e i ys).length≤2 ^ e∧(pieceS e i ys).length≤ys.length:=by
 unfold pieceS
 rw [List.length_take,List.length_drop]
 omega
def recsV (l:List (List Rec × Bool)):List Rec:=(l.map Prod.fst).flatten
theorem recsV_snoc (l:List (List Rec × Bool)) (x:List Rec × Bool):recsV (l ++ [x])=recsV l ++ x.1:=by simp [recsV]
theorem viewsTo_fine {e s:Nat} {ys:List Int} (ho:Octets ys):∀ (k:Nat) (l:List (List Rec × Bool)),viewsTo e s ys k=some l →
  l.length=k∧(∀ r ∈ recsV l,(r.Fine∧checkR r=0)∧r.key.length+r.val.length≤ys.length)∧(recsV l).length*10≤k*2 ^ e
 | 0,l,h=>by
  obtain rfl:=Option.some.inj h
  exact ⟨rfl,fun r hr=>by simp [recsV] at hr,by simp [recsV]⟩
 | k+1,l,h=>by
  rw [viewsTo] at h
  obtain ⟨l0,h0,h⟩:=Option.bind_eq_some_iff.1 h
  obtain ⟨⟨lx,bx⟩,hx,rfl⟩:=Option.map_eq_some_iff.1 h
  obtain ⟨i1,i2,i3⟩:=viewsTo_fine ho k l0 h0
  obtain ⟨p1,p2⟩:=parse_fine (piece_octets ho) hx
  obtain ⟨q1,q2⟩:=piece_few (e:=e) (i:=k) (ys:=ys)
  rw [recsV_snoc]
  refine ⟨by rw [List.length_append,i1];rfl,fun r hr=>?_,?_⟩
  ·rcases List.mem_append.1 hr with hr|hr
   ·exact i2 r hr
   ·exact ⟨(p1 r hr).1,Nat.le_trans (p1 r hr).2 q2⟩
  ·rw [List.length_append,Nat.succ_mul]
   show (_+lx.length)*10≤_
   omega
theorem segs_texts {e s m:Nat} {ps:List (List Rec)}:∀ k,k≤ps.length→segsGo e s m 0 (ps.take k)=textsTo e s (fun i=>ps.getD i []) (fun i=>decide (i+1<m)) k
 | 0,_=>by simp [segsGo,textsTo]
 | k+1,h=>by
  rw [segsGo_take (by omega),segs_texts k (by omega),textsTo]
theorem range_getD {α:Type} (d:α) (l:List α):(List.range l.length).map (fun i=>l.getD i d)=l:=by
 refine List.ext_getElem (by simp) fun i h1 h2=>?_
 simp [List.getElem?_eq_getElem h2]
theorem views_enc {e s:Nat} (he:e<256) {l:List Rec} (h9:l.length≤10000) (hf:∀ r ∈ l,r.Fine) {ys:List Int} (h:encI e s l=(0,ys)) :
  ∃ vs,viewsI e s ys=(0,vs)∧recsV vs=l:=by
 have hp:=enc_ok.1 (show (encI e s l).1=0 by rw [h])
 have hc:=plan_checks hp
 obtain ⟨hm,hps⟩:=plan_parts h9 hp
 have hfew:=parts_few h9 hp
 obtain ⟨ha,hfull⟩:=parts_all hp
 have hys:ys=segsGo e s (partsGo [] l (planI e s l).2).length 0 (partsGo [] l (planI e s l).2):=by
  unfold encI at h
  rw [if_neg (by rw [hp];simp)] at h
  exact ((Prod.mk.inj h).2).symm
 obtain ⟨ps,hpsd⟩:∃ ps,ps=partsGo [] l (planI e s l).2:=⟨_,rfl⟩
 rw [← hpsd] at hps hfew ha hfull hys
 have ht:=segs_texts (e:=e) (s:=s) (m:=ps.length) (ps:=ps) ps.length (Nat.le_refl _)
 rw [List.take_length] at ht
 rw [ht] at hys
 rw [hys,viewsI_texts (f:=fun i=>ps.getD i []) (b:=fun i=>decide (i+1<ps.length)) he hm hfew (fun i hi=>?_) (fun i hi x hx=>?_) (fun i hi _=>?_)]
 ·refine ⟨_,rfl,?_⟩
  unfold recsV
  rw [List.map_map,show (Prod.fst ∘ fun i=>(ps.getD i [],decide (i+1<ps.length)))=fun i=>ps.getD i [] from rfl,range_getD,ha]
 ·exact ((hps i _ (List.getElem?_eq_getElem hi)).length _).1 |> fun h=>by simpa [hi] using h
 ·have hxl:=part_mem ha hi x hx
  exact ⟨hf x hxl,hc x hxl⟩
 ·have:=(hps i _ (List.getElem?_eq_getElem hi)).full
  simpa [hi] using this
theorem count_of {e s n:Nat} (h:(countC e s n).2=0):(countC e s n).1*2 ^ e=n:=by
 unfold countC at h ⊢
 by_cases hm:mayC e s=true
 ·rw [if_pos hm] at h ⊢
  split at h
  ·exact absurd h (by decide)
  ·rename_i h1
   rw [if_neg h1]
   split at h
   ·rename_i h2
    rw [if_pos h2]
    exact Nat.div_mul_cancel (Nat.dvd_of_mod_eq_zero h2)
   ·exact absurd h (by decide)
 ·rw [if_neg hm] at h
  exact absurd h (by decide)
theorem viewsI_one {e s:Nat} {ys:List Int} (h:(viewsI e s ys).1=0):(countC e s ys.length).2=0∧viewsTo e s ys (countC e s ys.length).1=some (viewsI e s ys).2:=by
 unfold viewsI at h ⊢
 by_cases hc:(countC e s ys.length).2 ≠ 0
 ·rw [if_pos hc] at h
  exact absurd h hc
 ·rw [if_neg hc] at h ⊢
  refine ⟨by simpa using hc,?_⟩
  cases hv:viewsTo e s ys (countC e s ys.length).1 with
  | none=>rw [hv] at h;exact absurd h (by decide)
  | some l=>rfl
theorem viewsI_fine {e s:Nat} {ys:List Int} (ho:Octets ys) (h:(viewsI e s ys).1=0) :
  (∀ r ∈ recsV (viewsI e s ys).2,(r.Fine∧checkR r=0)∧r.key.length+r.val.length≤ys.length)∧(recsV (viewsI e s ys).2).length*10≤ys.length:=by
 obtain ⟨h1,h2⟩:=viewsI_one h
 obtain ⟨_,h3,h4⟩:=viewsTo_fine ho _ _ h2
 rw [count_of h1] at h4
 exact ⟨h3,h4⟩
theorem dec_bad {e s:Nat} (he:e<256) {ys:List Int} (ho:Octets ys) (hl:ys.length≤100000) (h:(viewsI e s ys).1 ≠ 0):decI e s ys=((viewsI e s ys).1,[]):=by
 by_cases hc:(countC e s ys.length).2 ≠ 0
 ·unfold decI viewsI
  rw [if_pos hc,if_pos hc]
 ·obtain ⟨g1,g2⟩:=guess_fine ho
  have h4:(viewsI e s ys).1=4:=by
   unfold viewsI at h ⊢
   rw [if_neg hc] at h ⊢
   cases hv:viewsTo e s ys (countC e s ys.length).1 with
   | none=>rfl
   | some l=>rw [hv] at h;exact absurd rfl h
  unfold decI
  rw [if_neg hc,h4]
  by_cases hg:encI e s (guessI ys)=(0,ys)
  ·obtain ⟨vs,hv,_⟩:=views_enc he (by omega) (fun r hr=>(g1 r hr).1) hg
   exact absurd (by rw [hv]) h
  ·rw [if_neg hg]
theorem dec_good {e s:Nat} (he:e<256) (hs:s<4294967296) {ys:List Int} (ho:Octets ys) (hl:ys.length≤100000) (h:(viewsI e s ys).1=0) :
  decI e s ys=if encI e s (recsV (viewsI e s ys).2)=(0,ys) then (0,recsV (viewsI e s ys).2) else (4,[]):=by
 obtain ⟨f1,f2⟩:=viewsI_fine ho h
 obtain ⟨g1,g2⟩:=guess_fine ho
 obtain ⟨L,hL⟩:∃ L,L=recsV (viewsI e s ys).2:=⟨_,rfl⟩
 rw [← hL] at f1 f2 ⊢
 by_cases hE:encI e s L=(0,ys)
 ·rw [if_pos hE]
  have:=dec_enc (e:=e) (s:=s) he hs (l:=L) (by omega) (fun r hr=>(f1 r hr).1.1) (by rw [hE])
  rwa [hE] at this
 ·rw [if_neg hE]
  have hc:¬ (countC e s ys.length).2 ≠ 0:=by rw [(viewsI_one h).1];simp
  unfold decI
  rw [if_neg hc]
  by_cases hg:encI e s (guessI ys)=(0,ys)
  ·obtain ⟨vs,hv,hr⟩:=views_enc he (by omega) (fun r hr=>(g1 r hr).1) hg
   rw [hv] at hL
   exact absurd (by rw [hL];simp only;rw [hr];exact hg) hE
  ·rw [if_neg hg]
end
section
open Go.RowKit
theorem RecsAt.flat {w:World} {ad:Addr} {l:List Rec} (h:RecsAt w (some ad) l) {j:Nat} {u:Value} (hj:(rcFlat l)[j]?=some u):w.cell? (ad.add j)=some u:=by
 have hlt:j<l.length*4:=by
  have:=(List.getElem?_eq_some_iff.1 hj).1
  rwa [rcFlat_len] at this
 have e1:j=(j / 4)*4+j % 4:=by omega
 have h4:j % 4<4:=Nat.mod_lt _ (by decide)
 have hi:j / 4<l.length:=by omega
 rw [e1,rcFlat_at l (j / 4) (j % 4) hi h4] at hj
 obtain ⟨a,ha,c0,c1,c2,c3⟩:=h (j / 4) hi
 obtain rfl:=Option.some.inj ha
 have e2:ad.add j=(ad.add (j / 4*4)).add (j % 4):=by
  conv=>lhs;rw [e1]
  rw [← Addr.add_add]
 rw [e2]
 have hk:j % 4=0 ∨ j % 4=1 ∨ j % 4=2 ∨ j % 4=3:=by omega
 rcases hk with hk|hk|hk|hk <;> rw [hk] at hj ⊢ <;> simp only [rcFour,List.getElem?_cons_zero,List.getElem?_cons_succ,Option.some.injEq] at hj <;> rw [← hj]
 ·rw [show ∀ a:Addr,a.add 0=a from fun a=>rfl]
  exact c0
 ·exact c1
 ·exact c2
 ·exact c3
theorem wpList_append_recs {w w0:World} {ops:Array Oper} {rest:List Oper} {o:Oper} {a:Act} {Q:Exit→Act→World→Prop} (hgd:o.guard=none) (s x:Operand)
  (ho:o.op=.call { callee:=.builtin .append,args:=#[s,x],argTypes:=#[22,22] })
  (v:Value) (l:List Rec) (hs:a.eval s=v) (hown:RecsSoFar w0 l v w) (p:Option Addr) (m c:Nat) (l2:List Rec) (hx:a.eval x=.slice p m c) (hp0:p=none→m=0∧c=0) (hm:m=l2.length) (hat:RecsAt w p l2)
  (hroom:l.length+m≤1000000000)
  (h:∀ v' w',RecsSoFar w0 (l ++ l2) v' w'→Below w0.heap.size w w'→wpList Tryz.prog ops Q rest (a.put o.dst v') w'):wpList Tryz.prog ops Q (o :: rest) a w:=by
 obtain ⟨i0,hi,hz0,hz1,hz2⟩:=info_parts infoRc
 refine wpList_append_any hgd s x 22 ho w0.heap.size 48 i0 (.agg #[.bool false,.int .u64 0,.string ⟨#[]⟩,.string ⟨#[]⟩]) 4 48 Tryz.underlying22 hi hz0 hz1 hz2 rfl (by decide) v l.length (rcFlat l) hs hown.1 p m c (rcFlat l2) hx hp0 (by rw [rcFlat_len,hm]) ?_ ?_ (by unfold maxLen;omega) (by omega) hown.2.size ?_
 ·intro ad had j u hj
  subst had
  exact RecsAt.flat hat hj
 ·intro u hu
  obtain ⟨r,_,hr⟩:=List.mem_flatMap.1 hu
  simp only [rcFour,List.mem_cons,List.not_mem_nil,or_false] at hr
  rcases hr with rfl|rfl|rfl|rfl <;> rfl
 ·intro v' w' h2 h3
  refine h v' w' ⟨?_,hown.2.trans h3⟩ h3
  rw [rcFlat_append,List.length_append,← hm]
  exact h2
end
section
open Go.RowKit
def ViewsIn (w:World) (q:Option Addr) (l:List (List Rec × Bool)):Prop:=∀ i (hi:i<l.length),∃ (a:Addr) (p:Option Addr) (n c:Nat) (p2:Option Addr) (n2 c2:Nat) (z2:Int),q=some a ∧
 w.cell? (a.add (i*4))=some (.slice p n c)∧w.cell? ⟨(a.add (i*4)).block,(a.add (i*4)).off+1,none⟩=some (.slice p2 n2 c2)∧w.cell? ⟨(a.add (i*4)).block,(a.add (i*4)).off+2,none⟩=some (.int .u32 z2) ∧
 w.cell? ⟨(a.add (i*4)).block,(a.add (i*4)).off+3,none⟩=some (.bool l[i].2)∧n=l[i].1.length∧(p=none→n=0∧c=0)∧RecsAt w p l[i].1
theorem ViewsIn.at_ {w:World} {q:Option Addr} {l:List (List Rec × Bool)} (h:ViewsIn w q l):ViewsAt w q l:=fun i hi=>by
 obtain ⟨a,p,n,c,p2,n2,c2,z2,h1,h2,h3,h4,h5,h6,_,h7⟩:=h i hi
 exact ⟨a,p,n,c,_,_,h1,h2,h3,h4,h5,h6,h7⟩
theorem ViewsIn.keep {w w':World} {q:Option Addr} {l:List (List Rec × Bool)} (h:ViewsIn w q l) {S:Nat→Prop} (hk:Keeps S w w') (hs:∀ k,k<w.heap.size→¬ S k):ViewsIn w' q l:=fun i hi=>by
 obtain ⟨a,p,n,c,p2,n2,k2,z2,rfl,c0,c1,c2,c3,hn,h0,hr⟩:=h i hi
 exact ⟨a,p,n,c,p2,n2,k2,z2,rfl,hk.cell c0 (hs _ (ltOfCell c0)),hk.cell c1 (hs _ (ltOfCell c1)),hk.cell c2 (hs _ (ltOfCell c2)),hk.cell c3 (hs _ (ltOfCell c3)),hn,h0,hr.keep hk hs⟩
theorem recsV_take {l:List (List Rec × Bool)} {j:Nat} (hj:j<l.length):recsV (l.take (j+1))=recsV (l.take j) ++ l[j].1:=by
 rw [List.take_succ_eq_append_getElem hj,recsV_snoc]
theorem recsV_le {l:List (List Rec × Bool)} {j:Nat} (hj:j<l.length):(recsV (l.take j)).length+l[j].1.length≤(recsV l).length:=by
 have h1:recsV l=recsV (l.take (j+1)) ++ recsV (l.drop (j+1)):=by
  conv=>lhs;rw [← List.take_append_drop (j+1) l]
  unfold recsV
  rw [List.map_append,List.flatten_append]
 have h2:=congrArg List.length h1
 rw [recsV_take hj,List.length_append,List.length_append] at h2
 omega
set_option maxHeartbeats 4000000 in
set_option maxRecDepth 10000 in
theorem derecords_own (q:Option Addr) (m d:Nat) (vs:List (List Rec × Bool)) (w:World) (hm:m=vs.length) (hm9:m≤1000000) (hr9:(recsV vs).length≤1000000) (hv:ViewsIn w q vs) :
  Calls Tryz.prog 21 #[.slice q m d] w fun r w'=>∃ v,r=.returned v∧NewRecs w (recsV vs) v w':=by
 have HV:=hid hv
 have HN:=hid hm
 have HR9:=hid hr9
 clear hv hm hr9
 go_enter Tryz.func21,Tryz.ntmps21
 go_wp2_with fail
 go_loopw [3,8] (fun v i wr=>∃ j:Nat,j≤m∧i=.int .i64 (j:Int)∧Hid (RecsSoFar w (recsV (vs.take j)) v wr)) (fun _ i _=>m - (intOf i).toNat)
 case atStart=>exact ⟨0,Nat.zero_le _,rfl,hid (RecsSoFar.start w)⟩
 case round =>
  obtain ⟨j,hj,rfl,HR⟩:=hrel
  by_cases hlt:j<m
  ·have hdj:decide ((j:Int)<(m:Int))=true:=decide_eq_true (by omega)
   have hdj2:decide (j<m)=true:=decide_eq_true hlt
   have hjl:j<vs.length:=by rw [← HN.out];exact hlt
   obtain ⟨a,p,n,c,p2,n2,k2,z2,rfl,c0,c1,c2,c3,hn,h0,hr⟩:=(HV.out.keep HR.out.keeps (fun _ _ h=>h)) j hjl
   have HRs:=hid hr
   have HNn:=hid hn
   have HH0:=hid h0
   have HTk:=hid (recsV_take hjl)
   have HLe:=hid (recsV_le hjl)
   obtain ⟨z,hz⟩:∃ z,z=vs[j].2:=⟨_,rfl⟩
   obtain ⟨L,hL⟩:∃ L,L=vs[j].1:=⟨_,rfl⟩
   rw [← hz] at c3
   rw [← hL] at HRs HNn HTk HLe
   have HR2:=hid (HR.out.alloc (.cells #[.slice p n c,.slice p2 n2 k2,.int .u32 z2,.bool z] 55))
   have hk2:=(Keeps.refl NoBlock wr).alloc (.cells #[.slice p n c,.slice p2 n2 k2,.int .u32 z2,.bool z] 55)
   have HRs2:=hid (HRs.out.keep hk2 (fun _ _ h=>h))
   clear hk2 hz hL hn h0 hr hjl
   go_wp2_with (at_builtin;refine wpList_append_recs (w0:=w) rfl _ _ rfl _ (recsV (vs.take j)) rfl HR2.out p n c L rfl HH0.out HNn.out HRs2.out (by have:=HLe.out;have:=HR9.out;have:=HNn.out;omega) ?_)
   intro v' w6 h6 hg6
   have HR6:=hid (show RecsSoFar w (recsV (vs.take (j+1))) v' w6 by rw [HTk.out];exact h6)
   clear h6 hg6
   go_wp2_with fail
   exact ⟨⟨j+1,by omega,by go_num,HR6⟩,by simp [intOf];omega⟩
  ·have hdj:decide ((j:Int)<(m:Int))=false:=decide_eq_false (by omega)
   have hdj2:decide (j<m)=false:=decide_eq_false hlt
   obtain rfl:j=m:=by omega
   have HE:=hid (show NewRecs w (recsV vs) _ wr by
    have:=HR.out.new
    rwa [List.take_of_length_le (by rw [← HN.out];exact Nat.le_refl _)] at this)
   go_wp2_with fail
   refine bodyPost_ret (results_tmp rfl _ _ _) rfl ?_
   exact ⟨_,rfl,HE.out⟩
end
section
open Go.RowKit
theorem infoView:(Tryz.prog.info? 55).map (fun i=>(i.zero,i.size,i.bytes))=some (some (.agg #[.slice none 0 0,.slice none 0 0,.int .u32 0,.bool false]),4,56):=by kernel_rfl
theorem RecsAt.keepAt {w w':World} {a:Addr} {l:List Rec} (h:RecsAt w (some a) l) {S:Nat→Prop} (hk:Keeps S w w') (hs:¬ S a.block):RecsAt w' (some a) l:=fun i hi=>by
 obtain ⟨b,hb,c0,c1,c2,c3⟩:=h i hi
 obtain rfl:=Option.some.inj hb
 have e:¬ S (a.add (i*4)).block:=by rw [addBlock];exact hs
 exact ⟨a,rfl,hk.cell c0 e,hk.cell c1 e,hk.cell c2 e,hk.cell c3 e⟩
theorem In8.cut {w:World} {A:Addr} {N c:Nat} {ys:List Int} (h:In8 w (some A) N c ys) (a z:Nat) (hz:a+z≤N):In8 w (some (A.add a)) z (c - a) ((ys.drop a).take z) where
 len:=by rw [List.length_take,List.length_drop,← h.len];omega
 cap:=by have:=h.cap;omega
 room:=by have:=h.room;omega
 bare:=fun h=>by simp at h
 oct:=fun b hb=>h.oct b (List.mem_of_mem_drop (List.mem_of_mem_take hb))
 at_:=h.at_.piece a z (by rw [← h.len];exact hz) (fun _=>rfl)
theorem In8.drewD {w:World} {p:Option Addr} {N c:Nat} {ys:List Int} (h:In8 w p N c ys):In8 w.drew p N c ys:=⟨h.len,h.cap,h.room,h.bare,h.oct,h.at_⟩
def VwF (F:Nat→Value) (g:Nat) (w:World) (vs:List (List Rec × Bool)):Prop:=∀ i (hi:i<vs.length),∃ (p:Option Addr) (n c:Nat) (p2:Option Addr) (n2 c2:Nat) (z2:Int),
 F (i*4)=.slice p n c∧F (i*4+1)=.slice p2 n2 c2∧F (i*4+2)=.int .u32 z2∧F (i*4+3)=.bool vs[i].2∧n=vs[i].1.length∧(p=none→n=0∧c=0)∧(∀ a,p=some a→a.block ≠ g∧RecsAt w p vs[i].1)
theorem VwF.nil (F:Nat→Value) (g:Nat) (w:World):VwF F g w []:=fun i hi=>by simp at hi
theorem VwF.keep {F:Nat→Value} {g:Nat} {w w':World} {vs:List (List Rec × Bool)} (h:VwF F g w vs) (hk:Keeps (Just g) w w'):VwF F g w' vs:=fun i hi=>by
 obtain ⟨p,n,c,p2,n2,c2,z2,h1,g1,g2,h2,h3,h4,h5⟩:=h i hi
 refine ⟨p,n,c,p2,n2,c2,z2,h1,g1,g2,h2,h3,h4,fun a ha=>⟨(h5 a ha).1,?_⟩⟩
 subst ha
 exact (h5 a rfl).2.keepAt hk (h5 a rfl).1
def putF (F:Nat→Value) (j:Nat) (v0 v1 v2 v3:Value):Nat→Value:=fun i=>if i=j*4+3 then v3 else if i=j*4+2 then v2 else if i=j*4+1 then v1 else if i=j*4 then v0 else F i
theorem putF_is (F:Nat→Value) (j:Nat) (v0 v1 v2 v3:Value):putF F j v0 v1 v2 v3 (j*4)=v0∧putF F j v0 v1 v2 v3 (j*4+1)=v1∧putF F j v0 v1 v2 v3 (j*4+2)=v2∧putF F j v0 v1 v2 v3 (j*4+3)=v3∧∀ i,i<j*4→putF F j v0 v1 v2 v3 i=F i:=by
 unfold putF
 refine ⟨?_,?_,?_,?_,fun i hi=>?_⟩
 ·rw [if_neg (by omega),if_neg (by omega),if_neg (by omega),if_pos rfl]
 ·rw [if_neg (by omega),if_neg (by omega),if_pos rfl]
 ·rw [if_neg (by omega),if_pos rfl]
 ·rw [if_pos rfl]
 ·rw [if_neg (by omega),if_neg (by omega),if_neg (by omega),if_neg (by omega)]
def putV4 (w:World) (g j:Nat) (v0 v1 v2 v3:Value):World:=(((w.setCell ⟨g,j*4,none⟩ v0).setCell ⟨g,j*4+1,none⟩ v1).setCell ⟨g,j*4+2,none⟩ v2).setCell ⟨g,j*4+3,none⟩ v3
theorem putV4_keeps {S:Nat→Prop} {g:Nat} (hg:S g) (w:World) (j:Nat) (v0 v1 v2 v3:Value):Keeps S w (putV4 w g j v0 v1 v2 v3):=((((Keeps.refl S w).setIn hg _ _).setIn hg _ _).setIn hg _ _).setIn hg _ _
theorem RowV.putV4 {t:TypeId} {w:World} {g d:Nat} {F:Nat→Value} (h:RowV t w g d F) {j:Nat} (hj:j*4+3<d) (v0 v1 v2 v3:Value):RowV t (putV4 w g j v0 v1 v2 v3) g d (putF F j v0 v1 v2 v3) :=
 ((((h.put (show j*4<d by omega) v0).put (show j*4+1<d by omega) v1).put (show j*4+2<d by omega) v2).put hj v3).congr fun _ _=>rfl
theorem four_lt {j k:Nat} (h:j<k):j*4<k*4∧j*4+1<k*4∧j*4+2<k*4∧j*4+3<k*4:=by omega
theorem VwF.snoc {F F':Nat→Value} {g:Nat} {w:World} {vs:List (List Rec × Bool)} (h:VwF F g w vs) (hF:∀ k,k<vs.length*4→F' k=F k) {l:List Rec} {b:Bool} {q:Option Addr} {m d:Nat} {q2:Option Addr} {m2 d2:Nat} {z2:Int}
  (h0:F' (vs.length*4)=.slice q m d) (h1:F' (vs.length*4+1)=.slice q2 m2 d2) (h2:F' (vs.length*4+2)=.int .u32 z2) (h3:F' (vs.length*4+3)=.bool b) (hm:m=l.length) (hq:q=none→m=0∧d=0) (hr:RecsAt w q l) (hg:∀ a,q=some a→a.block ≠ g):VwF F' g w (vs ++ [(l,b)]):=fun i hi=>by
 by_cases hlt:i<vs.length
 ·obtain ⟨p,n,c,p2,n2,c2,y2,i1,g1,g2,i2,i3⟩:=h i hlt
  rw [List.getElem_append_left hlt]
  exact ⟨p,n,c,p2,n2,c2,y2,by rw [hF _ (by omega)];exact i1,by rw [hF _ (by omega)];exact g1,by rw [hF _ (by omega)];exact g2,by rw [hF _ (by omega)];exact i2,i3⟩
 ·obtain rfl:i=vs.length:=by rw [List.length_append] at hi;simp at hi;omega
  rw [List.getElem_append_right (Nat.le_refl _)]
  simp only [Nat.sub_self,List.getElem_cons_zero]
  exact ⟨q,m,d,q2,m2,d2,z2,h0,h1,h2,h3,hm,hq,fun a ha=>⟨hg a ha,hr⟩⟩
theorem VwF.all {F:Nat→Value} {g n:Nat} {t:TypeId} {w:World} {vs:List (List Rec × Bool)} (h:VwF F g w vs) (hR:RowV t w g (n*4) F) (hn:vs.length=n):ViewsIn w (some ⟨g,0,none⟩) vs:=fun i hi=>by
 obtain ⟨p,m,c,p2,n2,k2,y2,h1,g1,g2,h2,h3,h4,h5⟩:=h i hi
 have c0:=hR.cell (show i*4<n*4 by omega)
 have c1:=hR.cell (show i*4+1<n*4 by omega)
 have c2:=hR.cell (show i*4+2<n*4 by omega)
 have c3:=hR.cell (show i*4+3<n*4 by omega)
 rw [h1] at c0
 rw [g1] at c1
 rw [g2] at c2
 rw [h2] at c3
 refine ⟨_,p,m,c,p2,n2,k2,y2,rfl,?_,?_,?_,?_,h3,h4,?_⟩
 ·rw [addZero];exact c0
 ·rw [addZero];exact c1
 ·rw [addZero];exact c2
 ·rw [addZero];exact c3
 ·cases p with
  | none =>
   have:=(h4 rfl).1
   have h0:vs[i].1=[]:=List.length_eq_zero_iff.1 (by omega)
   rw [h0]
   exact RecsAt.nil _ _
  | some a=>exact (h5 a rfl).2
theorem small_wrap {k:Nat} (h:k≤100000):IntKind.i64.wrap (k:Int)=(k:Int)∧wrap64 (k:Int)=(k:Int)∧IntKind.u32.wrap (k:Int)=(k:Int):=by
 refine ⟨?_,?_,?_⟩
 ·rw [IntKind.wrap_i64];omega
 ·unfold wrap64;omega
 ·rw [IntKind.wrap_u32];omega
theorem seg_wraps {j E A:Nat} (hA:A=j*E) (h:A+E≤100000) (hj:j<100):wrap64 ((j:Int)+1)=(j:Int)+1∧IntKind.i64.wrap ((j:Int)+1)=(j:Int)+1 ∧
  IntKind.i64.wrap ((j:Int)*(E:Int))=(A:Int)∧IntKind.i64.wrap (((j:Int)+1)*(E:Int))=((A+E:Nat):Int)∧wrap64 ((j:Int)*(E:Int))=(A:Int)∧wrap64 (((j:Int)+1)*(E:Int))=((A+E:Nat):Int)∧IntKind.u32.wrap (j:Int)=(j:Int):=by
 have m0:(j:Int)+1=((j+1:Nat):Int):=rfl
 have m1:(j:Int)*(E:Int)=(A:Int):=by rw [hA];exact (Int.natCast_mul j E).symm
 have m2:((j+1:Nat):Int)*(E:Int)=((A+E:Nat):Int):=by rw [hA,← Nat.succ_mul];exact (Int.natCast_mul (j+1) E).symm
 rw [m1,m0,m2]
 obtain ⟨a1,a2,_⟩:=small_wrap (k:=j+1) (by omega)
 obtain ⟨b1,b2,_⟩:=small_wrap (k:=A) (by omega)
 obtain ⟨c1,c2,_⟩:=small_wrap h
 exact ⟨a2,a1,b1,c1,b2,c2,(small_wrap (by omega)).2.2⟩
theorem ViewPost.flat {e s n:Nat} {ys:List Int} {w w':World} {r:Ending} (h:ViewPost e s n ys w r w') (hm:mayHead e s n=true) :
  ∃ (q:Option Addr) (m d:Nat) (q2:Option Addr) (m2 d2:Nat) (z2:Int) (b:Bool) (y:Int),r=.returned (.tuple #[.agg #[.slice q m d,.slice q2 m2 d2,.int .u32 z2,.bool b],.int .i64 y])∧Keeps NoBlock w w' ∧
   ((y=4∧parseS e s n ys=none) ∨ (y=0∧∃ l,parseS e s n ys=some (l,b)∧m=l.length∧(q=none→m=0∧d=0)∧RecsAt w' q l∧∀ a,q=some a→w.heap.size≤a.block)):=by
 rcases h with ⟨h1,_⟩|⟨_,h2,rfl,hk⟩|⟨_,l,b,vr,va,h2,rfl,hr,ha,ho⟩
 ·rw [hm] at h1
  exact absurd h1 (by decide)
 ·exact ⟨none,0,0,none,0,0,0,false,4,rfl,hk,.inl ⟨rfl,h2⟩⟩
 ·obtain ⟨q,m,d,rfl,r1,r2,r3,r4,r5,hk⟩:=hr
  obtain ⟨q2,m2,d2,rfl,_⟩:=ha
  exact ⟨q,m,d,q2,m2,d2,_,b,0,rfl,hk,.inr ⟨rfl,l,h2,r1,r4,r5,fun a ha=>ho a.block (.inl (by rw [ha];rfl))⟩⟩
set_option maxHeartbeats 8000000 in
set_option maxRecDepth 10000 in
theorem deviews_own (HPr:SgParseOk) (e s:Nat) (p:Option Addr) (n c:Nat) (ys:List Int) (w:World) (he:e<256) (hs:s<4294967296) (h:In8 w p n c ys) (hn9:n≤100000) :
  Calls Tryz.prog 15 #[confV e s,.slice p n c] w fun r w'=>∃ q m d,r=.returned (.tuple #[.slice q m d,.int .i64 (viewsI e s ys).1])∧m=(viewsI e s ys).2.length∧m≤1000∧ViewsIn w' q (viewsI e s ys).2∧Keeps NoBlock w w':=by
 have HCt:=hid (fun w=>count_conf e s n (by omega) w)
 have HS:=hid (fun w=>size_conf e s w)
 have HC:=hid (Whole.new w 27 (confCells e s))
 have HK:=hid ((Keeps.refl NoBlock w).alloc (.cells (confCells e s) 27))
 obtain ⟨c0,c1⟩:=And.intro (HC.out.cell 0 rfl) (HC.out.cell 1 rfl)
 simp only [confCells,List.getElem_toArray,List.getElem_cons_zero,List.getElem_cons_succ] at c0 c1
 have hlen:=h.len
 have wn:IntKind.u64.wrap ((n:Nat):Int)=((n:Nat):Int):=by rw [IntKind.wrap_u64];omega
 unfold got8 at HCt
 by_cases hc:(countC e s n).2 ≠ 0
 ·have hV:viewsI e s ys=((countC e s n).2,[]):=by unfold viewsI;rw [← hlen,if_pos hc]
  rw [hV]
  obtain ⟨y,hy⟩:∃ y,y=(countC e s n).2:=⟨_,rfl⟩
  obtain ⟨k,hk⟩:∃ k,k=(countC e s n).1:=⟨_,rfl⟩
  rw [← hy] at HCt hc ⊢
  rw [← hk] at HCt
  have hne:(y != 0)=true:=by rw [bne_iff_ne];exact hc
  clear hV hy hk HS h hlen
  unfold confV at HCt ⊢
  unfold confCells at HK HC
  go_enter Tryz.func15,Tryz.ntmps15
  go_wp2_with fail
  refine (HCt.out _).mono ?_
  rintro r w1 ⟨rfl,hk⟩
  have HK1:=hid (HK.out.trans hk)
  clear hk
  go_wp2_with fail
  refine bodyPost_ret (results_tmp2 rfl _ _ _) rfl ?_
  exact ⟨none,0,0,rfl,rfl,by decide,fun i hi=>by simp at hi,HK1.out⟩
 have hc0:(countC e s n).2=0:=by simpa using hc
 have hmay:mayC e s=true:=by
  unfold countC at hc0
  by_cases hm:mayC e s=true
  ·exact hm
  ·rw [if_neg hm] at hc0;exact absurd hc0 (by decide)
 have hbytes:=count_of hc0
 obtain ⟨hm1,hm2,hm3,hm4⟩:=mayC_true.1 hmay
 have h2e:=(two_e hm2).2
 have h2p:4096≤2 ^ e:=by
  have:2 ^ 12≤2 ^ e:=Nat.pow_le_pow_right (by decide) hm1
  omega
 have hks:(countC e s n).1≤s:=by
  have hp:0<2 ^ e:=by omega
  unfold countC at hc0 ⊢
  rw [if_pos hmay] at hc0 ⊢
  split at hc0
  ·exact absurd hc0 (by decide)
  ·rename_i h1
   rw [if_neg h1]
   split at hc0
   ·rename_i h2
    rw [if_pos h2]
    exact Nat.div_le_of_le_mul (by rw [Nat.mul_comm];omega)
   ·exact absurd hc0 (by decide)
 have hV1:∀ l,viewsTo e s ys (countC e s n).1=some l→viewsI e s ys=(0,l):=fun l h=>by unfold viewsI;rw [← hlen,if_neg hc,h]
 have hV2:viewsTo e s ys (countC e s n).1=none→viewsI e s ys=(4,[]):=fun h=>by unfold viewsI;rw [← hlen,if_neg hc,h]
 rw [sizeC_may hmay] at HS
 rw [hc0] at HCt
 have HPa:=hid (fun j (hj:j<s) q d zs W (hi:In8 W q (2 ^ e) d zs) (h9:2 ^ e≤100000)=>(HPr.parse e s j q (2 ^ e) d zs W hi h9 (Nat.le_refl _) he hs (by omega)).mono fun r w' hp=>hp.flat (mayHead_true.2 ⟨hm1,hm2,hm3,hm4,hj⟩))
 obtain ⟨k,hk⟩:∃ k,k=(countC e s n).1:=⟨_,rfl⟩
 rw [← hk] at hbytes hks HCt hV1 hV2
 have HVs:=hid (fun j=>show viewsTo e s ys (j+1)=(viewsTo e s ys j).bind fun l=>(parseS e s j ((ys.drop (j*2 ^ e)).take (2 ^ e))).map fun x=>l ++ [x] from rfl)
 have HVn:=hid (fun j (hj:j<k) (hp:parseS e s j ((ys.drop (j*2 ^ e)).take (2 ^ e))=none)=>views_none (ys:=ys) hp k hj)
 obtain ⟨E,hE⟩:∃ E,E=2 ^ e:=⟨_,rfl⟩
 rw [← hE] at HS HPa HVs HVn hbytes h2e h2p
 have hk9:k≤24:=by
  have:k*4096≤k*E:=Nat.mul_le_mul_left k h2p
  omega
 obtain ⟨V,hV⟩:∃ V,V=viewsI e s ys:=⟨_,rfl⟩
 rw [← hV] at hV1 hV2 ⊢
 have HV1:=hid hV1
 have HV2:=hid hV2
 have HIn:=hid h
 have HB:=hid (And.intro hbytes hks)
 obtain ⟨i0,hi,hz0,hz1,hz2⟩:=info_parts infoView
 clear hc hc0 hmay hm1 hm2 hm3 hm4 hV1 hV2 hV h hk hE hlen he hs hbytes hks
 unfold confV at HCt HS HPa ⊢
 unfold confCells at HK HC
 go_enter Tryz.func15,Tryz.ntmps15
 go_wp2_with fail
 refine (HCt.out _).mono ?_
 rintro r w1 ⟨rfl,hk⟩
 have HK1:=hid (HK.out.trans hk)
 have HC1:=hid (HC.out.keep hk (fun h=>h))
 clear hk c0 c1 HC HK
 obtain ⟨c0,c1⟩:=And.intro (HC1.out.cell 0 rfl) (HC1.out.cell 1 rfl)
 simp only [List.getElem_toArray,List.getElem_cons_zero,List.getElem_cons_succ] at c0 c1
 go_wp2_with fail
 refine (HS.out _).mono ?_
 rintro r w2 ⟨rfl,hk⟩
 have HK2:=hid (HK1.out.trans hk)
 have HC2:=hid (HC1.out.keep hk (fun h=>h))
 clear hk c0 c1 HC1 HK1
 go_wp2_with (at_make;refine wpList_make_full _ rfl _ _ 50 rfl w2.heap.size 55 i0 (.agg #[.slice none 0 0,.slice none 0 0,.int .u32 0,.bool false]) 4 Tryz.underlying50 hi hz0 hz1 .u32 .u32 (k:Int) (k:Int) k rfl rfl rfl rfl (by rw [hz2];omega) (by unfold maxLen;omega) (Nat.le_refl _) ?_)
 intro w3 hown hgrow
 have hR0:=RowV.ofOwn hown
 have hk3:Keeps NoBlock w2 w3:=(Keeps.refl NoBlock w2).grown hgrow (fun k hk=>by simp at hk)
 have HK3:=hid (HK2.out.trans hk3)
 have HC3:=hid (HC2.out.keep hk3 (fun h=>h))
 have HG2:=hid HC2.out.lt
 obtain ⟨g,hgd⟩:∃ g,g=w2.heap.size:=⟨_,rfl⟩
 rw [← hgd] at hR0 ⊢
 have HG:Hid (w.heap.size<g):=hid (by rw [hgd];exact HG2.out)
 obtain ⟨F0,hF0⟩:∃ F0,RowV 55 w3 g (k*4) F0:=⟨_,hR0⟩
 have HR3:=hid hF0
 clear hown hgrow hR0 hk3 hgd HK2 HC2 HG2 hF0
 go_wp2_with fail
 go_loopw [28] (fun i wr=>∃ (j:Nat) (F:Nat→Value) (vs:List (List Rec × Bool)),j≤k∧i=.int .i64 (j:Int)∧vs.length=j∧Hid (viewsTo e s ys j=some vs)∧Hid (RowV 55 wr g (k*4) F)∧Hid (VwF F g wr vs)∧Hid (Whole wr w.heap.size 27 #[.int .u8 (e:Int),.int .u32 (s:Int)])∧Hid (Keeps NoBlock w wr)) (fun i _=>k - (intOf i).toNat)
 case atStart=>exact ⟨0,F0,[],Nat.zero_le _,rfl,rfl,hid rfl,HR3,hid (VwF.nil _ _ _),HC3,HK3⟩
 case round =>
  clear HR3 HC3 HK3
  obtain ⟨j,F,vs,hj,rfl,hvl,HVt,HR,HF,HC,HK⟩:=hrel
  by_cases hlt:j<k
  rotate_left
  ·have hdj:decide ((j:Int)<(k:Int))=false:=decide_eq_false (by omega)
   have hdj2:decide (j<k)=false:=decide_eq_false hlt
   obtain rfl:j=k:=by omega
   have HVe:=hid (HV1.out vs HVt.out)
   have HAll:=hid (HF.out.all HR.out hvl)
   clear HF HR
   go_wp2_with fail
   refine bodyPost_ret (results_tmp2 rfl _ _ _) rfl ?_
   rw [HVe.out]
   exact ⟨_,_,_,rfl,hvl.symm,by omega,HAll.out,HK.out⟩
  have hdj:decide ((j:Int)<(k:Int))=true:=decide_eq_true (by omega)
  have hdj2:decide (j<k)=true:=decide_eq_true hlt
  have hjk:(j:Int)<(k:Int):=by omega
  obtain ⟨A,hA⟩:∃ A,A=j*E:=⟨_,rfl⟩
  have hAE:A+E≤n:=by
   have h1:(j+1)*E≤k*E:=Nat.mul_le_mul_right _ (by omega)
   rw [Nat.succ_mul,← hA,HB.out.1] at h1
   exact h1
  have hcap:=HIn.out.cap
  have hroom:=HIn.out.room
  obtain ⟨pa,rfl,-⟩:=HIn.out.at_ (by rw [← HIn.out.len];omega)
  obtain ⟨b0,b1,b2,b3⟩:=four_lt hlt
  have hs1:0≤(A:Int)+(E:Int)∧(A:Int)+(E:Int)≤(c:Int):=by omega
  have hs2:((A:Int)+(E:Int)).toNat=A+E:=by omega
  have hs3:¬ c=A:=by omega
  obtain ⟨hw1,hw2,hw3,hw4,hw5,hw6,hw7⟩:=seg_wraps (j:=j) (E:=E) hA (show A+E≤100000 by omega) (show j<100 by omega)
  have HA0:=hid hA
  clear hA
  have HI2:=hid (((show In8 wr (some pa) n c ys from ⟨HIn.out.len,HIn.out.cap,HIn.out.room,HIn.out.bare,HIn.out.oct,HIn.out.at_.keep HK.out (fun _ _ h=>h)⟩)).cut A E hAE)
  obtain ⟨c0,c1⟩:=And.intro (HC.out.cell 0 rfl) (HC.out.cell 1 rfl)
  simp only [List.getElem_toArray,List.getElem_cons_zero,List.getElem_cons_succ] at c0 c1
  have hjs:j<s:=Nat.lt_of_lt_of_le hlt HB.out.2
  have hE9:E≤100000:=Nat.le_trans (Nat.le_add_left E A) (Nat.le_trans hAE hn9)
  have HI3:=HI2.out.drewD
  have HPj:=hid (HPa.out j hjs _ _ _ wr.drew HI3 hE9)
  go_upto_region 9 with (fail)
  refine wp_region_held_drew (S:=fun w'=>w'.cell? ⟨w.heap.size,0,none⟩=some (.int .u8 (e:Int))∧w'.cell? ⟨w.heap.size,1,none⟩=some (.int .u32 (s:Int))) (by kernel_rfl) (And.intro c0 c1) (fun hHeld=>?_)
  refine wpAnyH_take (i:=0) (v:=?vT1) rfl ?aT1 ?bT1 ?cT1 ?dT1 (Or.inl ⟨?eT1,?fT1⟩) hHeld ?gT1
  case fT1=>intro w hSw;(try dsimp only at hSw);go_simp;(try with_reducible rfl)
  case aT1=>kernel_rfl
  case bT1=>kernel_rfl
  case cT1=>kernel_rfl
  case dT1=>exact fun _ _ _ h=>h
  case eT1=>rfl
  simp only [Act.put,List.getElem_toArray,List.getElem_cons_zero,List.setIfInBounds_toArray,List.set_cons_zero,List.set_cons_succ]
  refine wpAnyH_take (i:=1) (v:=?vT2) rfl ?aT2 ?bT2 ?cT2 ?dT2 (Or.inl ⟨?eT2,?fT2⟩) hHeld ?gT2
  case fT2=>intro w hSw;(try dsimp only at hSw);go_simp;(try with_reducible rfl)
  case aT2=>kernel_rfl
  case bT2=>kernel_rfl
  case cT2=>kernel_rfl
  case dT2=>exact fun _ _ _ h=>h
  case eT2=>rfl
  simp only [Act.put,List.getElem_toArray,List.getElem_cons_zero,List.getElem_cons_succ,List.setIfInBounds_toArray,List.set_cons_zero,List.set_cons_succ]
  refine wpAnyH_take (i:=2) (v:=?vT3) rfl ?aT3 ?bT3 ?cT3 ?dT3 (Or.inl ⟨?eT3,?fT3⟩) hHeld ?gT3
  case fT3=>intro w hSw;(try dsimp only at hSw);go_simp;(try with_reducible rfl)
  case aT3=>kernel_rfl
  case bT3=>kernel_rfl
  case cT3=>kernel_rfl
  case dT3=>exact fun _ _ _ h=>h
  case eT3=>rfl
  simp only [Act.put,List.getElem_toArray,List.getElem_cons_zero,List.getElem_cons_succ,List.setIfInBounds_toArray,List.set_cons_zero,List.set_cons_succ]
  refine wpAnyH_take (i:=3) (v:=?vT4) rfl ?aT4 ?bT4 ?cT4 ?dT4 (Or.inl ⟨?eT4,?fT4⟩) hHeld ?gT4
  case fT4=>intro w hSw;(try dsimp only at hSw);go_simp;(try with_reducible rfl)
  case aT4=>kernel_rfl
  case bT4=>kernel_rfl
  case cT4=>kernel_rfl
  case dT4=>exact fun _ _ _ h=>h
  case eT4=>rfl
  simp only [Act.put,List.getElem_toArray,List.getElem_cons_zero,List.getElem_cons_succ,List.setIfInBounds_toArray,List.set_cons_zero,List.set_cons_succ]
  refine wpAnyH_take (i:=4) (v:=?vT5) rfl ?aT5 ?bT5 ?cT5 ?dT5 (Or.inl ⟨?eT5,?fT5⟩) hHeld ?gT5
  case fT5=>intro w hSw;(try dsimp only at hSw);go_simp;(try with_reducible rfl)
  case aT5=>kernel_rfl
  case bT5=>kernel_rfl
  case cT5=>kernel_rfl
  case dT5=>exact fun _ _ _ h=>h
  case eT5=>rfl
  simp only [Act.put,List.getElem_toArray,List.getElem_cons_zero,List.getElem_cons_succ,List.setIfInBounds_toArray,List.set_cons_zero,List.set_cons_succ]
  refine wpAnyH_take (i:=5) (v:=?vT6) rfl ?aT6 ?bT6 ?cT6 ?dT6 (Or.inl ⟨?eT6,?fT6⟩) hHeld ?gT6
  case fT6=>intro w hSw;(try dsimp only at hSw);go_simp;(try with_reducible rfl)
  case aT6=>kernel_rfl
  case bT6=>kernel_rfl
  case cT6=>kernel_rfl
  case dT6=>exact fun _ _ _ h=>h
  case eT6=>rfl
  simp only [Act.put,List.getElem_toArray,List.getElem_cons_zero,List.getElem_cons_succ,List.setIfInBounds_toArray,List.set_cons_zero,List.set_cons_succ]
  refine wpAnyH_take (i:=6) (v:=?vT7) rfl ?aT7 ?bT7 ?cT7 ?dT7 (Or.inl ⟨?eT7,?fT7⟩) hHeld ?gT7
  case fT7=>intro w hSw;(try dsimp only at hSw);go_simp;(try with_reducible rfl)
  case aT7=>kernel_rfl
  case bT7=>kernel_rfl
  case cT7=>kernel_rfl
  case dT7=>exact fun _ _ _ h=>h
  case eT7=>rfl
  simp only [Act.put,List.getElem_toArray,List.getElem_cons_zero,List.getElem_cons_succ,List.setIfInBounds_toArray,List.set_cons_zero,List.set_cons_succ]
  refine wpAnyH_take (i:=7) (v:=?vT8) rfl ?aT8 ?bT8 ?cT8 ?dT8 (Or.inl ⟨?eT8,?fT8⟩) hHeld ?gT8
  case fT8=>intro w hSw;(try dsimp only at hSw);go_simp;(try with_reducible rfl)
  case aT8=>kernel_rfl
  case bT8=>kernel_rfl
  case cT8=>kernel_rfl
  case dT8=>exact fun _ _ _ h=>h
  case eT8=>rfl
  simp only [Act.put,List.getElem_toArray,List.getElem_cons_zero,List.getElem_cons_succ,List.setIfInBounds_toArray,List.set_cons_zero,List.set_cons_succ]
  refine wpAnyH_take (i:=8) (v:=?vT9) rfl ?aT9 ?bT9 ?cT9 ?dT9 (Or.inl ⟨?eT9,?fT9⟩) hHeld ?gT9
  case fT9=>intro w hSw;(try dsimp only at hSw);go_simp;(try with_reducible rfl)
  case aT9=>kernel_rfl
  case bT9=>kernel_rfl
  case cT9=>kernel_rfl
  case dT9=>exact fun _ _ _ h=>h
  case eT9=>rfl
  simp only [Act.put,List.getElem_toArray,List.getElem_cons_zero,List.getElem_cons_succ,List.setIfInBounds_toArray,List.set_cons_zero,List.set_cons_succ]
  refine wpAnyH_take (i:=9) (v:=?vT10) rfl ?aT10 ?bT10 ?cT10 ?dT10 (Or.inl ⟨?eT10,?fT10⟩) hHeld ?gT10
  case fT10=>intro w hSw;(try dsimp only at hSw);go_simp;(try with_reducible rfl)
  case aT10=>kernel_rfl
  case bT10=>kernel_rfl
  case cT10=>kernel_rfl
  case dT10=>exact fun _ _ _ h=>h
  case eT10=>rfl
  simp only [Act.put,List.getElem_toArray,List.getElem_cons_zero,List.getElem_cons_succ,List.setIfInBounds_toArray,List.set_cons_zero,List.set_cons_succ]
  refine wpAnyH_take (i:=10) (v:=?vT11) rfl ?aT11 ?bT11 ?cT11 ?dT11 (Or.inl ⟨?eT11,?fT11⟩) hHeld ?gT11
  case fT11=>intro w hSw;(try dsimp only at hSw);go_simp;(try with_reducible rfl)
  case aT11=>kernel_rfl
  case bT11=>kernel_rfl
  case cT11=>kernel_rfl
  case dT11=>exact fun _ _ _ h=>h
  case eT11=>rfl
  simp only [Act.put,List.getElem_toArray,List.getElem_cons_zero,List.getElem_cons_succ,List.setIfInBounds_toArray,List.set_cons_zero,List.set_cons_succ]
  refine wpAnyH_take (i:=11) (v:=?vT12) rfl ?aT12 ?bT12 ?cT12 ?dT12 (Or.inl ⟨?eT12,?fT12⟩) hHeld ?gT12
  case fT12=>intro w hSw;(try dsimp only at hSw);go_simp;(try with_reducible rfl)
  case aT12=>kernel_rfl
  case bT12=>kernel_rfl
  case cT12=>kernel_rfl
  case dT12=>exact fun _ _ _ h=>h
  case eT12=>rfl
  simp only [Act.put,List.getElem_toArray,List.getElem_cons_zero,List.getElem_cons_succ,List.setIfInBounds_toArray,List.set_cons_zero,List.set_cons_succ]
  refine wpAnyH_take (i:=12) (v:=?vT13) rfl ?aT13 ?bT13 ?cT13 ?dT13 (Or.inl ⟨?eT13,?fT13⟩) hHeld ?gT13
  case fT13=>intro w hSw;(try dsimp only at hSw);go_simp;(try with_reducible rfl)
  case aT13=>kernel_rfl
  case bT13=>kernel_rfl
  case cT13=>kernel_rfl
  case dT13=>exact fun _ _ _ h=>h
  case eT13=>rfl
  simp only [Act.put,List.getElem_toArray,List.getElem_cons_zero,List.getElem_cons_succ,List.setIfInBounds_toArray,List.set_cons_zero,List.set_cons_succ]
  refine wpAnyH_take (i:=13) (v:=?vT14) rfl ?aT14 ?bT14 ?cT14 ?dT14 (Or.inl ⟨?eT14,?fT14⟩) hHeld ?gT14
  case fT14=>intro w hSw;(try dsimp only at hSw);go_simp;(try with_reducible rfl)
  case aT14=>kernel_rfl
  case bT14=>kernel_rfl
  case cT14=>kernel_rfl
  case dT14=>exact fun _ _ _ h=>h
  case eT14=>rfl
  simp only [Act.put,List.getElem_toArray,List.getElem_cons_zero,List.getElem_cons_succ,List.setIfInBounds_toArray,List.set_cons_zero,List.set_cons_succ]
  refine wpAnyH_ready (rs:=[14]) (by kernel_rfl) (by simp) ?_
  refine (AllReadyH.cons (o:=_) rfl (fun K hK=>?_) AllReadyH.nil)
  go_simp
  refine (HPj.out).mono ?_
  rintro r w5 ⟨q,m,d,q2,m2,d2,z2,b,y,rfl,hk,hor⟩
  have hk5:Keeps NoBlock wr w5:=hk.ofDrew
  have HOr:=hid hor
  have HC5:=hid (HC.out.keep hk5 (fun h=>h))
  have HR5:=hid (HR.out.keep hk5 (fun h=>h))
  have HK5:=hid (HK.out.trans hk5)
  have HF5:=hid (HF.out.keep (hk5.wider (fun _ _ h=>absurd h (fun h=>h))))
  have HGl:=hid (show g<wr.drew.heap.size from HR.out.lt)
  have hS:(fun w'=>w'.cell? ⟨w.heap.size,0,none⟩=some (.int .u8 (e:Int))∧w'.cell? ⟨w.heap.size,1,none⟩=some (.int .u32 (s:Int))) w5:=And.intro (HC5.out.cell 0 rfl) (HC5.out.cell 1 rfl)
  clear hk hk5 hor
  obtain ⟨x0,x1,x2,x3⟩:=And.intro (HR5.out.cell b0) (And.intro (HR5.out.cell b1) (And.intro (HR5.out.cell b2) (HR5.out.cell b3)))
  obtain ⟨f0,f1,f2,f3⟩:=And.intro (HR5.out.free (j*4)) (And.intro (HR5.out.free (j*4+1)) (And.intro (HR5.out.free (j*4+2)) (HR5.out.free (j*4+3))))
  go_wp2_with fail
  refine hK.out _ _ hS (fun _=>?_)
  clear hK K
  refine wpAnyH_take (i:=15) (v:=?vT15) rfl ?aT15 ?bT15 ?cT15 ?dT15 (Or.inl ⟨?eT15,?fT15⟩) hS ?gT15
  case fT15=>intro w hSw;(try dsimp only at hSw);go_simp;(try with_reducible rfl)
  case aT15=>kernel_rfl
  case bT15=>kernel_rfl
  case cT15=>kernel_rfl
  case dT15=>exact fun _ _ _ h=>h
  case eT15=>rfl
  simp only [Act.put,List.getElem_toArray,List.getElem_cons_zero,List.getElem_cons_succ,List.setIfInBounds_toArray,List.set_cons_zero,List.set_cons_succ]
  refine wpAnyH_take (i:=16) (v:=?vT16) rfl ?aT16 ?bT16 ?cT16 ?dT16 (Or.inl ⟨?eT16,?fT16⟩) hS ?gT16
  case fT16=>intro w hSw;(try dsimp only at hSw);go_simp;(try with_reducible rfl)
  case aT16=>kernel_rfl
  case bT16=>kernel_rfl
  case cT16=>kernel_rfl
  case dT16=>exact fun _ _ _ h=>h
  case eT16=>rfl
  simp only [Act.put,List.getElem_toArray,List.getElem_cons_zero,List.getElem_cons_succ,List.setIfInBounds_toArray,List.set_cons_zero,List.set_cons_succ]
  refine wpAnyH_take (i:=17) (v:=?vT17) rfl ?aT17 ?bT17 ?cT17 ?dT17 (Or.inl ⟨?eT17,?fT17⟩) hS ?gT17
  case fT17=>intro w hSw;(try dsimp only at hSw);go_simp;(try with_reducible rfl)
  case aT17=>kernel_rfl
  case bT17=>kernel_rfl
  case cT17=>kernel_rfl
  case dT17=>exact fun _ _ _ h=>h
  case eT17=>rfl
  simp only [Act.put,List.getElem_toArray,List.getElem_cons_zero,List.getElem_cons_succ,List.setIfInBounds_toArray,List.set_cons_zero,List.set_cons_succ]
  refine wpAnyH_take (i:=18) (v:=?vT18) rfl ?aT18 ?bT18 ?cT18 ?dT18 (Or.inl ⟨?eT18,?fT18⟩) hS ?gT18
  case fT18=>intro w hSw;(try dsimp only at hSw);go_simp;(try with_reducible rfl)
  case aT18=>kernel_rfl
  case bT18=>kernel_rfl
  case cT18=>kernel_rfl
  case dT18=>exact fun _ _ _ h=>h
  case eT18=>rfl
  simp only [Act.put,List.getElem_toArray,List.getElem_cons_zero,List.getElem_cons_succ,List.setIfInBounds_toArray,List.set_cons_zero,List.set_cons_succ]
  refine wpAnyH_ready (rs:=[19]) (by kernel_rfl) (by simp) ?_
  refine (AllReadyH.cons (o:=_) rfl (fun K hK=>?_) AllReadyH.nil)
  have HR9:=hid (HR5.out.putV4 b3 (.slice q m d) (.slice q2 m2 d2) (.int .u32 z2) (.bool b))
  have HKg:=hid (putV4_keeps (S:=Just g) (Just.self g) w5 j (.slice q m d) (.slice q2 m2 d2) (.int .u32 z2) (.bool b))
  have HC9:=hid (HC5.out.keep HKg.out (fun h:w.heap.size=g=>absurd HG.out (by rw [h];exact Nat.lt_irrefl _)))
  have HK9:=hid (HK5.out.then HKg.out (fun k hk h=>absurd HG.out (by have h:k=g:=h;rw [← h];exact Nat.not_lt.2 (Nat.le_of_lt hk))))
  have hS2:(fun w'=>w'.cell? ⟨w.heap.size,0,none⟩=some (.int .u8 (e:Int))∧w'.cell? ⟨w.heap.size,1,none⟩=some (.int .u32 (s:Int))) (putV4 w5 g j (.slice q m d) (.slice q2 m2 d2) (.int .u32 z2) (.bool b)):=And.intro (HC9.out.cell 0 rfl) (HC9.out.cell 1 rfl)
  obtain ⟨W9,hW9⟩:∃ W,W=(putV4 w5 g j (.slice q m d) (.slice q2 m2 d2) (.int .u32 z2) (.bool b)):=⟨_,rfl⟩
  rw [← hW9] at HR9 HKg HC9 HK9 hS2
  unfold putV4 at hW9
  go_simp
  rw [← hW9]
  refine hK.out _ _ hS2 (fun _=>?_)
  clear hK K
  refine wpAnyH_take (i:=20) (v:=?vT19) rfl ?aT19 ?bT19 ?cT19 ?dT19 (Or.inl ⟨?eT19,?fT19⟩) hS2 ?gT19
  case fT19=>intro w hSw;(try dsimp only at hSw);go_simp;(try with_reducible rfl)
  case aT19=>kernel_rfl
  case bT19=>kernel_rfl
  case cT19=>kernel_rfl
  case dT19=>exact fun _ _ _ h=>h
  case eT19=>rfl
  simp only [Act.put,List.getElem_toArray,List.getElem_cons_zero,List.getElem_cons_succ,List.setIfInBounds_toArray,List.set_cons_zero,List.set_cons_succ]
  refine wpAnyH_done (by kernel_rfl) ?_ _
  clear hW9
  clear hw1 hw2 hw3 hw4 hw5 hw6 hw7
  rcases HOr.out with ⟨rfl,hpn⟩|⟨rfl,l,hp,hm,hq,hr,hnew⟩
  ·have HVe:=hid (HV2.out (HVn.out j hlt (by rw [← HA0.out];exact hpn)))
   clear hpn
   go_wp2_with fail
   refine bodyPost_ret (results_tmp2 rfl _ _ _) rfl ?_
   rw [HVe.out]
   exact ⟨none,0,⟨0,rfl⟩,rfl,by decide,fun i hi=>absurd hi (Nat.not_lt_zero i),HK9.out⟩
  ·have HVt9:=hid (show viewsTo e s ys (j+1)=some (vs ++ [(l,b)]) by rw [HVs.out j,HVt.out,← HA0.out,hp];rfl)
   have HF9:=hid (show VwF (putF F j (.slice q m d) (.slice q2 m2 d2) (.int .u32 z2) (.bool b)) g W9 (vs ++ [(l,b)]) by
    obtain ⟨p0,p1,p2,p3,p4⟩:=putF_is F j (.slice q m d) (.slice q2 m2 d2) (.int .u32 z2) (.bool b)
    rw [← hvl] at p0 p1 p2 p3 p4 ⊢
    exact VwF.snoc (HF5.out.keep HKg.out) p4 p0 p1 p2 p3 hm hq (by
     cases q with
     | none=>exact (show l=[] from List.length_eq_zero_iff.1 (by rw [← hm];exact (hq rfl).1)) ▸ RecsAt.nil _ _
     | some a=>exact hr.keepAt HKg.out (fun hk=>absurd (hnew a rfl) (by have:a.block=g:=hk;have:=HGl.out;omega))) (fun a ha hk=>absurd (hnew a ha) (by have:=HGl.out;omega)))
   clear hp hm hq hr hnew
   go_wp2_with fail
   go_roundw
   case rel=>exact ⟨j+1,_,vs ++ [(l,b)],by omega,by go_num,by rw [List.length_append,hvl];rfl,HVt9,HR9,HF9,HC9,HK9⟩
   case measure=>simp [intOf];omega
end
section
open Go.RowKit
set_option maxHeartbeats 8000000 in
set_option maxRecDepth 10000 in
theorem deencodes_own (H:ImEncOk) (e s:Nat) (q:Option Addr) (m d:Nat) (L:List Rec) (p:Option Addr) (n c:Nat) (ys:List Int) (w:World) (he:e≤13) (hs:s<4294967296) (hm9:m≤10000) (hL:InR w q m d L) (h:In8 w p n c ys) :
  Calls Tryz.prog 22 #[confV e s,.slice q m d,.slice p n c] w fun r w'=>r=.returned (.bool (decide (encI e s L=(0,ys))))∧Keeps NoBlock w w':=by
 have HC:=hid (Whole.new w 27 (confCells e s))
 have hK0:=(Keeps.refl NoBlock w).alloc (.cells (confCells e s) 27)
 have HK:=hid hK0
 obtain ⟨c0,c1⟩:=And.intro (HC.out.cell 0 rfl) (HC.out.cell 1 rfl)
 simp only [confCells,List.getElem_toArray,List.getElem_cons_zero,List.getElem_cons_succ] at c0 c1
 have HE:=hid (H.enc e s q m d L _ (by omega) hs hm9 (.inr he) (hL.keep hK0))
 have hXo:=enc_octets (e:=e) (s:=s) (by omega) (l:=L) hL.fine
 have hEq:encI e s L=((encI e s L).1,(encI e s L).2):=rfl
 obtain ⟨X,hX⟩:∃ X,X=(encI e s L).2:=⟨_,rfl⟩
 obtain ⟨y,hy⟩:∃ y,y=(encI e s L).1:=⟨_,rfl⟩
 rw [← hX,← hy] at hEq
 rw [← hX] at hXo
 rw [← hX,← hy] at HE
 rw [hEq]
 have HXo:=hid hXo
 have HIn:=hid h
 clear hX hy hEq hL h hs he hm9 hK0 hXo
 unfold confV at HE ⊢
 unfold confCells at HE HK HC
 go_enter Tryz.func22,Tryz.ntmps22
 go_wp2_with fail
 refine HE.out.mono ?_
 rintro r w1 ⟨u,rfl,hob,hk⟩
 have HK1:=hid (HK.out.trans hk)
 obtain ⟨q1,d1,rfl,-,-,hb1,-,-⟩:=hob.read
 have hE:=equal_bytes q1 p X.length d1 n c X ys w1 rfl HIn.out.len HXo.out HIn.out.oct hb1 (HIn.out.at_.keep HK1.out (fun _ _ h=>h))
 have HE1:=hid hE
 clear hE hb1 hob hk c0 c1
 by_cases hy:y=0
 ·subst hy
  go_wp2_with fail
  refine HE1.out.mono ?_
  rintro r w2 ⟨rfl,rfl⟩
  go_wp2_with fail
  refine bodyPost_ret (results_tmp rfl _ _ _) rfl ?_
  exact ⟨by simp,HK1.out⟩
 ·have hb:(y == 0)=false:=by rw [beq_eq_false_iff_ne];exact hy
  have hb2:decide (((y,X):Int × List Int)=(0,ys))=false:=decide_eq_false (fun h=>hy (Prod.mk.inj h).1)
  go_wp2_with fail
  refine bodyPost_ret (results_tmp rfl _ _ _) rfl ?_
  exact ⟨by rw [hb2];rfl,HK1.out⟩
set_option maxHeartbeats 8000000 in
set_option maxRecDepth 10000 in
theorem dedecode_own (HPr:SgParseOk) (H:ImEncOk) (e s:Nat) (p:Option Addr) (n c:Nat) (ys:List Int) (w:World) (he:e≤13) (hs:s<4294967296) (h:In8 w p n c ys) (hn9:n≤100000) :
  Calls Tryz.prog 10 #[confV e s,.slice p n c] w fun r w'=>∃ v,r=.returned (.tuple #[v,.int .i64 (decI e s ys).1])∧NewRecs w (decI e s ys).2 v w':=by
 have HC:=hid (Whole.new w 27 (confCells e s))
 have hK0:=(Keeps.refl NoBlock w).alloc (.cells (confCells e s) 27)
 have HK:=hid hK0
 obtain ⟨c0,c1⟩:=And.intro (HC.out.cell 0 rfl) (HC.out.cell 1 rfl)
 simp only [confCells,List.getElem_toArray,List.getElem_cons_zero,List.getElem_cons_succ] at c0 c1
 have hIn:∀ W,Keeps NoBlock w W→In8 W p n c ys:=fun W hk=>⟨h.len,h.cap,h.room,h.bare,h.oct,h.at_.keep hk (fun _ _ h=>h)⟩
 have HVw:=hid (deviews_own HPr e s p n c ys _ (by omega) hs (hIn _ hK0) hn9)
 have hlen:=h.len
 by_cases hv:(viewsI e s ys).1=0
 rotate_left
 ·rw [dec_bad (by omega) h.oct (by omega) hv]
  obtain ⟨y,hy⟩:∃ y,y=(viewsI e s ys).1:=⟨_,rfl⟩
  rw [← hy] at HVw hv ⊢
  have hne:(y != 0)=true:=by rw [bne_iff_ne];exact hv
  clear hy h hlen hIn hK0
  unfold confV at HVw ⊢
  unfold confCells at HVw HK HC
  go_enter Tryz.func10,Tryz.ntmps10
  go_wp2_with fail
  refine HVw.out.mono ?_
  rintro r w1 ⟨q,m,d,rfl,-,-,-,hk⟩
  have HK1:=hid (HK.out.trans hk)
  clear hk c0 c1
  go_wp2_with fail
  refine bodyPost_ret (results_tmp2 rfl _ _ _) rfl ?_
  exact ⟨_,rfl,none,0,0,rfl,rfl,Nat.le_refl _,by decide,fun _=>⟨rfl,rfl⟩,RecsAt.nil _ _,HK1.out⟩
 obtain ⟨f1,f2⟩:=viewsI_fine h.oct hv
 rw [dec_good (by omega) hs h.oct (by omega) hv]
 rw [hv] at HVw
 have hIn2:=hid hIn
 obtain ⟨vs,hvs⟩:∃ vs,vs=(viewsI e s ys).2:=⟨_,rfl⟩
 rw [← hvs] at HVw f1 f2 ⊢
 have HRc:=hid (fun q m d W hm (hm9:m≤1000) hv=>derecords_own q m d vs W hm (by omega) (by omega) hv)
 obtain ⟨L,hL⟩:∃ L,L=recsV vs:=⟨_,rfl⟩
 rw [← hL] at f1 f2 HRc ⊢
 have HEn:=hid (fun q m d W (hm:m=L.length) (hmd:m≤d) (hd:d≤9223372036854775807) (hr:RecsAt W q L) (hk:Keeps NoBlock w W)=>deencodes_own H e s q m d L p n c ys W he hs (by omega)
  ⟨hm,hmd,hd,fun r hr=>(f1 r hr).1.1,fun r hr=>by have:=(f1 r hr).2;omega,fun r hr=>by have:=(f1 r hr).2;omega,hr⟩ (hIn W hk))
 obtain ⟨z,hz⟩:∃ z,z=decide (encI e s L=(0,ys)):=⟨_,rfl⟩
 rw [← hz] at HEn
 have HZ:=hid (show (if encI e s L=(0,ys) then ((0:Int),L) else (4,[]))=if z=true then (0,L) else (4,[]) by rw [hz];simp)
 obtain ⟨U,hU⟩:∃ U:Int × List Rec,U=(if encI e s L=(0,ys) then ((0:Int),L) else (4,[])):=⟨_,rfl⟩
 rw [← hU] at HZ ⊢
 clear hz hL f1 f2 hvs hlen h hs he hv hIn hK0 hU hIn2
 unfold confV at HVw HEn ⊢
 unfold confCells at HVw HK HC
 go_enter Tryz.func10,Tryz.ntmps10
 go_wp2_with fail
 refine HVw.out.mono ?_
 rintro r w1 ⟨q,m,d,rfl,hm,hm9,hvi,hk⟩
 have HK1:=hid (HK.out.trans hk)
 have HC1:=hid (HC.out.keep hk (fun h=>h))
 have HR1:=hid (HRc.out q m d w1 hm hm9 hvi)
 clear hk c0 c1 HC HK hm hvi HRc hm9
 go_wp2_with fail
 refine HR1.out.mono ?_
 rintro r w2 ⟨v,rfl,q2,m2,d2,rfl,hm,hmd,hd,hq,hat,hk⟩
 have HK2:=hid (HK1.out.trans hk)
 have HC2:=hid (HC1.out.keep hk (fun h=>h))
 have HE2:=hid (HEn.out q2 m2 d2 w2 hm hmd hd hat HK2.out)
 have HAt:=hid hat
 have HM:=hid (And.intro hm (And.intro hmd (And.intro hd hq)))
 clear hk HC1 HK1 hm hmd hd hat HEn hq
 obtain ⟨c0,c1⟩:=And.intro (HC2.out.cell 0 rfl) (HC2.out.cell 1 rfl)
 simp only [List.getElem_toArray,List.getElem_cons_zero,List.getElem_cons_succ] at c0 c1
 go_wp2_with fail
 refine HE2.out.mono ?_
 rintro r w3 ⟨rfl,hk⟩
 have HK3:=hid (HK2.out.trans hk)
 have HAt3:=hid (HAt.out.keep hk (fun _ _ h=>h))
 clear hk c0 c1
 cases z with
 | true =>
  go_wp2_with fail
  refine bodyPost_ret (results_tmp2 rfl _ _ _) rfl ?_
  rw [show U=(0,L) from HZ.out]
  exact ⟨_,rfl,q2,m2,d2,rfl,HM.out.1,HM.out.2.1,HM.out.2.2.1,HM.out.2.2.2,HAt3.out,HK3.out⟩
 | false =>
  go_wp2_with fail
  refine bodyPost_ret (results_tmp2 rfl _ _ _) rfl ?_
  rw [show U=(4,[]) from by rw [HZ.out];simp]
  exact ⟨_,rfl,none,0,0,rfl,rfl,Nat.le_refl _,by decide,fun _=>⟨rfl,rfl⟩,RecsAt.nil _ _,HK3.out⟩
end
section
open Go.RowKit
set_option maxHeartbeats 2000000 in
set_option maxRecDepth 10000 in
theorem erased_own (p:Option Addr) (n c:Nat) (xs:List Int) (w:World) (h:In8 w p n c xs) :
  Calls Tryz.prog 86 #[.slice p n c] w fun e w'=>e=.returned (.bool (decide (xs=List.replicate xs.length 255)))∧Keeps NoBlock w w':=by
 have HC:=hid (fun g W (hi:In8 W p n c xs) (hg:W.cell? ⟨g,0,none⟩=some (.int .u8 255))=>count_bytes p n c xs g 255 W hi hg)
 have HI:=hid (show In8 (w.alloc (.cells #[.int .u8 255] 5)) p n c xs from ⟨h.len,h.cap,h.room,h.bare,h.oct,h.at_.keep ((Keeps.refl NoBlock w).alloc _) (fun _ _ h=>h)⟩)
 have HG:=hid ((Whole.new w 5 #[.int .u8 255]).cell 0 rfl)
 have HK:=hid ((Keeps.refl NoBlock w).alloc (.cells #[.int .u8 255] 5))
 have hd:decide (Lib.countByte (Lib.bytesOf xs) ((255:Int).toNat.toUInt8)=n)=decide (xs=List.replicate xs.length 255):=by
  rw [h.len]
  exact decide_eq_decide.2 (count_all h.oct)
 obtain ⟨k,hk⟩:∃ k,k=Lib.countByte (Lib.bytesOf xs) ((255:Int).toNat.toUInt8):=⟨_,rfl⟩
 rw [← hk] at HC hd
 obtain ⟨b,hb⟩:∃ b,b=decide (xs=List.replicate xs.length 255):=⟨_,rfl⟩
 rw [← hb] at hd ⊢
 have hdi:((k:Int) == (n:Int))=b:=by
  rw [← hd]
  by_cases e:k=n
  ·rw [e];simp
  ·rw [decide_eq_false e];simp;omega
 clear hk hb hd h
 go_enter Tryz.func86,Tryz.ntmps86
 go_wp2_with fail
 refine (HC.out _ _ HI.out (by exact HG.out)).mono ?_
 rintro e w2 ⟨rfl,rfl⟩
 go_wp2_with fail
 go_ret
 exact ⟨rfl,HK.out⟩
end
end Go.Proofs.YtehkjkcnigknkaaGreat

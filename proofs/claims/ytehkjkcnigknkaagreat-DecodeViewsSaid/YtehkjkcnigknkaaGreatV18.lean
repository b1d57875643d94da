/-
  ImNum; DeNum; ImRoom; DeNum2; DeGuess; SgLaws.
-/
import Derived.Deep.AppendLies
import Derived.Lib.Hide
import Derived.Test.YtehkjkcnigknkaaGreatV10
import Derived.Test.YtehkjkcnigknkaaGreatV11
import Derived.Test.YtehkjkcnigknkaaGreatV15
import Derived.Test.YtehkjkcnigknkaaGreatV17
namespace Go.Proofs.YtehkjkcnigknkaaGreat
open Lib (hid)
section
def sizesR (l:List Rec):List Int:=l.map fun r=>((recB r).length:Int)
def planI (e s:Nat) (l:List Rec):Int × List Nat :=
 if mayC e s=true then (if risingR l ≠ 0 then (risingR l,[]) else planP e s (sizesR l)) else (1,[])
def putPart (out:List (List Rec)) (k:Nat) (r:Rec):List (List Rec) :=
 if out.length≤k then (out ++ [[]]).set k ((out ++ [[]]).getD k [] ++ [r]) else out.set k (out.getD k [] ++ [r])
def partsGo:List (List Rec)→List Rec→List Nat→List (List Rec)
 | out,r :: l,k :: ks=>partsGo (putPart out k r) l ks
 | out,_,_=>out
def segsGo (e s:Nat) (m:Nat):Nat→List (List Rec)→List Int
 | _,[]=>[]
 | i,p :: ps=>textS e s i p (decide (i+1<m)) ++ segsGo e s m (i+1) ps
def encI (e s:Nat) (l:List Rec):Int × List Int :=
 if (planI e s l).1 ≠ 0 then ((planI e s l).1,[])
 else (0,segsGo e s (partsGo [] l (planI e s l).2).length 0 (partsGo [] l (planI e s l).2))
def Steps:Nat→List Nat→Prop
 | _,[]=>True
 | n,k :: ks=>(k=n∧Steps (n+1) ks) ∨ (k+1=n∧Steps n ks)
theorem putPart_next (out:List (List Rec)) (r:Rec):putPart out out.length r=out ++ [[r]]:=by
 unfold putPart
 rw [if_pos (Nat.le_refl _),List.set_append_right _ _ (Nat.le_refl _),Nat.sub_self,List.getD_eq_getElem?_getD,List.getElem?_append_right (Nat.le_refl _),Nat.sub_self]
 rfl
theorem putPart_last (out:List (List Rec)) (p:List Rec) (r:Rec):putPart (out ++ [p]) out.length r=out ++ [p ++ [r]]:=by
 unfold putPart
 rw [if_neg (by simp),List.set_append_right _ _ (Nat.le_refl _),Nat.sub_self,List.getD_eq_getElem?_getD,List.getElem?_append_right (Nat.le_refl _),Nat.sub_self]
 rfl
theorem parts_flat:∀ (l:List Rec) (ks:List Nat) (out:List (List Rec)),Steps out.length ks→l.length=ks.length →
  (partsGo out l ks).flatten=out.flatten ++ l
 | [],[],out,_,_=>by simp [partsGo]
 | r :: l,k :: ks,out,h,hl=>by
  rw [partsGo]
  rcases h with ⟨rfl,h⟩|⟨hk,h⟩
  ·rw [putPart_next,parts_flat l ks _ (by simpa using h) (by simpa using hl)]
   simp
  ·have hne:out ≠ []:=fun e=>by rw [e] at hk;simp at hk
   have hd:out=out.dropLast ++ [out.getLast hne]:=(List.dropLast_concat_getLast hne).symm
   have hlen:out.dropLast.length=k:=by rw [List.length_dropLast];omega
   obtain ⟨q,hq⟩:∃ q,q=out.dropLast:=⟨_,rfl⟩
   obtain ⟨p,hp⟩:∃ p,p=out.getLast hne:=⟨_,rfl⟩
   rw [← hq,← hp] at hd
   rw [← hq] at hlen
   clear hq hp hne
   subst hd
   subst hlen
   rw [putPart_last,parts_flat l ks _ (by simpa using h) (by simpa using hl)]
   simp
theorem parts_full:∀ (l:List Rec) (ks:List Nat) (out:List (List Rec)),Steps out.length ks→l.length=ks.length→(∀ p ∈ out,p ≠ []) →
  ∀ p ∈ partsGo out l ks,p ≠ []
 | [],[],out,_,_,h0=>by simpa [partsGo] using h0
 | r :: l,k :: ks,out,h,hl,h0=>by
  rw [partsGo]
  rcases h with ⟨rfl,h⟩|⟨hk,h⟩
  ·rw [putPart_next]
   refine parts_full l ks _ (by simpa using h) (by simpa using hl) (fun p hp=>?_)
   rcases List.mem_append.1 hp with hp|hp
   ·exact h0 p hp
   ·rw [List.mem_singleton.1 hp];simp
  ·have hne:out ≠ []:=fun e=>by rw [e] at hk;simp at hk
   have hd:out=out.dropLast ++ [out.getLast hne]:=(List.dropLast_concat_getLast hne).symm
   have hlen:out.dropLast.length=k:=by rw [List.length_dropLast];omega
   obtain ⟨q,hq⟩:∃ q,q=out.dropLast:=⟨_,rfl⟩
   obtain ⟨p,hp⟩:∃ p,p=out.getLast hne:=⟨_,rfl⟩
   rw [← hq,← hp] at hd
   rw [← hq] at hlen
   clear hq hp hne
   subst hd
   subst hlen
   rw [putPart_last]
   refine parts_full l ks _ (by simpa using h) (by simpa using hl) (fun x hx=>?_)
   rcases List.mem_append.1 hx with hx|hx
   ·exact h0 x (List.mem_append_left _ hx)
   ·rw [List.mem_singleton.1 hx];simp
theorem fold_steps {e s:Nat} (hs:s<4294967296) (hs1:1≤s):∀ (zs:List Int) (st:PSt) (n:Nat),st.y=0→(n=st.r.num+1 ∨ (n=0∧st.r=emptyP e s 0))→(zs.foldl (stepP e s) st).y=0 →
  ∃ t,(zs.foldl (stepP e s) st).out=st.out ++ t∧Steps n t
 | [],st,n,_,_,_=>⟨[],by simp,trivial⟩
 | z :: zs,st,n,hy,hn,h=>by
  rw [List.foldl_cons] at h ⊢
  have hy2:(stepP e s st z).y=0:=by
   by_cases hq:(stepP e s st z).y=0
   ·exact hq
   ·rw [foldP_gone zs hq] at h;exact h
  have hcase:∃ k,(stepP e s st z).out=st.out ++ [k]∧(stepP e s st z).r.num=k∧(k=st.r.num ∨ (k=st.r.num+1∧n=st.r.num+1)):=by
   unfold stepP at hy2 ⊢
   rw [if_neg (by rw [hy];simp)] at hy2 ⊢
   split at hy2
   ·rename_i q2
    rw [if_pos q2]
    split at hy2
    ·rename_i q3;rw [if_pos q3];exact ⟨_,rfl,rfl,.inl rfl⟩
    ·rename_i q3
     rw [if_neg q3]
     split at hy2
     ·exact absurd hy2 (by decide)
     ·rename_i q4
      rw [if_neg q4]
      refine ⟨_,rfl,rfl,.inr ⟨rfl,?_⟩⟩
      rcases hn with hn|⟨_,hr⟩
      ·exact hn
      ·exfalso
       refine q3 ?_
       rw [hr]
       exact fits_empty hs (by omega) (Nat.zero_le _) q2
   ·exact absurd hy2 (by decide)
  obtain ⟨k,hk1,hk2,hk3⟩:=hcase
  have hnn:(k=n∧∃ m,m=n+1∧m=(stepP e s st z).r.num+1) ∨ (k+1=n∧n=(stepP e s st z).r.num+1):=by
   rw [hk2]
   rcases hk3 with rfl|⟨h1,h2⟩
   ·rcases hn with hn|⟨h0,hr⟩
    ·exact .inr ⟨hn.symm,hn⟩
    ·have:st.r.num=0:=by rw [hr];rfl
     exact .inl ⟨by omega,n+1,rfl,by omega⟩
   ·exact .inl ⟨by omega,n+1,rfl,by omega⟩
  rcases hnn with ⟨h1,m,h2,h3⟩|⟨h1,h2⟩
  ·obtain ⟨t,ht,hst⟩:=fold_steps hs hs1 zs _ m hy2 (.inl h3) h
   refine ⟨k :: t,by rw [ht,hk1];simp,.inl ⟨h1,by rw [← h2];exact hst⟩⟩
  ·obtain ⟨t,ht,hst⟩:=fold_steps hs hs1 zs _ n hy2 (.inl h2) h
   exact ⟨k :: t,by rw [ht,hk1];simp,.inr ⟨h1,hst⟩⟩
theorem plan_steps {e s:Nat} {zs:List Int} (h:(planP e s zs).1=0):Steps 0 (planP e s zs).2∧(planP e s zs).2.length=zs.length:=by
 unfold planP at h ⊢
 split at h
 ·rename_i hm
  obtain ⟨_,_,m3,m4⟩:=mayC_true.1 hm
  rw [if_pos hm]
  simp only at h ⊢
  obtain ⟨t,ht,hst⟩:=fold_steps (e:=e) (s:=s) (by omega) m3 zs ⟨0,emptyP e s 0,[]⟩ 0 rfl (.inr ⟨rfl,rfl⟩) h
  have:(runP e s zs).out=t:=by unfold runP;rw [ht];rfl
  exact ⟨by rw [this];exact hst,runP_out zs h⟩
 ·exact absurd h (by decide)
theorem parts_all {e s:Nat} {l:List Rec} (h:(planI e s l).1=0):(partsGo [] l (planI e s l).2).flatten=l∧∀ p ∈ partsGo [] l (planI e s l).2,p ≠ []:=by
 have hp:planI e s l=planP e s (sizesR l):=by
  unfold planI at h ⊢
  split at h
  ·rename_i hm
   rw [if_pos hm]
   split at h
   ·rename_i hr;exact absurd h hr
   ·rename_i hr;rw [if_neg hr]
  ·exact absurd h (by decide)
 rw [hp] at h ⊢
 obtain ⟨h1,h2⟩:=plan_steps h
 have hl:l.length=(planP e s (sizesR l)).2.length:=by rw [h2];unfold sizesR;rw [List.length_map]
 have:=parts_flat l _ [] h1 hl
 exact ⟨by simpa using this,parts_full l _ [] h1 hl (fun p hp=>by simp at hp)⟩
end
section
def guessC (cs:List (List Int)):List Rec:=cs.filterMap fun c=>if (getR c).1=0 then some (getR c).2 else none
def guessI (ys:List Int):List Rec:=guessC (chunksGo [] ys)
theorem stuff_full {xs t:List Int} (h:stuff xs=255 :: t):254≤t.length∧∃ o,xs=t.take 254 ++ o:=by
 have hd:=dec_stuff xs
 rw [h,dec] at hd
 split at hd
 ·simp at hd
 ·rename_i hl
  have h1:(255:Int).toNat=255:=rfl
  rw [h1] at hl
  refine ⟨by omega,?_⟩
  obtain ⟨o,_,ho⟩:=Option.map_eq_some_iff.1 hd
  rw [h1] at ho
  exact ⟨_,by rw [← ho,List.append_assoc]⟩
theorem head_none {e s n:Nat} (he:e<256) (hs:s<18446744073709551616) (hn:n<18446744073709551616) (k:Nat):(getR (List.replicate k 255 ++ chunkN (headB e s n))).1 ≠ 0:=by
 have hlen:(chunkN (headB e s n)).length≤32:=by
  have h1:=(headLen_le (e:=e) hs hn).2
  have h2:=(seal_length (headB e s n)).1
  unfold headLen at h1
  omega
 cases k with
 | zero =>
  show (getR (chunkN (headB e s n))).1 ≠ 0
  unfold getR
  rw [open_chunk (headB_octets he)]
  simp only [ne_eq,not_true_eq_false,if_false]
  unfold headB
  rw [readR]
  unfold readKind
  rw [if_pos (by decide)]
  decide
 | succ k =>
  have hoct:Octets (List.replicate (k+1) (255:Int) ++ chunkN (headB e s n)):=by
   intro b hb
   rcases List.mem_append.1 hb with hb|hb
   ·rw [(List.mem_replicate.1 hb).2];decide
   ·exact (chunk_solid (headB_octets he)).octets b hb
  obtain ⟨ys,hys⟩:∃ ys,ys=List.replicate (k+1) (255:Int) ++ chunkN (headB e s n):=⟨_,rfl⟩
  rw [← hys] at hoct ⊢
  unfold getR
  by_cases h0:(openN ys).1=0
  ·rw [if_neg (by rw [h0];simp)]
   obtain ⟨hc,_⟩:=open_only hoct (show openN ys=(0,(openN ys).2) from Prod.ext h0 rfl)
   obtain ⟨b,hb⟩:∃ b,b=(openN ys).2:=⟨_,rfl⟩
   rw [← hb] at hc ⊢
   rw [hys,List.replicate_succ,List.cons_append] at hc
   obtain ⟨h1,o,h2⟩:=stuff_full (show stuff (b ++ sumB b)=255 :: (List.replicate k 255 ++ chunkN (headB e s n)) from hc.symm)
   rw [List.length_append,List.length_replicate] at h1
   obtain ⟨m,rfl⟩:∃ m,k=m+1:=⟨k - 1,by omega⟩
   rw [List.replicate_succ,List.cons_append,List.take_succ_cons,List.cons_append] at h2
   cases b with
   | nil=>decide
   | cons x b =>
    rw [List.cons_append] at h2
    have hx:x=255:=(List.cons.inj h2).1
    subst hx
    rw [readR]
    unfold readKind
    rw [if_pos (by decide)]
    decide
  ·rw [if_pos h0]
   exact h0
theorem chunksGo_sealC {xs:List Int} (h:Octets xs) (cur r:List Int):chunksGo cur (sealN xs ++ r)=(cur ++ chunkN xs) :: chunksGo [] r:=by
 unfold sealN
 rw [List.append_assoc]
 exact chunksGo_solid (chunkN xs) cur r (chunk_solid h)
theorem chunksGo_pad:∀ (k:Nat) (cur r:List Int),chunksGo cur (List.replicate k 255 ++ r)=chunksGo (cur ++ List.replicate k 255) r
 | 0,cur,r=>by simp
 | k+1,cur,r=>by
  rw [List.replicate_succ,List.cons_append,chunksGo,if_neg (by decide),chunksGo_pad k,List.append_assoc]
  rfl
theorem guess_recs:∀ (l:List Rec),(∀ x ∈ l,x.Fine∧checkR x=0)→guessC (l.map (fun x=>chunkN (bodyR x)))=l
 | [],_=>rfl
 | x :: l,h=>by
  obtain ⟨h1,h2⟩:=h x List.mem_cons_self
  have hg:=getR_put h1 h2 (bodyR_octets h1)
  have ih:=guess_recs l (fun y hy=>h y (List.mem_cons_of_mem _ hy))
  unfold guessC at ih ⊢
  rw [List.map_cons,List.filterMap_cons,hg]
  simp only [if_true]
  rw [ih]
theorem guess_app (a b:List (List Int)):guessC (a ++ b)=guessC a ++ guessC b:=List.filterMap_append
theorem guess_bad {c:List Int} (h:(getR c).1 ≠ 0) (cs:List (List Int)):guessC (c :: cs)=guessC cs:=by
 unfold guessC
 rw [List.filterMap_cons,if_neg h]
theorem guess_seg {e s n:Nat} (he:e<256) (hs:s<18446744073709551616) (hn:n<18446744073709551616) {l:List Rec} (h:∀ x ∈ l,x.Fine∧checkR x=0) (b:Bool) (k:Nat) (more:List Int) :
  ∃ K,guessC (chunksGo (List.replicate k 255) (textS e s n l b ++ more))=l ++ guessC (chunksGo (List.replicate K 255) more):=by
 unfold textS framesS outS
 obtain ⟨K,hK⟩:∃ K,K=2 ^ e - (sealN (headB e s n) ++ recsB l ++ (if b=true then footS e s n l else [])).length:=⟨_,rfl⟩
 rw [← hK]
 refine ⟨K,?_⟩
 clear hK
 cases b with
 | false =>
  rw [if_neg (by simp),List.append_nil,List.append_assoc,List.append_assoc,chunksGo_sealC (headB_octets he),chunksGo_recs l _ (fun x hx=>(h x hx).1),chunksGo_pad,guess_bad (head_none he hs hn k),guess_app,guess_recs l h]
  rfl
 | true =>
  rw [if_pos rfl,List.append_assoc,List.append_assoc,List.append_assoc,chunksGo_sealC (headB_octets he),chunksGo_recs l _ (fun x hx=>(h x hx).1)]
  unfold footS
  rw [chunksGo_sealC bodyFt_octets,chunksGo_pad,guess_bad (head_none he hs hn k),guess_app,guess_recs l h,List.nil_append,guess_bad (get_foot _)]
  rfl
theorem guess_segs {e s:Nat} (he:e<256) (hs:s<18446744073709551616) (m:Nat):∀ (ps:List (List Rec)) (i k:Nat),i+ps.length<18446744073709551616→(∀ p ∈ ps,∀ x ∈ p,x.Fine∧checkR x=0) →
  guessC (chunksGo (List.replicate k 255) (segsGo e s m i ps))=ps.flatten
 | [],i,k,_,_=>rfl
 | p :: ps,i,k,hi,h=>by
  rw [segsGo]
  obtain ⟨K,hK⟩:=guess_seg (e:=e) (s:=s) (n:=i) he hs (by simp at hi;omega) (h p List.mem_cons_self) (decide (i+1<m)) k (segsGo e s m (i+1) ps)
  rw [hK,guess_segs he hs m ps (i+1) K (by simp at hi;omega) (fun q hq=>h q (List.mem_cons_of_mem _ hq)),List.flatten_cons]
theorem guess_image {e s:Nat} (he:e<256) (hs:s<4294967296) {l:List Rec} (hl:l.length<4294967296) (hf:∀ x ∈ l,x.Fine∧checkR x=0) (h:(planI e s l).1=0):guessI (encI e s l).2=l:=by
 obtain ⟨h1,h2⟩:=parts_all h
 unfold encI
 rw [if_neg (by rw [h];simp)]
 simp only
 obtain ⟨ps,hps⟩:∃ ps,ps=partsGo [] l (planI e s l).2:=⟨_,rfl⟩
 rw [← hps] at h1 h2 ⊢
 have hlen:∀ (qs:List (List Rec)),(∀ p ∈ qs,p ≠ [])→qs.length≤qs.flatten.length:=by
  intro qs
  induction qs with
  | nil=>intro _;simp
  | cons q qs ih =>
   intro hq
   have:=ih (fun p hp=>hq p (List.mem_cons_of_mem _ hp))
   have:=List.length_pos_iff.2 (hq q List.mem_cons_self)
   rw [List.flatten_cons,List.length_append,List.length_cons]
   omega
 have hn:=hlen ps h2
 rw [h1] at hn
 have:=guess_segs (e:=e) (s:=s) he (by omega) ps.length ps 0 0 (by omega) (fun p hp x hx=>hf x (by rw [← h1];exact List.mem_flatten.2 ⟨p,hp,hx⟩))
 rw [h1] at this
 exact this
end
section
structure PartIn (e s i:Nat) (p:List Rec):Prop where
 room:∃ r:Rm,InRoom r p∧r.e=e∧r.s=s∧r.num=i
 full:0<p.length
theorem PartIn.length {e s i:Nat} {p:List Rec} (h:PartIn e s i p) (b:Bool):(textS e s i p b).length=2 ^ e∧(framesS e s i p b).length≤2 ^ e:=by
 obtain ⟨r,h1,rfl,rfl,rfl⟩:=h.room
 exact ⟨text_length h1 b (fun _=>h.full),frames_fit h1 b (fun _=>h.full)⟩
inductive PartsOk (e s:Nat):List (List Rec)→Rm→Prop
 | start:PartsOk e s [] (emptyP e s 0)
 | more (init:List (List Rec)) (last:List Rec) (r:Rm):InRoom r last→r.e=e→r.s=s→r.num=init.length→0<last.length →
   (∀ i p,init[i]?=some p→PartIn e s i p)→PartsOk e s (init ++ [last]) r
theorem PartsOk.all {e s:Nat} {out:List (List Rec)} {r:Rm} (h:PartsOk e s out r):∀ i p,out[i]?=some p→PartIn e s i p:=by
 cases h with
 | start=>intro i p h;simp at h
 | more init last r h1 h2 h3 h4 h5 h6 =>
  intro i p hp
  by_cases hi:i<init.length
  ·rw [List.getElem?_append_left hi] at hp
   exact h6 i p hp
  ·rw [List.getElem?_append_right (by omega)] at hp
   by_cases he:i - init.length=0
   ·rw [he] at hp
    have hpl:last=p:=by simpa using hp
    subst hpl
    exact ⟨⟨r,h1,h2,h3,by omega⟩,h5⟩
   ·have:i - init.length ≥ ([last]:List (List Rec)).length:=by simp;omega
    rw [List.getElem?_eq_none this] at hp
    simp at hp
theorem parts_step {e s:Nat} (hm:mayC e s=true) {out:List (List Rec)} {st:PSt} (x:Rec) (hy:st.y=0) (h:PartsOk e s out st.r) (hc:out.flatten.length<10000) (h2:(stepP e s st ((recB x).length:Int)).y=0) :
  ∃ k,(stepP e s st ((recB x).length:Int)).out=st.out ++ [k]∧PartsOk e s (putPart out k x) (stepP e s st ((recB x).length:Int)).r:=by
 obtain ⟨m1,m2,m3,m4⟩:=mayC_true.1 hm
 have hmay:∀ k,k<s→mayHead e s k=true:=fun k hk=>mayHead_true.2 ⟨m1,m2,m3,m4,hk⟩
 unfold stepP at h2 ⊢
 rw [if_neg (by rw [hy];simp)] at h2 ⊢
 split at h2
 ·rename_i q2
  rw [if_pos q2]
  split at h2
  ·rename_i q3
   rw [if_pos q3]
   refine ⟨_,rfl,?_⟩
   obtain ⟨y,r,o⟩:=st
   simp only at h q3 ⊢
   cases h with
   | start =>
    have h1:=inRoom_take (inRoom_empty (hmay 0 (by omega))) q3 (by show 0<_;omega)
    show PartsOk e s (putPart [] 0 x) _
    rw [show putPart ([]:List (List Rec)) 0 x=[] ++ [[x]] from putPart_next [] x]
    exact .more [] [x] _ h1 rfl rfl rfl (by simp) (fun i p hp=>by simp at hp)
   | more init last r a1 a2 a3 a4 a5 a6 =>
    have hcl:last.length<10000:=by
     rw [List.flatten_append,List.length_append] at hc
     simp at hc
     omega
    have h1:=inRoom_take a1 q3 (by rw [a1.count];exact hcl)
    rw [show r.num=init.length from a4,putPart_last]
    exact .more init (last ++ [x]) _ h1 a2 a3 a4 (by simp) a6
  ·rename_i q3
   rw [if_neg q3]
   split at h2
   ·exact absurd h2 (by decide)
   ·rename_i q4
    rw [if_neg q4]
    refine ⟨_,rfl,?_⟩
    obtain ⟨y,r,o⟩:=st
    simp only at h q3 q4 ⊢
    cases h with
    | start =>
     exfalso
     exact q3 (fits_empty (by omega) (by omega) (Nat.zero_le _) q2)
    | more init last r a1 a2 a3 a4 a5 a6 =>
     have hk:r.num+1=(init ++ [last]).length:=by simp;omega
     have hall:=(PartsOk.more init last r a1 a2 a3 a4 a5 a6).all
     have hf:=fits_empty (e:=e) (s:=s) (m:=r.num+1) (n:=s - 1) (by omega) (by omega) (by omega) q2
     have h1:=inRoom_take (inRoom_empty (hmay (r.num+1) (by omega))) hf (by show 0<_;omega)
     have hpp:putPart (init ++ [last]) (r.num+1) x=(init ++ [last]) ++ [[x]]:=by rw [hk];exact putPart_next _ x
     rw [hpp]
     exact .more (init ++ [last]) [x] _ h1 rfl rfl hk (by simp) hall
 ·exact absurd h2 (by decide)
theorem fold_parts {e s:Nat} (hm:mayC e s=true):∀ (l:List Rec) (out:List (List Rec)) (st:PSt),st.y=0→PartsOk e s out st.r→out.flatten.length+l.length≤10000→((sizesR l).foldl (stepP e s) st).y=0 →
  ∃ t r,((sizesR l).foldl (stepP e s) st).out=st.out ++ t∧PartsOk e s (partsGo out l t) r
 | [],out,st,_,h,_,_=>⟨[],st.r,by simp [sizesR],h⟩
 | x :: l,out,st,hy,h,hc,h2=>by
  have e1:sizesR (x :: l)=((recB x).length:Int) :: sizesR l:=rfl
  rw [e1,List.foldl_cons] at h2 ⊢
  have hy2:(stepP e s st ((recB x).length:Int)).y=0:=by
   by_cases hq:(stepP e s st ((recB x).length:Int)).y=0
   ·exact hq
   ·rw [foldP_gone _ hq] at h2;exact h2
  obtain ⟨k,hk,hp⟩:=parts_step hm x hy h (by rw [List.length_cons] at hc;omega) hy2
  have hkk:(putPart out k x).flatten.length≤out.flatten.length+1:=by
   unfold putPart
   have hset:∀ (o:List (List Rec)) (j:Nat),(o.set j (o.getD j [] ++ [x])).flatten.length≤o.flatten.length+1:=by
    intro o
    induction o with
    | nil=>intro j;simp
    | cons a o ih =>
     intro j
     cases j with
     | zero =>
      simp only [List.set_cons_zero,List.flatten_cons,List.length_append,List.getD_cons_zero,List.length_cons,List.length_nil]
      omega
     | succ j =>
      have:=ih j
      simp only [List.set_cons_succ,List.flatten_cons,List.length_append,List.getD_cons_succ] at this ⊢
      omega
   split
   ·have:=hset (out ++ [[]]) k
    simp only [List.flatten_append,List.length_append,List.flatten_cons,List.flatten_nil,List.length_nil,Nat.add_zero] at this
    exact this
   ·exact hset out k
  obtain ⟨t,r,ht,hr⟩:=fold_parts hm l (putPart out k x) _ hy2 hp (by rw [List.length_cons] at hc;omega) h2
  exact ⟨k :: t,r,by rw [ht,hk];simp,hr⟩
theorem plan_parts {e s:Nat} {l:List Rec} (h9:l.length≤10000) (h:(planI e s l).1=0):mayC e s=true∧∀ i p,(partsGo [] l (planI e s l).2)[i]?=some p→PartIn e s i p:=by
 unfold planI at h ⊢
 split at h
 ·rename_i hm
  rw [if_pos hm]
  split at h
  ·rename_i hr;exact absurd h hr
  ·rename_i hr
   rw [if_neg hr]
   have hy:(runP e s (sizesR l)).y=0:=by
    unfold planP at h
    rw [if_pos hm] at h
    exact h
   obtain ⟨t,r,ht,hp⟩:=fold_parts hm l [] ⟨0,emptyP e s 0,[]⟩ rfl .start (by simpa using h9) hy
   have ho:(planP e s (sizesR l)).2=t:=by
    unfold planP
    rw [if_pos hm]
    show (runP e s (sizesR l)).out=t
    unfold runP
    rw [ht]
    rfl
   rw [ho]
   exact ⟨hm,hp.all⟩
 ·exact absurd h (by decide)
theorem segs_length {e s:Nat} (m:Nat):∀ (ps:List (List Rec)) (i:Nat),(∀ j p,ps[j]?=some p→PartIn e s (i+j) p)→(segsGo e s m i ps).length=ps.length*2 ^ e
 | [],i,_=>by simp [segsGo]
 | p :: ps,i,h=>by
  have h0:=(h 0 p rfl).length (decide (i+1<m))
  rw [Nat.add_zero] at h0
  rw [segsGo,List.length_append,h0.1,segs_length m ps (i+1) (fun j q hq=>by
   have:=h (j+1) q (by simpa using hq)
   rwa [show i+(j+1)=i+1+j by omega] at this),List.length_cons,Nat.add_mul,Nat.one_mul]
  omega
theorem image_length {e s:Nat} {l:List Rec} (h9:l.length≤10000) (h:(planI e s l).1=0):(encI e s l).2.length=(partsGo [] l (planI e s l).2).length*2 ^ e:=by
 unfold encI
 rw [if_neg (by rw [h];simp)]
 exact segs_length _ _ 0 (fun j p hp=>by rw [Nat.zero_add];exact (plan_parts h9 h).2 j p hp)
end
section
def decI (e s:Nat) (ys:List Int):Int × List Rec :=
 if (countC e s ys.length).2 ≠ 0 then ((countC e s ys.length).2,[])
 else if encI e s (guessI ys)=(0,ys) then (0,guessI ys) else (4,[])
theorem plan_checks {e s:Nat} {l:List Rec} (h:(planI e s l).1=0):∀ r ∈ l,checkR r=0:=by
 unfold planI at h
 split at h
 ·split at h
  ·rename_i hr;exact absurd h hr
  ·rename_i hr
   have hr0:risingR l=0:=by simpa using hr
   unfold risingR at hr0
   split at hr0
   ·rename_i hb;exact absurd hr0 hb
   ·rename_i hb
    exact firstBad_zero.1 (by simpa using hb)
 ·exact absurd h (by decide)
theorem enc_ok {e s:Nat} {l:List Rec}:(encI e s l).1=0 ↔ (planI e s l).1=0:=by
 unfold encI
 by_cases h:(planI e s l).1 ≠ 0
 ·rw [if_pos h]
 ·rw [if_neg h]
  simp only [true_iff]
  simpa using h
theorem parts_few {e s:Nat} {l:List Rec} (h9:l.length≤10000) (h:(planI e s l).1=0):(partsGo [] l (planI e s l).2).length≤s:=by
 obtain ⟨_,hp⟩:=plan_parts h9 h
 obtain ⟨ps,hps⟩:∃ ps,ps=partsGo [] l (planI e s l).2:=⟨_,rfl⟩
 rw [← hps] at hp ⊢
 rcases Nat.eq_zero_or_pos ps.length with h0|h0
 ·omega
 ·obtain ⟨r,h1,h2,h3,h4⟩:=(hp (ps.length - 1) _ (List.getElem?_eq_getElem (by omega))).room
  have:=h1.real.small
  omega
theorem dec_enc {e s:Nat} (he:e<256) (hs:s<4294967296) {l:List Rec} (h9:l.length≤10000) (hf:∀ r ∈ l,r.Fine) (h:(encI e s l).1=0):decI e s (encI e s l).2=(0,l):=by
 have hp:=enc_ok.1 h
 have hc:=plan_checks hp
 have hg:=guess_image he hs (by omega) (fun x hx=>⟨hf x hx,hc x hx⟩) hp
 have hm:=(plan_parts h9 hp).1
 have hle:=image_length h9 hp
 have hfew:=parts_few h9 hp
 have hcount:(countC e s (encI e s l).2.length).2=0:=by
  rw [hle]
  unfold countC
  have hpos:0<2 ^ e:=Nat.two_pow_pos e
  have h1:¬ s*2 ^ e<(partsGo [] l (planI e s l).2).length*2 ^ e:=Nat.not_lt.2 (Nat.mul_le_mul_right _ hfew)
  rw [if_pos hm,if_neg h1,if_pos (Nat.mul_mod_left _ _)]
 unfold decI
 rw [if_neg (by rw [hcount];simp),hg,if_pos (show encI e s l=(0,(encI e s l).2) from Prod.ext h rfl)]
end
section
open Go.RowKit
theorem recB_big {r:Rec} (h:r.Fine) (hc:checkR r=0):r.key.length+r.val.length≤(recB r).length∧10≤(recB r).length:=by
 have ho:=bodyR_octets h
 have hz:=ho.app (sumB_octets (bodyR r))
 have hb:=(unst_octets (xs:=chunkN (bodyR r)) (chunk_solid ho).octets).2
 have hu:unst (chunkN (bodyR r))=(0,bodyR r ++ sumB (bodyR r)):=unst_stuff hz
 rw [hu] at hb
 have hb:(bodyR r).length+8≤(chunkN (bodyR r)).length:=by
  have h2:(bodyR r ++ sumB (bodyR r)).length≤(chunkN (bodyR r)).length:=hb
  rwa [List.length_append,sumB_length] at h2
 have hd:r.del=true→r.val.length=0:=fun hd=>by
  unfold checkR at hc
  split at hc
  ·omega
  ·split at hc
   ·omega
   ·split at hc
    ·omega
    ·rename_i h3
     rcases Nat.eq_zero_or_pos r.val.length with h4|h4
     ·exact h4
     ·exact absurd ⟨hd,h4⟩ h3
 have hl:r.key.length+r.val.length≤(bodyR r).length∧1≤(bodyR r).length:=by
  unfold bodyR textB
  cases hdel:r.del with
  | true =>
   have:=hd hdel
   simp
   omega
  | false =>
   simp
   omega
 unfold recB
 rw [(seal_length _).1]
 omega
theorem recsB_mem:∀ {l:List Rec} {r:Rec},r ∈ l→(recB r).length≤(recsB l).length
 | [],_,h=>by simp at h
 | x :: l,r,h=>by
  have e:recsB (x :: l)=recB x ++ recsB l:=by unfold recsB;rw [List.flatMap_cons]
  rw [e,List.length_append]
  rcases List.mem_cons.1 h with rfl|h
  ·omega
  ·have:=recsB_mem h
   omega
theorem recsB_dear:∀ (l:List Rec),(∀ r ∈ l,r.Fine∧checkR r=0)→l.length*10≤(recsB l).length
 | [],_=>by simp
 | x :: l,h=>by
  have e:recsB (x :: l)=recB x ++ recsB l:=by unfold recsB;rw [List.flatMap_cons]
  have h1:=recsB_dear l (fun r hr=>h r (List.mem_cons_of_mem _ hr))
  have h2:=(recB_big (h x List.mem_cons_self).1 (h x List.mem_cons_self).2).2
  rw [e,List.length_append,List.length_cons]
  omega
structure GuSt (ys:List Int) (i f:Nat) (l:List Rec):Prop where
 le:f≤i∧i≤ys.length
 at_:guessI ys=l ++ guessC (chunksGo ((ys.take i).drop f) (ys.drop i))
 many:(recsB l).length≤f
 fine:∀ r ∈ l,r.Fine∧checkR r=0
theorem GuSt.start (ys:List Int):GuSt ys 0 0 []:=⟨⟨Nat.le_refl _,Nat.zero_le _⟩,by simp [guessI],by simp [recsB],fun r hr=>by simp at hr⟩
theorem GuSt.other {ys:List Int} {i f:Nat} {l:List Rec} (h:GuSt ys i f l) (hi:i<ys.length) (hb:ys.getD i 0 ≠ 0):GuSt ys (i+1) f l:=by
 have hd:=drop_cons_getD ys i hi
 have hle:=h.le
 refine ⟨by omega,?_,h.many,h.fine⟩
 rw [h.at_,hd,chunksGo,if_neg hb,take_one hi,List.drop_append_of_le_length (by rw [List.length_take];omega)]
theorem GuSt.chunk {ys:List Int} {i f:Nat} {l:List Rec} (h:GuSt ys i f l) (hi:i<ys.length) (hb:ys.getD i 0=0) :
  guessI ys=l ++ guessC (((ys.take i).drop f) :: chunksGo [] (ys.drop (i+1))):=by
 have hd:=drop_cons_getD ys i hi
 rw [h.at_,hd,chunksGo,if_pos hb]
theorem GuSt.good {ys:List Int} {i f:Nat} {l:List Rec} (h:GuSt ys i f l) (ho:Octets ys) (hi:i<ys.length) (hb:ys.getD i 0=0) (hg:(getR ((ys.take i).drop f)).1=0) :
  GuSt ys (i+1) (i+1) (l ++ [(getR ((ys.take i).drop f)).2]):=by
 have h1:=h.chunk hi hb
 have hle:=h.le
 have hm:=h.many
 have hoc:Octets ((ys.take i).drop f):=fun b hb=>ho b (List.mem_of_mem_take (List.mem_of_mem_drop hb))
 obtain ⟨g1,g2,g3⟩:=getR_only hoc (r:=(getR ((ys.take i).drop f)).2) (by rw [← hg])
 refine ⟨by omega,?_,?_,fun r hr=>?_⟩
 rotate_left
 ·rw [recsB_snoc,List.length_append]
  have e:(recB (getR ((ys.take i).drop f)).2).length=((ys.take i).drop f).length+1:=by
   unfold recB
   rw [(seal_length _).1,← g3]
  rw [e,List.length_drop,List.length_take]
  omega
 rotate_left
 ·rw [h1,drop_all ys i,List.append_assoc]
  unfold guessC
  rw [List.filterMap_cons,if_pos hg]
  rfl
 ·rcases List.mem_append.1 hr with hr|hr
  ·exact h.fine r hr
  ·obtain rfl:r=_:=by simpa using hr
   exact ⟨g1,g2⟩
theorem GuSt.bad {ys:List Int} {i f:Nat} {l:List Rec} (h:GuSt ys i f l) (hi:i<ys.length) (hb:ys.getD i 0=0) (hg:(getR ((ys.take i).drop f)).1 ≠ 0) :
  GuSt ys (i+1) (i+1) l:=by
 have h1:=h.chunk hi hb
 have hle:=h.le
 have hm:=h.many
 refine ⟨by omega,?_,by omega,h.fine⟩
 rw [h1,drop_all ys i]
 unfold guessC
 rw [List.filterMap_cons,if_neg hg]
theorem GuSt.done {ys:List Int} {i f:Nat} {l:List Rec} (h:GuSt ys i f l) (hi:¬ i<ys.length):l=guessI ys:=by
 have hd:ys.drop i=[]:=List.drop_eq_nil_of_le (by omega)
 rw [h.at_,hd]
 simp [chunksGo,guessC]
theorem guess_fine {ys:List Int} (ho:Octets ys):(∀ r ∈ guessI ys,r.Fine∧checkR r=0∧r.key.length+r.val.length≤ys.length)∧(guessI ys).length*10≤ys.length:=by
 have hgo:∀ i,i≤ys.length→∃ f l,GuSt ys i f l:=by
  intro i
  induction i with
  | zero=>exact fun _=>⟨0,[],GuSt.start ys⟩
  | succ i ih =>
   intro hi
   obtain ⟨f,l,h⟩:=ih (by omega)
   by_cases hb:ys.getD i 0=0
   ·by_cases hg:(getR ((ys.take i).drop f)).1=0
    ·exact ⟨_,_,h.good ho (by omega) hb hg⟩
    ·exact ⟨_,_,h.bad (by omega) hb hg⟩
   ·exact ⟨_,_,h.other (by omega) hb⟩
 obtain ⟨f,l,h⟩:=hgo ys.length (Nat.le_refl _)
 rw [← h.done (Nat.lt_irrefl _)]
 have h1:=h.many
 have h2:=h.le
 have h3:=recsB_dear l h.fine
 refine ⟨fun r hr=>⟨(h.fine r hr).1,(h.fine r hr).2,?_⟩,by omega⟩
 have:=(recB_big (h.fine r hr).1 (h.fine r hr).2).1
 have:=recsB_mem hr
 omega
end
section
open Go.RowKit
def OwnP (w:World) (base:Nat) (u:Value) (n:Nat) (xs:List Value):Prop :=
 xs.length=n∧((u=.slice none 0 0∧n=0) ∨ ∃ g cap cur,u=.slice (some ⟨g,0,none⟩) n cap∧base≤g∧w.heap[g]?=some (.cells cur 5 (0,0))∧n≤cap∧cap≤maxLen∧cap≤cur.size∧cur.toList.take n=xs)
theorem OwnP.ofRow {w:World} {base n:Nat} {u:Value} {xs:List Value} (h:w.ownsRow base 5 1 u n xs):OwnP w base u n xs:=by
 obtain ⟨hl,hn|⟨g,cap,cur,rfl,hg,hh,hc1,hc2,hc3,hc4⟩⟩:=h
 ·exact ⟨by omega,.inl hn⟩
 ·exact ⟨by omega,.inr ⟨g,cap,cur,rfl,hg,hh,hc1,hc2,by omega,by rw [Nat.mul_one] at hc4;exact hc4⟩⟩
theorem OwnP.kept {w w':World} {base n:Nat} {u:Value} {xs:List Value} (h:OwnP w base u n xs) (hb:∀ k,u.ownBlock=some k→w'.heap[k]?=w.heap[k]?):OwnP w' base u n xs:=by
 refine ⟨h.1,?_⟩
 rcases h.2 with hn|⟨g,cap,cur,rfl,hg,hh,rest⟩
 ·exact .inl hn
 ·exact .inr ⟨g,cap,cur,rfl,hg,(hb g rfl).trans hh,rest⟩
theorem OwnP.base {w:World} {b1 b2 n:Nat} {u:Value} {xs:List Value} (h:OwnP w b1 u n xs) (hb:b2≤b1):OwnP w b2 u n xs:=by
 refine ⟨h.1,?_⟩
 rcases h.2 with hn|⟨g,cap,cur,rfl,hg,rest⟩
 ·exact .inl hn
 ·exact .inr ⟨g,cap,cur,rfl,Nat.le_trans hb hg,rest⟩
theorem OwnP.lt {w:World} {base n:Nat} {u:Value} {xs:List Value} (h:OwnP w base u n xs) (k:Nat) (hk:u.ownBlock=some k):base≤k∧k<w.heap.size:=by
 rcases h.2 with ⟨rfl,_⟩|⟨g,cap,cur,rfl,hg,hh,rest⟩
 ·simp [Value.ownBlock] at hk
 ·have:g=k:=by simpa [Value.ownBlock] using hk
  subst this
  exact ⟨hg,lt_of_block hh⟩
theorem OwnP.whole {w:World} {base N:Nat} {u:Value} {ys:List Int} (h:OwnP w base u N (ys.map (Value.int .u8))) (hN:N=ys.length) (h0:0<N) :
  ∃ g d cur,u=.slice (some ⟨g,0,none⟩) N d∧N≤d∧d≤9223372036854775807∧base≤g∧Whole w g 5 cur∧∀ i,i<N→cur[i]?=some (.int .u8 (ys.getD i 0)):=by
 obtain ⟨_,⟨rfl,h1⟩|⟨g,cap,cur,rfl,hg,hh,hc1,hc2,hc3,hc4⟩⟩:=h
 ·omega
 ·unfold maxLen at hc2
  refine ⟨g,cap,cur,rfl,hc1,by omega,hg,hh,fun i hi=>?_⟩
  have e:(cur.toList.take N)[i]?=(ys.map (Value.int .u8))[i]?:=by rw [hc4]
  rw [List.getElem?_take,if_pos (by omega)] at e
  rw [← Array.getElem?_toList,e]
  have:i<ys.length:=by omega
  simp [this]
def OwnB (w:World) (ys:List Int) (u:Value) (w':World):Prop:=OwnP w' w.heap.size u ys.length (ys.map (Value.int .u8))
theorem OwnB.read {w w':World} {ys:List Int} {u:Value} (h:OwnB w ys u w'):∃ q d,u=.slice q ys.length d∧ys.length≤d∧d≤9223372036854775807∧Bytes8 w' q ys∧(q=none→ys.length=0∧d=0)∧(∀ a,q=some a→u.ownBlock=some a.block∧a=⟨a.block,0,none⟩):=by
 obtain ⟨_,⟨rfl,h0⟩|⟨g,cap,cur,rfl,hg,hh,hc1,hc2,hc3,hc4⟩⟩:=h
 ·exact ⟨none,0,by rw [h0],by omega,by decide,fun hx=>by omega,fun _=>⟨h0,rfl⟩,fun a ha=>by simp at ha⟩
 ·unfold maxLen at hc2
  refine ⟨_,cap,rfl,hc1,by omega,fun hx=>⟨_,rfl,fun i hi=>?_⟩,fun h=>by simp at h,fun a ha=>by obtain rfl:=Option.some.inj ha;exact ⟨rfl,rfl⟩⟩
  have hw:Whole w' g 5 cur:=hh
  have hcell:cur[i]?=some (.int .u8 (ys.getD i 0)):=by
   have e:(cur.toList.take ys.length)[i]?=(ys.map (Value.int .u8))[i]?:=by rw [hc4]
   rw [List.getElem?_take,if_pos (by omega)] at e
   rw [← Array.getElem?_toList,e]
   simp [hi]
  rw [addZero]
  exact hw.cell i hcell
abbrev BAt:=World→(Nat→Prop)→Value→Nat→Nat→Nat→List Rec→Prop
structure SgBuild (At:BAt):Prop where
 keep:∀ {w w':World} {F S:Nat→Prop} {v:Value} {e s n:Nat} {l:List Rec},At w F v e s n l→Keeps S w w'→(∀ k,F k→¬ S k)→At w' F v e s n l
 old:∀ {w:World} {F:Nat→Prop} {v:Value} {e s n:Nat} {l:List Rec},At w F v e s n l→∀ k,F k→k<w.heap.size
 ptr:∀ {w:World} {F:Nat→Prop} {v:Value} {e s n:Nat} {l:List Rec},At w F v e s n l→∃ g,v=.pointer (some ⟨g,0,none⟩)
def SgSame (At:BAt) (F:Nat→Prop) (w:World) (v:Value) (e s n:Nat) (l:List Rec) (w':World):Prop :=
 Keeps F w w'∧∃ F':Nat→Prop,(∀ k,F' k→F k ∨ w.heap.size≤k)∧At w' F' v e s n l
def SgGives (At:BAt) (F:Nat→Prop) (w:World) (v:Value) (e s n:Nat) (l:List Rec) (ys:List Int) (u:Value) (w':World):Prop :=
 Keeps F w w'∧OwnB w ys u w'∧∃ F':Nat→Prop,(∀ k,F' k→F k ∨ w.heap.size≤k)∧At w' F' v e s n l∧∀ k,F' k→u.ownBlock ≠ some k
def sgRoom (e s n:Nat) (l:List Rec):Rm:=⟨e,s,n,(outS e s n l).length,l.length⟩
def addE (e s n:Nat) (l:List Rec) (r:Rec):Int :=
 if checkR r ≠ 0 then checkR r else if fitsP (emptyP e s (s - 1)) ((recB r).length:Int)=false then 6 else if fitsP (sgRoom e s n l) ((recB r).length:Int)=false then 7 else 0
def addL (e s n:Nat) (l:List Rec) (r:Rec):List Rec:=if addE e s n l r=0 then l ++ [r] else l
def addAt (e s n:Nat) (l:List Rec) (r:Rec):Nat:=if addE e s n l r=0 then (outS e s n l).length else 0
structure SgNewOk (At:BAt):Prop where
 may:∀ (e s n:Nat) (w:World),e<256→s<4294967296→n<4294967296→mayHead e s n=true →
  Calls Tryz.prog 35 #[confV e s,.int .u32 (n:Int)] w fun r w'=>Keeps NoBlock w w'∧∃ F v,r=.returned (.tuple #[v,.int .i64 0])∧At w' F v e s n []∧∀ k,F k→w.heap.size≤k
 not:∀ (e s n:Nat) (w:World),e<256→s<4294967296→n<4294967296→mayHead e s n=false →
  Calls Tryz.prog 35 #[confV e s,.int .u32 (n:Int)] w fun r w'=>r=.returned (.tuple #[.pointer none,.int .i64 1])∧Keeps NoBlock w w'
structure SgAddOk (At:BAt):Prop where
 add:∀ (F:Nat→Prop) (v:Value) (e s n:Nat) (l:List Rec) (r:Rec) (w:World),At w F v e s n l→InRoom (sgRoom e s n l) l→l.length<1000→(∀ x ∈ l,x.Fine∧checkR x=0)→r.Fine→r.key.length≤100000→r.val.length≤100000 →
  Calls Tryz.prog 36 #[v,recV r] w fun x w'=>x=.returned (.tuple #[.int .u32 (addAt e s n l r:Int),.int .i64 (addE e s n l r)])∧SgSame At F w v e s n (addL e s n l r) w'
structure SgOpenOk (At:BAt):Prop where
 open_:∀ (F:Nat→Prop) (v:Value) (e s n:Nat) (l:List Rec) (w:World),At w F v e s n l→InRoom (sgRoom e s n l) l→l.length<1000→(∀ x ∈ l,x.Fine∧checkR x=0) →
  Calls Tryz.prog 37 #[v] w fun x w'=>∃ u,x=.returned u∧SgGives At F w v e s n l (textS e s n l false) u w'
structure SgSealOk (At:BAt):Prop where
 seals:∀ (F:Nat→Prop) (v:Value) (e s n:Nat) (l:List Rec) (w:World),At w F v e s n l→InRoom (sgRoom e s n l) l→l.length<1000→(∀ x ∈ l,x.Fine∧checkR x=0)→0<l.length →
  Calls Tryz.prog 38 #[v] w fun x w'=>∃ u,x=.returned (.tuple #[u,.int .i64 0])∧SgGives At F w v e s n l (textS e s n l true) u w'
 none:∀ (F:Nat→Prop) (v:Value) (e s n:Nat) (w:World),At w F v e s n []→InRoom (sgRoom e s n []) [] →
  Calls Tryz.prog 38 #[v] w fun x w'=>∃ q d,x=.returned (.tuple #[.slice q 0 d,.int .i64 10])∧SgSame At F w v e s n [] w'
def noView:Value:=.agg #[.slice none 0 0,.slice none 0 0,.int .u32 0,.bool false]
def placesS (e s n:Nat) (l:List Rec):List Nat:=(entsS e s n l).map En.at_
def ViewPost (e s n:Nat) (ys:List Int) (w:World) (r:Ending) (w':World):Prop :=
 (mayHead e s n=false∧r=.returned (.tuple #[noView,.int .i64 1])∧Keeps NoBlock w w') ∨
 (mayHead e s n=true∧parseS e s n ys=none∧r=.returned (.tuple #[noView,.int .i64 4])∧Keeps NoBlock w w') ∨
 (mayHead e s n=true∧∃ l b vr va,parseS e s n ys=some (l,b)∧r=.returned (.tuple #[.agg #[vr,va,.int .u32 ((outS e s n l).length:Int),.bool b],.int .i64 0])∧NewRecs w l vr w'∧NewRow32 w (placesS e s n l) va w'∧∀ k,vr.ownBlock=some k ∨ va.ownBlock=some k→w.heap.size≤k)
structure SgParseOk:Prop where
 parse:∀ (e s n:Nat) (p:Option Addr) (N c:Nat) (ys:List Int) (w:World),In8 w p N c ys→N≤100000→N≤2 ^ e→e<256→s<4294967296→n<4294967296 →
  Calls Tryz.prog 31 #[confV e s,.int .u32 (n:Int),.slice p N c] w (ViewPost e s n ys w)
def smallE (k:Nat):Nat:=12+k % 2
def smallS (k:Nat):Nat:=1+k / 2 % 8
set_option maxHeartbeats 1000000 in
theorem small15_go (k:Nat) (hk:k<256) (w:World):Calls Tryz.prog 8 #[.int .u8 (k:Int)] w fun r w'=>r=.returned (confV (smallE k) (smallS k))∧Keeps NoBlock w w':=by
 have e1:(12:Int)+(k:Int) % 2=((12+k % 2:Nat):Int):=by omega
 have e2:(1:Int)+(k:Int) / 2 % 8=((1+k / 2 % 8:Nat):Int):=by omega
 have E1:=hid e1
 have E2:=hid e2
 clear e1 e2
 have HK:=hid ((Keeps.refl NoBlock w).alloc (.cells #[.int .u8 (smallE k:Int),.int .u32 (smallS k:Int)] 27))
 unfold smallE smallS confV at *
 go_enter Tryz.func8,Tryz.ntmps8
 go_wp2_with fail
 rw [E1.out,E2.out]
 exact bodyPost_ret (v:=.agg #[.int .u8 ((12+k % 2:Nat):Int),.int .u32 ((1+k / 2 % 8:Nat):Int)]) (by simp only [results,Tryz.results8];simp [go_sem]) rfl ⟨rfl,HK.out⟩
theorem sgRoom_nil (e s n:Nat):sgRoom e s n []=emptyP e s n:=by
 unfold sgRoom
 rw [outS_nil]
 rfl
theorem sgRoom_empty {e s n:Nat} (h:mayHead e s n=true):InRoom (sgRoom e s n []) []:=by
 rw [sgRoom_nil]
 exact inRoom_empty h
theorem small_room (k:Nat):12≤smallE k∧smallE k≤13∧1≤smallS k∧smallS k≤8:=by
 unfold smallE smallS
 omega
theorem lives_text:(textS 12 1 0 [] false).length=4096∧(textS 12 1 0 [] false).getD 14 0=0∧(textS 12 1 0 [] false).getD 15 0=255∧(textS 12 1 0 [] false).getD 4095 0=255:=by
 have hm:mayHead 12 1 0=true:=by decide
 have hr:=inRoom_empty hm
 have h1:(textS 12 1 0 [] false).length=4096:=text_length hr false (fun h=>by simp at h)
 have hh:(sealN (headB 12 1 0)).length=15:=by
  have:=headLen_eq 12 1 0 (by decide) (by decide)
  unfold headLen at this
  rw [this]
  decide +kernel
 have hd:textS 12 1 0 [] false=sealN (headB 12 1 0) ++ List.replicate (4096 - 15) 255:=by
  unfold textS framesS
  rw [if_neg (by simp),List.append_nil,outS_nil,hh]
 refine ⟨h1,?_,?_,?_⟩
 ·rw [hd,List.getD_eq_getElem?_getD,List.getElem?_append_left (by omega)]
  have:=(seal_nought (headB_octets (e:=12) (s:=1) (n:=0) (by decide)) (i:=14) (by omega)).1
  rw [hh] at this
  rw [← List.getD_eq_getElem?_getD]
  simpa using this
 ·rw [hd,List.getD_eq_getElem?_getD,List.getElem?_append_right (by omega),hh]
  rfl
 ·rw [hd,List.getD_eq_getElem?_getD,List.getElem?_append_right (by omega),hh]
  rw [List.getElem?_replicate]
  rfl
set_option maxHeartbeats 2000000 in
set_option maxRecDepth 10000 in
theorem lives15_true {At:BAt} (HB:SgBuild At) (HNw:SgNewOk At) (HOp:SgOpenOk At) (w:World):Calls Tryz.prog 32 #[] w fun e w'=>e=.returned (.bool true)∧Keeps NoBlock w w':=by
 have hm:mayHead 12 1 0=true:=by decide
 have HN:=hid (fun w=>HNw.may 12 1 0 w (by decide) (by decide) (by decide) hm)
 have HO:=hid (fun F v w h=>HOp.open_ F v 12 1 0 [] w h (sgRoom_empty hm) (by decide) (fun x hx=>by simp at hx))
 have HPt:=hid (fun F v w h=>HB.ptr (w:=w) (F:=F) (v:=v) (e:=12) (s:=1) (n:=0) (l:=[]) h)
 obtain ⟨t1,t2,t3,t4⟩:=lives_text
 obtain ⟨T,hT⟩:∃ T,T=textS 12 1 0 [] false:=⟨_,rfl⟩
 rw [← hT] at HO t1 t2 t3 t4
 clear hT HB HNw HOp hm
 unfold confV at HN
 go_enter Tryz.func32,Tryz.ntmps32
 go_wp2_with fail
 refine (HN.out _).mono ?_
 rintro e1 w1 ⟨hk,F,v,rfl,hat,hF⟩
 have HK:=hid hk
 have HA:=hid hat
 have HF:=hid hF
 obtain ⟨g,rfl⟩:=HPt.out _ _ _ hat
 clear hk hat hF
 go_wp2_with fail
 refine (HO.out _ _ _ HA.out).mono ?_
 rintro e2 w2 ⟨u,rfl,hk,hown,_⟩
 obtain ⟨q,d,rfl,h1,h2,h8,_,hq⟩:=hown.read
 have HK2:=hid (HK.out.then hk (fun k hk9 hf=>by have:=HF.out k hf;omega))
 obtain ⟨a,rfl,hc⟩:=h8 (by omega)
 have c14:=hc 14 (by omega)
 have c15:=hc 15 (by omega)
 have c95:=hc 4095 (by omega)
 rw [t2] at c14
 rw [t3] at c15
 rw [t4] at c95
 obtain ⟨_,ha⟩:=hq a rfl
 rw [ha] at c14 c15 c95 ⊢
 simp only [Addr.add_lit,Nat.zero_add] at c14 c15 c95
 rw [t1]
 rw [t1] at h1
 clear hk hown h8 hc hq ha HO t1 t2 t3 t4
 go_wp2_with fail
 go_ret
 exact ⟨rfl,HK2.out⟩
end
end Go.Proofs.YtehkjkcnigknkaaGreat

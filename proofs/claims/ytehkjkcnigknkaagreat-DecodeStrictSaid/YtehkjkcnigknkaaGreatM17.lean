/-
  FtLaws; PkLaws; PkPlWalk; PkGrNum; ImNum; DeNum.
-/
import Derived.Test.YtehkjkcnigknkaaGreatM05
import Derived.Test.YtehkjkcnigknkaaGreatM10
import Derived.Test.YtehkjkcnigknkaaGreatM11
import Derived.Test.YtehkjkcnigknkaaGreatM15
import Derived.Test.YtehkjkcnigknkaaGreatM16
namespace Go.Proofs.YtehkjkcnigknkaaGreat
section
open Go.RowKit
def Row32 (w:World) (p:Option Addr) (l:List Nat):Prop:=∀ i,i<l.length→∃ a,p=some a∧w.cell? (a.add i)=some (.int .u32 (l.getD i 0:Nat))
theorem Row32.keep {w w':World} {p:Option Addr} {l:List Nat} (h:Row32 w p l) {S:Nat→Prop} (hk:Keeps S w w') (hs:∀ k,k<w.heap.size→¬ S k):Row32 w' p l:=fun i hi=>by
 obtain ⟨a,rfl,hc⟩:=h i hi
 exact ⟨a,rfl,hk.cell hc (hs _ (ltOfCell hc))⟩
def NewRow32 (w:World) (l:List Nat) (v:Value) (w':World):Prop :=
 ∃ (q:Option Addr) (m d:Nat),v=.slice q m d∧m=l.length∧m≤d∧d≤9223372036854775807∧(q=none→m=0∧d=0)∧Row32 w' q l∧Keeps NoBlock w w'
structure FtPutOk:Prop where
 put:∀ (u:Nat) (q:Option Addr) (n c:Nat) (l:List En) (w:World),u<4294967296→InE w q n c l→n≤10000 →
  Calls Tryz.prog 94 #[ftV u q n c] w fun e w'=>∃ v,e=.returned (.tuple #[v,.int .i64 (checkFt ⟨u,l⟩)])∧NewBytes w (putFt ⟨u,l⟩) v w'
end
section
open Go.RowKit
end
section
open Go.RowKit
theorem InZ.keep {w w':World} {p:Option Addr} {n c:Nat} {zs:List Int} (h:InZ w p n c zs) (hk:Keeps NoBlock w w'):InZ w' p n c zs :=
 ⟨h.len,h.cap,h.room,h.bare,h.fine,h.at_.keep hk (fun _ _ h=>h)⟩
end
section
end
section
def sizesR (l:List Rec):List Int:=l.map fun r=>((recB r).length:Int)
def planI (e s:Nat) (l:List Rec):Int × List Nat :=
 if mayC e s=true then (if risingR l ≠ 0 then (risingR l,[]) else planP e s (sizesR l)) else (1,[])
def putPart (out:List (List Rec)) (k:Nat) (r:Rec):List (List Rec) :=
 if out.length≤k then (out ++ [[]]).set k ((out ++ [[]]).getD k [] ++ [r]) else out.set k (out.getD k [] ++ [r])
def partsGo:List (List Rec)→List Rec→List Nat→List (List Rec)
 | out,r :: l,k :: ks=>partsGo (putPart out k r) l ks
 | out,_,_=>out
def segsGo (e s:Nat) (m:Nat):Nat→List (List Rec)→List Int
 | _,[]=>[]
 | i,p :: ps=>textS e s i p (decide (i+1<m)) ++ segsGo e s m (i+1) ps
def encI (e s:Nat) (l:List Rec):Int × List Int :=
 if (planI e s l).1 ≠ 0 then ((planI e s l).1,[])
 else (0,segsGo e s (partsGo [] l (planI e s l).2).length 0 (partsGo [] l (planI e s l).2))
def Steps:Nat→List Nat→Prop
 | _,[]=>True
 | n,k :: ks=>(k=n∧Steps (n+1) ks) ∨ (k+1=n∧Steps n ks)
theorem putPart_next (out:List (List Rec)) (r:Rec):putPart out out.length r=out ++ [[r]]:=by
 unfold putPart
 rw [if_pos (Nat.le_refl _),List.set_append_right _ _ (Nat.le_refl _),Nat.sub_self,List.getD_eq_getElem?_getD,List.getElem?_append_right (Nat.le_refl _),Nat.sub_self]
 rfl
theorem putPart_last (out:List (List Rec)) (p:List Rec) (r:Rec):putPart (out ++ [p]) out.length r=out ++ [p ++ [r]]:=by
 unfold putPart
 rw [if_neg (by simp),List.set_append_right _ _ (Nat.le_refl _),Nat.sub_self,List.getD_eq_getElem?_getD,List.getElem?_append_right (Nat.le_refl _),Nat.sub_self]
 rfl
theorem parts_flat:∀ (l:List Rec) (ks:List Nat) (out:List (List Rec)),Steps out.length ks→l.length=ks.length →
  (partsGo out l ks).flatten=out.flatten ++ l
 | [],[],out,_,_=>by simp [partsGo]
 | r :: l,k :: ks,out,h,hl=>by
  rw [partsGo]
  rcases h with ⟨rfl,h⟩|⟨hk,h⟩
  ·rw [putPart_next,parts_flat l ks _ (by simpa using h) (by simpa using hl)]
   simp
  ·have hne:out ≠ []:=fun e=>by rw [e] at hk;simp at hk
   have hd:out=out.dropLast ++ [out.getLast hne]:=(List.dropLast_concat_getLast hne).symm
   have hlen:out.dropLast.length=k:=by rw [List.length_dropLast];omega
   obtain ⟨q,hq⟩:∃ q,q=out.dropLast:=⟨_,rfl⟩
   obtain ⟨p,hp⟩:∃ p,p=out.getLast hne:=⟨_,rfl⟩
   rw [← hq,← hp] at hd
   rw [← hq] at hlen
   clear hq hp hne
   subst hd
   subst hlen
   rw [putPart_last,parts_flat l ks _ (by simpa using h) (by simpa using hl)]
   simp
theorem parts_full:∀ (l:List Rec) (ks:List Nat) (out:List (List Rec)),Steps out.length ks→l.length=ks.length→(∀ p ∈ out,p ≠ []) →
  ∀ p ∈ partsGo out l ks,p ≠ []
 | [],[],out,_,_,h0=>by simpa [partsGo] using h0
 | r :: l,k :: ks,out,h,hl,h0=>by
  rw [partsGo]
  rcases h with ⟨rfl,h⟩|⟨hk,h⟩
  ·rw [putPart_next]
   refine parts_full l ks _ (by simpa using h) (by simpa using hl) (fun p hp=>?_)
   rcases List.mem_append.1 hp with hp|hp
   ·exact h0 p hp
   ·rw [List.mem_singleton.1 hp];simp
  ·have hne:out ≠ []:=fun e=>by rw [e] at hk;simp at hk
   have hd:out=out.dropLast ++ [out.getLast hne]:=(List.dropLast_concat_getLast hne).symm
   have hlen:out.dropLast.length=k:=by rw [List.length_dropLast];omega
   obtain ⟨q,hq⟩:∃ q,q=out.dropLast:=⟨_,rfl⟩
   obtain ⟨p,hp⟩:∃ p,p=out.getLast hne:=⟨_,rfl⟩
   rw [← hq,← hp] at hd
   rw [← hq] at hlen
   clear hq hp hne
   subst hd
   subst hlen
   rw [putPart_last]
   refine parts_full l ks _ (by simpa using h) (by simpa using hl) (fun x hx=>?_)
   rcases List.mem_append.1 hx with hx|hx
   ·exact h0 x (List.mem_append_left _ hx)
   ·rw [List.mem_singleton.1 hx];simp
theorem fold_steps {e s:Nat} (hs:s<4294967296) (hs1:1≤s):∀ (zs:List Int) (st:PSt) (n:Nat),st.y=0→(n=st.r.num+1 ∨ (n=0∧st.r=emptyP e s 0))→(zs.foldl (stepP e s) st).y=0 →
  ∃ t,(zs.foldl (stepP e s) st).out=st.out ++ t∧Steps n t
 | [],st,n,_,_,_=>⟨[],by simp,trivial⟩
 | z :: zs,st,n,hy,hn,h=>by
  rw [List.foldl_cons] at h ⊢
  have hy2:(stepP e s st z).y=0:=by
   by_cases hq:(stepP e s st z).y=0
   ·exact hq
   ·rw [foldP_gone zs hq] at h;exact h
  have hcase:∃ k,(stepP e s st z).out=st.out ++ [k]∧(stepP e s st z).r.num=k∧(k=st.r.num ∨ (k=st.r.num+1∧n=st.r.num+1)):=by
   unfold stepP at hy2 ⊢
   rw [if_neg (by rw [hy];simp)] at hy2 ⊢
   split at hy2
   ·rename_i q2
    rw [if_pos q2]
    split at hy2
    ·rename_i q3;rw [if_pos q3];exact ⟨_,rfl,rfl,.inl rfl⟩
    ·rename_i q3
     rw [if_neg q3]
     split at hy2
     ·exact absurd hy2 (by decide)
     ·rename_i q4
      rw [if_neg q4]
      refine ⟨_,rfl,rfl,.inr ⟨rfl,?_⟩⟩
      rcases hn with hn|⟨_,hr⟩
      ·exact hn
      ·exfalso
       refine q3 ?_
       rw [hr]
       exact fits_empty hs (by omega) (Nat.zero_le _) q2
   ·exact absurd hy2 (by decide)
  obtain ⟨k,hk1,hk2,hk3⟩:=hcase
  have hnn:(k=n∧∃ m,m=n+1∧m=(stepP e s st z).r.num+1) ∨ (k+1=n∧n=(stepP e s st z).r.num+1):=by
   rw [hk2]
   rcases hk3 with rfl|⟨h1,h2⟩
   ·rcases hn with hn|⟨h0,hr⟩
    ·exact .inr ⟨hn.symm,hn⟩
    ·have:st.r.num=0:=by rw [hr];rfl
     exact .inl ⟨by omega,n+1,rfl,by omega⟩
   ·exact .inl ⟨by omega,n+1,rfl,by omega⟩
  rcases hnn with ⟨h1,m,h2,h3⟩|⟨h1,h2⟩
  ·obtain ⟨t,ht,hst⟩:=fold_steps hs hs1 zs _ m hy2 (.inl h3) h
   refine ⟨k :: t,by rw [ht,hk1];simp,.inl ⟨h1,by rw [← h2];exact hst⟩⟩
  ·obtain ⟨t,ht,hst⟩:=fold_steps hs hs1 zs _ n hy2 (.inl h2) h
   exact ⟨k :: t,by rw [ht,hk1];simp,.inr ⟨h1,hst⟩⟩
theorem plan_steps {e s:Nat} {zs:List Int} (h:(planP e s zs).1=0):Steps 0 (planP e s zs).2∧(planP e s zs).2.length=zs.length:=by
 unfold planP at h ⊢
 split at h
 ·rename_i hm
  obtain ⟨_,_,m3,m4⟩:=mayC_true.1 hm
  rw [if_pos hm]
  simp only at h ⊢
  obtain ⟨t,ht,hst⟩:=fold_steps (e:=e) (s:=s) (by omega) m3 zs ⟨0,emptyP e s 0,[]⟩ 0 rfl (.inr ⟨rfl,rfl⟩) h
  have:(runP e s zs).out=t:=by unfold runP;rw [ht];rfl
  exact ⟨by rw [this];exact hst,runP_out zs h⟩
 ·exact absurd h (by decide)
theorem parts_all {e s:Nat} {l:List Rec} (h:(planI e s l).1=0):(partsGo [] l (planI e s l).2).flatten=l∧∀ p ∈ partsGo [] l (planI e s l).2,p ≠ []:=by
 have hp:planI e s l=planP e s (sizesR l):=by
  unfold planI at h ⊢
  split at h
  ·rename_i hm
   rw [if_pos hm]
   split at h
   ·rename_i hr;exact absurd h hr
   ·rename_i hr;rw [if_neg hr]
  ·exact absurd h (by decide)
 rw [hp] at h ⊢
 obtain ⟨h1,h2⟩:=plan_steps h
 have hl:l.length=(planP e s (sizesR l)).2.length:=by rw [h2];unfold sizesR;rw [List.length_map]
 have:=parts_flat l _ [] h1 hl
 exact ⟨by simpa using this,parts_full l _ [] h1 hl (fun p hp=>by simp at hp)⟩
end
section
def guessC (cs:List (List Int)):List Rec:=cs.filterMap fun c=>if (getR c).1=0 then some (getR c).2 else none
def guessI (ys:List Int):List Rec:=guessC (chunksGo [] ys)
theorem stuff_full {xs t:List Int} (h:stuff xs=255 :: t):254≤t.length∧∃ o,xs=t.take 254 ++ o:=by
 have hd:=dec_stuff xs
 rw [h,dec] at hd
 split at hd
 ·simp at hd
 ·rename_i hl
  have h1:(255:Int).toNat=255:=rfl
  rw [h1] at hl
  refine ⟨by omega,?_⟩
  obtain ⟨o,_,ho⟩:=Option.map_eq_some_iff.1 hd
  rw [h1] at ho
  exact ⟨_,by rw [← ho,List.append_assoc]⟩
theorem head_none {e s n:Nat} (he:e<256) (hs:s<18446744073709551616) (hn:n<18446744073709551616) (k:Nat):(getR (List.replicate k 255 ++ chunkN (headB e s n))).1 ≠ 0:=by
 have hlen:(chunkN (headB e s n)).length≤32:=by
  have h1:=(headLen_le (e:=e) hs hn).2
  have h2:=(seal_length (headB e s n)).1
  unfold headLen at h1
  omega
 cases k with
 | zero =>
  show (getR (chunkN (headB e s n))).1 ≠ 0
  unfold getR
  rw [open_chunk (headB_octets he)]
  simp only [ne_eq,not_true_eq_false,if_false]
  unfold headB
  rw [readR]
  unfold readKind
  rw [if_pos (by decide)]
  decide
 | succ k =>
  have hoct:Octets (List.replicate (k+1) (255:Int) ++ chunkN (headB e s n)):=by
   intro b hb
   rcases List.mem_append.1 hb with hb|hb
   ·rw [(List.mem_replicate.1 hb).2];decide
   ·exact (chunk_solid (headB_octets he)).octets b hb
  obtain ⟨ys,hys⟩:∃ ys,ys=List.replicate (k+1) (255:Int) ++ chunkN (headB e s n):=⟨_,rfl⟩
  rw [← hys] at hoct ⊢
  unfold getR
  by_cases h0:(openN ys).1=0
  ·rw [if_neg (by rw [h0];simp)]
   obtain ⟨hc,_⟩:=open_only hoct (show openN ys=(0,(openN ys).2) from Prod.ext h0 rfl)
   obtain ⟨b,hb⟩:∃ b,b=(openN ys).2:=⟨_,rfl⟩
   rw [← hb] at hc ⊢
   rw [hys,List.replicate_succ,List.cons_append] at hc
   obtain ⟨h1,o,h2⟩:=stuff_full (show stuff (b ++ sumB b)=255 :: (List.replicate k 255 ++ chunkN (headB e s n)) from hc.symm)
   rw [List.length_append,List.length_replicate] at h1
   obtain ⟨m,rfl⟩:∃ m,k=m+1:=⟨k - 1,by omega⟩
   rw [List.replicate_succ,List.cons_append,List.take_succ_cons,List.cons_append] at h2
   cases b with
   | nil=>decide
   | cons x b =>
    rw [List.cons_append] at h2
    have hx:x=255:=(List.cons.inj h2).1
    subst hx
    rw [readR]
    unfold readKind
    rw [if_pos (by decide)]
    decide
  ·rw [if_pos h0]
   exact h0
theorem chunksGo_sealC {xs:List Int} (h:Octets xs) (cur r:List Int):chunksGo cur (sealN xs ++ r)=(cur ++ chunkN xs) :: chunksGo [] r:=by
 unfold sealN
 rw [List.append_assoc]
 exact chunksGo_solid (chunkN xs) cur r (chunk_solid h)
theorem chunksGo_pad:∀ (k:Nat) (cur r:List Int),chunksGo cur (List.replicate k 255 ++ r)=chunksGo (cur ++ List.replicate k 255) r
 | 0,cur,r=>by simp
 | k+1,cur,r=>by
  rw [List.replicate_succ,List.cons_append,chunksGo,if_neg (by decide),chunksGo_pad k,List.append_assoc]
  rfl
theorem guess_recs:∀ (l:List Rec),(∀ x ∈ l,x.Fine∧checkR x=0)→guessC (l.map (fun x=>chunkN (bodyR x)))=l
 | [],_=>rfl
 | x :: l,h=>by
  obtain ⟨h1,h2⟩:=h x List.mem_cons_self
  have hg:=getR_put h1 h2 (bodyR_octets h1)
  have ih:=guess_recs l (fun y hy=>h y (List.mem_cons_of_mem _ hy))
  unfold guessC at ih ⊢
  rw [List.map_cons,List.filterMap_cons,hg]
  simp only [if_true]
  rw [ih]
theorem guess_app (a b:List (List Int)):guessC (a ++ b)=guessC a ++ guessC b:=List.filterMap_append
theorem guess_bad {c:List Int} (h:(getR c).1 ≠ 0) (cs:List (List Int)):guessC (c :: cs)=guessC cs:=by
 unfold guessC
 rw [List.filterMap_cons,if_neg h]
theorem guess_seg {e s n:Nat} (he:e<256) (hs:s<18446744073709551616) (hn:n<18446744073709551616) {l:List Rec} (h:∀ x ∈ l,x.Fine∧checkR x=0) (b:Bool) (k:Nat) (more:List Int) :
  ∃ K,guessC (chunksGo (List.replicate k 255) (textS e s n l b ++ more))=l ++ guessC (chunksGo (List.replicate K 255) more):=by
 unfold textS framesS outS
 obtain ⟨K,hK⟩:∃ K,K=2 ^ e - (sealN (headB e s n) ++ recsB l ++ (if b=true then footS e s n l else [])).length:=⟨_,rfl⟩
 rw [← hK]
 refine ⟨K,?_⟩
 clear hK
 cases b with
 | false =>
  rw [if_neg (by simp),List.append_nil,List.append_assoc,List.append_assoc,chunksGo_sealC (headB_octets he),chunksGo_recs l _ (fun x hx=>(h x hx).1),chunksGo_pad,guess_bad (head_none he hs hn k),guess_app,guess_recs l h]
  rfl
 | true =>
  rw [if_pos rfl,List.append_assoc,List.append_assoc,List.append_assoc,chunksGo_sealC (headB_octets he),chunksGo_recs l _ (fun x hx=>(h x hx).1)]
  unfold footS
  rw [chunksGo_sealC bodyFt_octets,chunksGo_pad,guess_bad (head_none he hs hn k),guess_app,guess_recs l h,List.nil_append,guess_bad (get_foot _)]
  rfl
theorem guess_segs {e s:Nat} (he:e<256) (hs:s<18446744073709551616) (m:Nat):∀ (ps:List (List Rec)) (i k:Nat),i+ps.length<18446744073709551616→(∀ p ∈ ps,∀ x ∈ p,x.Fine∧checkR x=0) →
  guessC (chunksGo (List.replicate k 255) (segsGo e s m i ps))=ps.flatten
 | [],i,k,_,_=>rfl
 | p :: ps,i,k,hi,h=>by
  rw [segsGo]
  obtain ⟨K,hK⟩:=guess_seg (e:=e) (s:=s) (n:=i) he hs (by simp at hi;omega) (h p List.mem_cons_self) (decide (i+1<m)) k (segsGo e s m (i+1) ps)
  rw [hK,guess_segs he hs m ps (i+1) K (by simp at hi;omega) (fun q hq=>h q (List.mem_cons_of_mem _ hq)),List.flatten_cons]
theorem guess_image {e s:Nat} (he:e<256) (hs:s<4294967296) {l:List Rec} (hl:l.length<4294967296) (hf:∀ x ∈ l,x.Fine∧checkR x=0) (h:(planI e s l).1=0):guessI (encI e s l).2=l:=by
 obtain ⟨h1,h2⟩:=parts_all h
 unfold encI
 rw [if_neg (by rw [h];simp)]
 simp only
 obtain ⟨ps,hps⟩:∃ ps,ps=partsGo [] l (planI e s l).2:=⟨_,rfl⟩
 rw [← hps] at h1 h2 ⊢
 have hlen:∀ (qs:List (List Rec)),(∀ p ∈ qs,p ≠ [])→qs.length≤qs.flatten.length:=by
  intro qs
  induction qs with
  | nil=>intro _;simp
  | cons q qs ih =>
   intro hq
   have:=ih (fun p hp=>hq p (List.mem_cons_of_mem _ hp))
   have:=List.length_pos_iff.2 (hq q List.mem_cons_self)
   rw [List.flatten_cons,List.length_append,List.length_cons]
   omega
 have hn:=hlen ps h2
 rw [h1] at hn
 have:=guess_segs (e:=e) (s:=s) he (by omega) ps.length ps 0 0 (by omega) (fun p hp x hx=>hf x (by rw [← h1];exact List.mem_flatten.2 ⟨p,hp,hx⟩))
 rw [h1] at this
 exact this
end
end Go.Proofs.YtehkjkcnigknkaaGreat

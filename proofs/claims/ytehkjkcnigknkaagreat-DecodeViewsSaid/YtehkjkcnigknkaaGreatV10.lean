/-
  FenGetN; FenGetT; FtNum; PkNum; SgNum; ConfRef2.
-/
import Derived.Test.YtehkjkcnigknkaaGreatV01
import Derived.Test.YtehkjkcnigknkaaGreatV03
import Derived.Test.YtehkjkcnigknkaaGreatV04
import Derived.Test.YtehkjkcnigknkaaGreatV06
import Derived.Test.YtehkjkcnigknkaaGreatV09
namespace Go.Proofs.YtehkjkcnigknkaaGreat
section
open Go.RowKit
theorem NumsSoFar.setOther {w0 wr:World} {l:List Nat} {v:Value} (h:NumsSoFar w0 l v wr) {p:Addr} (hp:v.ownBlock ≠ some p.block) (hb:w0.heap.size≤p.block) (x:Value):NumsSoFar w0 l v (wr.setCell p x) :=
 ⟨ownsRow_setCell_other h.1 hp _,h.2.setCell hb _⟩
end
section
end
section
structure Ft where
 used:Nat
 tab:List En
def Ft.none:Ft:=⟨0,[]⟩
structure Ft.Fine (f:Ft):Prop where
 used:f.used<4294967296
 tab:∀ e ∈ f.tab,e.Fine
def belowFt (f:Ft):Bool:=f.tab.all fun e=>decide (e.at_<f.used)
def checkFt (f:Ft):Int :=
 if f.tab.length<1 then 4 else if 1048576<f.tab.length then 3 else if risesE f.tab=true then (if belowFt f=true then 0 else 4) else 8
def bodyFt (f:Ft):List Int:=4 :: (digits (f.tab.length:Int) 4 ++ (digits (f.used:Int) 4 ++ (textE f.tab ++ textF (ofF f.tab))))
def putFt (f:Ft):List Int:=if checkFt f=0 then sealN (bodyFt f) else []
def bodyLen (n:Nat):Nat:=9+12*n+8*countF (n:Int)
def mostFt (n:Nat):Nat:=sizeN (bodyLen n)
structure GFt where
 y:Int
 f:Ft
theorem checkFt_ok {f:Ft}:checkFt f=0 ↔ 1≤f.tab.length∧f.tab.length≤1048576∧risesE f.tab=true∧belowFt f=true:=by
 unfold checkFt
 constructor
 ·intro h
  split at h
  ·exact absurd h (by decide)
  ·split at h
   ·exact absurd h (by decide)
   ·split at h
    ·split at h
     ·rename_i a b c d
      exact ⟨by omega,by omega,c,d⟩
     ·exact absurd h (by decide)
    ·exact absurd h (by decide)
 ·rintro ⟨a,b,c,d⟩
  rw [if_neg (by omega),if_neg (by omega),if_pos c,if_pos d]
theorem bodyFt_length (f:Ft):(bodyFt f).length=bodyLen f.tab.length:=by
 unfold bodyFt bodyLen countF
 simp only [List.length_cons,List.length_append,digits_length,textE_length,textF_length,ofF_length,Int.toNat_natCast]
 omega
theorem bodyFt_octets {f:Ft}:Octets (bodyFt f):=by
 unfold bodyFt
 intro b hb
 rcases List.mem_cons.1 hb with rfl|hb
 ·decide
 ·exact ((digits_octets _ 4).app ((digits_octets _ 4).app ((textE_octets _).app (textF_octets _)))) b hb
theorem bodyLen_le (n:Nat):bodyLen n≤17+13*n:=by
 unfold bodyLen countF
 rw [Int.toNat_natCast]
 omega
end
section
structure Rm where
 e:Nat
 s:Nat
 num:Nat
 used:Nat
 count:Nat
def Rm.none:Rm:=⟨0,0,0,0,0⟩
def headLen (e s n:Nat):Nat:=(sealN (headB e s n)).length
def emptyP (e s n:Nat):Rm:=⟨e,s,n,headLen e s n,0⟩
def fitsP (r:Rm) (z:Int):Bool:=decide (1≤z) && decide ((r.used:Int)+z+(mostFt (r.count+1):Int)≤((2 ^ r.e:Nat):Int))
def takeP (r:Rm) (z:Int):Rm:=⟨r.e,r.s,r.num,r.used+z.toNat,r.count+1⟩
def leftP (r:Rm):Nat:=2 ^ r.e - (r.used+mostFt (r.count+1))
def largeP (e s:Nat) (z:Int):Bool:=!(mayC e s) || !(fitsP (emptyP e s (s - 1)) z)
structure PSt where
 y:Int
 r:Rm
 out:List Nat
def stepP (e s : Nat) (st : PSt) (z : Int) : PSt :=
  if st.y ≠ 0 then st
  else if fitsP (emptyP e s (s - 1)) z = true then
    (if fitsP st.r z = true then ⟨0, takeP st.r z, st.out ++ [st.r.num]⟩
     else if s ≤ st.r.num + 1 then ⟨7, Rm.none, []⟩
     else ⟨0, takeP (emptyP e s (st.r.num + 1)) z, st.out ++ [st.r.num + 1]⟩)
  else ⟨6, Rm.none, []⟩
def runP (e s:Nat) (zs:List Int):PSt:=zs.foldl (stepP e s) ⟨0,emptyP e s 0,[]⟩
def planP (e s:Nat) (zs:List Int):Int × List Nat:=if mayC e s=true then ((runP e s zs).y,(runP e s zs).out) else (1,[])
structure Rm.Real (r:Rm):Prop where
 may:mayHead r.e r.s r.num=true
 head:headLen r.e r.s r.num+r.count≤r.used
 first:r.count=0→r.used=headLen r.e r.s r.num
 room:r.count ≠ 0→r.used+mostFt r.count≤2 ^ r.e
 few:r.count≤10000
theorem headLen_eq (e s n:Nat) (hs:s<18446744073709551616) (hn:n<18446744073709551616):headLen e s n=13+(vnum s).length+(vnum n).length:=by
 have hb:(headB e s n).length=3+(vnum s).length+(vnum n).length:=by
  unfold headB
  simp only [List.length_cons,List.length_append]
  omega
 have h1:=chunk_long (headB e s n)
 obtain ⟨h2,h3⟩:=seal_length (headB e s n)
 have h4:=headB_length (e:=e) hs hn
 unfold headLen
 have h5:sizeN (headB e s n).length=(headB e s n).length+10:=by
  unfold sizeN mostOf
  rw [if_neg (by omega)]
  omega
 omega
theorem headLen_le {e s n:Nat} (hs:s<18446744073709551616) (hn:n<18446744073709551616):15≤headLen e s n∧headLen e s n≤33:=by
 have h1:=vnum_pos s
 have h2:=vnum_pos n
 have h3:=vnum_ten hs
 have h4:=vnum_ten hn
 rw [headLen_eq e s n hs hn]
 omega
theorem headLen_mono {e s m n:Nat} (hs:s<18446744073709551616) (hn:n<18446744073709551616) (h:m≤n):headLen e s m≤headLen e s n:=by
 have:=vnum_mono h
 rw [headLen_eq e s n hs hn,headLen_eq e s m hs (by omega)]
 omega
theorem mostFt_lin (k:Nat):mostFt k≤40+14*k:=by
 unfold mostFt sizeN mostOf bodyLen countF
 simp only [Int.toNat_natCast]
 rw [if_neg (by omega)]
 omega
theorem mostFt_pos (k:Nat):1≤mostFt k:=by
 unfold mostFt sizeN
 omega
theorem mostFt_mono1 (k:Nat):mostFt k<mostFt (k+1):=by
 unfold mostFt sizeN mostOf bodyLen countF
 simp only [Int.toNat_natCast]
 rw [if_neg (by omega),if_neg (by omega)]
 omega
theorem fitsP_true {r:Rm} {z:Int}:fitsP r z=true ↔ 1≤z∧(r.used:Int)+z+(mostFt (r.count+1):Int)≤((2 ^ r.e:Nat):Int):=by
 unfold fitsP
 rw [Bool.and_eq_true,decide_eq_true_iff,decide_eq_true_iff]
theorem fitsP_left (r:Rm) (z:Int):fitsP r z=true ↔ 1≤z∧z≤(leftP r:Int):=by
 rw [fitsP_true]
 unfold leftP
 obtain ⟨p,hp⟩:∃ p,p=2 ^ r.e:=⟨_,rfl⟩
 rw [← hp]
 omega
theorem real_empty {e s n:Nat} (h:mayHead e s n=true):(emptyP e s n).Real :=
 ⟨h,Nat.le_refl _,fun _=>rfl,fun h=>absurd rfl h,by show 0≤_;omega⟩
theorem real_take {r:Rm} (h:r.Real) {z:Int} (hz:fitsP r z=true) (hc:r.count<10000):(takeP r z).Real:=by
 obtain ⟨h1,h2⟩:=fitsP_true.1 hz
 refine ⟨h.may,?_,fun h0=>?_,fun _=>?_,?_⟩
 ·have:=h.head
  show _+(r.count+1)≤r.used+z.toNat
  show headLen r.e r.s r.num+(r.count+1)≤r.used+z.toNat
  omega
 ·exact absurd h0 (by show ¬ r.count+1=0;omega)
 ·show r.used+z.toNat+mostFt (r.count+1)≤2 ^ r.e
  obtain ⟨p,hp⟩:∃ p,p=2 ^ r.e:=⟨_,rfl⟩
  rw [← hp] at h2 ⊢
  omega
 ·show r.count+1≤10000
  omega
theorem Rm.Real.small {r:Rm} (h:r.Real):r.e≤24∧r.used≤16777216∧r.s≤65536∧r.num<r.s:=by
 obtain ⟨a,b,c,d,f⟩:=mayHead_true.1 h.may
 have:=(two_e b).2
 refine ⟨b,?_,d,f⟩
 by_cases h0:r.count=0
 ·rw [h.first h0]
  have:=(headLen_le (e:=r.e) (s:=r.s) (n:=r.num) (by omega) (by omega)).2
  omega
 ·have:=h.room h0
  omega
theorem fits_empty {e s m n:Nat} (hs:s<4294967296) (hn:n<4294967296) (h:m≤n) {z:Int} (hz:fitsP (emptyP e s n) z=true):fitsP (emptyP e s m) z=true:=by
 have:=headLen_mono (e:=e) (s:=s) (m:=m) (n:=n) (by omega) (by omega) h
 rw [fitsP_true] at hz ⊢
 unfold emptyP at hz ⊢
 simp only at hz ⊢
 omega
theorem stepP_gone {e s:Nat} {st:PSt} (h:st.y ≠ 0) (z:Int):stepP e s st z=st:=if_pos h
theorem foldP_gone {e s:Nat}:∀ (zs:List Int) {st:PSt},st.y ≠ 0→zs.foldl (stepP e s) st=st
 | [],_,_=>rfl
 | z :: zs,st,h=>by rw [List.foldl_cons,stepP_gone h];exact foldP_gone zs h
theorem getI_take {l:List Int} {j:Nat} (hj:j<l.length):l.take (j+1)=l.take j ++ [l.getD j 0]:=by
 rw [List.take_succ_eq_append_getElem hj]
 simp [hj]
theorem runP_step {e s:Nat} {zs:List Int} {j:Nat} (h:j<zs.length):runP e s (zs.take (j+1))=stepP e s (runP e s (zs.take j)) (zs.getD j 0):=by
 unfold runP
 rw [getI_take h,List.foldl_append]
 rfl
theorem runP_gone {e s:Nat} {zs:List Int} {j:Nat} (h:(runP e s (zs.take j)).y ≠ 0):runP e s zs=runP e s (zs.take j):=by
 have e1:zs=zs.take j ++ zs.drop j:=(List.take_append_drop j zs).symm
 show zs.foldl _ _=_
 conv=>lhs;rw [e1,List.foldl_append]
 exact foldP_gone _ h
theorem runP_out {e s:Nat}:∀ (zs:List Int),(runP e s zs).y=0→(runP e s zs).out.length=zs.length:=by
 intro zs
 have:∀ (zs:List Int) (st:PSt),(zs.foldl (stepP e s) st).y=0→(zs.foldl (stepP e s) st).out.length=st.out.length+zs.length:=by
  intro zs
  induction zs with
  | nil=>intro st _;rfl
  | cons z zs ih =>
   intro st h
   rw [List.foldl_cons] at h ⊢
   rw [ih _ h,List.length_cons]
   have hy:(stepP e s st z).y=0:=by
    by_cases hq:(stepP e s st z).y=0
    ·exact hq
    ·rw [foldP_gone zs hq] at h;exact h
   have:(stepP e s st z).out.length=st.out.length+1:=by
    unfold stepP at hy ⊢
    split at hy
    ·contradiction
    ·split at hy
     ·split at hy
      ·simp_all
      ·split at hy
       ·exact absurd hy (by decide)
       ·rename_i q1 q2 q3 q4
        rw [if_neg q1,if_pos q2,if_neg q3,if_neg q4]
        simp
     ·exact absurd hy (by decide)
   omega
 have h0:=this zs ⟨0,emptyP e s 0,[]⟩
 intro h
 have:=h0 h
 simpa [runP] using this
theorem runP_real {e s:Nat} (hm:mayC e s=true) (zs:List Int) (h9:zs.length≤10000) (hy:(runP e s zs).y=0):(runP e s zs).r.Real∧(runP e s zs).r.e=e∧(runP e s zs).r.s=s∧(runP e s zs).r.count≤zs.length:=by
 obtain ⟨m1,m2,m3,m4⟩:=mayC_true.1 hm
 have h0:mayHead e s 0=true:=mayHead_true.2 ⟨m1,m2,m3,m4,by omega⟩
 have:∀ j,j≤zs.length→(runP e s (zs.take j)).y=0→(runP e s (zs.take j)).r.Real∧(runP e s (zs.take j)).r.e=e∧(runP e s (zs.take j)).r.s=s∧(runP e s (zs.take j)).r.count≤j:=by
  intro j
  induction j with
  | zero=>intro _ _;exact ⟨real_empty h0,rfl,rfl,Nat.le_refl _⟩
  | succ j ih =>
   intro hj hy
   rw [runP_step (by omega)] at hy ⊢
   have hy0:(runP e s (zs.take j)).y=0:=by
    by_cases hq:(runP e s (zs.take j)).y=0
    ·exact hq
    ·rw [stepP_gone hq] at hy;exact hy
   obtain ⟨i1,i2,i3,i4⟩:=ih (by omega) hy0
   obtain ⟨st,hst⟩:∃ st,st=runP e s (zs.take j):=⟨_,rfl⟩
   rw [← hst] at hy hy0 i1 i2 i3 i4 ⊢
   unfold stepP at hy ⊢
   rw [if_neg (by rw [hy0];simp)] at hy ⊢
   split at hy
   ·rename_i hf
    rw [if_pos hf]
    split at hy
    ·rename_i hg
     rw [if_pos hg]
     refine ⟨real_take i1 hg (by omega),i2,i3,by show st.r.count+1≤j+1;omega⟩
    ·rename_i hg
     rw [if_neg hg]
     split at hy
     ·exact absurd hy (by decide)
     ·rename_i hn
      rw [if_neg hn]
      have hm2:mayHead e s (st.r.num+1)=true:=mayHead_true.2 ⟨m1,m2,m3,m4,by omega⟩
      refine ⟨real_take (real_empty hm2) (fits_empty (by omega) (by omega) (by omega) hf) (by show 0<_;omega),rfl,rfl,by show 0+1≤j+1;omega⟩
   ·exact absurd hy (by decide)
 have:=this zs.length (Nat.le_refl _)
 rw [List.take_length] at this
 exact this hy
end
section
def recB (r:Rec):List Int:=sealN (bodyR r)
def recsB (l:List Rec):List Int:=l.flatMap recB
def outS (e s n:Nat) (l:List Rec):List Int:=sealN (headB e s n) ++ recsB l
def entsGo:Nat→List Rec→List En
 | _,[]=>[]
 | at_,r :: l=>⟨(wxxh 0 r.key).toNat,at_⟩ :: entsGo (at_+(recB r).length) l
def entsS (e s n:Nat) (l:List Rec):List En:=entsGo (headLen e s n) l
def footS (e s n:Nat) (l:List Rec):List Int:=sealN (bodyFt ⟨(outS e s n l).length,sortE (entsS e s n l)⟩)
def framesS (e s n:Nat) (l:List Rec) (seal_:Bool):List Int:=outS e s n l ++ (if seal_=true then footS e s n l else [])
def textS (e s n:Nat) (l:List Rec) (seal_:Bool):List Int:=framesS e s n l seal_ ++ List.replicate (2 ^ e - (framesS e s n l seal_).length) 255
def chunksGo:List Int→List Int→List (List Int)
 | _,[]=>[]
 | cur,b :: r=>if b=0 then cur :: chunksGo [] r else chunksGo (cur ++ [b]) r
def recsTake:List (List Int)→List Rec
 | []=>[]
 | c :: cs=>if (getR c).1=0 then (getR c).2 :: recsTake cs else []
def scanS (ys:List Int):List Rec:=recsTake ((chunksGo [] ys).drop 1)
def parseS (e s n:Nat) (ys:List Int):Option (List Rec × Bool) :=
 if textS e s n (scanS ys) false=ys then some (scanS ys,false)
 else if 0<(scanS ys).length∧textS e s n (scanS ys) true=ys then some (scanS ys,true) else none
theorem chunksGo_solid:∀ (c cur r:List Int),Solid c→chunksGo cur (c ++ 0 :: r)=(cur ++ c) :: chunksGo [] r
 | [],cur,r,_=>by simp [chunksGo]
 | b :: c,cur,r,h=>by
  have hb:b ≠ 0:=by have:=(h b (List.mem_cons_self)).1;omega
  rw [List.cons_append,chunksGo,if_neg hb,chunksGo_solid c (cur ++ [b]) r (fun x hx=>h x (List.mem_cons_of_mem _ hx)),List.append_assoc]
  rfl
theorem chunksGo_none:∀ (ys cur:List Int),(∀ b ∈ ys,b ≠ 0)→chunksGo cur ys=[]
 | [],_,_=>rfl
 | b :: ys,cur,h=>by
  rw [chunksGo,if_neg (h b List.mem_cons_self)]
  exact chunksGo_none ys _ (fun x hx=>h x (List.mem_cons_of_mem _ hx))
theorem chunksGo_seal {xs:List Int} (h:Octets xs) (r:List Int):chunksGo [] (sealN xs ++ r)=chunkN xs :: chunksGo [] r:=by
 unfold sealN
 rw [List.append_assoc]
 exact chunksGo_solid (chunkN xs) [] r (chunk_solid h)
theorem chunksGo_recs:∀ (l:List Rec) (r:List Int),(∀ x ∈ l,x.Fine)→chunksGo [] (recsB l ++ r)=l.map (fun x=>chunkN (bodyR x)) ++ chunksGo [] r
 | [],r,_=>rfl
 | x :: l,r,h=>by
  have e:recsB (x :: l) ++ r=recB x ++ (recsB l ++ r):=by unfold recsB;rw [List.flatMap_cons,List.append_assoc]
  rw [e]
  unfold recB
  rw [chunksGo_seal (bodyR_octets (h x List.mem_cons_self)),chunksGo_recs l r (fun y hy=>h y (List.mem_cons_of_mem _ hy))]
  rfl
theorem scan_recs:∀ (l:List Rec) (cs:List (List Int)),(∀ x ∈ l,x.Fine∧checkR x=0)→recsTake (l.map (fun x=>chunkN (bodyR x)) ++ cs)=l ++ recsTake cs
 | [],cs,_=>rfl
 | x :: l,cs,h=>by
  obtain ⟨h1,h2⟩:=h x List.mem_cons_self
  have hg:=getR_put h1 h2 (bodyR_octets h1)
  rw [List.map_cons,List.cons_append,recsTake,hg,if_pos rfl,scan_recs l cs (fun y hy=>h y (List.mem_cons_of_mem _ hy))]
  rfl
theorem scan_out {e s n:Nat} (he:e<256) {l:List Rec} (h:∀ x ∈ l,x.Fine∧checkR x=0) (r:List Int):scanS (outS e s n l ++ r)=l ++ recsTake (chunksGo [] r):=by
 unfold scanS outS
 rw [List.append_assoc,chunksGo_seal (headB_octets he),chunksGo_recs l r (fun x hx=>(h x hx).1)]
 exact scan_recs l _ h
theorem read_foot (r:List Int):(readR (4 :: r)).1 ≠ 0:=by
 rw [readR]
 unfold readKind
 rw [if_pos (by decide)]
 decide
theorem get_foot (f:Ft):(getR (chunkN (bodyFt f))).1 ≠ 0:=by
 unfold getR
 rw [open_chunk bodyFt_octets]
 simp only [ne_eq,not_true_eq_false,if_false]
 unfold bodyFt
 exact read_foot _
theorem rest_none (k:Nat):chunksGo [] (List.replicate k (255:Int))=[]:=chunksGo_none _ _ (fun b hb=>by rw [(List.mem_replicate.1 hb).2];decide)
theorem scan_text {e s n:Nat} (he:e<256) {l:List Rec} (h:∀ x ∈ l,x.Fine∧checkR x=0) (b:Bool):scanS (textS e s n l b)=l:=by
 unfold textS framesS
 cases b with
 | false =>
  rw [if_neg (by simp),List.append_nil,scan_out he h,rest_none]
  simp [recsTake]
 | true =>
  rw [if_pos rfl,List.append_assoc,scan_out he h]
  unfold footS
  rw [chunksGo_seal bodyFt_octets,rest_none,recsTake,if_neg (get_foot _),List.append_nil]
theorem text_sealed {e s n:Nat} (he:e<256) {l:List Rec} (h:∀ x ∈ l,x.Fine):textS e s n l false ≠ textS e s n l true:=fun hh=>by
 have h1:=congrArg (fun ys=>(chunksGo [] ys).length) hh
 unfold textS framesS outS at h1
 rw [if_neg (by simp),if_pos rfl,List.append_nil,List.append_assoc,List.append_assoc,List.append_assoc,chunksGo_seal (headB_octets he),chunksGo_seal (headB_octets he),chunksGo_recs l _ h,chunksGo_recs l _ h] at h1
 unfold footS at h1
 rw [chunksGo_seal bodyFt_octets,rest_none,rest_none] at h1
 simp at h1
theorem parse_text {e s n:Nat} (he:e<256) {l:List Rec} (h:∀ x ∈ l,x.Fine∧checkR x=0) (b:Bool) (hb:b=true→0<l.length):parseS e s n (textS e s n l b)=some (l,b):=by
 unfold parseS
 rw [scan_text he h b]
 cases b with
 | false=>rw [if_pos rfl]
 | true=>rw [if_neg (text_sealed he (fun x hx=>(h x hx).1)),if_pos ⟨hb rfl,rfl⟩]
theorem parse_only {e s n:Nat} {ys:List Int} {l:List Rec} {b:Bool} (h:parseS e s n ys=some (l,b)):textS e s n l b=ys∧(b=true→0<l.length):=by
 unfold parseS at h
 split at h
 ·rename_i h1
  obtain ⟨rfl,rfl⟩:=Prod.mk.inj (Option.some.inj h)
  exact ⟨h1,fun h=>by simp at h⟩
 ·split at h
  ·rename_i h1 h2
   obtain ⟨rfl,rfl⟩:=Prod.mk.inj (Option.some.inj h)
   exact ⟨h2.2,fun _=>h2.1⟩
  ·simp at h
theorem text_head {e s n:Nat} (l:List Rec) (b:Bool):∃ r,textS e s n l b=sealN (headB e s n) ++ r:=by
 unfold textS framesS outS
 exact ⟨_,by rw [List.append_assoc,List.append_assoc,List.append_assoc]⟩
end
section
open Go.RowKit
def countC (e s n:Nat):Nat × Int:=if mayC e s=true then (if s*2 ^ e<n then (0,7) else if n % 2 ^ e=0 then (n / 2 ^ e,0) else (0,4)) else (0,1)
theorem whole_parts {q n:Nat} (hq:1≤q):∃ k m:Nat,n / q=k∧m=k*q∧m≤n∧n<m+q∧(n % q=0 ↔ m=n)∧∀ s,(s*q<n ↔ s<k ∨ s=k∧m<n):=by
 have h:=Nat.div_add_mod n q
 have hr:=Nat.mod_lt n (show 0<q by omega)
 have hc:q*(n / q)=n / q*q:=Nat.mul_comm _ _
 refine ⟨n / q,n / q*q,rfl,rfl,by omega,by omega,by omega,fun s=>?_⟩
 rcases Nat.lt_trichotomy s (n / q) with hs|hs|hs
 ·have:(s+1)*q≤n / q*q:=Nat.mul_le_mul_right q hs
  rw [Nat.succ_mul] at this
  constructor
  ·intro _;exact .inl hs
  ·intro _;omega
 ·rw [hs]
  constructor
  ·intro h;exact .inr ⟨rfl,h⟩
  ·rintro (h|⟨_,h⟩)
   ·omega
   ·exact h
 ·have:(n / q+1)*q≤s*q:=Nat.mul_le_mul_right q hs
  rw [Nat.succ_mul] at this
  constructor
  ·intro h;omega
  ·rintro (h|⟨h,_⟩) <;> omega
end
end Go.Proofs.YtehkjkcnigknkaaGreat

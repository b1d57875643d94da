/-
  DeViNum; SgRoom; CobsRef; CobsRef2; RecRef2; In8.
-/
import Derived.Deep.RegionHeld3
import Derived.Lib.Hide
import Derived.Test.YtehkjkcnigknkaaGreatV01
import Derived.Test.YtehkjkcnigknkaaGreatV02
import Derived.Test.YtehkjkcnigknkaaGreatV04
import Derived.Test.YtehkjkcnigknkaaGreatV07
import Derived.Test.YtehkjkcnigknkaaGreatV10
namespace Go.Proofs.YtehkjkcnigknkaaGreat
open Lib (hid)
section
def pieceS (e i:Nat) (ys:List Int):List Int:=(ys.drop (i*2 ^ e)).take (2 ^ e)
def viewsTo (e s:Nat) (ys:List Int):Nat→Option (List (List Rec × Bool))
 | 0=>some []
 | k+1=>(viewsTo e s ys k).bind fun l=>(parseS e s k (pieceS e k ys)).map fun x=>l ++ [x]
def viewsI (e s:Nat) (ys:List Int):Int × List (List Rec × Bool) :=
 if (countC e s ys.length).2 ≠ 0 then ((countC e s ys.length).2,[]) else
  match viewsTo e s ys (countC e s ys.length).1 with
  | some l=>(0,l)
  | none=>(4,[])
def textsTo (e s:Nat) (f:Nat→List Rec) (b:Nat→Bool):Nat→List Int
 | 0=>[]
 | k+1=>textsTo e s f b k ++ textS e s k (f k) (b k)
variable {e s:Nat} {f:Nat→List Rec} {b:Nat→Bool}
theorem texts_length:∀ k,(∀ i,i<k→(textS e s i (f i) (b i)).length=2 ^ e)→(textsTo e s f b k).length=k*2 ^ e
 | 0,_=>by simp [textsTo]
 | k+1,h=>by
  have:=texts_length k (fun i hi=>h i (by omega))
  rw [textsTo,List.length_append,this,h k (by omega),Nat.succ_mul]
theorem texts_piece:∀ (k i:Nat),(∀ j,j<k→(textS e s j (f j) (b j)).length=2 ^ e)→i<k→pieceS e i (textsTo e s f b k)=textS e s i (f i) (b i)
 | 0,_,_,hi=>by omega
 | k+1,i,h,hi=>by
  have hl:=texts_length (s:=s) (f:=f) (b:=b) k (fun j hj=>h j (by omega))
  unfold pieceS
  rw [textsTo]
  by_cases hik:i<k
  ·have ih:=texts_piece k i (fun j hj=>h j (by omega)) hik
   unfold pieceS at ih
   have h1:(i+1)*2 ^ e≤k*2 ^ e:=Nat.mul_le_mul_right _ (by omega)
   rw [Nat.succ_mul] at h1
   have h2:i*2 ^ e≤k*2 ^ e:=Nat.mul_le_mul_right _ (by omega)
   rw [List.drop_append_of_le_length (by rw [hl];exact h2),List.take_append_of_le_length (by rw [List.length_drop,hl];exact Nat.le_sub_of_add_le (by rw [Nat.add_comm];exact h1))]
   exact ih
  ·obtain rfl:i=k:=by omega
   rw [← hl,List.drop_left,← h i (by omega),List.take_length]
theorem views_texts {m:Nat} (he:e<256) (hl:∀ i,i<m→(textS e s i (f i) (b i)).length=2 ^ e) (hf:∀ i,i<m→∀ x ∈ f i,x.Fine∧checkR x=0) (hb:∀ i,i<m→b i=true→0<(f i).length) :
  ∀ k,k≤m→viewsTo e s (textsTo e s f b m) k=some ((List.range k).map fun i=>(f i,b i))
 | 0,_=>rfl
 | k+1,hk=>by
  rw [viewsTo,views_texts he hl hf hb k (by omega),texts_piece m k hl (by omega),parse_text he (hf k (by omega)) (b k) (hb k (by omega)),List.range_succ,List.map_append]
  rfl
theorem count_texts {m:Nat} (hm:mayC e s=true) (hms:m≤s) {n:Nat} (hn:n=m*2 ^ e):countC e s n=(m,0):=by
 have hp:0<2 ^ e:=Nat.two_pow_pos e
 have h1:m*2 ^ e≤s*2 ^ e:=Nat.mul_le_mul_right _ hms
 unfold countC
 rw [if_pos hm,if_neg (by omega),hn,if_pos (Nat.mul_mod_left _ _),Nat.mul_div_cancel _ hp]
theorem viewsI_texts {m:Nat} (he:e<256) (hm:mayC e s=true) (hms:m≤s) (hl:∀ i,i<m→(textS e s i (f i) (b i)).length=2 ^ e) (hf:∀ i,i<m→∀ x ∈ f i,x.Fine∧checkR x=0) (hb:∀ i,i<m→b i=true→0<(f i).length) :
  viewsI e s (textsTo e s f b m)=(0,(List.range m).map fun i=>(f i,b i)):=by
 unfold viewsI
 rw [count_texts hm hms (texts_length m hl),if_neg (by simp)]
 simp only
 rw [views_texts he hl hf hb m (Nat.le_refl _)]
theorem views_none {ys:List Int} {j:Nat} (h:parseS e s j (pieceS e j ys)=none):∀ k,j<k→viewsTo e s ys k=none
 | 0,hk=>by omega
 | k+1,hk=>by
  rw [viewsTo]
  by_cases hj:j=k
  ·subst hj
   rw [h]
   cases viewsTo e s ys j <;> rfl
  ·rw [views_none h k (by omega)]
   rfl
theorem head_first (e s n:Nat):∃ x t,sealN (headB e s n)=x :: t:=by
 cases h:sealN (headB e s n) with
 | nil=>exact absurd (congrArg List.length h) (by rw [(seal_length _).1];simp)
 | cons x t=>exact ⟨x,t,rfl⟩
theorem parse_spoilt {n:Nat} {l:List Rec} {c:Bool} {x:Int} (hx:(textS e s n l c)[0]? ≠ some x):parseS e s n ((textS e s n l c).set 0 x)=none:=by
 cases h:parseS e s n ((textS e s n l c).set 0 x) with
 | none=>rfl
 | some y =>
  obtain ⟨l',c'⟩:=y
  obtain ⟨ht,_⟩:=parse_only h
  obtain ⟨r1,h1⟩:=text_head (e:=e) (s:=s) (n:=n) l c
  obtain ⟨r2,h2⟩:=text_head (e:=e) (s:=s) (n:=n) l' c'
  obtain ⟨z,t,hz⟩:=head_first e s n
  rw [h2,h1,hz] at ht
  rw [h1,hz] at hx
  simp at ht hx
  exact absurd ht.1 hx
theorem piece_set {ys:List Int} {j:Nat} {x:Int}:pieceS e j (ys.set (j*2 ^ e) x)=(pieceS e j ys).set 0 x:=by
 unfold pieceS
 rw [List.drop_set,if_neg (by omega),Nat.sub_self,List.take_set]
theorem viewsI_spoilt {m j:Nat} {x:Int} (hm:mayC e s=true) (hms:m≤s) (hl:∀ i,i<m→(textS e s i (f i) (b i)).length=2 ^ e) (hj:j<m)
  (hx:(textsTo e s f b m)[j*2 ^ e]? ≠ some x):viewsI e s ((textsTo e s f b m).set (j*2 ^ e) x)=(4,[]):=by
 have hp:=texts_piece (s:=s) (f:=f) (b:=b) m j hl hj
 have h0:(textS e s j (f j) (b j))[0]? ≠ some x:=by
  rw [← hp]
  unfold pieceS
  rw [List.getElem?_take,if_pos (Nat.two_pow_pos e),List.getElem?_drop,Nat.add_zero]
  exact hx
 unfold viewsI
 rw [List.length_set,count_texts hm hms (texts_length m hl),if_neg (by simp)]
 simp only
 rw [views_none (j:=j) (by rw [piece_set,hp];exact parse_spoilt h0) m hj]
end
section
theorem entsGo_length:∀ (l:List Rec) (k:Nat),(entsGo k l).length=l.length
 | [],_=>rfl
 | r :: l,k=>by rw [entsGo,List.length_cons,entsGo_length l];rfl
theorem mostFt_le {m n:Nat} (h:m≤n):mostFt m≤mostFt n:=by
 induction h with
 | refl=>exact Nat.le_refl _
 | step _ ih=>exact Nat.le_trans ih (Nat.le_of_lt (mostFt_mono1 _))
theorem foot_most (e s n:Nat) (l:List Rec):(footS e s n l).length≤mostFt l.length:=by
 unfold footS
 have h1:=(seal_length (bodyFt ⟨(outS e s n l).length,sortE (entsS e s n l)⟩)).2
 rw [bodyFt_length] at h1
 have h2:=sortE_len (entsS e s n l)
 have h3:(entsS e s n l).length=l.length:=entsGo_length l _
 exact Nat.le_trans h1 (mostFt_le (show (sortE (entsS e s n l)).length≤l.length by omega))
theorem outS_snoc (e s n:Nat) (l:List Rec) (r:Rec):outS e s n (l ++ [r])=outS e s n l ++ recB r:=by
 unfold outS recsB
 rw [List.flatMap_append,List.append_assoc]
 simp
theorem outS_nil (e s n:Nat):outS e s n []=sealN (headB e s n):=by
 unfold outS recsB
 simp
theorem recB_pos (r:Rec):1≤(recB r).length:=by
 unfold recB
 rw [(seal_length _).1]
 omega
structure InRoom (r:Rm) (l:List Rec):Prop where
 real:r.Real
 used:r.used=(outS r.e r.s r.num l).length
 count:r.count=l.length
theorem inRoom_empty {e s n:Nat} (h:mayHead e s n=true):InRoom (emptyP e s n) [] :=
 ⟨real_empty h,by rw [outS_nil];rfl,rfl⟩
theorem inRoom_take {r:Rm} {l:List Rec} (h:InRoom r l) {x:Rec} (hf:fitsP r ((recB x).length:Int)=true) (hc:r.count<10000):InRoom (takeP r ((recB x).length:Int)) (l ++ [x]):=by
 refine ⟨real_take h.real hf hc,?_,?_⟩
 ·show r.used+((recB x).length:Int).toNat=(outS r.e r.s r.num (l ++ [x])).length
  rw [outS_snoc,List.length_append,h.used,Int.toNat_natCast]
 ·show r.count+1=(l ++ [x]).length
  rw [h.count,List.length_append]
  rfl
theorem frames_fit {r:Rm} {l:List Rec} (h:InRoom r l) (b:Bool) (hb:b=true→0<l.length):(framesS r.e r.s r.num l b).length≤2 ^ r.e:=by
 obtain ⟨a1,a2,_,_,_⟩:=mayHead_true.1 h.real.may
 have hsm:=h.real.small
 unfold framesS
 by_cases h0:r.count=0
 ·have hl:l=[]:=List.length_eq_zero_iff.1 (by rw [← h.count];exact h0)
  have hbf:b=false:=by
   cases b with
   | false=>rfl
   | true=>have:=hb rfl;rw [hl] at this;simp at this
  subst hbf
  rw [if_neg (by simp),List.append_nil,← h.used,h.real.first h0]
  have h1:=(headLen_le (e:=r.e) (s:=r.s) (n:=r.num) (by omega) (by omega)).2
  have h2:=Nat.pow_le_pow_right (n:=2) (by decide) a1
  omega
 ·have h1:=h.real.room h0
  have h2:=foot_most r.e r.s r.num l
  rw [h.count] at h1
  rw [List.length_append,← h.used]
  cases b with
  | false=>rw [if_neg (by simp)];simp;omega
  | true=>rw [if_pos rfl];omega
theorem text_length {r:Rm} {l:List Rec} (h:InRoom r l) (b:Bool) (hb:b=true→0<l.length):(textS r.e r.s r.num l b).length=2 ^ r.e:=by
 have:=frames_fit h b hb
 unfold textS
 rw [List.length_append,List.length_replicate]
 omega
end
section
open Go.RowKit
def StuffAt (xs:List Int) (k:Nat) (O N:List Int):Prop :=
 (k≤xs.length→∃ F:Bool,O ++ stuffGo N F (xs.drop k)=stuff xs∧N.length<254∧(F=true ↔ (N=[]∧0<k∧xs.getD (k - 1) 0 ≠ 0)))∧(k=xs.length+1→O=stuff xs∧N=[])
theorem StuffAt.start (xs:List Int):StuffAt xs 0 [] [] :=
 ⟨fun _=>⟨false,rfl,by decide,by simp⟩,fun h=>by omega⟩
theorem drop_cons_getD (xs:List Int) (k:Nat) (h:k<xs.length):xs.drop k=xs.getD k 0 :: xs.drop (k+1):=by
 rw [List.drop_eq_getElem_cons h]
 simp [h]
theorem StuffAt.nought {xs:List Int} {k:Nat} {O N:List Int} (h:StuffAt xs k O N) (hk:k<xs.length) (h0:xs.getD k 0=0):StuffAt xs (k+1) (O ++ ((N.length+1:Nat):Int) :: N) []:=by
 obtain ⟨F,h1,h2,h3⟩:=h.1 (by omega)
 refine ⟨fun _=>⟨false,?_,by decide,?_⟩,fun h=>by omega⟩
 ·rw [← h1,drop_cons_getD xs k hk,stuffGo,if_pos h0,List.append_assoc]
 ·rw [Nat.add_sub_cancel,h0];simp
theorem StuffAt.other {xs:List Int} {k:Nat} {O N:List Int} (h:StuffAt xs k O N) (hk:k<xs.length) (h0:xs.getD k 0 ≠ 0) (hl:N.length+1 ≠ 254):StuffAt xs (k+1) O (N ++ [xs.getD k 0]):=by
 obtain ⟨F,h1,h2,h3⟩:=h.1 (by omega)
 refine ⟨fun _=>⟨false,?_,by simp;omega,by simp⟩,fun h=>by omega⟩
 rw [← h1,drop_cons_getD xs k hk,stuffGo,if_neg h0,if_neg hl]
theorem StuffAt.whole {xs:List Int} {k:Nat} {O N:List Int} (h:StuffAt xs k O N) (hk:k<xs.length) (h0:xs.getD k 0 ≠ 0) (hl:N.length+1=254):StuffAt xs (k+1) (O ++ 255 :: (N ++ [xs.getD k 0])) []:=by
 obtain ⟨F,h1,h2,h3⟩:=h.1 (by omega)
 refine ⟨fun _=>⟨true,?_,by decide,?_⟩,fun h=>by omega⟩
 ·rw [← h1,drop_cons_getD xs k hk,stuffGo,if_neg h0,if_pos hl,List.append_assoc]
 ·rw [Nat.add_sub_cancel];simpa using h0
theorem StuffAt.atEnd {xs:List Int} {O N:List Int} (h:StuffAt xs xs.length O N) (he:¬ (N=[]∧0<xs.length∧xs.getD (xs.length - 1) 0 ≠ 0)):StuffAt xs (xs.length+1) (O ++ ((N.length+1:Nat):Int) :: N) []:=by
 obtain ⟨F,h1,h2,h3⟩:=h.1 (Nat.le_refl _)
 refine ⟨fun h=>by omega,fun _=>⟨?_,rfl⟩⟩
 have hF:F=false:=by
  cases F with
  | false=>rfl
  | true=>exact absurd (h3.1 rfl) he
 rw [← h1,List.drop_length,hF,stuffGo,if_neg (by simp)]
theorem StuffAt.atBreak {xs:List Int} {O:List Int} (h:StuffAt xs xs.length O []) (he:0<xs.length∧xs.getD (xs.length - 1) 0 ≠ 0):O=stuff xs:=by
 obtain ⟨F,h1,h2,h3⟩:=h.1 (Nat.le_refl _)
 rw [List.drop_length,h3.2 ⟨rfl,he⟩,stuffGo,if_pos rfl,List.append_nil] at h1
 exact h1
theorem StuffAt.bound {xs:List Int} {k:Nat} {O N:List Int} (h:StuffAt xs k O N) (hk:k≤xs.length+1):O.length≤mostOf xs.length∧N.length<254:=by
 have hm:=stuff_most xs
 by_cases hke:k=xs.length+1
 ·obtain ⟨h1,h2⟩:=h.2 hke
  rw [h1,h2]
  exact ⟨hm,by decide⟩
 ·obtain ⟨F,h1,h2,_⟩:=h.1 (by omega)
  rw [← h1,List.length_append] at hm
  exact ⟨by omega,h2⟩
theorem StuffAt.atEnd' {xs:List Int} {O N:List Int} {k:Nat} (h:StuffAt xs k O N) (hk:k=xs.length) (he:¬ (N=[]∧0<k∧xs.getD (k - 1) 0 ≠ 0)):StuffAt xs (k+1) (O ++ ((N.length+1:Nat):Int) :: N) []:=by
 subst hk;exact h.atEnd he
theorem StuffAt.atBreak' {xs:List Int} {O:List Int} {k:Nat} (h:StuffAt xs k O []) (hk:k=xs.length) (he:0<k∧xs.getD (k - 1) 0 ≠ 0):O=stuff xs:=by
 subst hk;exact h.atBreak he
theorem str_empty (xs:List Int):(strOfNums xs).toList.isEmpty=xs.isEmpty:=by
 have h:(strOfNums xs).toList=(strOfNums xs).data.toList:=ByteArray.toList_eq _
 rw [h]
 unfold strOfNums
 cases xs <;> simp
theorem mostOf_le (n:Nat):mostOf n≤2*n+1:=by
 unfold mostOf
 split <;> omega
set_option maxHeartbeats 2000000 in
set_option maxRecDepth 10000 in
theorem stuff_ref (xs:List Int) (ho:Octets xs) (hl:xs.length≤140737488355328) (w:World) :
  Calls Tryz.prog 77 #[.string (strOfNums xs)] w fun e w'=>e=.returned (.string (strOfNums (stuff xs)))∧Keeps NoBlock w w':=by
 have HO1:Hid (Octets (xs ++ [0])):=hid (fun b hb=>(List.mem_append.1 hb).elim (ho b) (fun h=>by rw [List.mem_singleton.1 h];omega))
 have HO:=hid ho
 have hss:(strOfNums xs).size=xs.length:=str_size xs
 have hall:strOfNums xs ++ (ByteArray.mk #[0])=strOfNums (xs ++ [0]):=str_append xs [0]
 have hsa:(strOfNums (xs ++ [0])).size=xs.length+1:=by rw [str_size];simp
 have HMo:=hid (mostOf_le xs.length)
 obtain ⟨n,hn⟩:∃ n,n=xs.length:=⟨_,rfl⟩
 have HN:=hid hn
 rw [← hn] at hl hss hsa HMo
 clear ho hn
 go_enter Tryz.func77,Tryz.ntmps77
 go_wp2_with fail
 go_loopw [4,5,6] (fun s4 s5 i wr=>∃ (k:Nat) (O N:List Int),k≤n+1∧i=.int .i64 (k:Int)∧s4=.string (strOfNums O)∧s5=.string (strOfNums N)∧StuffAt xs k O N∧Keeps NoBlock w wr) (fun _ _ i _=>n+1 - (intOf i).toNat)
 case atStart=>exact ⟨0,[],[],Nat.zero_le _,rfl,rfl,rfl,StuffAt.start xs,Keeps.refl _ _⟩
 case round =>
  obtain ⟨k,O,N,hk,rfl,rfl,rfl,hst,hkk⟩:=hrel
  have HK:=hid hkk
  have HST:=hid hst
  obtain ⟨hOl,hNl⟩:=hst.bound (by have:=HN.out;omega)
  rw [← HN.out] at hOl
  have hsO:(strOfNums O).size=O.length:=str_size O
  have hsN:(strOfNums N).size=N.length:=str_size N
  have hOb:O.length≤281474976710657:=by have:=HMo.out;omega
  clear hst hkk hOl
  by_cases hlt:k<n+1
  ·have hdk:decide ((k:Int)<(n:Int)+1)=true:=decide_eq_true (by omega)
   have hsg:=str_get (xs ++ [0]) HO1.out k (by omega)
   by_cases hkn:k<n
   ·have hgx:(xs ++ [0]).getD k 0=xs.getD k 0:=by
     have:=HN.out
     simp [List.getD,List.getElem?_append_left (show k<xs.length by omega)]
    rw [hgx] at hsg
    have hbb:=HO.out.getD k
    obtain ⟨b,hb⟩:∃ b,b=xs.getD k 0:=⟨_,rfl⟩
    have HB:=hid hb
    rw [← hb] at hsg hbb
    clear hgx hb
    obtain ⟨hb0,hb1⟩:=hbb
    by_cases hz:b=0
    ·subst hz
     obtain ⟨v,hv⟩:∃ v,v=(N.length:Int)+1:=⟨_,rfl⟩
     have hcv:=vnum_conv v wr
     have hw8:IntKind.u8.wrap ((N.length:Int)+1)=v:=by rw [IntKind.wrap_u8',hv];omega
     have ha1:strOfNums O ++ strOfNums [v]=strOfNums (O ++ [v]):=str_append _ _
     have ha2:strOfNums (O ++ [v]) ++ strOfNums N=strOfNums (O ++ v :: N):=by rw [str_append,List.append_assoc];rfl
     have hs3:(strOfNums (O ++ [v])).size=O.length+1:=by rw [str_size];simp
     have hs4:(strOfNums [v]).size=1:=str_size _
     have HV:=hid hv
     have hv':=hv.symm
     clear hv
     go_wp2_with fail
     refine ⟨⟨k+1,_,[],by omega,rfl,rfl,rfl,?_,HK.out.alloc _⟩,by simp [intOf];omega⟩
     have:=HST.out.nought (by have:=HN.out;omega) HB.out.symm
     rw [HV.out]
     exact this
    ·have hbz:(b == 0)=false:=by rw [beq_eq_false_iff_ne];exact hz
     have hex:(strOfNums (xs ++ [0])).extract k (k+1)=strOfNums [b]:=by
      rw [str_piece _ _ _ k 1 rfl rfl,HB.out]
      have hl:k<xs.length:=by have:=HN.out;omega
      rw [List.drop_append_of_le_length (by omega),drop_cons_getD xs k hl]
      rfl
     have ha1:strOfNums N ++ strOfNums [b]=strOfNums (N ++ [b]):=str_append _ _
     have hs3:(strOfNums (N ++ [b])).size=N.length+1:=by rw [str_size];simp
     have hs4:(strOfNums [b]).size=1:=str_size _
     by_cases h254:N.length+1=254
     ·have hd:((N.length:Int)+1 == 254)=true:=by rw [beq_iff_eq];omega
      have ha2:strOfNums O ++ (ByteArray.mk #[255])=strOfNums (O ++ [255]):=str_append O [255]
      have ha3:strOfNums (O ++ [255]) ++ strOfNums (N ++ [b])=strOfNums (O ++ 255 :: (N ++ [b])):=by rw [str_append,List.append_assoc];rfl
      have hs5:(strOfNums (O ++ [255])).size=O.length+1:=by rw [str_size];simp
      go_wp2_with fail
      refine ⟨⟨k+1,_,[],by omega,rfl,rfl,rfl,?_,HK.out⟩,by simp [intOf];omega⟩
      have:=HST.out.whole (by have:=HN.out;omega) (by rw [← HB.out];exact hz) h254
      rw [← HB.out] at this
      exact this
     ·have hd:((N.length:Int)+1 == 254)=false:=by rw [beq_eq_false_iff_ne];omega
      go_wp2_with fail
      refine ⟨⟨k+1,_,_,by omega,rfl,rfl,rfl,?_,HK.out⟩,by simp [intOf];omega⟩
      have:=HST.out.other (by have:=HN.out;omega) (by rw [← HB.out];exact hz) h254
      rw [← HB.out] at this
      exact this
   ·obtain rfl:k=n:=by omega
    have hgx:(xs ++ [0]).getD k 0=0:=by
     rw [HN.out]
     simp [List.getD]
    rw [hgx] at hsg
    have hkk:((k:Int) == (k:Int))=true:=by simp
    clear hgx
    by_cases hbr:N=[]∧0<k∧xs.getD (k - 1) 0 ≠ 0
    ·obtain ⟨rfl,hk0,hy0⟩:=hbr
     have HE:=hid (HST.out.atBreak' HN.out ⟨hk0,hy0⟩)
     have hem:(strOfNums []).toList.isEmpty=true:=str_empty []
     have hsg2:=str_get (xs ++ [0]) HO1.out (k - 1) (by omega)
     have hgx:(xs ++ [0]).getD (k - 1) 0=xs.getD (k - 1) 0:=by
      have:=HN.out
      simp [List.getD,List.getElem?_append_left (show k - 1<xs.length by omega)]
     rw [hgx] at hsg2
     obtain ⟨y,hy⟩:∃ y,y=xs.getD (k - 1) 0:=⟨_,rfl⟩
     rw [← hy] at hsg2 hy0
     have hyb:(y != 0)=true:=by rw [bne_iff_ne];exact hy0
     have hdp:decide ((0:Int)<(k:Int))=true:=decide_eq_true (by omega)
     clear hgx hy
     go_wp2_with fail
     go_ret
     exact ⟨by rw [← HE.out];rfl,HK.out⟩
    ·have HEnd:=hid (HST.out.atEnd' HN.out hbr)
     obtain ⟨v,hv⟩:∃ v,v=(N.length:Int)+1:=⟨_,rfl⟩
     have hcv:=vnum_conv v wr
     have hw8:IntKind.u8.wrap ((N.length:Int)+1)=v:=by rw [IntKind.wrap_u8',hv];omega
     have ha1:strOfNums O ++ strOfNums [v]=strOfNums (O ++ [v]):=str_append _ _
     have ha2:strOfNums (O ++ [v]) ++ strOfNums N=strOfNums (O ++ v :: N):=by rw [str_append,List.append_assoc];rfl
     have hs3:(strOfNums (O ++ [v])).size=O.length+1:=by rw [str_size];simp
     have hs4:(strOfNums [v]).size=1:=str_size _
     have HV:=hid hv
     have hv':=hv.symm
     clear hv
     by_cases hN:N=[]
     ·have hem:(strOfNums N).toList.isEmpty=true:=by rw [str_empty,hN];rfl
      have hnb:¬ (0<k∧xs.getD (k - 1) 0 ≠ 0):=fun h=>hbr ⟨hN,h⟩
      clear hN hbr
      by_cases hk0:0<k
      ·have hsg2:=str_get (xs ++ [0]) HO1.out (k - 1) (by omega)
       have hgx:(xs ++ [0]).getD (k - 1) 0=xs.getD (k - 1) 0:=by
        have:=HN.out
        simp [List.getD,List.getElem?_append_left (show k - 1<xs.length by omega)]
       have hy0:xs.getD (k - 1) 0=0:=by
        rcases Classical.em (xs.getD (k - 1) 0=0) with h|h
        ·exact h
        ·exact absurd ⟨hk0,h⟩ hnb
       rw [hgx,hy0] at hsg2
       have hdp:decide ((0:Int)<(k:Int))=true:=decide_eq_true (by omega)
       clear hgx hy0 hnb
       go_wp2_with fail
       refine ⟨⟨k+1,_,[],by omega,rfl,rfl,rfl,?_,HK.out.alloc _⟩,by simp [intOf]⟩
       rw [HV.out]
       exact HEnd.out
      ·have hdp:decide ((0:Int)<(k:Int))=false:=decide_eq_false (by omega)
       clear hnb
       go_wp2_with fail
       refine ⟨⟨k+1,_,[],by omega,rfl,rfl,rfl,?_,HK.out.alloc _⟩,by simp [intOf]⟩
       rw [HV.out]
       exact HEnd.out
     ·have hem:(strOfNums N).toList.isEmpty=false:=by rw [str_empty];simpa using hN
      clear hbr
      go_wp2_with fail
      refine ⟨⟨k+1,_,[],by omega,rfl,rfl,rfl,?_,HK.out.alloc _⟩,by simp [intOf]⟩
      rw [HV.out]
      exact HEnd.out
  ·obtain rfl:k=n+1:=by omega
   have hdk:decide (((n+1:Nat):Int)<(n:Int)+1)=false:=decide_eq_false (by omega)
   obtain ⟨e,_⟩:=HST.out.2 (by rw [HN.out])
   have HE:=hid e
   clear e
   go_wp2_with fail
   go_ret
   exact ⟨by rw [← HE.out];rfl,HK.out⟩
end
section
open Go.RowKit
def UnAt (xs O R:List Int):Prop:=(dec R).map (O ++ ·)=dec xs∧O.length+R.length≤xs.length∧Octets O∧Solid R
theorem UnAt.start {xs:List Int} (h:Solid xs):UnAt xs [] xs:=⟨by simp,by simp,fun b hb=>by simp at hb,h⟩
theorem UnAt.short {xs O R:List Int} {n:Int} {r:List Int} (h:UnAt xs O R) (hR:R=n :: r) (hs:r.length+1<n.toNat):dec xs=none:=by
 subst hR
 rw [← h.1,dec,if_pos hs]
 rfl
theorem UnAt.done {xs O:List Int} (h:UnAt xs O []):dec xs=some O:=by
 rw [← h.1,dec]
 simp
theorem UnAt.step {xs O R:List Int} {n:Int} {r:List Int} (h:UnAt xs O R) (hR:R=n :: r) (hs:¬ r.length+1<n.toNat) :
  UnAt xs (O ++ r.take (n.toNat - 1) ++ (if n<255∧r.drop (n.toNat - 1) ≠ [] then [0] else [])) (r.drop (n.toNat - 1)):=by
 subst hR
 obtain ⟨h1,h2,h3,h4⟩:=h
 have hn:=h4 n List.mem_cons_self
 have hr:Solid r:=fun b hb=>h4 b (List.mem_cons_of_mem _ hb)
 refine ⟨?_,?_,?_,fun b hb=>hr b (List.mem_of_mem_drop hb)⟩
 ·rw [← h1,dec,if_neg hs,Option.map_map]
  congr 1
  funext o
  simp
 ·have:(if n<255∧r.drop (n.toNat - 1) ≠ [] then [0] else ([]:List Int)).length≤1:=by split <;> simp
  simp only [List.length_append,List.length_take,List.length_drop,List.length_cons] at h2 ⊢
  omega
 ·intro b hb
  rcases List.mem_append.1 hb with hb|hb
  ·rcases List.mem_append.1 hb with hb|hb
   ·exact h3 b hb
   ·exact hr.octets b (List.mem_of_mem_take hb)
  ·split at hb
   ·rw [List.mem_singleton.1 hb];omega
   ·simp at hb
end
section
open Go.RowKit
end
section
open Go.RowKit
structure In8 (w:World) (p:Option Addr) (N c:Nat) (xs:List Int):Prop where
 len:N=xs.length
 cap:N≤c
 room:c≤9223372036854775807
 bare:p=none→N=0∧c=0
 oct:Octets xs
 at_:Bytes8 w p xs
theorem In8.nil (w:World):In8 w none 0 0 []:=⟨rfl,Nat.le_refl _,by decide,fun _=>⟨rfl,rfl⟩,fun b hb=>by simp at hb,Bytes8.nil _ _⟩
theorem Bytes8.left {w:World} {p:Option Addr} {xs ys:List Int} (h:Bytes8 w p (xs ++ ys)):Bytes8 w p xs:=fun h0=>by
 obtain ⟨a,ha,hc⟩:=h (by rw [List.length_append];omega)
 refine ⟨a,ha,fun i hi=>?_⟩
 rw [hc i (by rw [List.length_append];omega),List.getD_eq_getElem?_getD,List.getD_eq_getElem?_getD,List.getElem?_append_left hi]
theorem cell_new (w:World) (cs:Array Value) (t:TypeId) (f:Nat × Nat) (i:Nat) {v:Value} (h:cs[i]?=some v):(w.alloc (.cells cs t f)).cell? ⟨w.heap.size,i,none⟩=some v:=by
 have e:(w.alloc (.cells cs t f)).heap[w.heap.size]?=some (.cells cs t f):=by
  show (w.heap.push _)[w.heap.size]?=_
  simp
 unfold World.cell?
 simp only [e]
 simpa using h
end
end Go.Proofs.YtehkjkcnigknkaaGreat

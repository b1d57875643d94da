/-
  CobsRef; CobsRef2; RecRef2; In8; ThinSum; ThinAll.
-/
import Derived.Deep.RegionHeld3
import Derived.BigQuiet
import Derived.Lib.Hide
import Derived.Test.YtehkjkcnigknkaaGreatM01
import Derived.Test.YtehkjkcnigknkaaGreatM02
import Derived.Test.YtehkjkcnigknkaaGreatM04
import Derived.Test.YtehkjkcnigknkaaGreatM06
import Derived.Test.YtehkjkcnigknkaaGreatM07
namespace Go.Proofs.YtehkjkcnigknkaaGreat
open Lib (hid)
section
open Go.RowKit
def StuffAt (xs:List Int) (k:Nat) (O N:List Int):Prop :=
 (k≤xs.length→∃ F:Bool,O ++ stuffGo N F (xs.drop k)=stuff xs∧N.length<254∧(F=true ↔ (N=[]∧0<k∧xs.getD (k - 1) 0 ≠ 0)))∧(k=xs.length+1→O=stuff xs∧N=[])
theorem StuffAt.start (xs:List Int):StuffAt xs 0 [] [] :=
 ⟨fun _=>⟨false,rfl,by decide,by simp⟩,fun h=>by omega⟩
theorem drop_cons_getD (xs:List Int) (k:Nat) (h:k<xs.length):xs.drop k=xs.getD k 0 :: xs.drop (k+1):=by
 rw [List.drop_eq_getElem_cons h]
 simp [h]
theorem StuffAt.nought {xs:List Int} {k:Nat} {O N:List Int} (h:StuffAt xs k O N) (hk:k<xs.length) (h0:xs.getD k 0=0):StuffAt xs (k+1) (O ++ ((N.length+1:Nat):Int) :: N) []:=by
 obtain ⟨F,h1,h2,h3⟩:=h.1 (by omega)
 refine ⟨fun _=>⟨false,?_,by decide,?_⟩,fun h=>by omega⟩
 ·rw [← h1,drop_cons_getD xs k hk,stuffGo,if_pos h0,List.append_assoc]
 ·rw [Nat.add_sub_cancel,h0];simp
theorem StuffAt.other {xs:List Int} {k:Nat} {O N:List Int} (h:StuffAt xs k O N) (hk:k<xs.length) (h0:xs.getD k 0 ≠ 0) (hl:N.length+1 ≠ 254):StuffAt xs (k+1) O (N ++ [xs.getD k 0]):=by
 obtain ⟨F,h1,h2,h3⟩:=h.1 (by omega)
 refine ⟨fun _=>⟨false,?_,by simp;omega,by simp⟩,fun h=>by omega⟩
 rw [← h1,drop_cons_getD xs k hk,stuffGo,if_neg h0,if_neg hl]
theorem StuffAt.whole {xs:List Int} {k:Nat} {O N:List Int} (h:StuffAt xs k O N) (hk:k<xs.length) (h0:xs.getD k 0 ≠ 0) (hl:N.length+1=254):StuffAt xs (k+1) (O ++ 255 :: (N ++ [xs.getD k 0])) []:=by
 obtain ⟨F,h1,h2,h3⟩:=h.1 (by omega)
 refine ⟨fun _=>⟨true,?_,by decide,?_⟩,fun h=>by omega⟩
 ·rw [← h1,drop_cons_getD xs k hk,stuffGo,if_neg h0,if_pos hl,List.append_assoc]
 ·rw [Nat.add_sub_cancel];simpa using h0
theorem StuffAt.atEnd {xs:List Int} {O N:List Int} (h:StuffAt xs xs.length O N) (he:¬ (N=[]∧0<xs.length∧xs.getD (xs.length - 1) 0 ≠ 0)):StuffAt xs (xs.length+1) (O ++ ((N.length+1:Nat):Int) :: N) []:=by
 obtain ⟨F,h1,h2,h3⟩:=h.1 (Nat.le_refl _)
 refine ⟨fun h=>by omega,fun _=>⟨?_,rfl⟩⟩
 have hF:F=false:=by
  cases F with
  | false=>rfl
  | true=>exact absurd (h3.1 rfl) he
 rw [← h1,List.drop_length,hF,stuffGo,if_neg (by simp)]
theorem StuffAt.atBreak {xs:List Int} {O:List Int} (h:StuffAt xs xs.length O []) (he:0<xs.length∧xs.getD (xs.length - 1) 0 ≠ 0):O=stuff xs:=by
 obtain ⟨F,h1,h2,h3⟩:=h.1 (Nat.le_refl _)
 rw [List.drop_length,h3.2 ⟨rfl,he⟩,stuffGo,if_pos rfl,List.append_nil] at h1
 exact h1
theorem StuffAt.bound {xs:List Int} {k:Nat} {O N:List Int} (h:StuffAt xs k O N) (hk:k≤xs.length+1):O.length≤mostOf xs.length∧N.length<254:=by
 have hm:=stuff_most xs
 by_cases hke:k=xs.length+1
 ·obtain ⟨h1,h2⟩:=h.2 hke
  rw [h1,h2]
  exact ⟨hm,by decide⟩
 ·obtain ⟨F,h1,h2,_⟩:=h.1 (by omega)
  rw [← h1,List.length_append] at hm
  exact ⟨by omega,h2⟩
theorem StuffAt.atEnd' {xs:List Int} {O N:List Int} {k:Nat} (h:StuffAt xs k O N) (hk:k=xs.length) (he:¬ (N=[]∧0<k∧xs.getD (k - 1) 0 ≠ 0)):StuffAt xs (k+1) (O ++ ((N.length+1:Nat):Int) :: N) []:=by
 subst hk;exact h.atEnd he
theorem StuffAt.atBreak' {xs:List Int} {O:List Int} {k:Nat} (h:StuffAt xs k O []) (hk:k=xs.length) (he:0<k∧xs.getD (k - 1) 0 ≠ 0):O=stuff xs:=by
 subst hk;exact h.atBreak he
theorem str_empty (xs:List Int):(strOfNums xs).toList.isEmpty=xs.isEmpty:=by
 have h:(strOfNums xs).toList=(strOfNums xs).data.toList:=ByteArray.toList_eq _
 rw [h]
 unfold strOfNums
 cases xs <;> simp
theorem mostOf_le (n:Nat):mostOf n≤2*n+1:=by
 unfold mostOf
 split <;> omega
set_option maxHeartbeats 2000000 in
set_option maxRecDepth 10000 in
theorem stuff_ref (xs:List Int) (ho:Octets xs) (hl:xs.length≤140737488355328) (w:World) :
  Calls Tryz.prog 77 #[.string (strOfNums xs)] w fun e w'=>e=.returned (.string (strOfNums (stuff xs)))∧Keeps NoBlock w w':=by
 have HO1:Hid (Octets (xs ++ [0])):=hid (fun b hb=>(List.mem_append.1 hb).elim (ho b) (fun h=>by rw [List.mem_singleton.1 h];omega))
 have HO:=hid ho
 have hss:(strOfNums xs).size=xs.length:=str_size xs
 have hall:strOfNums xs ++ (ByteArray.mk #[0])=strOfNums (xs ++ [0]):=str_append xs [0]
 have hsa:(strOfNums (xs ++ [0])).size=xs.length+1:=by rw [str_size];simp
 have HMo:=hid (mostOf_le xs.length)
 obtain ⟨n,hn⟩:∃ n,n=xs.length:=⟨_,rfl⟩
 have HN:=hid hn
 rw [← hn] at hl hss hsa HMo
 clear ho hn
 go_enter Tryz.func77,Tryz.ntmps77
 go_wp2_with fail
 go_loopw [4,5,6] (fun s4 s5 i wr=>∃ (k:Nat) (O N:List Int),k≤n+1∧i=.int .i64 (k:Int)∧s4=.string (strOfNums O)∧s5=.string (strOfNums N)∧StuffAt xs k O N∧Keeps NoBlock w wr) (fun _ _ i _=>n+1 - (intOf i).toNat)
 case atStart=>exact ⟨0,[],[],Nat.zero_le _,rfl,rfl,rfl,StuffAt.start xs,Keeps.refl _ _⟩
 case round =>
  obtain ⟨k,O,N,hk,rfl,rfl,rfl,hst,hkk⟩:=hrel
  have HK:=hid hkk
  have HST:=hid hst
  obtain ⟨hOl,hNl⟩:=hst.bound (by have:=HN.out;omega)
  rw [← HN.out] at hOl
  have hsO:(strOfNums O).size=O.length:=str_size O
  have hsN:(strOfNums N).size=N.length:=str_size N
  have hOb:O.length≤281474976710657:=by have:=HMo.out;omega
  clear hst hkk hOl
  by_cases hlt:k<n+1
  ·have hdk:decide ((k:Int)<(n:Int)+1)=true:=decide_eq_true (by omega)
   have hsg:=str_get (xs ++ [0]) HO1.out k (by omega)
   by_cases hkn:k<n
   ·have hgx:(xs ++ [0]).getD k 0=xs.getD k 0:=by
     have:=HN.out
     simp [List.getD,List.getElem?_append_left (show k<xs.length by omega)]
    rw [hgx] at hsg
    have hbb:=HO.out.getD k
    obtain ⟨b,hb⟩:∃ b,b=xs.getD k 0:=⟨_,rfl⟩
    have HB:=hid hb
    rw [← hb] at hsg hbb
    clear hgx hb
    obtain ⟨hb0,hb1⟩:=hbb
    by_cases hz:b=0
    ·subst hz
     obtain ⟨v,hv⟩:∃ v,v=(N.length:Int)+1:=⟨_,rfl⟩
     have hcv:=vnum_conv v wr
     have hw8:IntKind.u8.wrap ((N.length:Int)+1)=v:=by rw [IntKind.wrap_u8',hv];omega
     have ha1:strOfNums O ++ strOfNums [v]=strOfNums (O ++ [v]):=str_append _ _
     have ha2:strOfNums (O ++ [v]) ++ strOfNums N=strOfNums (O ++ v :: N):=by rw [str_append,List.append_assoc];rfl
     have hs3:(strOfNums (O ++ [v])).size=O.length+1:=by rw [str_size];simp
     have hs4:(strOfNums [v]).size=1:=str_size _
     have HV:=hid hv
     have hv':=hv.symm
     clear hv
     go_wp2_with fail
     refine ⟨⟨k+1,_,[],by omega,rfl,rfl,rfl,?_,HK.out.alloc _⟩,by simp [intOf];omega⟩
     have:=HST.out.nought (by have:=HN.out;omega) HB.out.symm
     rw [HV.out]
     exact this
    ·have hbz:(b == 0)=false:=by rw [beq_eq_false_iff_ne];exact hz
     have hex:(strOfNums (xs ++ [0])).extract k (k+1)=strOfNums [b]:=by
      rw [str_piece _ _ _ k 1 rfl rfl,HB.out]
      have hl:k<xs.length:=by have:=HN.out;omega
      rw [List.drop_append_of_le_length (by omega),drop_cons_getD xs k hl]
      rfl
     have ha1:strOfNums N ++ strOfNums [b]=strOfNums (N ++ [b]):=str_append _ _
     have hs3:(strOfNums (N ++ [b])).size=N.length+1:=by rw [str_size];simp
     have hs4:(strOfNums [b]).size=1:=str_size _
     by_cases h254:N.length+1=254
     ·have hd:((N.length:Int)+1 == 254)=true:=by rw [beq_iff_eq];omega
      have ha2:strOfNums O ++ (ByteArray.mk #[255])=strOfNums (O ++ [255]):=str_append O [255]
      have ha3:strOfNums (O ++ [255]) ++ strOfNums (N ++ [b])=strOfNums (O ++ 255 :: (N ++ [b])):=by rw [str_append,List.append_assoc];rfl
      have hs5:(strOfNums (O ++ [255])).size=O.length+1:=by rw [str_size];simp
      go_wp2_with fail
      refine ⟨⟨k+1,_,[],by omega,rfl,rfl,rfl,?_,HK.out⟩,by simp [intOf];omega⟩
      have:=HST.out.whole (by have:=HN.out;omega) (by rw [← HB.out];exact hz) h254
      rw [← HB.out] at this
      exact this
     ·have hd:((N.length:Int)+1 == 254)=false:=by rw [beq_eq_false_iff_ne];omega
      go_wp2_with fail
      refine ⟨⟨k+1,_,_,by omega,rfl,rfl,rfl,?_,HK.out⟩,by simp [intOf];omega⟩
      have:=HST.out.other (by have:=HN.out;omega) (by rw [← HB.out];exact hz) h254
      rw [← HB.out] at this
      exact this
   ·obtain rfl:k=n:=by omega
    have hgx:(xs ++ [0]).getD k 0=0:=by
     rw [HN.out]
     simp [List.getD]
    rw [hgx] at hsg
    have hkk:((k:Int) == (k:Int))=true:=by simp
    clear hgx
    by_cases hbr:N=[]∧0<k∧xs.getD (k - 1) 0 ≠ 0
    ·obtain ⟨rfl,hk0,hy0⟩:=hbr
     have HE:=hid (HST.out.atBreak' HN.out ⟨hk0,hy0⟩)
     have hem:(strOfNums []).toList.isEmpty=true:=str_empty []
     have hsg2:=str_get (xs ++ [0]) HO1.out (k - 1) (by omega)
     have hgx:(xs ++ [0]).getD (k - 1) 0=xs.getD (k - 1) 0:=by
      have:=HN.out
      simp [List.getD,List.getElem?_append_left (show k - 1<xs.length by omega)]
     rw [hgx] at hsg2
     obtain ⟨y,hy⟩:∃ y,y=xs.getD (k - 1) 0:=⟨_,rfl⟩
     rw [← hy] at hsg2 hy0
     have hyb:(y != 0)=true:=by rw [bne_iff_ne];exact hy0
     have hdp:decide ((0:Int)<(k:Int))=true:=decide_eq_true (by omega)
     clear hgx hy
     go_wp2_with fail
     go_ret
     exact ⟨by rw [← HE.out];rfl,HK.out⟩
    ·have HEnd:=hid (HST.out.atEnd' HN.out hbr)
     obtain ⟨v,hv⟩:∃ v,v=(N.length:Int)+1:=⟨_,rfl⟩
     have hcv:=vnum_conv v wr
     have hw8:IntKind.u8.wrap ((N.length:Int)+1)=v:=by rw [IntKind.wrap_u8',hv];omega
     have ha1:strOfNums O ++ strOfNums [v]=strOfNums (O ++ [v]):=str_append _ _
     have ha2:strOfNums (O ++ [v]) ++ strOfNums N=strOfNums (O ++ v :: N):=by rw [str_append,List.append_assoc];rfl
     have hs3:(strOfNums (O ++ [v])).size=O.length+1:=by rw [str_size];simp
     have hs4:(strOfNums [v]).size=1:=str_size _
     have HV:=hid hv
     have hv':=hv.symm
     clear hv
     by_cases hN:N=[]
     ·have hem:(strOfNums N).toList.isEmpty=true:=by rw [str_empty,hN];rfl
      have hnb:¬ (0<k∧xs.getD (k - 1) 0 ≠ 0):=fun h=>hbr ⟨hN,h⟩
      clear hN hbr
      by_cases hk0:0<k
      ·have hsg2:=str_get (xs ++ [0]) HO1.out (k - 1) (by omega)
       have hgx:(xs ++ [0]).getD (k - 1) 0=xs.getD (k - 1) 0:=by
        have:=HN.out
        simp [List.getD,List.getElem?_append_left (show k - 1<xs.length by omega)]
       have hy0:xs.getD (k - 1) 0=0:=by
        rcases Classical.em (xs.getD (k - 1) 0=0) with h|h
        ·exact h
        ·exact absurd ⟨hk0,h⟩ hnb
       rw [hgx,hy0] at hsg2
       have hdp:decide ((0:Int)<(k:Int))=true:=decide_eq_true (by omega)
       clear hgx hy0 hnb
       go_wp2_with fail
       refine ⟨⟨k+1,_,[],by omega,rfl,rfl,rfl,?_,HK.out.alloc _⟩,by simp [intOf]⟩
       rw [HV.out]
       exact HEnd.out
      ·have hdp:decide ((0:Int)<(k:Int))=false:=decide_eq_false (by omega)
       clear hnb
       go_wp2_with fail
       refine ⟨⟨k+1,_,[],by omega,rfl,rfl,rfl,?_,HK.out.alloc _⟩,by simp [intOf]⟩
       rw [HV.out]
       exact HEnd.out
     ·have hem:(strOfNums N).toList.isEmpty=false:=by rw [str_empty];simpa using hN
      clear hbr
      go_wp2_with fail
      refine ⟨⟨k+1,_,[],by omega,rfl,rfl,rfl,?_,HK.out.alloc _⟩,by simp [intOf]⟩
      rw [HV.out]
      exact HEnd.out
  ·obtain rfl:k=n+1:=by omega
   have hdk:decide (((n+1:Nat):Int)<(n:Int)+1)=false:=decide_eq_false (by omega)
   obtain ⟨e,_⟩:=HST.out.2 (by rw [HN.out])
   have HE:=hid e
   clear e
   go_wp2_with fail
   go_ret
   exact ⟨by rw [← HE.out];rfl,HK.out⟩
end
section
open Go.RowKit
def UnAt (xs O R:List Int):Prop:=(dec R).map (O ++ ·)=dec xs∧O.length+R.length≤xs.length∧Octets O∧Solid R
theorem UnAt.start {xs:List Int} (h:Solid xs):UnAt xs [] xs:=⟨by simp,by simp,fun b hb=>by simp at hb,h⟩
theorem UnAt.short {xs O R:List Int} {n:Int} {r:List Int} (h:UnAt xs O R) (hR:R=n :: r) (hs:r.length+1<n.toNat):dec xs=none:=by
 subst hR
 rw [← h.1,dec,if_pos hs]
 rfl
theorem UnAt.done {xs O:List Int} (h:UnAt xs O []):dec xs=some O:=by
 rw [← h.1,dec]
 simp
theorem UnAt.step {xs O R:List Int} {n:Int} {r:List Int} (h:UnAt xs O R) (hR:R=n :: r) (hs:¬ r.length+1<n.toNat) :
  UnAt xs (O ++ r.take (n.toNat - 1) ++ (if n<255∧r.drop (n.toNat - 1) ≠ [] then [0] else [])) (r.drop (n.toNat - 1)):=by
 subst hR
 obtain ⟨h1,h2,h3,h4⟩:=h
 have hn:=h4 n List.mem_cons_self
 have hr:Solid r:=fun b hb=>h4 b (List.mem_cons_of_mem _ hb)
 refine ⟨?_,?_,?_,fun b hb=>hr b (List.mem_of_mem_drop hb)⟩
 ·rw [← h1,dec,if_neg hs,Option.map_map]
  congr 1
  funext o
  simp
 ·have:(if n<255∧r.drop (n.toNat - 1) ≠ [] then [0] else ([]:List Int)).length≤1:=by split <;> simp
  simp only [List.length_append,List.length_take,List.length_drop,List.length_cons] at h2 ⊢
  omega
 ·intro b hb
  rcases List.mem_append.1 hb with hb|hb
  ·rcases List.mem_append.1 hb with hb|hb
   ·exact h3 b hb
   ·exact hr.octets b (List.mem_of_mem_take hb)
  ·split at hb
   ·rw [List.mem_singleton.1 hb];omega
   ·simp at hb
set_option maxHeartbeats 2000000 in
set_option maxRecDepth 10000 in
theorem unstuff_ref (xs:List Int) (ho:Octets xs) (hl:xs.length≤140737488355328) (w:World) :
  Calls Tryz.prog 96 #[.string (strOfNums xs)] w fun e w'=>e=.returned (.tuple #[.string (strOfNums (unst xs).2),.int .i64 (unst xs).1])∧Keeps NoBlock w w':=by
 have HO:=hid ho
 have hss:(strOfNums xs).size=xs.length:=str_size xs
 obtain ⟨n,hn⟩:∃ n,n=xs.length:=⟨_,rfl⟩
 have HN:=hid hn
 rw [← hn] at hl hss
 clear ho hn
 go_enter Tryz.func96,Tryz.ntmps96
 go_wp2_with fail
 go_loop [4] (fun i=>∃ k:Nat,k≤n∧i=.int .i64 (k:Int)∧Hid (Solid (xs.take k))) (fun i=>n - (intOf i).toNat)
 case atStart=>exact ⟨0,Nat.zero_le _,rfl,hid Solid.nil⟩
 case round =>
  obtain ⟨k,hk,rfl,hsol⟩:=hrel
  by_cases hlt:k<n
  ·have hdk:decide ((k:Int)<(n:Int))=true:=decide_eq_true (by omega)
   have hsg:=str_get xs HO.out k (by omega)
   have hbb:=HO.out.getD k
   have hmem:xs.getD k 0 ∈ xs:=by
    have hl:k<xs.length:=by have:=HN.out;omega
    have e:xs.getD k 0=xs[k]:=by simp [hl]
    rw [e];exact List.getElem_mem hl
   have htk:=take_succ_getD xs k (by have:=HN.out;omega)
   obtain ⟨b,hb⟩:∃ b,b=xs.getD k 0:=⟨_,rfl⟩
   rw [← hb] at hsg hbb hmem htk
   have HM:=hid hmem
   have HT:=hid htk
   obtain ⟨hb0,hb1⟩:=hbb
   clear hb hmem htk
   by_cases hz:b=0
   ·subst hz
    have hu:unst xs=(4,[]):=by unfold unst;rw [if_pos HM.out]
    have HU:=hid hu
    clear hu
    go_wp2_with fail
    exact bodyPost_ret (v:=.tuple #[.string (strOfNums []),.int .i64 4]) (by simp [results,Tryz.results96,go_sem];rfl) rfl ⟨by rw [HU.out],Keeps.refl _ _⟩
   ·have hbz:(b == 0)=false:=by rw [beq_eq_false_iff_ne];exact hz
    have HS:=hid (show Solid (xs.take (k+1)) by rw [HT.out];exact hsol.out.snoc ⟨by omega,hb1⟩)
    go_wp2_with fail
    exact ⟨⟨k+1,by omega,rfl,HS⟩,by simp [intOf];omega⟩
  ·obtain rfl:k=n:=by omega
   have hdk:decide ((k:Int)<(k:Int))=false:=decide_eq_false (by omega)
   have hsx:Solid xs:=by
    have:=hsol.out
    rwa [List.take_of_length_le (Nat.le_of_eq HN.out.symm)] at this
   have hz0:(0:Int) ∉ xs:=hsx.noZero
   have HSX:=hid hsx
   have HZ0:=hid hz0
   clear hsx hz0
   by_cases hk0:k=0
   ·subst hk0
    have hxe:xs=[]:=List.length_eq_zero_iff.1 HN.out.symm
    have hu:unst xs=(2,[]):=by unfold unst;rw [if_neg HZ0.out,if_pos hxe]
    have HU:=hid hu
    have hem:(strOfNums xs).toList.isEmpty=true:=by rw [str_empty,hxe];rfl
    clear hxe hu
    go_wp2_with fail
    exact bodyPost_ret (v:=.tuple #[.string (strOfNums []),.int .i64 2]) (by simp [results,Tryz.results96,go_sem];rfl) rfl ⟨by rw [HU.out],Keeps.refl _ _⟩
   ·have hem:(strOfNums xs).toList.isEmpty=false:=by
     rw [str_empty]
     cases hx:xs with
     | nil=>exact absurd (by rw [HN.out,hx];rfl) hk0
     | cons _ _=>rfl
    have hxe:xs ≠ []:=fun h=>hk0 (by rw [HN.out,h];rfl)
    have HXE:=hid hxe
    clear hxe
    go_wp2_with fail
    go_loop [5,6,7] (fun s5 s6 _=>∃ O R:List Int,s5=.string (strOfNums O)∧s6=.string (strOfNums R)∧Hid (UnAt xs O R)) (fun _ s6 _=>strSize s6)
    case atStart=>exact ⟨[],xs,rfl,rfl,hid (UnAt.start HSX.out)⟩
    case round =>
     clear hem hdk hsol hlt
     obtain ⟨O,R,rfl,rfl,hu⟩:=hrel
     have hub:=hu.out.2.1
     rw [← HN.out] at hub
     have hsO:(strOfNums O).size=O.length:=str_size O
     have hsR:(strOfNums R).size=R.length:=str_size R
     by_cases hRn:R=[]
     ·subst hRn
      have hem:(strOfNums []).toList.isEmpty=true:=str_empty []
      have HD:=hid hu.out.done
      have HS:=hid (fun w=>stuff_ref O hu.out.2.2.1 (by omega) w)
      have hcmp:((strOfNums (stuff O)).toList == (strOfNums xs).toList)=decide (stuff O=xs):=by
       rw [text_beq]
       apply decide_eq_decide.2
       exact ⟨fun h=>strOf_inj (stuff_solid hu.out.2.2.1).octets HO.out h,fun h=>by rw [h]⟩
      go_wp2_with fail
      refine (HS.out _).mono ?_
      rintro e w1 ⟨rfl,hk1⟩
      have HK1:=hid hk1
      clear hk1
      by_cases he:stuff O=xs
      ·have hun:unst xs=(0,O):=by
        unfold unst
        rw [if_neg HZ0.out,if_neg HXE.out,HD.out]
        exact if_pos he
       have HU:=hid hun
       have hcmp2:((strOfNums (stuff O)).toList == (strOfNums xs).toList)=true:=by rw [hcmp];exact decide_eq_true he
       clear hun hcmp he
       go_wp2_with fail
       exact bodyPost_ret (v:=.tuple #[.string (strOfNums O),.int .i64 0]) (by simp [results,Tryz.results96,go_sem]) rfl ⟨by rw [HU.out],HK1.out⟩
      ·have hun:unst xs=(4,[]):=by
        unfold unst
        rw [if_neg HZ0.out,if_neg HXE.out,HD.out]
        exact if_neg he
       have HU:=hid hun
       have hcmp2:((strOfNums (stuff O)).toList == (strOfNums xs).toList)=false:=by rw [hcmp];exact decide_eq_false he
       clear hun hcmp he
       go_wp2_with fail
       exact bodyPost_ret (v:=.tuple #[.string (strOfNums []),.int .i64 4]) (by simp [results,Tryz.results96,go_sem];rfl) rfl ⟨by rw [HU.out],HK1.out⟩
     ·obtain ⟨b,r,hR⟩:=List.exists_cons_of_ne_nil hRn
      clear hRn
      have hb:=hu.out.2.2.2 b (by rw [hR];exact List.mem_cons_self)
      have hRo:Octets R:=hu.out.2.2.2.octets
      have hem:(strOfNums R).toList.isEmpty=false:=by rw [str_empty,hR];rfl
      have hm0:R.length=r.length+1:=by rw [hR];rfl
      have hpos:0<(strOfNums R).size:=by rw [hsR,hR];simp
      have hsg:=str_get R hRo 0 hpos
      rw [show R.getD 0 0=b by rw [hR];rfl] at hsg
      obtain ⟨B,rfl⟩:=Int.eq_ofNat_of_zero_le (show 0≤b by omega)
      obtain ⟨m,hm⟩:∃ m,m=R.length:=⟨_,rfl⟩
      rw [← hm] at hsR hub hm0
      have HR:=hid hR
      have HM:=hid hm
      have HM0:=hid hm0
      have hB1:1≤B:=by omega
      have hB2:B<256:=by omega
      have hm1:1≤m:=by omega
      clear hR hm hRo hb hm0
      by_cases hsh:m<B
      ·have hd:decide ((m:Int)<(B:Int))=true:=decide_eq_true (by omega)
       have hun:unst xs=(2,[]):=by
        unfold unst
        rw [if_neg HZ0.out,if_neg HXE.out,hu.out.short HR.out (by have:=HM0.out;omega)]
       have HU:=hid hun
       clear hun
       go_wp2_with fail
       exact bodyPost_ret (v:=.tuple #[.string (strOfNums []),.int .i64 2]) (by simp [results,Tryz.results96,go_sem];rfl) rfl ⟨by rw [HU.out],Keeps.refl _ _⟩
      ·have hd:decide ((m:Int)<(B:Int))=false:=decide_eq_false (by omega)
       have hst:=hu.out.step HR.out (by have:=HM0.out;omega)
       rw [Int.toNat_natCast] at hst
       obtain ⟨T,hT⟩:∃ T,T=r.take (B - 1):=⟨_,rfl⟩
       obtain ⟨R2,hR2⟩:∃ R2,R2=r.drop (B - 1):=⟨_,rfl⟩
       rw [← hT,← hR2] at hst
       have hex:(strOfNums R).extract 1 B=strOfNums T:=by
        rw [str_piece R 1 B 1 (B - 1) rfl (by omega),HR.out,hT]
        rfl
       have hdr:(strOfNums R).extract B m=strOfNums R2:=by
        have e:=str_drop R B
        rw [hsR] at e
        rw [e,HR.out,hR2]
        congr 1
        obtain ⟨j,rfl⟩:∃ j,B=j+1:=⟨B - 1,by omega⟩
        rfl
       have hTl:T.length≤B:=by rw [hT,List.length_take];omega
       have hR2l:R2.length<m:=by rw [hR2,List.length_drop];have:=HM0.out;omega
       have hsT:(strOfNums T).size=T.length:=str_size T
       have ha1:strOfNums O ++ strOfNums T=strOfNums (O ++ T):=str_append _ _
       have hs3:(strOfNums (O ++ T)).size=O.length+T.length:=by rw [str_size,List.length_append]
       have hOm:O.length+m≤k:=hub
       have HST:=hid hst
       have HR2l:=hid hR2l
       clear hT hR2 hst hub
       by_cases h255:B<255
       ·have hd5:decide ((B:Int)<255)=true:=decide_eq_true (by omega)
        by_cases hz:R2=[]
        ·have hem2:(strOfNums R2).toList.isEmpty=true:=by rw [str_empty,hz];rfl
         have HST2:Hid (UnAt xs (O ++ T) R2):=hid (by
          have:=HST.out
          rwa [if_neg (fun h=>h.2 hz),List.append_nil] at this)
         clear hz
         go_wp2_with fail
         refine ⟨⟨_,_,rfl,rfl,HST2⟩,?_⟩
         show strSize (.string (strOfNums R2))<strSize (.string (strOfNums R))
         rw [strSize_of,strSize_of,← HM.out]
         exact HR2l.out
        ·have hem2:(strOfNums R2).toList.isEmpty=false:=by rw [str_empty];simpa using hz
         have ha2:strOfNums (O ++ T) ++ (ByteArray.mk #[0])=strOfNums (O ++ (T ++ [0])):=by rw [← List.append_assoc];exact str_append _ [0]
         have HST2:Hid (UnAt xs (O ++ (T ++ [0])) R2):=hid (by
          have:=HST.out
          rwa [if_pos ⟨by omega,hz⟩,List.append_assoc] at this)
         clear hz
         go_wp2_with fail
         refine ⟨⟨_,_,rfl,rfl,HST2⟩,?_⟩
         show strSize (.string (strOfNums R2))<strSize (.string (strOfNums R))
         rw [strSize_of,strSize_of,← HM.out]
         exact HR2l.out
       ·have hd5:decide ((B:Int)<255)=false:=decide_eq_false (by omega)
        have HST2:Hid (UnAt xs (O ++ T) R2):=hid (by
         have:=HST.out
         rwa [if_neg (fun h=>by omega),List.append_nil] at this)
        go_wp2_with fail
        refine ⟨⟨_,_,rfl,rfl,HST2⟩,?_⟩
        show strSize (.string (strOfNums R2))<strSize (.string (strOfNums R))
        rw [strSize_of,strSize_of,← HM.out]
        exact HR2l.out
end
section
open Go.RowKit
def textOut (xs:List Int) (a:Int) (t:VT):Value:=.tuple #[rdr (xs.drop t.n) (a+t.n) t.e,.string (strOfNums t.t)]
set_option maxHeartbeats 2000000 in
set_option maxRecDepth 10000 in
theorem gettext_gone (xs:List Int) (a y zl zm:Int) (hy:¬ y=0) (w:World) :
  Calls Tryz.prog 98 #[rdr xs a y,.int .i64 zl,.int .i64 zm] w fun e w'=>e=.returned (.tuple #[rdr xs a y,.string (strOfNums [])])∧Keeps NoBlock w w':=by
 have HG:=hid (fun w=>get_gone xs a y hy w)
 have hyb:(y != 0)=true:=by simpa using hy
 have hyc:(y == 0)=false:=by simpa using hy
 have hyd:decide (y=0)=false:=decide_eq_false hy
 unfold rdr at HG
 unfold rdr
 go_enter Tryz.func98,Tryz.ntmps98
 go_wp2_with fail
 refine (HG.out _).mono ?_
 rintro e w1 ⟨rfl,hk⟩
 have hb:Whole w1 w.heap.size 163 #[.string (strOfNums xs),.int .i64 a,.int .i64 y]:=((Whole.new w _ _).alloc _).keep hk (fun h=>h)
 have hs:Whole w1 (w.heap.size+1) 163 #[.string { data:=#[] },.int .i64 0,.int .i64 0]:=(Whole.newAt _ _ _ _ (by simp)).keep hk (fun h=>h)
 have HK:=hid ((((Keeps.refl NoBlock w).alloc _).alloc _).trans hk)
 have c0:=hb.cell 0 rfl
 have c1:=hb.cell 1 rfl
 have c2:=hb.cell 2 rfl
 have f0:=hb.free 0
 have f1:=hb.free 1
 have f2:=hb.free 2
 have r0:=hs.cell 0 rfl
 have r1:=hs.cell 1 rfl
 have r2:=hs.cell 2 rfl
 have g0:=hs.free 0
 have g1:=hs.free 1
 have g2:=hs.free 2
 simp only [List.getElem_toArray,List.getElem_cons_zero,List.getElem_cons_succ] at c0 c1 c2 r0 r1 r2
 clear hk hb hs
 go_wp2_with fail
 exact bodyPost_ret (v:=.tuple #[rdr xs a y,.string (strOfNums [])]) (by simp [results,Tryz.results98,go_sem,rdr,r0,r1,r2];rfl) rfl ⟨rfl,(HK.out.set3 (Nat.le_refl _) _ _ _).set3 (by omega) _ _ _⟩
set_option maxHeartbeats 4000000 in
set_option maxRecDepth 10000 in
theorem gettext_ref (xs:List Int) (a:Int) (least most:Nat) (zl zm:Int) (hzl:zl=(least:Int)) (hzm:zm=(most:Int)) (hl4:least≤4096) (hmp:0<most) (hm:most≤1048576) (hl:xs.length≤140737488355328) (ha:0≤a∧a+xs.length≤140737488355328) (ho:Octets xs) (w:World) :
  Calls Tryz.prog 98 #[rdr xs a 0,.int .i64 zl,.int .i64 zm] w fun e w'=>e=.returned (textOut xs a (vtext xs least most))∧Keeps NoBlock w w':=by
 have hm0:max (0:Int) (most:Int)=(most:Int):=by omega
 have hm1:IntKind.u64.wrap (most:Int)=(most:Int):=by rw [IntKind.wrap_u64];omega
 have hl0:max (0:Int) (least:Int)=(least:Int):=by omega
 have hl1:IntKind.u64.wrap (least:Int)=(least:Int):=by rw [IntKind.wrap_u64];omega
 subst hzl
 subst hzm
 have HG:=hid (fun w=>get_ref xs a hl ha ho w)
 have hnl:(vget xs).n≤xs.length:=vread_n 10 true xs
 have hxb:(vget xs).e=0→0≤(vget xs).x∧(vget xs).x<18446744073709551616:=fun h=>by
  have hb:=vread_bound 9 true xs ho h
  exact ⟨hb.1,Int.lt_of_lt_of_le hb.2 (by decide)⟩
 have hdef:vtext xs least most=if (vget xs).e ≠ 0 then ⟨(vget xs).e,(vget xs).n,[]⟩ else if (most:Int)<(vget xs).x then ⟨3,(vget xs).n,[]⟩ else if (vget xs).x<(least:Int) then ⟨4,(vget xs).n,[]⟩ else if (xs.drop (vget xs).n).length<(vget xs).x.toNat then ⟨2,(vget xs).n,[]⟩ else ⟨0,(vget xs).n+(vget xs).x.toNat,(xs.drop (vget xs).n).take (vget xs).x.toNat⟩:=rfl
 rw [hdef]
 unfold refOut at HG
 unfold textOut
 have hdd:∀ k,(xs.drop (vget xs).n).drop k=xs.drop ((vget xs).n+k):=fun k=>List.drop_drop
 have hzo:=ho.drop (vget xs).n
 have hzl:(xs.drop (vget xs).n).length≤140737488355328:=by rw [List.length_drop];omega
 have hza:0≤a+((vget xs).n:Int)∧a+((vget xs).n:Int)≤140737488355328:=by omega
 obtain ⟨t,ht⟩:∃ t,t=vget xs:=⟨_,rfl⟩
 rw [← ht] at HG hnl hxb hdd hzo hzl hza ⊢
 obtain ⟨e,n,x⟩:=t
 simp only at HG hnl hxb hdd hzo hzl hza ⊢
 obtain ⟨Z,hZ⟩:∃ Z,Z=xs.drop n:=⟨_,rfl⟩
 obtain ⟨A,hA⟩:∃ A,A=a+(n:Int):=⟨_,rfl⟩
 rw [← hZ] at HG hdd hzo hzl ⊢
 rw [← hA] at HG hza
 have HZ:=hid hZ
 have HA:=hid hA
 have HDD:=hid hdd
 clear hl ha ho ht hdef hnl hdd hZ hA
 by_cases h1:e=0
 ·obtain ⟨hx0,hx1⟩:=hxb h1
  subst h1
  rw [if_pos rfl] at HG
  rw [if_neg (by simp)]
  by_cases h2:(most:Int)<x
  ·rw [if_pos h2]
   simp only
   rw [← HZ.out,← HA.out]
   have HF:=hid (fun w=>fail_ref Z A 3 w)
   have d2:decide ((most:Int)<x)=true:=decide_eq_true h2
   unfold rdr at HG HF
   unfold rdr
   go_enter Tryz.func98,Tryz.ntmps98
   go_wp2_with fail
   refine (HG.out _).mono ?_
   rintro e w1 ⟨rfl,hk⟩
   have hb:Whole w1 w.heap.size 163 #[.string (strOfNums xs),.int .i64 a,.int .i64 0]:=((Whole.new w _ _).alloc _).keep hk (fun h=>h)
   have hs:Whole w1 (w.heap.size+1) 163 #[.string { data:=#[] },.int .i64 0,.int .i64 0]:=(Whole.newAt _ _ _ _ (by simp)).keep hk (fun h=>h)
   have HK:=hid ((((Keeps.refl NoBlock w).alloc _).alloc _).trans hk)
   have HB:=hid (hb.set3 (.string (strOfNums Z)) (.int .i64 A) (.int .i64 0))
   have HS:=hid (hs.other3 (h:=w.heap.size) (by omega) (.string (strOfNums Z)) (.int .i64 A) (.int .i64 0))
   have HK1:=hid (HK.out.set3 (Nat.le_refl _) (.string (strOfNums Z)) (.int .i64 A) (.int .i64 0))
   have c0:=hb.cell 0 rfl
   have c1:=hb.cell 1 rfl
   have c2:=hb.cell 2 rfl
   have f0:=hb.free 0
   have f1:=hb.free 1
   have f2:=hb.free 2
   have r0:=hs.cell 0 rfl
   have r1:=hs.cell 1 rfl
   have r2:=hs.cell 2 rfl
   have g0:=hs.free 0
   have g1:=hs.free 1
   have g2:=hs.free 2
   simp only [List.getElem_toArray,List.getElem_cons_zero,List.getElem_cons_succ] at c0 c1 c2 r0 r1 r2
   clear hk hb hs
   go_wp2_with fail
   refine (HF.out _).mono ?_
   rintro e w2 ⟨rfl,hk2⟩
   have hb2:=HB.out.keep hk2 (fun h=>h)
   have hs2:=HS.out.keep hk2 (fun h=>h)
   have HK2:=hid (HK1.out.trans hk2)
   have c0:=hb2.cell 0 rfl
   have c1:=hb2.cell 1 rfl
   have c2:=hb2.cell 2 rfl
   have f0:=hb2.free 0
   have f1:=hb2.free 1
   have f2:=hb2.free 2
   have r0:=hs2.cell 0 rfl
   have r1:=hs2.cell 1 rfl
   have r2:=hs2.cell 2 rfl
   have g0:=hs2.free 0
   have g1:=hs2.free 1
   have g2:=hs2.free 2
   simp only [List.getElem_toArray,List.getElem_cons_zero,List.getElem_cons_succ] at c0 c1 c2 r0 r1 r2
   clear hk2 hb2 hs2
   go_wp2_with fail
   exact bodyPost_ret (v:=.tuple #[rdr Z A 3,.string (strOfNums [])]) (by simp [results,Tryz.results98,go_sem,rdr,r0,r1,r2];rfl) rfl ⟨rfl,(HK2.out.set3 (Nat.le_refl _) _ _ _).set3 (by omega) _ _ _⟩
  ·rw [if_neg h2]
   have d2:decide ((most:Int)<x)=false:=decide_eq_false h2
   by_cases h3:x<(least:Int)
   ·rw [if_pos h3]
    simp only
    rw [← HZ.out,← HA.out]
    have HF:=hid (fun w=>fail_ref Z A 4 w)
    have d3:decide (x<(least:Int))=true:=decide_eq_true h3
    have hlp:0<least:=by omega
    unfold rdr at HG HF
    unfold rdr
    go_enter Tryz.func98,Tryz.ntmps98
    go_wp2_with fail
    refine (HG.out _).mono ?_
    rintro e w1 ⟨rfl,hk⟩
    have hb:Whole w1 w.heap.size 163 #[.string (strOfNums xs),.int .i64 a,.int .i64 0]:=((Whole.new w _ _).alloc _).keep hk (fun h=>h)
    have hs:Whole w1 (w.heap.size+1) 163 #[.string { data:=#[] },.int .i64 0,.int .i64 0]:=(Whole.newAt _ _ _ _ (by simp)).keep hk (fun h=>h)
    have HK:=hid ((((Keeps.refl NoBlock w).alloc _).alloc _).trans hk)
    have HB:=hid (hb.set3 (.string (strOfNums Z)) (.int .i64 A) (.int .i64 0))
    have HS:=hid (hs.other3 (h:=w.heap.size) (by omega) (.string (strOfNums Z)) (.int .i64 A) (.int .i64 0))
    have HK1:=hid (HK.out.set3 (Nat.le_refl _) (.string (strOfNums Z)) (.int .i64 A) (.int .i64 0))
    have c0:=hb.cell 0 rfl
    have c1:=hb.cell 1 rfl
    have c2:=hb.cell 2 rfl
    have f0:=hb.free 0
    have f1:=hb.free 1
    have f2:=hb.free 2
    have r0:=hs.cell 0 rfl
    have r1:=hs.cell 1 rfl
    have r2:=hs.cell 2 rfl
    have g0:=hs.free 0
    have g1:=hs.free 1
    have g2:=hs.free 2
    simp only [List.getElem_toArray,List.getElem_cons_zero,List.getElem_cons_succ] at c0 c1 c2 r0 r1 r2
    clear hk hb hs
    go_wp2_with fail
    refine (HF.out _).mono ?_
    rintro e w2 ⟨rfl,hk2⟩
    have hb2:=HB.out.keep hk2 (fun h=>h)
    have hs2:=HS.out.keep hk2 (fun h=>h)
    have HK2:=hid (HK1.out.trans hk2)
    have c0:=hb2.cell 0 rfl
    have c1:=hb2.cell 1 rfl
    have c2:=hb2.cell 2 rfl
    have f0:=hb2.free 0
    have f1:=hb2.free 1
    have f2:=hb2.free 2
    have r0:=hs2.cell 0 rfl
    have r1:=hs2.cell 1 rfl
    have r2:=hs2.cell 2 rfl
    have g0:=hs2.free 0
    have g1:=hs2.free 1
    have g2:=hs2.free 2
    simp only [List.getElem_toArray,List.getElem_cons_zero,List.getElem_cons_succ] at c0 c1 c2 r0 r1 r2
    clear hk2 hb2 hs2
    go_wp2_with fail
    exact bodyPost_ret (v:=.tuple #[rdr Z A 4,.string (strOfNums [])]) (by simp [results,Tryz.results98,go_sem,rdr,r0,r1,r2];rfl) rfl ⟨rfl,(HK2.out.set3 (Nat.le_refl _) _ _ _).set3 (by omega) _ _ _⟩
   ·rw [if_neg h3]
    have d3:decide (x<(least:Int))=false:=decide_eq_false h3
    have hx2:x≤1048576:=by omega
    have hw64:wrap64 x=x:=by unfold wrap64;omega
    obtain ⟨Z2,A2,E2,T2,hv,HT⟩:∃ (Z2:List Int) (A2 E2:Int) (T2:List Int),(Value.tuple #[rdr (List.drop (if Z.length<x.toNat then (⟨2,n,[]⟩:VT) else ⟨0,n+x.toNat,Z.take x.toNat⟩).n xs) (a+((if Z.length<x.toNat then (⟨2,n,[]⟩:VT) else ⟨0,n+x.toNat,Z.take x.toNat⟩).n:Int)) (if Z.length<x.toNat then (⟨2,n,[]⟩:VT) else ⟨0,n+x.toNat,Z.take x.toNat⟩).e,.string (strOfNums (if Z.length<x.toNat then (⟨2,n,[]⟩:VT) else ⟨0,n+x.toNat,Z.take x.toNat⟩).t)]=Value.tuple #[rdr Z2 A2 E2,.string (strOfNums T2)]) ∧
      Hid (∀ w,Calls Tryz.prog 131 #[rdr Z A 0,.int .i64 x] w fun e w'=>e=.returned (.tuple #[rdr Z2 A2 E2,.string (strOfNums T2)])∧Keeps NoBlock w w'):=by
     by_cases h4:Z.length<x.toNat
     ·refine ⟨Z,A,2,[],by rw [if_pos h4,← HZ.out,← HA.out],hid fun w=>?_⟩
      exact take_ref_short Z A x x.toNat (by omega) (by omega) h4 w
     ·by_cases h5:x=0
      ·refine ⟨Z,A,0,[],by rw [if_neg h4,h5,Int.toNat_zero,Nat.add_zero,List.take_zero,← HZ.out,← HA.out],hid fun w=>?_⟩
       exact take_ref_none Z A 0 x (by omega) w
      ·refine ⟨Z.drop x.toNat,A+(x.toNat:Int),0,Z.take x.toNat,by rw [if_neg h4,← HDD.out,Int.natCast_add,← Int.add_assoc,← HA.out],hid fun w=>?_⟩
       exact take_ref Z A x x.toNat (by omega) (by omega) (by omega) hzl hza w
    rw [hv]
    clear hv
    by_cases hlp:0<least
    ·unfold rdr at HG HT
     unfold rdr
     go_enter Tryz.func98,Tryz.ntmps98
     go_wp2_with fail
     refine (HG.out _).mono ?_
     rintro e w1 ⟨rfl,hk⟩
     have hb:Whole w1 w.heap.size 163 #[.string (strOfNums xs),.int .i64 a,.int .i64 0]:=((Whole.new w _ _).alloc _).keep hk (fun h=>h)
     have hs:Whole w1 (w.heap.size+1) 163 #[.string { data:=#[] },.int .i64 0,.int .i64 0]:=(Whole.newAt _ _ _ _ (by simp)).keep hk (fun h=>h)
     have HK:=hid ((((Keeps.refl NoBlock w).alloc _).alloc _).trans hk)
     have HB:=hid (hb.set3 (.string (strOfNums Z)) (.int .i64 A) (.int .i64 0))
     have HS:=hid (hs.other3 (h:=w.heap.size) (by omega) (.string (strOfNums Z)) (.int .i64 A) (.int .i64 0))
     have HK1:=hid (HK.out.set3 (Nat.le_refl _) (.string (strOfNums Z)) (.int .i64 A) (.int .i64 0))
     have c0:=hb.cell 0 rfl
     have c1:=hb.cell 1 rfl
     have c2:=hb.cell 2 rfl
     have f0:=hb.free 0
     have f1:=hb.free 1
     have f2:=hb.free 2
     have r0:=hs.cell 0 rfl
     have r1:=hs.cell 1 rfl
     have r2:=hs.cell 2 rfl
     have g0:=hs.free 0
     have g1:=hs.free 1
     have g2:=hs.free 2
     simp only [List.getElem_toArray,List.getElem_cons_zero,List.getElem_cons_succ] at c0 c1 c2 r0 r1 r2
     clear hk hb hs
     go_wp2_with fail
     refine (HT.out _).mono ?_
     rintro e w2 ⟨rfl,hk2⟩
     have hb2:=HB.out.keep hk2 (fun h=>h)
     have hs2:=HS.out.keep hk2 (fun h=>h)
     have HK2:=hid (HK1.out.trans hk2)
     have c0:=hb2.cell 0 rfl
     have c1:=hb2.cell 1 rfl
     have c2:=hb2.cell 2 rfl
     have f0:=hb2.free 0
     have f1:=hb2.free 1
     have f2:=hb2.free 2
     have r0:=hs2.cell 0 rfl
     have r1:=hs2.cell 1 rfl
     have r2:=hs2.cell 2 rfl
     have g0:=hs2.free 0
     have g1:=hs2.free 1
     have g2:=hs2.free 2
     simp only [List.getElem_toArray,List.getElem_cons_zero,List.getElem_cons_succ] at c0 c1 c2 r0 r1 r2
     clear hk2 hb2 hs2
     go_wp2_with fail
     exact bodyPost_ret (v:=.tuple #[rdr Z2 A2 E2,.string (strOfNums T2)]) (by simp [results,Tryz.results98,go_sem,rdr,r0,r1,r2]) rfl ⟨rfl,HK2.out.set3 (by omega) _ _ _⟩
    ·have hl00:least=0:=by omega
     subst hl00
     unfold rdr at HG HT
     unfold rdr
     go_enter Tryz.func98,Tryz.ntmps98
     go_wp2_with fail
     refine (HG.out _).mono ?_
     rintro e w1 ⟨rfl,hk⟩
     have hb:Whole w1 w.heap.size 163 #[.string (strOfNums xs),.int .i64 a,.int .i64 0]:=((Whole.new w _ _).alloc _).keep hk (fun h=>h)
     have hs:Whole w1 (w.heap.size+1) 163 #[.string { data:=#[] },.int .i64 0,.int .i64 0]:=(Whole.newAt _ _ _ _ (by simp)).keep hk (fun h=>h)
     have HK:=hid ((((Keeps.refl NoBlock w).alloc _).alloc _).trans hk)
     have HB:=hid (hb.set3 (.string (strOfNums Z)) (.int .i64 A) (.int .i64 0))
     have HS:=hid (hs.other3 (h:=w.heap.size) (by omega) (.string (strOfNums Z)) (.int .i64 A) (.int .i64 0))
     have HK1:=hid (HK.out.set3 (Nat.le_refl _) (.string (strOfNums Z)) (.int .i64 A) (.int .i64 0))
     have c0:=hb.cell 0 rfl
     have c1:=hb.cell 1 rfl
     have c2:=hb.cell 2 rfl
     have f0:=hb.free 0
     have f1:=hb.free 1
     have f2:=hb.free 2
     have r0:=hs.cell 0 rfl
     have r1:=hs.cell 1 rfl
     have r2:=hs.cell 2 rfl
     have g0:=hs.free 0
     have g1:=hs.free 1
     have g2:=hs.free 2
     simp only [List.getElem_toArray,List.getElem_cons_zero,List.getElem_cons_succ] at c0 c1 c2 r0 r1 r2
     clear hk hb hs
     go_wp2_with fail
     refine (HT.out _).mono ?_
     rintro e w2 ⟨rfl,hk2⟩
     have hb2:=HB.out.keep hk2 (fun h=>h)
     have hs2:=HS.out.keep hk2 (fun h=>h)
     have HK2:=hid (HK1.out.trans hk2)
     have c0:=hb2.cell 0 rfl
     have c1:=hb2.cell 1 rfl
     have c2:=hb2.cell 2 rfl
     have f0:=hb2.free 0
     have f1:=hb2.free 1
     have f2:=hb2.free 2
     have r0:=hs2.cell 0 rfl
     have r1:=hs2.cell 1 rfl
     have r2:=hs2.cell 2 rfl
     have g0:=hs2.free 0
     have g1:=hs2.free 1
     have g2:=hs2.free 2
     simp only [List.getElem_toArray,List.getElem_cons_zero,List.getElem_cons_succ] at c0 c1 c2 r0 r1 r2
     clear hk2 hb2 hs2
     go_wp2_with fail
     exact bodyPost_ret (v:=.tuple #[rdr Z2 A2 E2,.string (strOfNums T2)]) (by simp [results,Tryz.results98,go_sem,rdr,r0,r1,r2]) rfl ⟨rfl,HK2.out.set3 (by omega) _ _ _⟩
 ·rw [if_neg h1] at HG
  rw [if_pos h1]
  simp only
  rw [← HZ.out,← HA.out]
  have hyb:(e != 0)=true:=by simpa using h1
  have hyc:(e == 0)=false:=by simpa using h1
  have hyd:decide (e=0)=false:=decide_eq_false h1
  unfold rdr at HG
  unfold rdr
  go_enter Tryz.func98,Tryz.ntmps98
  go_wp2_with fail
  refine (HG.out _).mono ?_
  rintro e w1 ⟨rfl,hk⟩
  have hb:Whole w1 w.heap.size 163 #[.string (strOfNums xs),.int .i64 a,.int .i64 0]:=((Whole.new w _ _).alloc _).keep hk (fun h=>h)
  have hs:Whole w1 (w.heap.size+1) 163 #[.string { data:=#[] },.int .i64 0,.int .i64 0]:=(Whole.newAt _ _ _ _ (by simp)).keep hk (fun h=>h)
  have HK:=hid ((((Keeps.refl NoBlock w).alloc _).alloc _).trans hk)
  have HB:=hid (hb.set3 (.string (strOfNums Z)) (.int .i64 A) (.int .i64 e))
  have HS:=hid (hs.other3 (h:=w.heap.size) (by omega) (.string (strOfNums Z)) (.int .i64 A) (.int .i64 e))
  have HK1:=hid (HK.out.set3 (Nat.le_refl _) (.string (strOfNums Z)) (.int .i64 A) (.int .i64 e))
  have c0:=hb.cell 0 rfl
  have c1:=hb.cell 1 rfl
  have c2:=hb.cell 2 rfl
  have f0:=hb.free 0
  have f1:=hb.free 1
  have f2:=hb.free 2
  have r0:=hs.cell 0 rfl
  have r1:=hs.cell 1 rfl
  have r2:=hs.cell 2 rfl
  have g0:=hs.free 0
  have g1:=hs.free 1
  have g2:=hs.free 2
  simp only [List.getElem_toArray,List.getElem_cons_zero,List.getElem_cons_succ] at c0 c1 c2 r0 r1 r2
  clear hk hb hs
  go_wp2_with fail
  exact bodyPost_ret (v:=.tuple #[rdr Z A e,.string (strOfNums [])]) (by simp [results,Tryz.results98,go_sem,rdr,r0,r1,r2];rfl) rfl ⟨rfl,HK1.out.set3 (by omega) _ _ _⟩
end
section
open Go.RowKit
structure In8 (w:World) (p:Option Addr) (N c:Nat) (xs:List Int):Prop where
 len:N=xs.length
 cap:N≤c
 room:c≤9223372036854775807
 bare:p=none→N=0∧c=0
 oct:Octets xs
 at_:Bytes8 w p xs
theorem In8.nil (w:World):In8 w none 0 0 []:=⟨rfl,Nat.le_refl _,by decide,fun _=>⟨rfl,rfl⟩,fun b hb=>by simp at hb,Bytes8.nil _ _⟩
theorem Bytes8.left {w:World} {p:Option Addr} {xs ys:List Int} (h:Bytes8 w p (xs ++ ys)):Bytes8 w p xs:=fun h0=>by
 obtain ⟨a,ha,hc⟩:=h (by rw [List.length_append];omega)
 refine ⟨a,ha,fun i hi=>?_⟩
 rw [hc i (by rw [List.length_append];omega),List.getD_eq_getElem?_getD,List.getD_eq_getElem?_getD,List.getElem?_append_left hi]
theorem cell_new (w:World) (cs:Array Value) (t:TypeId) (f:Nat × Nat) (i:Nat) {v:Value} (h:cs[i]?=some v):(w.alloc (.cells cs t f)).cell? ⟨w.heap.size,i,none⟩=some v:=by
 have e:(w.alloc (.cells cs t f)).heap[w.heap.size]?=some (.cells cs t f):=by
  show (w.heap.push _)[w.heap.size]?=_
  simp
 unfold World.cell?
 simp only [e]
 simpa using h
end
section
open Go.RowKit
def lenOf:Value→Nat
 | .slice _ n _=>n
 | _=>0
theorem Bytes8.at4 {w:World} {p:Option Addr} {xs:List Int} (h:Bytes8 w p xs) (h4:4≤xs.length):∃ a,p=some a∧w.cell? a=some (.int .u8 (xs.getD 0 0))∧w.cell? ⟨a.block,a.off+1,none⟩=some (.int .u8 (xs.getD 1 0))∧w.cell? ⟨a.block,a.off+2,none⟩=some (.int .u8 (xs.getD 2 0))∧w.cell? ⟨a.block,a.off+3,none⟩=some (.int .u8 (xs.getD 3 0)):=by
 obtain ⟨a,rfl,hc⟩:=h (by omega)
 exact ⟨a,rfl,hc 0 (by omega),hc 1 (by omega),hc 2 (by omega),hc 3 (by omega)⟩
theorem four_le {xs:List Int} (h4:4≤xs.length):four4 xs 0=xs.getD 0 0+256*(xs.getD 1 0)+65536*(xs.getD 2 0)+16777216*(xs.getD 3 0):=by
 match xs,h4 with
 | a :: b :: c :: d :: r,_=>simp [four4,le];omega
end
section
open Go.RowKit
end
end Go.Proofs.YtehkjkcnigknkaaGreat

/-
  RecNum; VarPut; RecRef; RecRow; TextEq; RecSame.
-/
import Derived.Deep.RegionHeld3
import Derived.Lib.Bytes
import Derived.Deep.QuietTactic
import Derived.Lib.Hide
import Derived.Test.YtbmhdfjaakkoaaaM02
namespace Go.Proofs.Ytbmhdfjaakkoaaa
open Lib (hid)
section
structure Rec where
 del:Bool
 seq:Nat
 key:List Int
 val:List Int
def Rec.none:Rec:=⟨false,0,[],[]⟩
structure Rec.Fine (r:Rec):Prop where
 seq:r.seq<18446744073709551616
 key:Octets r.key
 val:Octets r.val
end
section
open Go.RowKit
end
section
open Go.RowKit
def recV (r:Rec):Value:=.agg #[.bool r.del,.int .u64 (r.seq:Int),.string (strOfNums r.key),.string (strOfNums r.val)]
def recCells (r:Rec):Array Value:=#[.bool r.del,.int .u64 (r.seq:Int),.string (strOfNums r.key),.string (strOfNums r.val)]
end
section
open Go.RowKit
def RecsAt (w:World) (p:Option Addr) (l:List Rec):Prop :=
 ∀ i,i<l.length→∃ a:Addr,p=some a∧w.cell? (a.add (i*4))=some (.bool (l.getD i Rec.none).del)∧w.cell? ⟨(a.add (i*4)).block,(a.add (i*4)).off+1,none⟩=some (.int .u64 ((l.getD i Rec.none).seq:Int)) ∧
  w.cell? ⟨(a.add (i*4)).block,(a.add (i*4)).off+2,none⟩=some (.string (strOfNums (l.getD i Rec.none).key))∧w.cell? ⟨(a.add (i*4)).block,(a.add (i*4)).off+3,none⟩=some (.string (strOfNums (l.getD i Rec.none).val))
theorem RecsAt.keep {w w':World} {p:Option Addr} {l:List Rec} (h:RecsAt w p l) {S:Nat→Prop} (hk:Keeps S w w') (hs:∀ k,k<w.heap.size→¬ S k):RecsAt w' p l:=fun i hi=>by
 obtain ⟨a,rfl,c0,c1,c2,c3⟩:=h i hi
 exact ⟨a,rfl,hk.cell c0 (hs _ (ltOfCell c0)),hk.cell c1 (hs _ (ltOfCell c1)),hk.cell c2 (hs _ (ltOfCell c2)),hk.cell c3 (hs _ (ltOfCell c3))⟩
def littleR (bytes:Nat) (r:Rec):Bool:=decide (r.key.length≤bytes) && decide (r.val.length≤bytes)
def fewR (l:List Rec) (most bytes:Nat):Bool:=l.all (littleR bytes) && decide (l.length≤most)
theorem all_take_succ {l:List Rec} {b j:Nat} (hj:j<l.length):(l.take (j+1)).all (littleR b)=((l.take j).all (littleR b) && littleR b (l.getD j Rec.none)):=by
 rw [List.take_succ_eq_append_getElem hj,List.all_append]
 simp [hj]
set_option maxHeartbeats 2000000 in
set_option maxRecDepth 10000 in
theorem few_any (p:Option Addr) (n c:Nat) (l:List Rec) (most bytes:Nat) (zm zb:Int) (hzm:zm=(most:Int)) (hzb:zb=(bytes:Int)) (hn:n=l.length) (hn9:n≤9223372036854775807) (hs:∀ r ∈ l,r.key.length≤9223372036854775807∧r.val.length≤9223372036854775807) (w:World) (hl:RecsAt w p l) :
  Calls Try.prog 8 #[.slice p n c,.int .i64 zm,.int .i64 zb] w fun e w'=>e=.returned (.bool (fewR l most bytes))∧Keeps NoBlock w w':=by
 subst hzm
 subst hzb
 have HL:=hid hl
 have HN:=hid hn
 have HS:=hid hs
 clear hl hn hs
 go_enter Try.func8,Try.ntmps8
 go_wp2_with fail
 go_loopw [11] (fun i wr=>∃ j:Nat,j≤n∧i=.int .i64 (j:Int)∧(l.take j).all (littleR bytes)=true∧Keeps NoBlock w wr) (fun i _=>n - (intOf i).toNat)
 case atStart=>exact ⟨0,Nat.zero_le _,rfl,by simp,Keeps.refl _ _⟩
 case round =>
  obtain ⟨j,hj,rfl,hall,hk⟩:=hrel
  have HK:=hid hk
  have HA:=hid hall
  clear hk hall
  by_cases hlt:j<n
  ·have hdj:decide ((j:Int)<(n:Int))=true:=decide_eq_true (by omega)
   have hjl:j<l.length:=by rw [← HN.out];exact hlt
   obtain ⟨a,rfl,c0,c1,c2,c3⟩:=(HL.out.keep HK.out (fun _ _ h=>h)) j hjl
   have hmem:l.getD j Rec.none ∈ l:=by simp [hjl]
   have hsr:=HS.out _ hmem
   have HT:=hid (all_take_succ (b:=bytes) hjl)
   obtain ⟨r,hr⟩:∃ r,r=l.getD j Rec.none:=⟨_,rfl⟩
   rw [← hr] at c0 c1 c2 c3 hsr HT
   have hk1:=str_size r.key
   have hv1:=str_size r.val
   have hbad:littleR bytes r=false→fewR l most bytes=false:=fun h=>by
    unfold fewR
    have:l.all (littleR bytes)=false:=by
     rw [Bool.eq_false_iff]
     intro ha
     have:=List.all_eq_true.1 ha r (by rw [hr];exact hmem)
     rw [h] at this
     cases this
    rw [this]
    rfl
   have HBd:=hid hbad
   clear hr hmem hjl hbad
   by_cases k1:bytes<r.key.length
   ·have dk:decide (bytes<r.key.length)=true:=decide_eq_true k1
    have dk2:decide ((bytes:Int)<(r.key.length:Int))=true:=decide_eq_true (by omega)
    have e:=HBd.out (by unfold littleR;rw [decide_eq_false (by omega)];rfl)
    have HE:=hid e
    clear e
    go_wp2_with fail
    go_ret
    rw [HE.out]
    exact ⟨rfl,HK.out.alloc _⟩
   ·have dk:decide (bytes<r.key.length)=false:=decide_eq_false k1
    have dk2:decide ((bytes:Int)<(r.key.length:Int))=false:=decide_eq_false (by omega)
    by_cases k2:bytes<r.val.length
    ·have dv:decide (bytes<r.val.length)=true:=decide_eq_true k2
     have dv2:decide ((bytes:Int)<(r.val.length:Int))=true:=decide_eq_true (by omega)
     have e:=HBd.out (by unfold littleR;rw [Bool.and_comm,decide_eq_false (show ¬ r.val.length≤bytes by omega)];rfl)
     have HE:=hid e
     clear e
     go_wp2_with fail
     go_ret
     rw [HE.out]
     exact ⟨rfl,HK.out.alloc _⟩
    ·have dv:decide (bytes<r.val.length)=false:=decide_eq_false k2
     have dv2:decide ((bytes:Int)<(r.val.length:Int))=false:=decide_eq_false (by omega)
     have hgood:littleR bytes r=true:=by unfold littleR;rw [decide_eq_true (show r.key.length≤bytes by omega),decide_eq_true (show r.val.length≤bytes by omega)];rfl
     have HG:=hid hgood
     clear hgood
     go_wp2_with fail
     exact ⟨⟨j+1,by omega,by go_num,by rw [HT.out,HA.out,HG.out];rfl,HK.out.alloc _⟩,by simp [intOf];omega⟩
  ·have hdj:decide ((j:Int)<(n:Int))=false:=decide_eq_false (by omega)
   have hall:l.all (littleR bytes)=true:=by
    have:=HA.out
    rwa [List.take_of_length_le (by rw [← HN.out];omega)] at this
   have hres:fewR l most bytes=decide ((n:Int)≤(most:Int)):=by
    unfold fewR
    rw [hall,Bool.true_and,← HN.out]
    by_cases h:n≤most
    ·rw [decide_eq_true h,decide_eq_true (by omega)]
    ·rw [decide_eq_false h,decide_eq_false (by omega)]
   have HR:=hid hres
   clear hall hres
   go_wp2_with fail
   go_ret
   rw [HR.out]
   exact ⟨by simp,HK.out⟩
end
section
open Go.RowKit
theorem strOf_inj {xs ys:List Int} (hx:Octets xs) (hy:Octets ys) (h:strOfNums xs=strOfNums ys):xs=ys:=by
 have e:(strOfNums xs).data.toList=(strOfNums ys).data.toList:=by rw [h]
 rw [strOfNums_data,strOfNums_data] at e
 have hm:∀ {zs:List Int},Octets zs→(zs.map fun n=>UInt8.ofNat n.toNat).map (fun u=>((u.toNat:Nat):Int))=zs:=fun {zs} hz=>by
  rw [List.map_map]
  conv=>rhs;rw [← List.map_id zs]
  exact List.map_congr_left fun z hzm=>by
   have:=hz z hzm
   simp [UInt8.toNat_ofNat']
   omega
 rw [← hm hx,← hm hy,e]
theorem text_beq (a b:ByteArray):(a.toList == b.toList)=decide (a=b):=by
 rw [Bool.eq_iff_iff,beq_iff_eq,decide_eq_true_iff,ByteArray.toList_eq,ByteArray.toList_eq]
 exact ⟨fun h=>ByteArray.ext (Array.toList_inj.1 h),fun h=>by rw [h]⟩
end
section
open Go.RowKit
instance recDec16:DecidableEq Rec:=fun a b =>
 if h:a.del=b.del∧a.seq=b.seq∧a.key=b.key∧a.val=b.val then isTrue (by
  cases a
  cases b
  simp only at h
  obtain ⟨h1,h2,h3,h4⟩:=h
  rw [h1,h2,h3,h4])
 else isFalse (fun e=>h (by subst e;exact ⟨rfl,rfl,rfl,rfl⟩))
theorem recDiff {a b:Rec} (ha:a.Fine) (hb:b.Fine) (w:World):(binOp .neq 30 (recV a) (recV b)).run Try.prog w=.ok (.bool (decide (a ≠ b))) w:=by
 by_cases hab:a=b
 ·subst hab
  unfold recV
  simp [go_sem]
 rw [decide_eq_true (show a ≠ b from hab)]
 by_cases h1:a.del=b.del
 ·by_cases h2:a.seq=b.seq
  ·by_cases h3:(strOfNums a.key).toList=(strOfNums b.key).toList
   ·by_cases h4:(strOfNums a.val).toList=(strOfNums b.val).toList
    ·exfalso
     have e3:=text_beq (strOfNums a.key) (strOfNums b.key)
     have e4:=text_beq (strOfNums a.val) (strOfNums b.val)
     rw [h3,beq_self_eq_true] at e3
     rw [h4,beq_self_eq_true] at e4
     have k3:=strOf_inj ha.key hb.key (of_decide_eq_true e3.symm)
     have k4:=strOf_inj ha.val hb.val (of_decide_eq_true e4.symm)
     apply hab
     cases a
     cases b
     simp only at h1 h2 k3 k4
     rw [h1,h2,k3,k4]
    ·unfold recV
     simp [go_sem,h1,h2,h3,h4]
   ·unfold recV
    simp [go_sem,h1,h2,h3]
  ·have:¬ (a.seq:Int)=(b.seq:Int):=by omega
   unfold recV
   simp [go_sem,h1,this]
 ·unfold recV
  simp [go_sem,h1]
theorem take_more16 {l k:List Rec} {j:Nat} (hl:j<l.length) (hk:j<k.length) (h:l.take j=k.take j) (h2:l.getD j Rec.none=k.getD j Rec.none):l.take (j+1)=k.take (j+1):=by
 rw [List.take_succ_eq_append_getElem hl,List.take_succ_eq_append_getElem hk,h]
 simp [hl,hk] at h2
 rw [h2]
set_option maxHeartbeats 4000000 in
set_option maxRecDepth 10000 in
theorem same16_ref (p:Option Addr) (n c:Nat) (l:List Rec) (q:Option Addr) (m d:Nat) (k:List Rec) (hn:n=l.length) (hm:m=k.length) (hn9:n≤1000000) (hf:∀ r ∈ l,r.Fine) (hg:∀ r ∈ k,r.Fine) (w:World) (hl:RecsAt w p l) (hk:RecsAt w q k) :
  Calls Try.prog 14 #[.slice p n c,.slice q m d] w fun e w'=>e=.returned (.bool (decide (l=k)))∧Keeps NoBlock w w':=by
 by_cases hnm:n=m
 rotate_left
 ·have h0:decide (l=k)=false:=decide_eq_false (fun h=>hnm (by rw [hn,hm,h]))
  have hz:((n:Int) == (m:Int))=false:=by rw [beq_eq_false_iff_ne];omega
  have hz2:(n == m)=false:=by rw [beq_eq_false_iff_ne];exact hnm
  rw [h0]
  clear hl hk hf hg hn hm h0
  go_enter Try.func14,Try.ntmps14
  go_wp2_with fail
  go_ret
  exact ⟨rfl,Keeps.refl _ _⟩
 subst hnm
 have HL:=hid hl
 have HKk:=hid hk
 have HN:=hid (And.intro hn hm)
 have HFn:=hid (And.intro hf hg)
 clear hl hk hn hm hf hg
 go_enter Try.func14,Try.ntmps14
 go_wp2_with fail
 go_loopw [13] (fun i wr=>∃ j:Nat,j≤n∧i=.int .i64 (j:Int)∧Hid (l.take j=k.take j)∧Hid (Keeps NoBlock w wr)) (fun i _=>n - (intOf i).toNat)
 case atStart=>exact ⟨0,Nat.zero_le _,rfl,hid rfl,hid (Keeps.refl _ _)⟩
 case round =>
  obtain ⟨j,hj,rfl,HT,HK⟩:=hrel
  by_cases hlt:j<n
  ·have hdj:decide ((j:Int)<(n:Int))=true:=decide_eq_true (by omega)
   have hdj2:decide (j<n)=true:=decide_eq_true hlt
   have hjl:j<l.length:=by rw [← HN.out.1];exact hlt
   have hjk:j<k.length:=by rw [← HN.out.2];exact hlt
   obtain ⟨a,rfl,x0,x1,x2,x3⟩:=(HL.out.keep HK.out (fun _ _ h=>h)) j hjl
   obtain ⟨b,rfl,y0,y1,y2,y3⟩:=(HKk.out.keep HK.out (fun _ _ h=>h)) j hjk
   have hcmp:=recDiff (HFn.out.1 _ (show l.getD j Rec.none ∈ l by simp [hjl])) (HFn.out.2 _ (show k.getD j Rec.none ∈ k by simp [hjk]))
   have HMr:=hid (take_more16 hjl hjk HT.out)
   have HLs:=hid (show l.getD j Rec.none ≠ k.getD j Rec.none→l ≠ k from fun h1 h2=>h1 (by rw [h2]))
   obtain ⟨r1,hr1⟩:∃ r,r=l.getD j Rec.none:=⟨_,rfl⟩
   obtain ⟨r2,hr2⟩:∃ r,r=k.getD j Rec.none:=⟨_,rfl⟩
   rw [← hr1] at x0 x1 x2 x3 hcmp HMr HLs
   rw [← hr2] at y0 y1 y2 y3 hcmp HMr HLs
   unfold recV at hcmp
   have hjL:(j:Int)<(n:Int):=by omega
   clear hr1 hr2 hjl hjk
   by_cases hne:r1=r2
   ·rw [decide_eq_false (show ¬ r1 ≠ r2 from fun h=>h hne)] at hcmp
    have HE:=hid (HMr.out hne)
    clear hne
    go_wp2_with fail
    go_quiet (fail)
    go_wp2_with fail
    go_roundw
    case rel=>exact ⟨j+1,by omega,by go_num,HE,hid (by first|exact HK.out.drewN _|exact HK.out)⟩
    case measure=>simp [intOf];omega
   ·rw [decide_eq_true (show r1 ≠ r2 from hne)] at hcmp
    have HE:=hid (show decide (l=k)=false from decide_eq_false (HLs.out hne))
    clear hne
    go_wp2_with fail
    go_quiet (fail)
    go_wp2_with fail
    go_ret
    rw [HE.out]
    exact ⟨rfl,by first|exact HK.out.drewN _|exact HK.out⟩
  ·have hdj:decide ((j:Int)<(n:Int))=false:=decide_eq_false (by omega)
   have hdj2:decide (j<n)=false:=decide_eq_false hlt
   have HE:Hid (decide (l=k)=true):=hid (decide_eq_true (by
    have h1:=HT.out
    rw [List.take_of_length_le (by have:=HN.out.1;omega),List.take_of_length_le (by have:=HN.out.2;omega)] at h1
    exact h1))
   go_wp2_with fail
   go_ret
   rw [HE.out]
   exact ⟨rfl,HK.out⟩
end
end Go.Proofs.Ytbmhdfjaakkoaaa

/-
  ImEnc; DeDec; SgPaNum; SgBaNum; RecSame; ImSame.
-/
import Derived.Deep.QuietTactic
import Derived.Lib.Hide
import Derived.Test.YtehkjkcnigknkaaGreatV07
import Derived.Test.YtehkjkcnigknkaaGreatV14
import Derived.Test.YtehkjkcnigknkaaGreatV15
import Derived.Test.YtehkjkcnigknkaaGreatV16
import Derived.Test.YtehkjkcnigknkaaGreatV18
import Derived.Test.YtehkjkcnigknkaaGreatV19
namespace Go.Proofs.YtehkjkcnigknkaaGreat
open Lib (hid)
section
open Go.RowKit
theorem planI_steps {e s:Nat} {l:List Rec} (h:(planI e s l).1=0):Steps 0 (planI e s l).2∧l.length=(planI e s l).2.length:=by
 have hp:planI e s l=planP e s (sizesR l):=by
  unfold planI at h ⊢
  split at h
  ·rename_i hm
   rw [if_pos hm]
   split at h
   ·rename_i hr;exact absurd h hr
   ·rename_i hr;rw [if_neg hr]
  ·exact absurd h (by decide)
 rw [hp] at h ⊢
 obtain ⟨h1,h2⟩:=plan_steps h
 exact ⟨h1,by rw [h2,sizesR_length]⟩
theorem segsGo_snoc (e s m:Nat):∀ (ps:List (List Rec)) (i:Nat) (p:List Rec),segsGo e s m i (ps ++ [p])=segsGo e s m i ps ++ textS e s (i+ps.length) p (decide (i+ps.length+1<m))
 | [],i,p=>by simp [segsGo]
 | a :: ps,i,p=>by
  rw [List.cons_append,segsGo,segsGo,segsGo_snoc e s m ps (i+1) p,List.length_cons,List.append_assoc,show i+1+ps.length=i+(ps.length+1) by omega]
theorem segsGo_take {e s m:Nat} {ps:List (List Rec)} {j:Nat} (hj:j<ps.length):segsGo e s m 0 (ps.take (j+1))=segsGo e s m 0 (ps.take j) ++ textS e s j (ps.getD j []) (decide (j+1<m)):=by
 rw [List.take_succ_eq_append_getElem hj,segsGo_snoc,List.length_take,Nat.min_eq_left (by omega),Nat.zero_add]
 simp [hj]
theorem PartsSoFar.part {w0 wr:World} {ps:List (List Rec)} {hs:List Value} {v:Value} (h:PartsSoFar w0 ps hs v wr) {i:Nat} (hi:i<ps.length):∃ q d,hs.getD i nilS=.slice q (ps.getD i []).length d∧RecsAt wr q (ps.getD i []):=by
 obtain ⟨q,m,d,hv,rfl,_,_,_,hr,_⟩:=RecsSoFar.new (show RecsSoFar w0 (ps.getD i []) (hs.getD i nilS) wr from ⟨h.heads.row i hi,h.below⟩)
 exact ⟨q,d,hv,hr⟩
theorem part_mem {l:List Rec} {ps:List (List Rec)} (hf:ps.flatten=l) {i:Nat} (hi:i<ps.length):∀ r ∈ ps.getD i [],r ∈ l:=fun r hr=>by
 rw [← hf]
 refine List.mem_flatten.2 ⟨ps.getD i [],?_,hr⟩
 simp [hi]
end
section
open Go.RowKit
theorem segs_octets {e s m:Nat} (he:e<256):∀ (ps:List (List Rec)) (i:Nat),(∀ p ∈ ps,∀ r ∈ p,r.Fine)→Octets (segsGo e s m i ps)
 | [],_,_=>fun b hb=>by simp [segsGo] at hb
 | p :: ps,i,h=>by
  rw [segsGo]
  exact (textS_octets he (h p List.mem_cons_self) _).app (segs_octets he ps (i+1) (fun q hq=>h q (List.mem_cons_of_mem _ hq)))
theorem enc_octets {e s:Nat} (he:e<256) {l:List Rec} (hf:∀ r ∈ l,r.Fine):Octets (encI e s l).2:=by
 unfold encI
 by_cases h:(planI e s l).1 ≠ 0
 ·rw [if_pos h]
  exact fun b hb=>by simp at hb
 ·rw [if_neg h]
  have hp:=(parts_all (e:=e) (s:=s) (l:=l) (by simpa using h)).1
  refine segs_octets he _ _ (fun p hp' r hr=>hf r ?_)
  rw [← hp]
  exact List.mem_flatten.2 ⟨p,hp',hr⟩
end
section
open Go.RowKit
theorem entsGo_at:∀ (l:List Rec) (k i:Nat),i<l.length→((entsGo k l).getD i En.none).at_=k+(recsB (l.take i)).length
 | [],_,_,h=>by simp at h
 | r :: l,k,0,_=>by simp [entsGo,recsB]
 | r :: l,k,i+1,h=>by
  have e:recsB ((r :: l).take (i+1))=recB r ++ recsB (l.take i):=by unfold recsB;rw [List.take_succ_cons,List.flatMap_cons]
  rw [entsGo,List.getD_cons_succ,entsGo_at l _ i (by simpa using h),e,List.length_append,Nat.add_assoc]
theorem places_length (e s n:Nat) (l:List Rec):(placesS e s n l).length=l.length:=by
 unfold placesS entsS
 rw [List.length_map,entsGo_length]
theorem places_at {e s n:Nat} {l:List Rec} {i:Nat} (h:i<l.length):(placesS e s n l).getD i 0=(outS e s n (l.take i)).length:=by
 have h2:i<(entsGo (headLen e s n) l).length:=by rw [entsGo_length];exact h
 have h1:=entsGo_at l (headLen e s n) i h
 unfold placesS entsS
 rw [List.getD_eq_getElem?_getD,List.getElem?_map,List.getElem?_eq_getElem h2]
 rw [List.getD_eq_getElem?_getD,List.getElem?_eq_getElem h2] at h1
 show ((entsGo (headLen e s n) l)[i]).at_=_
 simp only [Option.getD_some] at h1
 rw [h1]
 unfold outS headLen
 rw [List.length_append]
theorem shl15 {k:Nat}:Op.shift BinOp.shl IntKind.i64 1 IntKind.u8 (smallE k:Int)=pure (.int .i64 ((2 ^ smallE k:Nat):Int)):=by
 have:=small_room k
 have h:smallE k=12 ∨ smallE k=13:=by omega
 rcases h with h|h <;> rw [h] <;> rfl
theorem two15 (k:Nat):4096≤2 ^ smallE k∧2 ^ smallE k≤8192:=by
 have:=small_room k
 have h:smallE k=12 ∨ smallE k=13:=by omega
 rcases h with h|h <;> rw [h] <;> decide
end
section
open Go.RowKit
def u32V (x:Nat):Value:=.int .u32 (x:Int)
theorem out_fits {e s n:Nat} {l:List Rec} (h:InRoom (sgRoom e s n l) l):(outS e s n l).length≤2 ^ e:=by
 have:=frames_fit h false (fun h=>by simp at h)
 simpa [framesS,sgRoom] using this
theorem OwnR.recs {w0 wr:World} {F:Nat→Prop} {hv:Value} {l:List Rec} (h:OwnR w0 F 48 4 hv l.length (rcFlat l) wr) (hk:Keeps NoBlock w0 wr):NewRecs w0 l hv wr:=RecsSoFar.new ⟨h.1,hk.below (Nat.le_refl _) (fun _ _ h=>h)⟩
theorem addBlk (a:Addr) (i:Nat):(a.add i).block=a.block:=by unfold Addr.add;split <;> rfl
theorem recs_far {w w':World} {p:Option Addr} {l:List Rec} (h:RecsAt w p l) {S:Nat→Prop} (hk:Keeps S w w') (hs:∀ a,p=some a→¬ S a.block):RecsAt w' p l:=fun i hi=>by
 obtain ⟨a,rfl,c0,c1,c2,c3⟩:=h i hi
 have h1:¬ S (a.add (i*4)).block:=by rw [addBlk];exact hs a rfl
 exact ⟨a,rfl,hk.cell c0 h1,hk.cell c1 h1,hk.cell c2 h1,hk.cell c3 h1⟩
theorem row32_far {w w':World} {p:Option Addr} {l:List Nat} (h:Row32 w p l) {S:Nat→Prop} (hk:Keeps S w w') (hs:∀ a,p=some a→¬ S a.block):Row32 w' p l:=fun i hi=>by
 obtain ⟨a,rfl,c0⟩:=h i hi
 exact ⟨a,rfl,hk.cell c0 (by rw [addBlk];exact hs a rfl)⟩
end
section
open Go.RowKit
instance recDec16:DecidableEq Rec:=fun a b =>
 if h:a.del=b.del∧a.seq=b.seq∧a.key=b.key∧a.val=b.val then isTrue (by
  cases a
  cases b
  simp only at h
  obtain ⟨h1,h2,h3,h4⟩:=h
  rw [h1,h2,h3,h4])
 else isFalse (fun e=>h (by subst e;exact ⟨rfl,rfl,rfl,rfl⟩))
theorem recDiff {a b:Rec} (ha:a.Fine) (hb:b.Fine) (w:World):(binOp .neq 48 (recV a) (recV b)).run Tryz.prog w=.ok (.bool (decide (a ≠ b))) w:=by
 by_cases hab:a=b
 ·subst hab
  unfold recV
  simp [go_sem]
 rw [decide_eq_true (show a ≠ b from hab)]
 by_cases h1:a.del=b.del
 ·by_cases h2:a.seq=b.seq
  ·by_cases h3:(strOfNums a.key).toList=(strOfNums b.key).toList
   ·by_cases h4:(strOfNums a.val).toList=(strOfNums b.val).toList
    ·exfalso
     have e3:=text_beq (strOfNums a.key) (strOfNums b.key)
     have e4:=text_beq (strOfNums a.val) (strOfNums b.val)
     rw [h3,beq_self_eq_true] at e3
     rw [h4,beq_self_eq_true] at e4
     have k3:=strOf_inj ha.key hb.key (of_decide_eq_true e3.symm)
     have k4:=strOf_inj ha.val hb.val (of_decide_eq_true e4.symm)
     apply hab
     cases a
     cases b
     simp only at h1 h2 k3 k4
     rw [h1,h2,k3,k4]
    ·unfold recV
     simp [go_sem,h1,h2,h3,h4]
   ·unfold recV
    simp [go_sem,h1,h2,h3]
  ·have:¬ (a.seq:Int)=(b.seq:Int):=by omega
   unfold recV
   simp [go_sem,h1,this]
 ·unfold recV
  simp [go_sem,h1]
theorem take_more16 {l k:List Rec} {j:Nat} (hl:j<l.length) (hk:j<k.length) (h:l.take j=k.take j) (h2:l.getD j Rec.none=k.getD j Rec.none):l.take (j+1)=k.take (j+1):=by
 rw [List.take_succ_eq_append_getElem hl,List.take_succ_eq_append_getElem hk,h]
 simp [hl,hk] at h2
 rw [h2]
set_option maxHeartbeats 4000000 in
set_option maxRecDepth 10000 in
theorem same16_ref (p:Option Addr) (n c:Nat) (l:List Rec) (q:Option Addr) (m d:Nat) (k:List Rec) (hn:n=l.length) (hm:m=k.length) (hn9:n≤1000000) (hf:∀ r ∈ l,r.Fine) (hg:∀ r ∈ k,r.Fine) (w:World) (hl:RecsAt w p l) (hk:RecsAt w q k) :
  Calls Tryz.prog 11 #[.slice p n c,.slice q m d] w fun e w'=>e=.returned (.bool (decide (l=k)))∧Keeps NoBlock w w':=by
 by_cases hnm:n=m
 rotate_left
 ·have h0:decide (l=k)=false:=decide_eq_false (fun h=>hnm (by rw [hn,hm,h]))
  have hz:((n:Int) == (m:Int))=false:=by rw [beq_eq_false_iff_ne];omega
  have hz2:(n == m)=false:=by rw [beq_eq_false_iff_ne];exact hnm
  rw [h0]
  clear hl hk hf hg hn hm h0
  go_enter Tryz.func11,Tryz.ntmps11
  go_wp2_with fail
  go_ret
  exact ⟨rfl,Keeps.refl _ _⟩
 subst hnm
 have HL:=hid hl
 have HKk:=hid hk
 have HN:=hid (And.intro hn hm)
 have HFn:=hid (And.intro hf hg)
 clear hl hk hn hm hf hg
 go_enter Tryz.func11,Tryz.ntmps11
 go_wp2_with fail
 go_loopw [13] (fun i wr=>∃ j:Nat,j≤n∧i=.int .i64 (j:Int)∧Hid (l.take j=k.take j)∧Hid (Keeps NoBlock w wr)) (fun i _=>n - (intOf i).toNat)
 case atStart=>exact ⟨0,Nat.zero_le _,rfl,hid rfl,hid (Keeps.refl _ _)⟩
 case round =>
  obtain ⟨j,hj,rfl,HT,HK⟩:=hrel
  by_cases hlt:j<n
  ·have hdj:decide ((j:Int)<(n:Int))=true:=decide_eq_true (by omega)
   have hdj2:decide (j<n)=true:=decide_eq_true hlt
   have hjl:j<l.length:=by rw [← HN.out.1];exact hlt
   have hjk:j<k.length:=by rw [← HN.out.2];exact hlt
   obtain ⟨a,rfl,x0,x1,x2,x3⟩:=(HL.out.keep HK.out (fun _ _ h=>h)) j hjl
   obtain ⟨b,rfl,y0,y1,y2,y3⟩:=(HKk.out.keep HK.out (fun _ _ h=>h)) j hjk
   have hcmp:=recDiff (HFn.out.1 _ (show l.getD j Rec.none ∈ l by simp [hjl])) (HFn.out.2 _ (show k.getD j Rec.none ∈ k by simp [hjk]))
   have HMr:=hid (take_more16 hjl hjk HT.out)
   have HLs:=hid (show l.getD j Rec.none ≠ k.getD j Rec.none→l ≠ k from fun h1 h2=>h1 (by rw [h2]))
   obtain ⟨r1,hr1⟩:∃ r,r=l.getD j Rec.none:=⟨_,rfl⟩
   obtain ⟨r2,hr2⟩:∃ r,r=k.getD j Rec.none:=⟨_,rfl⟩
   rw [← hr1] at x0 x1 x2 x3 hcmp HMr HLs
   rw [← hr2] at y0 y1 y2 y3 hcmp HMr HLs
   unfold recV at hcmp
   have hjL:(j:Int)<(n:Int):=by omega
   clear hr1 hr2 hjl hjk
   by_cases hne:r1=r2
   ·rw [decide_eq_false (show ¬ r1 ≠ r2 from fun h=>h hne)] at hcmp
    have HE:=hid (HMr.out hne)
    clear hne
    go_wp2_with fail
    go_quiet (fail)
    go_wp2_with fail
    go_roundw
    case rel=>exact ⟨j+1,by omega,by go_num,HE,hid (by first|exact HK.out.drewN _|exact HK.out)⟩
    case measure=>simp [intOf];omega
   ·rw [decide_eq_true (show r1 ≠ r2 from hne)] at hcmp
    have HE:=hid (show decide (l=k)=false from decide_eq_false (HLs.out hne))
    clear hne
    go_wp2_with fail
    go_quiet (fail)
    go_wp2_with fail
    go_ret
    rw [HE.out]
    exact ⟨rfl,by first|exact HK.out.drewN _|exact HK.out⟩
  ·have hdj:decide ((j:Int)<(n:Int))=false:=decide_eq_false (by omega)
   have hdj2:decide (j<n)=false:=decide_eq_false hlt
   have HE:Hid (decide (l=k)=true):=hid (decide_eq_true (by
    have h1:=HT.out
    rw [List.take_of_length_le (by have:=HN.out.1;omega),List.take_of_length_le (by have:=HN.out.2;omega)] at h1
    exact h1))
   go_wp2_with fail
   go_ret
   rw [HE.out]
   exact ⟨rfl,HK.out⟩
end
section
end
end Go.Proofs.YtehkjkcnigknkaaGreat

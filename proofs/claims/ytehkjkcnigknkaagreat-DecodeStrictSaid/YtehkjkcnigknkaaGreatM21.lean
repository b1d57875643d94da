/-
  RecSame; ImSame; ImLaws; DeLaws; RecNone; ImLaws3.
-/
import Derived.Deep.QuietTactic
import Derived.Lib.Hide
import Derived.Test.YtehkjkcnigknkaaGreatM01
import Derived.Test.YtehkjkcnigknkaaGreatM07
import Derived.Test.YtehkjkcnigknkaaGreatM11
import Derived.Test.YtehkjkcnigknkaaGreatM13
import Derived.Test.YtehkjkcnigknkaaGreatM18
import Derived.Test.YtehkjkcnigknkaaGreatM20
namespace Go.Proofs.YtehkjkcnigknkaaGreat
open Lib (hid)
section
open Go.RowKit
instance recDec16:DecidableEq Rec:=fun a b =>
 if h:a.del=b.del∧a.seq=b.seq∧a.key=b.key∧a.val=b.val then isTrue (by
  cases a
  cases b
  simp only at h
  obtain ⟨h1,h2,h3,h4⟩:=h
  rw [h1,h2,h3,h4])
 else isFalse (fun e=>h (by subst e;exact ⟨rfl,rfl,rfl,rfl⟩))
theorem recDiff {a b:Rec} (ha:a.Fine) (hb:b.Fine) (w:World):(binOp .neq 48 (recV a) (recV b)).run Tryz.prog w=.ok (.bool (decide (a ≠ b))) w:=by
 by_cases hab:a=b
 ·subst hab
  unfold recV
  simp [go_sem]
 rw [decide_eq_true (show a ≠ b from hab)]
 by_cases h1:a.del=b.del
 ·by_cases h2:a.seq=b.seq
  ·by_cases h3:(strOfNums a.key).toList=(strOfNums b.key).toList
   ·by_cases h4:(strOfNums a.val).toList=(strOfNums b.val).toList
    ·exfalso
     have e3:=text_beq (strOfNums a.key) (strOfNums b.key)
     have e4:=text_beq (strOfNums a.val) (strOfNums b.val)
     rw [h3,beq_self_eq_true] at e3
     rw [h4,beq_self_eq_true] at e4
     have k3:=strOf_inj ha.key hb.key (of_decide_eq_true e3.symm)
     have k4:=strOf_inj ha.val hb.val (of_decide_eq_true e4.symm)
     apply hab
     cases a
     cases b
     simp only at h1 h2 k3 k4
     rw [h1,h2,k3,k4]
    ·unfold recV
     simp [go_sem,h1,h2,h3,h4]
   ·unfold recV
    simp [go_sem,h1,h2,h3]
  ·have:¬ (a.seq:Int)=(b.seq:Int):=by omega
   unfold recV
   simp [go_sem,h1,this]
 ·unfold recV
  simp [go_sem,h1]
theorem take_more16 {l k:List Rec} {j:Nat} (hl:j<l.length) (hk:j<k.length) (h:l.take j=k.take j) (h2:l.getD j Rec.none=k.getD j Rec.none):l.take (j+1)=k.take (j+1):=by
 rw [List.take_succ_eq_append_getElem hl,List.take_succ_eq_append_getElem hk,h]
 simp [hl,hk] at h2
 rw [h2]
set_option maxHeartbeats 4000000 in
set_option maxRecDepth 10000 in
theorem same16_ref (p:Option Addr) (n c:Nat) (l:List Rec) (q:Option Addr) (m d:Nat) (k:List Rec) (hn:n=l.length) (hm:m=k.length) (hn9:n≤1000000) (hf:∀ r ∈ l,r.Fine) (hg:∀ r ∈ k,r.Fine) (w:World) (hl:RecsAt w p l) (hk:RecsAt w q k) :
  Calls Tryz.prog 11 #[.slice p n c,.slice q m d] w fun e w'=>e=.returned (.bool (decide (l=k)))∧Keeps NoBlock w w':=by
 by_cases hnm:n=m
 rotate_left
 ·have h0:decide (l=k)=false:=decide_eq_false (fun h=>hnm (by rw [hn,hm,h]))
  have hz:((n:Int) == (m:Int))=false:=by rw [beq_eq_false_iff_ne];omega
  have hz2:(n == m)=false:=by rw [beq_eq_false_iff_ne];exact hnm
  rw [h0]
  clear hl hk hf hg hn hm h0
  go_enter Tryz.func11,Tryz.ntmps11
  go_wp2_with fail
  go_ret
  exact ⟨rfl,Keeps.refl _ _⟩
 subst hnm
 have HL:=hid hl
 have HKk:=hid hk
 have HN:=hid (And.intro hn hm)
 have HFn:=hid (And.intro hf hg)
 clear hl hk hn hm hf hg
 go_enter Tryz.func11,Tryz.ntmps11
 go_wp2_with fail
 go_loopw [13] (fun i wr=>∃ j:Nat,j≤n∧i=.int .i64 (j:Int)∧Hid (l.take j=k.take j)∧Hid (Keeps NoBlock w wr)) (fun i _=>n - (intOf i).toNat)
 case atStart=>exact ⟨0,Nat.zero_le _,rfl,hid rfl,hid (Keeps.refl _ _)⟩
 case round =>
  obtain ⟨j,hj,rfl,HT,HK⟩:=hrel
  by_cases hlt:j<n
  ·have hdj:decide ((j:Int)<(n:Int))=true:=decide_eq_true (by omega)
   have hdj2:decide (j<n)=true:=decide_eq_true hlt
   have hjl:j<l.length:=by rw [← HN.out.1];exact hlt
   have hjk:j<k.length:=by rw [← HN.out.2];exact hlt
   obtain ⟨a,rfl,x0,x1,x2,x3⟩:=(HL.out.keep HK.out (fun _ _ h=>h)) j hjl
   obtain ⟨b,rfl,y0,y1,y2,y3⟩:=(HKk.out.keep HK.out (fun _ _ h=>h)) j hjk
   have hcmp:=recDiff (HFn.out.1 _ (show l.getD j Rec.none ∈ l by simp [hjl])) (HFn.out.2 _ (show k.getD j Rec.none ∈ k by simp [hjk]))
   have HMr:=hid (take_more16 hjl hjk HT.out)
   have HLs:=hid (show l.getD j Rec.none ≠ k.getD j Rec.none→l ≠ k from fun h1 h2=>h1 (by rw [h2]))
   obtain ⟨r1,hr1⟩:∃ r,r=l.getD j Rec.none:=⟨_,rfl⟩
   obtain ⟨r2,hr2⟩:∃ r,r=k.getD j Rec.none:=⟨_,rfl⟩
   rw [← hr1] at x0 x1 x2 x3 hcmp HMr HLs
   rw [← hr2] at y0 y1 y2 y3 hcmp HMr HLs
   unfold recV at hcmp
   have hjL:(j:Int)<(n:Int):=by omega
   clear hr1 hr2 hjl hjk
   by_cases hne:r1=r2
   ·rw [decide_eq_false (show ¬ r1 ≠ r2 from fun h=>h hne)] at hcmp
    have HE:=hid (HMr.out hne)
    clear hne
    go_wp2_with fail
    go_quiet (fail)
    go_wp2_with fail
    go_roundw
    case rel=>exact ⟨j+1,by omega,by go_num,HE,hid (by first|exact HK.out.drewN _|exact HK.out)⟩
    case measure=>simp [intOf];omega
   ·rw [decide_eq_true (show r1 ≠ r2 from hne)] at hcmp
    have HE:=hid (show decide (l=k)=false from decide_eq_false (HLs.out hne))
    clear hne
    go_wp2_with fail
    go_quiet (fail)
    go_wp2_with fail
    go_ret
    rw [HE.out]
    exact ⟨rfl,by first|exact HK.out.drewN _|exact HK.out⟩
  ·have hdj:decide ((j:Int)<(n:Int))=false:=decide_eq_false (by omega)
   have hdj2:decide (j<n)=false:=decide_eq_false hlt
   have HE:Hid (decide (l=k)=true):=hid (decide_eq_true (by
    have h1:=HT.out
    rw [List.take_of_length_le (by have:=HN.out.1;omega),List.take_of_length_le (by have:=HN.out.2;omega)] at h1
    exact h1))
   go_wp2_with fail
   go_ret
   rw [HE.out]
   exact ⟨rfl,HK.out⟩
end
section
end
section
open Go.RowKit
structure ImEncOk:Prop where
 enc:∀ (e s:Nat) (p:Option Addr) (n c:Nat) (l:List Rec) (w:World),e<256→s<4294967296→n≤10000→(n<1000 ∨ e≤13)→InR w p n c l →
  Calls Tryz.prog 9 #[confV e s,.slice p n c] w fun r w'=>∃ u,r=.returned (.tuple #[u,.int .i64 (encI e s l).1])∧OwnB w (encI e s l).2 u w'∧Keeps NoBlock w w'
def recA:Rec:=⟨false,0,[97],[]⟩
theorem recA_fine:recA.Fine:=by
 refine ⟨?_,?_,?_⟩ <;> simp [recA,Octets]
theorem plan_none:planI 12 1 []=(0,[]):=by decide +kernel
theorem enc_none:encI 12 1 []=(0,[]):=by
 unfold encI
 rw [plan_none]
 rfl
theorem plan_a:(planI 12 1 [recA]).1=0:=by decide +kernel
theorem parts_a:(partsGo [] [recA] (planI 12 1 [recA]).2).length=1:=by decide +kernel
theorem enc_a:(encI 12 1 [recA]).1=0∧(encI 12 1 [recA]).2.length=4096:=by
 constructor
 ·unfold encI
  rw [if_neg (by rw [plan_a];simp)]
 ·rw [image_length (by decide) plan_a,parts_a]
set_option maxHeartbeats 2000000 in
set_option maxRecDepth 10000 in
theorem lives16_true {At:BAt} (HB:SgBuild At) (HNw:SgNewOk At) (HOp:SgOpenOk At) (H:ImEncOk) (w:World):Calls Tryz.prog 16 #[] w fun e w'=>e=.returned (.bool true)∧Keeps NoBlock w w':=by
 have HL:=hid (fun w=>lives15_true HB HNw HOp w)
 have HE1:=hid (fun w=>H.enc 12 1 none 0 0 [] w (by decide) (by decide) (by decide) (.inl (by decide)) ⟨rfl,by decide,by decide,fun r hr=>by simp at hr,fun r hr=>by simp at hr,fun r hr=>by simp at hr,RecsAt.nil _ _⟩)
 have HE2:=hid (fun w b (h:RecsAt w (some ⟨b,0,none⟩) [recA])=>H.enc 12 1 (some ⟨b,0,none⟩) 1 1 [recA] w (by decide) (by decide) (by decide) (.inl (by decide)) ⟨rfl,by decide,by decide,fun r hr=>by rw [List.mem_singleton.1 hr];exact recA_fine,fun r hr=>by rw [List.mem_singleton.1 hr];simp [recA],fun r hr=>by rw [List.mem_singleton.1 hr];simp [recA],h⟩)
 rw [enc_none] at HE1
 rw [enc_a.1] at HE2
 have hlen:=enc_a.2
 obtain ⟨X,hX⟩:∃ X,X=(encI 12 1 [recA]).2:=⟨_,rfl⟩
 rw [← hX] at HE2 hlen
 have HLn:=hid hlen
 clear hX hlen HB HNw HOp H
 have HK:=hid ((Keeps.refl NoBlock w).alloc (.cells (confCells 12 1) 27))
 have HC:=hid (Whole.new w 27 (confCells 12 1))
 unfold confV at HE1 HE2
 go_enter Tryz.func16,Tryz.ntmps16
 go_wp2_with fail
 refine (HE1.out _).mono ?_
 rintro e1 w1 ⟨u1,rfl,ho1,hk⟩
 obtain ⟨q1,d1,rfl,_⟩:=ho1.read
 have HK:=hid (HK.out.trans hk)
 have HC:=hid (HC.out.keep hk (fun h=>h))
 clear hk ho1
 have g0:=HC.out.cell 0 rfl
 have g1:=HC.out.cell 1 rfl
 simp only [confCells,List.getElem_toArray,List.getElem_cons_zero,List.getElem_cons_succ] at g0 g1
 obtain ⟨W,hW⟩:∃ W,W=w1.alloc (.cells #[.bool false,.int .u64 0,.string ⟨#[97]⟩,.string ⟨#[]⟩] 48):=⟨_,rfl⟩
 have HR:Hid (RecsAt W (some ⟨w1.heap.size,0,none⟩) [recA]):=hid (by
  have hw:Whole W w1.heap.size 48 #[.bool false,.int .u64 0,.string ⟨#[97]⟩,.string ⟨#[]⟩]:=by rw [hW];exact Whole.new _ _ _
  intro i hi
  obtain rfl:i=0:=by simp at hi;omega
  exact ⟨_,rfl,hw.cell 0 rfl,hw.cell 1 rfl,hw.cell 2 rfl,hw.cell 3 rfl⟩)
 have HKW:Hid (Keeps NoBlock w W):=hid (by rw [hW];exact HK.out.alloc _)
 go_wp2_with fail
 rw [← hW]
 clear hW
 refine (HE2.out _ _ HR.out).mono ?_
 rintro e2 w2 ⟨u2,rfl,ho2,hk⟩
 obtain ⟨q2,d2,rfl,_⟩:=ho2.read
 rw [HLn.out]
 have HK:=hid (HKW.out.trans hk)
 clear hk ho2
 go_wp2_with fail
 refine (HL.out _).mono ?_
 rintro e3 w3 ⟨rfl,hk⟩
 have HK:=hid (HK.out.trans hk)
 clear hk
 go_wp2_with fail
 go_ret
 exact ⟨rfl,HK.out⟩
end
section
open Go.RowKit
structure DeDecOk:Prop where
 dec:∀ (e s:Nat) (p:Option Addr) (n c:Nat) (ys:List Int) (w:World),e≤13→s<4294967296→In8 w p n c ys→n≤100000 →
  Calls Tryz.prog 10 #[confV e s,.slice p n c] w fun r w'=>∃ v,r=.returned (.tuple #[v,.int .i64 (decI e s ys).1])∧NewRecs w (decI e s ys).2 v w'
structure DeIsOk:Prop where
 is_:∀ (e s:Nat) (p:Option Addr) (n c:Nat) (ys:List Int) (w:World),e≤13→s<4294967296→In8 w p n c ys→n≤100000 →
  Calls Tryz.prog 12 #[confV e s,.slice p n c] w fun r w'=>r=.returned (.bool (decide ((decI e s ys).1=0)))∧Keeps NoBlock w w'
theorem dec_none:decI 12 1 []=(0,[]):=by
 unfold decI
 rw [if_neg (by decide +kernel),show guessI []=[] from rfl,enc_none,if_pos rfl]
set_option maxHeartbeats 2000000 in
set_option maxRecDepth 10000 in
theorem lives17_true {At:BAt} (HB:SgBuild At) (HNw:SgNewOk At) (HOp:SgOpenOk At) (H:ImEncOk) (HD:DeDecOk) (w:World):Calls Tryz.prog 6 #[] w fun e w'=>e=.returned (.bool true)∧Keeps NoBlock w w':=by
 have HL:=hid (fun w=>lives16_true HB HNw HOp H w)
 have HD0:=hid (fun w=>HD.dec 12 1 none 0 0 [] w (by decide) (by decide) ⟨rfl,Nat.le_refl _,by decide,fun _=>⟨rfl,rfl⟩,fun b hb=>by simp at hb,fun h=>by simp at h⟩ (by decide))
 rw [dec_none] at HD0
 clear HB HNw HOp H HD
 unfold confV at HD0
 go_enter Tryz.func6,Tryz.ntmps6
 go_wp2_with fail
 refine (HD0.out _).mono ?_
 rintro e w1 ⟨v,rfl,q,m,d,rfl,hm,hmd,hd,hq,hat,hk⟩
 obtain rfl:m=0:=hm
 have HK:=hid hk
 clear hk hat hq hmd hd
 go_wp2_with fail
 refine (HL.out _).mono ?_
 rintro e w2 ⟨rfl,hk⟩
 have HK:=hid (HK.out.trans hk)
 clear hk
 go_wp2_with fail
 go_ret
 exact ⟨rfl,HK.out⟩
end
section
theorem readEnd_none {d:Bool} {s:Nat} {k v r:List Int} (h:(readEnd d s k v r).1 ≠ 0):(readEnd d s k v r).2=Rec.none:=by
 unfold readEnd at h ⊢
 by_cases hr:r=[]
 ·rw [if_pos hr] at h;exact absurd rfl h
 ·rw [if_neg hr]
theorem readKey_none {k:Int} {s:Nat} {xs:List Int} (h:(readKey k s xs).1 ≠ 0):(readKey k s xs).2=Rec.none:=by
 unfold readKey at h ⊢
 by_cases h1:(vtext xs 1 4096).e ≠ 0
 ·rw [if_pos h1]
 ·rw [if_neg h1] at h ⊢
  by_cases h2:k=3
  ·rw [if_pos h2] at h ⊢
   exact readEnd_none h
  ·rw [if_neg h2] at h ⊢
   by_cases h3:(vtext (xs.drop (vtext xs 1 4096).n) 0 1048576).e ≠ 0
   ·rw [if_pos h3]
   ·rw [if_neg h3] at h ⊢
    exact readEnd_none h
theorem readR_none {xs:List Int} (h:(readR xs).1 ≠ 0):(readR xs).2=Rec.none:=by
 cases xs with
 | nil=>rfl
 | cons k xs =>
  change (readKind k xs).1 ≠ 0 at h
  change (readKind k xs).2=Rec.none
  unfold readKind at h ⊢
  by_cases h1:k ≠ 2∧k ≠ 3
  ·rw [if_pos h1]
  ·rw [if_neg h1] at h ⊢
   by_cases h2:(vget xs).e ≠ 0
   ·rw [if_pos h2]
   ·rw [if_neg h2] at h ⊢
    exact readKey_none h
end
section
open Go.RowKit
end
end Go.Proofs.YtehkjkcnigknkaaGreat

/-
  ImRows; RecRise; InR; ImPlan.
-/
import Derived.Lib.Hide
import Derived.Test.YtehkjkcnigknkaaGreatM12
import Derived.Test.YtehkjkcnigknkaaGreatM13
import Derived.Test.YtehkjkcnigknkaaGreatM14
import Derived.Test.YtehkjkcnigknkaaGreatM15
import Derived.Test.YtehkjkcnigknkaaGreatM17
import Derived.Test.YtehkjkcnigknkaaGreatM18
namespace Go.Proofs.YtehkjkcnigknkaaGreat
open Lib (hid)
section
open Go.RowKit
theorem getD_app {α:Type} (a b:List α) (d:α) {i:Nat} (h:i<a.length):(a ++ b).getD i d=a.getD i d:=by
 rw [List.getD_eq_getElem?_getD,List.getD_eq_getElem?_getD,List.getElem?_append_left h]
def nilS:Value:=.slice none 0 0
theorem infoRcs:(Tryz.prog.info? 22).map (fun i=>(i.zero,i.size,i.bytes))=some (some (.slice none 0 0),1,24):=by kernel_rfl
structure HeadsOk (w0 wr:World) (ps:List (List Rec)) (hs:List Value):Prop where
 len:hs.length=ps.length
 row:∀ i,i<ps.length→wr.ownsRow w0.heap.size 48 4 (hs.getD i nilS) (ps.getD i []).length (rcFlat (ps.getD i []))
 apart:∀ i j k,i<ps.length→j<ps.length→i ≠ j→(hs.getD i nilS).ownBlock=some k→(hs.getD j nilS).ownBlock ≠ some k
structure PartsSoFar (w0:World) (ps:List (List Rec)) (hs:List Value) (v:Value) (wr:World):Prop where
 heads:HeadsOk w0 wr ps hs
 own:wr.ownsRow w0.heap.size 22 1 v hs.length hs
 below:Below w0.heap.size w0 wr
theorem PartsSoFar.start (w0:World):PartsSoFar w0 [] [] nilS w0 :=
 ⟨⟨rfl,fun i hi=>by simp at hi,fun i j k hi=>by simp at hi⟩,World.ownsRow_nil _ _ _ _,Below.refl _ _⟩
theorem HeadsOk.kept {w0 wr w':World} {ps:List (List Rec)} {hs:List Value} (h:HeadsOk w0 wr ps hs) (hk:∀ i k,i<ps.length→(hs.getD i nilS).ownBlock=some k→w'.heap[k]?=wr.heap[k]?):HeadsOk w0 w' ps hs :=
 ⟨h.len,fun i hi=>ownBlocks (h.row i hi) (fun k hk'=>hk i k hi hk'),h.apart⟩
theorem PartsSoFar.keep {w0 wr w':World} {ps:List (List Rec)} {hs:List Value} {v:Value} (h:PartsSoFar w0 ps hs v wr) (hk:Keeps NoBlock wr w'):PartsSoFar w0 ps hs v w' :=
 ⟨h.heads.kept (fun i k hi hk'=>hk.block k ((h.heads.row i hi).lt k hk').2 (fun h=>h)),ownBlocks h.own (fun k hk'=>hk.block k (h.own.lt k hk').2 (fun h=>h)),h.below.trans (hk.below h.below.size (fun _ _ h=>h))⟩
theorem PartsSoFar.keeps {w0 wr:World} {ps:List (List Rec)} {hs:List Value} {v:Value} (h:PartsSoFar w0 ps hs v wr):Keeps NoBlock w0 wr:=.ofBelow h.below
theorem PartsSoFar.snoc {w0 wr w':World} {ps:List (List Rec)} {hs:List Value} {v v':Value} (h:PartsSoFar w0 ps hs v wr) (hr:w'.ownsRow w0.heap.size 22 1 v' (hs.length+1) (hs ++ [nilS])) (hg:wr.grownBy w' v.ownBlock):PartsSoFar w0 (ps ++ [[]]) (hs ++ [nilS]) v' w':=by
 have hl:=h.heads.len
 refine ⟨⟨by rw [List.length_append,List.length_append,hl];rfl,fun i hi=>?_,fun i j k hi hj hij=>?_⟩,by rw [List.length_append];exact hr,h.below.trans ((Below.refl _ wr).grown hg h.below.size (fun k hk=>own_from h.own hk))⟩
 ·rw [List.length_append,List.length_singleton] at hi
  by_cases he:i<ps.length
  ·rw [getD_app _ _ _ (by omega),getD_app _ _ _ he]
   exact ownBlocks (h.heads.row i he) (fun k hk=>hg.block k ((h.heads.row i he).lt k hk).2 (fun e=>rows_apart (by decide) (h.heads.row i he) h.own k hk e.symm))
  ·obtain rfl:i=ps.length:=by omega
   have e1:(hs ++ [nilS]).getD ps.length nilS=nilS:=by rw [List.getD_eq_getElem?_getD,List.getElem?_append_right (by omega),hl,Nat.sub_self];rfl
   have e2:(ps ++ [[]]).getD ps.length ([]:List Rec)=[]:=by rw [List.getD_eq_getElem?_getD,List.getElem?_append_right (by omega),Nat.sub_self];rfl
   rw [e1,e2]
   exact World.ownsRow_nil _ _ _ _
 ·rw [List.length_append,List.length_singleton] at hi hj
  have e1:∀ x,ps.length≤x→(hs ++ [nilS]).getD x nilS=nilS:=fun x hx=>by
   rw [List.getD_eq_getElem?_getD,List.getElem?_append_right (by omega)]
   rcases Nat.eq_zero_or_pos (x - hs.length) with h0|h0
   ·rw [h0];rfl
   ·rw [List.getElem?_eq_none (by simp;omega)];rfl
  by_cases hi':i<ps.length
  ·by_cases hj':j<ps.length
   ·rw [getD_app _ _ _ (by omega),getD_app _ _ _ (by omega)]
    exact h.heads.apart i j k hi' hj' hij
   ·rw [e1 j (by omega)]
    intro _
    simp [nilS,Value.ownBlock]
  ·rw [e1 i (by omega)]
   intro hk
   simp [nilS,Value.ownBlock] at hk
theorem HeadsOk.put {w0 wr w':World} {ps:List (List Rec)} {hs:List Value} (h:HeadsOk w0 wr ps hs) {m g cap:Nat} (hm:m<ps.length) (r:Rec)
  (hr:w'.ownsRow w0.heap.size 48 4 (.slice (some ⟨g,0,none⟩) ((ps.getD m []).length+1) cap) ((ps.getD m []).length+1) (rcFlat (ps.getD m []) ++ rcFour r))
  (hg:wr.grownBy w' (hs.getD m nilS).ownBlock) (hn:(hs.getD m nilS).ownBlock=some g ∨ wr.heap.size≤g) :
  HeadsOk w0 w' (ps.set m (ps.getD m [] ++ [r])) (hs.set m (.slice (some ⟨g,0,none⟩) ((ps.getD m []).length+1) cap)):=by
 have hl:=h.len
 have e1:∀ x,(hs.set m (.slice (some ⟨g,0,none⟩) ((ps.getD m []).length+1) cap)).getD x nilS=if x=m then .slice (some ⟨g,0,none⟩) ((ps.getD m []).length+1) cap else hs.getD x nilS:=fun x=>by
  rw [List.getD_eq_getElem?_getD,List.getElem?_set]
  by_cases hx:m=x
  ·subst hx
   rw [if_pos rfl,if_pos rfl,if_pos (by omega)]
   rfl
  ·rw [if_neg hx,if_neg (fun e=>hx e.symm),List.getD_eq_getElem?_getD]
 have e2:∀ x,(ps.set m (ps.getD m [] ++ [r])).getD x []=if x=m then ps.getD m [] ++ [r] else ps.getD x []:=fun x=>by
  rw [List.getD_eq_getElem?_getD,List.getElem?_set]
  by_cases hx:m=x
  ·subst hx
   rw [if_pos rfl,if_pos rfl,if_pos hm]
   simp
  ·rw [if_neg hx,if_neg (fun e=>hx e.symm),List.getD_eq_getElem?_getD]
 have hgl:∀ i,i<ps.length→i ≠ m→(hs.getD i nilS).ownBlock ≠ some g:=fun i hi him hk=>by
  rcases hn with hn|hn
  ·exact h.apart i m g hi hm him hk hn
  ·have:=((h.row i hi).lt g hk).2
   omega
 refine ⟨by rw [List.length_set,List.length_set,hl],fun i hi=>?_,fun i j k hi hj hij=>?_⟩
 ·rw [List.length_set] at hi
  rw [e1,e2]
  by_cases him:i=m
  ·rw [if_pos him,if_pos him,List.length_append,rcFlat_append,show rcFlat [r]=rcFour r by simp [rcFlat]]
   exact hr
  ·rw [if_neg him,if_neg him]
   exact ownBlocks (h.row i hi) (fun k hk=>hg.block k ((h.row i hi).lt k hk).2 (fun e=>h.apart i m k hi hm him hk e.symm))
 ·rw [List.length_set] at hi hj
  rw [e1,e1]
  by_cases him:i=m
  ·rw [if_pos him,if_neg (fun e=>hij (him.trans e.symm))]
   intro hk
   have:g=k:=by simpa [Value.ownBlock] using hk
   subst this
   exact hgl j hj (fun e=>hij (him.trans e.symm))
  ·rw [if_neg him]
   by_cases hjm:j=m
   ·rw [if_pos hjm]
    intro hk e
    have:g=k:=by simpa [Value.ownBlock] using e
    subst this
    exact hgl i hi him hk
   ·rw [if_neg hjm]
    exact h.apart i j k hi hj hij
end
section
open Go.RowKit
theorem firstBad_append:∀ (a b:List Rec),firstBad (a ++ b)=if firstBad a=0 then firstBad b else firstBad a
 | [],b=>by simp [firstBad]
 | r :: a,b=>by
  rw [List.cons_append,firstBad,firstBad]
  by_cases h:checkR r=0
  ·rw [if_pos h,if_pos h,firstBad_append a b]
  ·rw [if_neg h,if_neg h,if_neg h]
theorem firstBad_take {l:List Rec} {j:Nat} (hj:j<l.length) (h:firstBad (l.take j)=0):firstBad (l.take (j+1))=checkR (l.getD j Rec.none):=by
 rw [List.take_succ_eq_append_getElem hj,firstBad_append,if_pos h]
 unfold firstBad
 have e:l.getD j Rec.none=l[j]:=by simp [hj]
 rw [e]
 by_cases hc:checkR l[j]=0
 ·rw [if_pos hc,hc]
  rfl
 ·rw [if_neg hc]
theorem firstBad_stop {l:List Rec} {j:Nat} (h:firstBad (l.take j) ≠ 0):firstBad l=firstBad (l.take j):=by
 conv=>lhs;rw [← List.take_append_drop j l]
 rw [firstBad_append,if_neg h]
theorem rises_adj:∀ {l:List Rec},risesR l=true ↔ ∀ i,i+1<l.length→(l.getD i Rec.none).seq<(l.getD (i+1) Rec.none).seq
 | []=>by simp [risesR]
 | [a]=>by simp [risesR]
 | a :: b :: l=>by
  unfold risesR
  rw [Bool.and_eq_true,rises_adj,decide_eq_true_eq]
  constructor
  ·rintro ⟨h1,h2⟩ i hi
   cases i with
   | zero=>exact h1
   | succ i=>exact h2 i (by simpa using hi)
  ·intro h
   exact ⟨h 0 (by simp),fun i hi=>h (i+1) (by simpa using hi)⟩
set_option maxHeartbeats 4000000 in
set_option maxRecDepth 10000 in
theorem rising7_ref (p:Option Addr) (n c:Nat) (l:List Rec) (hn:n=l.length) (hn9:n≤1000000) (hs:∀ r ∈ l,r.key.length≤140737488355328∧r.val.length≤140737488355328) (hf:∀ r ∈ l,r.Fine) (w:World) (hl:RecsAt w p l) :
  Calls Tryz.prog 67 #[.slice p n c] w fun e w'=>e=.returned (.int .i64 (risingR l))∧Keeps NoBlock w w':=by
 have HL:=hid hl
 have HN:=hid hn
 have HS:=hid hs
 have HFi:=hid hf
 have HC:=hid (fun (r:Rec) (hr:r ∈ l) w=>check7_ref r (hs r hr).1 (hs r hr).2 w)
 clear hl hn hs hf
 go_enter Tryz.func67,Tryz.ntmps67
 go_wp2_with fail
 go_loopw [10] (fun i wr=>∃ j:Nat,j≤n∧i=.int .i64 (j:Int)∧firstBad (l.take j)=0∧Keeps NoBlock w wr) (fun i _=>n - (intOf i).toNat)
 case atStart=>exact ⟨0,Nat.zero_le _,rfl,rfl,Keeps.refl _ _⟩
 case round =>
  obtain ⟨j,hj,rfl,hall,hk⟩:=hrel
  have HK:=hid hk
  have HA:=hid hall
  clear hk hall
  by_cases hlt:j<n
  ·have hdj:decide ((j:Int)<(n:Int))=true:=decide_eq_true (by omega)
   have hjl:j<l.length:=by rw [← HN.out];exact hlt
   obtain ⟨a,rfl,c0,c1,c2,c3⟩:=(HL.out.keep HK.out (fun _ _ h=>h)) j hjl
   have hmem:l.getD j Rec.none ∈ l:=by simp [hjl]
   have HCr:=hid (HC.out _ hmem)
   have HT:=hid (firstBad_take hjl HA.out)
   obtain ⟨r,hr⟩:∃ r,r=l.getD j Rec.none:=⟨_,rfl⟩
   rw [← hr] at c0 c1 c2 c3 HCr HT
   obtain ⟨z,hz⟩:∃ z,z=checkR r:=⟨_,rfl⟩
   rw [← hz] at HCr HT
   unfold recV at HCr
   clear hr hmem hjl hz
   go_wp2_with fail
   refine (HCr.out _).mono ?_
   rintro e w1 ⟨rfl,hk⟩
   have HK1:=hid ((HK.out.alloc _).trans hk)
   clear hk
   by_cases h0:z=0
   ·have hzb:(z != 0)=false:=by simpa using h0
    have hzd:decide (z=0)=true:=decide_eq_true h0
    have HT0:Hid (firstBad (l.take (j+1))=0):=hid (by rw [HT.out];exact h0)
    subst h0
    clear HT
    go_wp2_with fail
    exact ⟨⟨j+1,by omega,by go_num,HT0.out,HK1.out⟩,by simp [intOf];omega⟩
   ·have hzb:(z != 0)=true:=by simpa using h0
    have hzd:decide (z=0)=false:=decide_eq_false h0
    have HR:Hid (risingR l=z):=hid (by
     have hf:firstBad l=z:=by rw [firstBad_stop (j:=j+1) (by rw [HT.out];exact h0),HT.out]
     unfold risingR
     rw [hf,if_pos h0])
    go_wp2_with fail
    go_ret
    rw [HR.out]
    exact ⟨rfl,HK1.out⟩
  ·have hdj:decide ((j:Int)<(n:Int))=false:=decide_eq_false (by omega)
   have HB:Hid (firstBad l=0):=hid (by
    have:=HA.out
    rwa [List.take_of_length_le (by rw [← HN.out];omega)] at this)
   clear HA
   obtain ⟨wk,hwk⟩:∃ wk,wk=wr:=⟨_,rfl⟩
   subst hwk
   go_wp2_with fail
   go_loopw [22] (fun i wr=>∃ k:Nat,k≤n∧i=.int .i64 (k:Int)∧Hid (∀ i,i+1<k→(l.getD i Rec.none).seq<(l.getD (i+1) Rec.none).seq)∧Keeps NoBlock w wr) (fun i _=>n - (intOf i).toNat)
   case atStart=>exact ⟨0,Nat.zero_le _,rfl,hid (fun i h=>by omega),HK.out⟩
   case round =>
    obtain ⟨k,hk,rfl,HA2,hkk⟩:=hrel
    have HK2:=hid hkk
    clear hkk
    by_cases hlt2:k<n
    ·have hdk:decide ((k:Int)<(n:Int))=true:=decide_eq_true (by omega)
     have hkl:k<l.length:=by rw [← HN.out];exact hlt2
     obtain ⟨a,rfl,c0,c1,c2,c3⟩:=(HL.out.keep HK2.out (fun _ _ h=>h)) k hkl
     have hmem:l.getD k Rec.none ∈ l:=by simp [hkl]
     have h64:=(HFi.out _ hmem).seq
     obtain ⟨r,hr⟩:∃ r,r=l.getD k Rec.none:=⟨_,rfl⟩
     rw [← hr] at c0 c1 c2 c3 h64
     have HRr:=hid hr
     clear hr hmem hkl
     by_cases hk0:k=0
     ·have hkp:decide ((0:Int)<(k:Int))=false:=decide_eq_false (by omega)
      have hkp2:decide (0<k)=false:=decide_eq_false (by omega)
      have HK0:=hid hk0
      clear hk0
      have HKn:=hid (HK2.out.alloc (.cells #[.bool r.del,.int .u64 (r.seq:Int),.string (strOfNums r.key),.string (strOfNums r.val)] 48))
      go_wp2_with fail
      obtain ⟨W,hW⟩:∃ W,W=wr.alloc (.cells #[.bool r.del,.int .u64 (r.seq:Int),.string (strOfNums r.key),.string (strOfNums r.val)] 48):=⟨_,rfl⟩
      rw [← hW] at HKn ⊢
      have hw1:W.cell? ⟨wr.heap.size,1,none⟩=some (.int .u64 (r.seq:Int)):=by rw [hW];exact Whole.cell (Whole.new wr _ _) 1 rfl
      clear hW
      have s0:W.drew.cell? ⟨wr.heap.size,1,none⟩=some (.int .u64 (r.seq:Int)):=hw1
      go_region
      go_wp2_with fail
      exact ⟨⟨k+1,by omega,by go_num,hid (fun i h=>by have:=HK0.out;omega),by first|exact HKn.out|exact HKn.out.drew⟩,by simp [intOf];omega⟩
     ·obtain ⟨m,rfl⟩:∃ m,k=m+1:=⟨k - 1,by omega⟩
      have hkp:decide ((0:Int)<((m+1:Nat):Int))=true:=decide_eq_true (by omega)
      obtain ⟨b,hb,d0,d1,d2,d3⟩:=(HL.out.keep HK2.out (fun _ _ h=>h)) m (by have:=HN.out;omega)
      obtain rfl:=Option.some.inj hb
      obtain ⟨s,hs⟩:∃ s,s=l.getD m Rec.none:=⟨_,rfl⟩
      rw [← hs] at d0 d1 d2 d3
      have HSs:=hid hs
      clear hs hb hk0
      have hmn:(m:Int)<(n:Int):=by omega
      have hmn2:m<n:=by omega
      have w1:IntKind.i64.wrap (m:Int)=(m:Int):=by rw [IntKind.wrap_i64];omega
      have hm0:(0:Int)≤(m:Int):=by omega
      have HKn:=hid (HK2.out.alloc (.cells #[.bool r.del,.int .u64 (r.seq:Int),.string (strOfNums r.key),.string (strOfNums r.val)] 48))
      have hd1:=((Keeps.refl NoBlock wr).alloc (.cells #[.bool r.del,.int .u64 (r.seq:Int),.string (strOfNums r.key),.string (strOfNums r.val)] 48)).cell d1 (fun h=>h)
      have hadj:(∀ i,i+1<m+1+1→(l.getD i Rec.none).seq<(l.getD (i+1) Rec.none).seq) ↔ s.seq<r.seq:=by
       constructor
       ·intro h
        have:=h m (by omega)
        rw [← HRr.out,← HSs.out] at this
        exact this
       ·intro h i hi
        by_cases he:i=m
        ·rw [he,← HRr.out,← HSs.out]
         exact h
        ·exact HA2.out i (by omega)
      have hbad:¬ s.seq<r.seq→risingR l=8:=fun h=>by
       have hr:risesR l ≠ true:=fun e=>h (by
        have:=rises_adj.1 e m (by have:=HN.out;omega)
        rwa [← HRr.out,← HSs.out] at this)
       unfold risingR
       rw [HB.out,if_neg (by simp),if_neg hr]
      have HAd:=hid hadj
      have HBd:=hid hbad
      clear hadj hbad
      by_cases hsr:s.seq<r.seq
      ·have hdd:decide ((r.seq:Int)≤(s.seq:Int))=false:=decide_eq_false (by omega)
       go_wp2_with fail
       obtain ⟨W,hW⟩:∃ W,W=wr.alloc (.cells #[.bool r.del,.int .u64 (r.seq:Int),.string (strOfNums r.key),.string (strOfNums r.val)] 48):=⟨_,rfl⟩
       rw [← hW] at HKn hd1 ⊢
       have hw1:W.cell? ⟨wr.heap.size,1,none⟩=some (.int .u64 (r.seq:Int)):=by rw [hW];exact Whole.cell (Whole.new wr _ _) 1 rfl
       clear hW
       have s0:W.drew.cell? ⟨wr.heap.size,1,none⟩=some (.int .u64 (r.seq:Int))∧W.drew.cell? ⟨(a.add (m*4)).block,(a.add (m*4)).off+1,none⟩=some (.int .u64 (s.seq:Int)):=⟨hw1,hd1⟩
       go_region_held3 (fun w'=>w'.cell? ⟨wr.heap.size,1,none⟩=some (.int .u64 (r.seq:Int))∧w'.cell? ⟨(a.add (m*4)).block,(a.add (m*4)).off+1,none⟩=some (.int .u64 (s.seq:Int)))
        (first|exact s0|exact ⟨hw1,hd1⟩)
        (fail)
       go_wp2_with fail
       exact ⟨⟨m+1+1,by omega,by go_num,hid (HAd.out.2 hsr),by first|exact HKn.out|exact HKn.out.drew⟩,by simp [intOf];omega⟩
      ·have hdd:decide ((r.seq:Int)≤(s.seq:Int))=true:=decide_eq_true (by omega)
       have HRz:=hid (HBd.out hsr)
       go_wp2_with fail
       obtain ⟨W,hW⟩:∃ W,W=wr.alloc (.cells #[.bool r.del,.int .u64 (r.seq:Int),.string (strOfNums r.key),.string (strOfNums r.val)] 48):=⟨_,rfl⟩
       rw [← hW] at HKn hd1 ⊢
       have hw1:W.cell? ⟨wr.heap.size,1,none⟩=some (.int .u64 (r.seq:Int)):=by rw [hW];exact Whole.cell (Whole.new wr _ _) 1 rfl
       clear hW
       have s0:W.drew.cell? ⟨wr.heap.size,1,none⟩=some (.int .u64 (r.seq:Int))∧W.drew.cell? ⟨(a.add (m*4)).block,(a.add (m*4)).off+1,none⟩=some (.int .u64 (s.seq:Int)):=⟨hw1,hd1⟩
       go_region_held3 (fun w'=>w'.cell? ⟨wr.heap.size,1,none⟩=some (.int .u64 (r.seq:Int))∧w'.cell? ⟨(a.add (m*4)).block,(a.add (m*4)).off+1,none⟩=some (.int .u64 (s.seq:Int)))
        (first|exact s0|exact ⟨hw1,hd1⟩)
        (fail)
       go_wp2_with fail
       go_ret
       rw [HRz.out]
       exact ⟨rfl,by first|exact HKn.out|exact HKn.out.drew⟩
    ·have hdk:decide ((k:Int)<(n:Int))=false:=decide_eq_false (by omega)
     have HRz:Hid (risingR l=0):=hid (risingR_zero.2 ⟨HB.out,rises_adj.2 (fun i hi=>HA2.out i (by have:=HN.out;omega))⟩)
     go_wp2_with fail
     go_ret
     rw [HRz.out]
     exact ⟨rfl,HK2.out⟩
end
section
open Go.RowKit
structure InR (w:World) (p:Option Addr) (n c:Nat) (l:List Rec):Prop where
 len:n=l.length
 cap:n≤c
 room:c≤9223372036854775807
 fine:∀ r ∈ l,r.Fine
 key:∀ r ∈ l,r.key.length≤100000
 val:∀ r ∈ l,r.val.length≤100000
 at_:RecsAt w p l
theorem InR.keep {w w':World} {p:Option Addr} {n c:Nat} {l:List Rec} (h:InR w p n c l) (hk:Keeps NoBlock w w'):InR w' p n c l :=
 ⟨h.len,h.cap,h.room,h.fine,h.key,h.val,h.at_.keep hk (fun _ _ h=>h)⟩
theorem getR_mem {l:List Rec} {j:Nat} (h:j<l.length):l.getD j Rec.none ∈ l:=by simp [h]
end
section
open Go.RowKit
theorem infoInt:(Tryz.prog.info? 3).map (fun i=>(i.zero,i.size,i.bytes))=some (some (.int .i64 0),1,8):=by kernel_rfl
theorem sizesR_take {l:List Rec} {j:Nat} (hj:j<l.length):sizesR (l.take (j+1))=sizesR (l.take j) ++ [((recB (l.getD j Rec.none)).length:Int)]:=by
 unfold sizesR
 rw [List.take_succ_eq_append_getElem hj,List.map_append]
 simp [hj]
theorem sizesR_length (l:List Rec):(sizesR l).length=l.length:=by unfold sizesR;rw [List.length_map]
theorem recB_few {r:Rec} (hf:r.Fine) (h1:r.key.length≤100000) (h2:r.val.length≤100000):(recB r).length≤1000000:=by
 have a1:=(seal_length (bodyR r)).2
 have a2:=sizeN_bound (bodyR r).length
 have a3:=bodyR_length hf (by omega) (by omega)
 show (sealN (bodyR r)).length≤_
 omega
set_option maxHeartbeats 4000000 in
set_option maxRecDepth 10000 in
theorem plan16_ref (e s:Nat) (p:Option Addr) (n c:Nat) (l:List Rec) (hn9:n≤10000) (w:World) (hi:InR w p n c l) :
  Calls Tryz.prog 42 #[confV e s,.slice p n c] w (PlanPost w (planI e s l)):=by
 have HM:=hid (fun w=>may_ref e s w)
 have HRs:=hid (fun (w:World) hl=>rising7_ref p n c l hi.len (by omega) (fun r hr=>⟨by have:=hi.key r hr;omega,by have:=hi.val r hr;omega⟩) hi.fine w hl)
 have HI:=hid hi
 have HK:=hid ((Keeps.refl NoBlock w).alloc (.cells (confCells e s) 27))
 have HC:=hid (Whole.new w 27 (confCells e s))
 clear hi
 by_cases hm:mayC e s=true
 rotate_left
 ·rw [Bool.not_eq_true] at hm
  have hp:planI e s l=(1,[]):=by unfold planI;rw [if_neg (by rw [hm];simp)]
  rw [hm] at HM
  have HP:=hid hp
  clear hm hp
  unfold confV at HM ⊢
  go_enter Tryz.func42,Tryz.ntmps42
  go_wp2_with fail
  refine (HM.out _).mono ?_
  rintro e9 w1 ⟨rfl,hk⟩
  have HK:=hid (HK.out.trans hk)
  clear hk
  go_wp2_with fail
  exact bodyPost_ret (v:=.tuple #[.slice none 0 0,.int .i64 1]) (by simp [results,Tryz.results42,go_sem]) rfl (PlanPost.gone HP.out HK.out)
 obtain ⟨y,hy⟩:∃ y,y=risingR l:=⟨_,rfl⟩
 rw [← hy] at HRs
 by_cases hr:y=0
 rotate_left
 ·have hp:planI e s l=(y,[]):=by unfold planI;rw [if_pos hm,← hy,if_pos hr]
  rw [hm] at HM
  have HP:=hid hp
  have hz0:(y == 0)=false:=beq_eq_false_iff_ne.2 hr
  clear hm hp hy hr
  unfold confV at HM ⊢
  go_enter Tryz.func42,Tryz.ntmps42
  go_wp2_with fail
  refine (HM.out _).mono ?_
  rintro e9 w1 ⟨rfl,hk⟩
  have HK:=hid (HK.out.trans hk)
  clear hk
  go_wp2_with fail
  refine (HRs.out _ (HI.out.at_.keep HK.out (fun _ _ h=>h))).mono ?_
  rintro e9 w2 ⟨rfl,hk⟩
  have HK:=hid (HK.out.trans hk)
  clear hk
  go_wp2_with fail
  exact bodyPost_ret (v:=.tuple #[.slice none 0 0,.int .i64 y]) (by simp [results,Tryz.results42,go_sem]) rfl (PlanPost.gone HP.out HK.out)
 subst hr
 have hp:planI e s l=planP e s (sizesR l):=by unfold planI;rw [if_pos hm,← hy,if_neg (by simp)]
 rw [hp]
 have HPl:=hid (fun q d w (h:InZ w q n d (sizesR l))=>plan14_may e s q n d (sizesR l) hm hn9 w h)
 rw [hm] at HM
 have HRc:=hid (fun j (hj:j<l.length) w=>record9_ref (l.getD j Rec.none) (HI.out.fine _ (getR_mem hj)) (by have:=HI.out.key _ (getR_mem hj);omega) (by have:=HI.out.val _ (getR_mem hj);omega) w)
 have HFe:=hid (fun j (hj:j<l.length)=>recB_few (HI.out.fine _ (getR_mem hj)) (HI.out.key _ (getR_mem hj)) (HI.out.val _ (getR_mem hj)))
 obtain ⟨i0,hi,hz0,hz1,hz2⟩:=info_parts infoInt
 have hnl:n=l.length:=HI.out.len
 have HN:=hid hnl
 clear hm hp hy hnl
 obtain ⟨T,hT⟩:∃ T,T=planP e s (sizesR l):=⟨_,rfl⟩
 rw [← hT] at HPl ⊢
 clear hT
 unfold confV at HM HPl ⊢
 go_enter Tryz.func42,Tryz.ntmps42
 go_wp2_with fail
 refine (HM.out _).mono ?_
 rintro e9 w1 ⟨rfl,hk⟩
 have HK:=hid (HK.out.trans hk)
 have HC:=hid (HC.out.keep hk (fun h=>h))
 clear hk
 go_wp2_with fail
 refine (HRs.out _ (HI.out.at_.keep HK.out (fun _ _ h=>h))).mono ?_
 rintro e9 w2 ⟨rfl,hk⟩
 have HK:=hid (HK.out.trans hk)
 have HC:=hid (HC.out.keep hk (fun h=>h))
 clear hk
 go_wp2_with fail
 go_loopw [7,20] (fun v i wr=>∃ j:Nat,j≤n∧i=.int .i64 (j:Int)∧Hid (OnesSoFar intV 3 w2 (sizesR (l.take j)) v wr)) (fun _ i _=>n - (intOf i).toNat)
 case atStart=>exact ⟨0,Nat.zero_le _,rfl,hid (OnesSoFar.start w2)⟩
 case round =>
  obtain ⟨j,hj,rfl,HS⟩:=hrel
  by_cases hlt:j<n
  ·have hdj:decide ((j:Int)<(n:Int))=true:=decide_eq_true (by omega)
   have hdj2:decide (j<n)=true:=decide_eq_true hlt
   have hjl:j<l.length:=by rw [← HN.out];exact hlt
   obtain ⟨a,rfl,c0,c1,c2,c3⟩:=(HI.out.at_.keep (HK.out.trans HS.out.keeps) (fun _ _ h=>h)) j hjl
   have HRj:=hid (HRc.out j hjl)
   have hfe:=HFe.out j hjl
   have hst:=sizesR_take hjl
   have hlen:(sizesR (l.take j)).length≤1000000:=by rw [sizesR_length,List.length_take];omega
   obtain ⟨r,hr⟩:∃ r,r=l.getD j Rec.none:=⟨_,rfl⟩
   rw [← hr] at c0 c1 c2 c3 HRj hfe hst
   have hzs:=str_size (recB r)
   have hrb:sealN (bodyR r)=recB r:=rfl
   rw [hrb] at HRj
   obtain ⟨Z,hZ⟩:∃ Z,Z=(recB r).length:=⟨_,rfl⟩
   rw [← hZ] at hzs hfe hst
   obtain ⟨U,hU⟩:∃ U,U=sizesR (l.take j):=⟨_,rfl⟩
   rw [← hU] at HS hst hlen
   have HLe:=hid hlen
   have HT:=hid hst
   have HS1:=hid (HS.out.alloc (.cells #[.bool r.del,.int .u64 (r.seq:Int),.string (strOfNums r.key),.string (strOfNums r.val)] 48))
   unfold recV at HRj
   clear hr hjl hlen hst hrb hZ hU
   go_wp2_with fail
   refine (HRj.out _).mono ?_
   rintro e9 w5 ⟨rfl,hk⟩
   have HS2:=hid ((HS1.out.keep hk).alloc (.cells #[.int .i64 (Z:Int)] 3))
   have HW:Hid (Whole (w5.alloc (.cells #[.int .i64 (Z:Int)] 3)) w5.heap.size 3 #[.int .i64 (Z:Int)]):=hid (Whole.new _ _ _)
   clear hk HS1 c0 c1 c2 c3
   go_wp2_with (at_builtin;refine wpList_append_oneG (v0:=intV) rfl _ _ 117 rfl 3 i0 (.int .i64 0) 8 Tryz.underlying117 hi hz0 hz1 hz2 rfl _ U rfl HS2.out w5.heap.size (Z:Int) rfl (HW.out.cell 0 rfl) rfl (by have:=HLe.out;omega) (by have:=HLe.out;omega) ?_)
   intro v' w6 h5 hg5
   have HS5:Hid (OnesSoFar intV 3 w2 (sizesR (l.take (j+1))) v' w6):=hid (by rw [HT.out];exact h5)
   clear h5 hg5
   go_wp2_with fail
   exact ⟨⟨j+1,by omega,by go_num,HS5⟩,by simp [intOf];omega⟩
  ·have hdj:decide ((j:Int)<(n:Int))=false:=decide_eq_false (by omega)
   have hdj2:decide (j<n)=false:=decide_eq_false hlt
   have HS2:=HS
   rw [List.take_of_length_le (by have:=HN.out;omega)] at HS2
   obtain ⟨q,m,d,rfl,hmq,hmd,hd,hq,hat,hk⟩:=OnesSoFar.new (dd:=0) HS2.out
   rw [sizesR_length,← HN.out] at hmq
   have hmn:n=m:=hmq.symm
   clear hmq
   subst hmn
   have HPz:=hid (HPl.out q d wr ⟨by rw [sizesR_length];exact HN.out,hmd,hd,fun h=>hq h,fun z hz=>by
    obtain ⟨r,hr,rfl⟩:=List.mem_map.1 hz
    have:=recB_few (HI.out.fine r hr) (HI.out.key r hr) (HI.out.val r hr)
    omega,hat⟩)
   have HC9:=hid (HC.out.keep hk (fun h=>h))
   have HK9:=hid (HK.out.trans hk)
   have g0:=HC9.out.cell 0 rfl
   have g1:=HC9.out.cell 1 rfl
   simp only [confCells,List.getElem_toArray,List.getElem_cons_zero,List.getElem_cons_succ] at g0 g1
   clear hmd hd hq hat hk HS HS2
   go_wp2_with fail
   refine HPz.out.mono ?_
   rintro e9 w7 ⟨q2,m2,d2,rfl,hm2,hrow,hk⟩
   have HK10:=hid (HK9.out.trans hk)
   have HRo:=hid hrow
   have HMo:=hid hm2
   clear hm2 hrow hk
   go_wp2_with fail
   exact bodyPost_ret (v:=.tuple #[.slice q2 m2 d2,.int .i64 T.1]) (by simp [results,Tryz.results42,go_sem]) rfl ⟨q2,m2,d2,rfl,HMo.out,HRo.out,HK10.out⟩
end
end Go.Proofs.YtehkjkcnigknkaaGreat

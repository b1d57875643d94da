/-
  SgSt; ImRows; RecRise; InR; ImPlan; ImParts.
-/
import Derived.Deep.RegionHeld3
import Derived.Test.YtehkjkcnigknkaaGreatV12
import Derived.Test.YtehkjkcnigknkaaGreatV13
import Derived.Test.YtehkjkcnigknkaaGreatV14
import Derived.Test.YtehkjkcnigknkaaGreatV16
import Derived.Test.YtehkjkcnigknkaaGreatV18
namespace Go.Proofs.YtehkjkcnigknkaaGreat
section
open Go.RowKit
def SubF (F' F:Nat→Prop) (w:World):Prop:=∀ k,F' k→F k ∨ w.heap.size≤k
structure BSt (At:BAt) (w0 wr:World) (F:Nat→Prop) (v:Value) (e s n:Nat) (l:List Rec):Prop where
 at_:At wr F v e s n l
 new:∀ k,F k→w0.heap.size≤k
 kept:Keeps NoBlock w0 wr
theorem BSt.keep {At:BAt} (HB:SgBuild At) {w0 wr w':World} {F:Nat→Prop} {v:Value} {e s n:Nat} {l:List Rec} (h:BSt At w0 wr F v e s n l) (hk:Keeps NoBlock wr w'):BSt At w0 w' F v e s n l :=
 ⟨HB.keep h.at_ hk (fun _ _ h=>h),h.new,h.kept.trans hk⟩
theorem BSt.call {At:BAt} {w0 wr w':World} {F:Nat→Prop} {v:Value} {e s n:Nat} {l l2:List Rec} (h:BSt At w0 wr F v e s n l) (hs:SgSame At F wr v e s n l2 w'):Keeps F wr w'∧∃ F',SubF F' F wr∧BSt At w0 w' F' v e s n l2:=by
 obtain ⟨hk,F',h1,h2⟩:=hs
 exact ⟨hk,F',h1,h2,fun k hk'=>(h1 k hk').elim (h.new k) (fun h3=>Nat.le_trans h.kept.size h3),h.kept.then hk (fun k _ hf=>by have:=h.new k hf;omega)⟩
theorem BSt.gives {At:BAt} {w0 wr w':World} {F:Nat→Prop} {v u:Value} {e s n:Nat} {l:List Rec} {ys:List Int} (h:BSt At w0 wr F v e s n l) (hs:SgGives At F wr v e s n l ys u w') :
  Keeps F wr w'∧OwnB wr ys u w'∧∃ F',SubF F' F wr∧BSt At w0 w' F' v e s n l∧∀ k,F' k→u.ownBlock ≠ some k:=by
 obtain ⟨hk,ho,F',h1,h2,h3⟩:=hs
 exact ⟨hk,ho,F',h1,⟨h2,fun k hk'=>(h1 k hk').elim (h.new k) (fun h3=>Nat.le_trans h.kept.size h3),h.kept.then hk (fun k _ hf=>by have:=h.new k hf;omega)⟩,h3⟩
theorem keepsOfGrown {w w':World} {row:Option Nat} (hg:w.grownBy w' row):Keeps (fun k=>row=some k) w w' :=
 (Keeps.refl _ w).grown hg (fun _ hk=>.inl hk)
theorem BSt.grown {At:BAt} (HB:SgBuild At) {w0 wr w':World} {F:Nat→Prop} {v hv:Value} {e s n:Nat} {l:List Rec} (h:BSt At w0 wr F v e s n l) (hg:wr.grownBy w' hv.ownBlock) (hf:∀ k,F k→hv.ownBlock ≠ some k) (hb:∀ k,hv.ownBlock=some k→w0.heap.size≤k):BSt At w0 w' F v e s n l :=
 ⟨HB.keep h.at_ (keepsOfGrown hg) hf,h.new,h.kept.then (keepsOfGrown hg) (fun k _ hr=>by have:=hb k hr;omega)⟩
def OwnR (w0:World) (F:Nat→Prop) (t:TypeId) (size:Nat) (hv:Value) (n:Nat) (xs:List Value) (wr:World):Prop:=wr.ownsRow w0.heap.size t size hv n xs∧∀ k,F k→hv.ownBlock ≠ some k
theorem OwnR.start (w0:World) (F:Nat→Prop) (t:TypeId) (size:Nat) (wr:World):OwnR w0 F t size (.slice none 0 0) 0 [] wr:=⟨World.ownsRow_nil _ _ _ _,fun k _ h=>by simp [Value.ownBlock] at h⟩
theorem ownBlocks {w w':World} {base size n:Nat} {t:TypeId} {v:Value} {xs:List Value} (h:w.ownsRow base t size v n xs) (hb:∀ k,v.ownBlock=some k→w'.heap[k]?=w.heap[k]?):w'.ownsRow base t size v n xs:=by
 refine ⟨h.1,?_⟩
 rcases h.2 with hn|⟨g,cap,cur,rfl,hg,hh,rest⟩
 ·exact .inl hn
 ·exact .inr ⟨g,cap,cur,rfl,hg,(hb g rfl).trans hh,rest⟩
theorem OwnR.keep {w0 wr w':World} {F:Nat→Prop} {t:TypeId} {size n:Nat} {hv:Value} {xs:List Value} (h:OwnR w0 F t size hv n xs wr) (hk:Keeps NoBlock wr w'):OwnR w0 F t size hv n xs w' :=
 ⟨ownBlocks h.1 (fun k hk'=>hk.block k (h.1.lt k hk').2 (fun h=>h)),h.2⟩
theorem OwnR.call {w0 wr w':World} {F F':Nat→Prop} {t:TypeId} {size n:Nat} {hv:Value} {xs:List Value} (h:OwnR w0 F t size hv n xs wr) (hk:Keeps F wr w') (hs:SubF F' F wr):OwnR w0 F' t size hv n xs w' :=
 ⟨ownBlocks h.1 (fun k hk'=>hk.block k (h.1.lt k hk').2 (fun hf=>h.2 k hf hk')),fun k hf he=>(hs k hf).elim (fun h1=>h.2 k h1 he) (fun h1=>by have:=(h.1.lt k he).2;omega)⟩
theorem OwnR.grown {w0 wr w':World} {F:Nat→Prop} {t:TypeId} {size n:Nat} {hv ov:Value} {xs:List Value} (h:OwnR w0 F t size hv n xs wr) (hg:wr.grownBy w' ov.ownBlock) (ho:∀ k,hv.ownBlock=some k→ov.ownBlock ≠ some k):OwnR w0 F t size hv n xs w' :=
 ⟨ownBlocks h.1 (fun k hk'=>hg.block k (h.1.lt k hk').2 (fun e=>ho k hk' e.symm)),h.2⟩
theorem OwnR.added {w0 wr w':World} {F:Nat→Prop} {t:TypeId} {size n m g cap:Nat} {hv:Value} {xs xs':List Value} (h:OwnR w0 F t size hv n xs wr) (hF:∀ k,F k→k<wr.heap.size) (hr:w'.ownsRow w0.heap.size t size (.slice (some ⟨g,0,none⟩) m cap) m xs') (hg:hv.ownBlock=some g ∨ g=wr.heap.size) :
  OwnR w0 F t size (.slice (some ⟨g,0,none⟩) m cap) m xs' w' :=
 ⟨hr,fun k hf e=>by
  have e':g=k:=by simpa [Value.ownBlock] using e
  subst e'
  rcases hg with h1|h1
  ·exact h.2 _ hf h1
  ·have:=hF _ hf;omega⟩
def OwnG (w0:World) (F:Nat→Prop) (hv:Value) (n:Nat) (xs:List Value) (wr:World):Prop:=OwnP wr w0.heap.size hv n xs∧∀ k,F k→hv.ownBlock ≠ some k
theorem OwnG.keep {w0 wr w':World} {F:Nat→Prop} {n:Nat} {hv:Value} {xs:List Value} (h:OwnG w0 F hv n xs wr) (hk:Keeps NoBlock wr w'):OwnG w0 F hv n xs w' :=
 ⟨h.1.kept (fun k hk'=>hk.block k (h.1.lt k hk').2 (fun h=>h)),h.2⟩
theorem OwnG.call {w0 wr w':World} {F F':Nat→Prop} {n:Nat} {hv:Value} {xs:List Value} (h:OwnG w0 F hv n xs wr) (hk:Keeps F wr w') (hs:SubF F' F wr):OwnG w0 F' hv n xs w' :=
 ⟨h.1.kept (fun k hk'=>hk.block k (h.1.lt k hk').2 (fun hf=>h.2 k hf hk')),fun k hf he=>(hs k hf).elim (fun h1=>h.2 k h1 he) (fun h1=>by have:=(h.1.lt k he).2;omega)⟩
theorem OwnG.given {w0 wr w':World} {F':Nat→Prop} {u:Value} {ys:List Int} (h:OwnB wr ys u w') (hk:w0.heap.size≤wr.heap.size) (hf:∀ k,F' k→u.ownBlock ≠ some k):OwnG w0 F' u ys.length (ys.map (Value.int .u8)) w':=⟨h.base hk,hf⟩
theorem rows_apart {w:World} {b1 b2 s1 s2 n1 n2:Nat} {t1 t2:TypeId} {v1 v2:Value} {x1 x2:List Value} (ht:t1 ≠ t2) (h1:w.ownsRow b1 t1 s1 v1 n1 x1) (h2:w.ownsRow b2 t2 s2 v2 n2 x2):∀ k,v1.ownBlock=some k→v2.ownBlock ≠ some k:=fun k e1 e2=>by
 rcases h1.2 with ⟨rfl,_⟩|⟨g,cap,cur,rfl,_,hh,_⟩
 ·simp [Value.ownBlock] at e1
 ·rcases h2.2 with ⟨rfl,_⟩|⟨g',cap',cur',rfl,_,hh',_⟩
  ·simp [Value.ownBlock] at e2
  ·have a1:g=k:=by simpa [Value.ownBlock] using e1
   have a2:g'=k:=by simpa [Value.ownBlock] using e2
   subst a1
   subst a2
   rw [hh] at hh'
   simp at hh'
   exact ht hh'.2
theorem addL_none {e s n:Nat} {l:List Rec} {r:Rec} (h:addE e s n l r ≠ 0):addL e s n l r=l:=by unfold addL;rw [if_neg h]
theorem addL_some {e s n:Nat} {l:List Rec} {r:Rec} (h:addE e s n l r=0):addL e s n l r=l ++ [r]:=by unfold addL;rw [if_pos h]
theorem addE_zero {e s n:Nat} {l:List Rec} {r:Rec} (h:addE e s n l r=0):checkR r=0∧fitsP (sgRoom e s n l) ((recB r).length:Int)=true:=by
 unfold addE at h
 split at h
 ·rename_i h1
  exact absurd h h1
 ·rename_i h1
  split at h
  ·simp at h
  ·split at h
   ·simp at h
   ·rename_i h2 h3
    exact ⟨by simpa using h1,by simpa using h3⟩
theorem sgRoom_take (e s n:Nat) (l:List Rec) (r:Rec):sgRoom e s n (l ++ [r])=takeP (sgRoom e s n l) ((recB r).length:Int):=by
 unfold sgRoom takeP
 rw [outS_snoc,List.length_append,List.length_append,Int.toNat_natCast]
 rfl
structure AccOk (e s n:Nat) (m:Nat) (l:List Rec):Prop where
 room:InRoom (sgRoom e s n l) l
 fine:∀ x ∈ l,x.Fine∧checkR x=0
 few:l.length≤m
theorem AccOk.start {e s n:Nat} (h:mayHead e s n=true):AccOk e s n 0 []:=⟨sgRoom_empty h,fun x hx=>by simp at hx,Nat.le_refl _⟩
theorem AccOk.step {e s n m:Nat} {l:List Rec} (h:AccOk e s n m l) (hm:m<10000) {r:Rec} (hr:r.Fine):AccOk e s n (m+1) (addL e s n l r):=by
 by_cases h0:addE e s n l r=0
 ·rw [addL_some h0]
  obtain ⟨h1,h2⟩:=addE_zero h0
  have hf:=h.few
  refine ⟨by rw [sgRoom_take];exact inRoom_take h.room h2 (by show l.length<10000;omega),fun x hx=>?_,by rw [List.length_append];simp;omega⟩
  rcases List.mem_append.1 hx with hx|hx
  ·exact h.fine x hx
  ·obtain rfl:=List.mem_singleton.1 hx
   exact ⟨hr,h1⟩
 ·rw [addL_none h0]
  exact ⟨h.room,h.fine,by have:=h.few;omega⟩
theorem places_snoc (e s n:Nat) (l:List Rec) (r:Rec):placesS e s n (l ++ [r])=placesS e s n l ++ [(outS e s n l).length]:=by
 unfold placesS
 rw [entsS_snoc,List.map_append]
 rfl
end
section
open Go.RowKit
theorem getD_app {α:Type} (a b:List α) (d:α) {i:Nat} (h:i<a.length):(a ++ b).getD i d=a.getD i d:=by
 rw [List.getD_eq_getElem?_getD,List.getD_eq_getElem?_getD,List.getElem?_append_left h]
def nilS:Value:=.slice none 0 0
theorem infoRcs:(Tryz.prog.info? 22).map (fun i=>(i.zero,i.size,i.bytes))=some (some (.slice none 0 0),1,24):=by kernel_rfl
structure HeadsOk (w0 wr:World) (ps:List (List Rec)) (hs:List Value):Prop where
 len:hs.length=ps.length
 row:∀ i,i<ps.length→wr.ownsRow w0.heap.size 48 4 (hs.getD i nilS) (ps.getD i []).length (rcFlat (ps.getD i []))
 apart:∀ i j k,i<ps.length→j<ps.length→i ≠ j→(hs.getD i nilS).ownBlock=some k→(hs.getD j nilS).ownBlock ≠ some k
structure PartsSoFar (w0:World) (ps:List (List Rec)) (hs:List Value) (v:Value) (wr:World):Prop where
 heads:HeadsOk w0 wr ps hs
 own:wr.ownsRow w0.heap.size 22 1 v hs.length hs
 below:Below w0.heap.size w0 wr
theorem PartsSoFar.start (w0:World):PartsSoFar w0 [] [] nilS w0 :=
 ⟨⟨rfl,fun i hi=>by simp at hi,fun i j k hi=>by simp at hi⟩,World.ownsRow_nil _ _ _ _,Below.refl _ _⟩
theorem HeadsOk.kept {w0 wr w':World} {ps:List (List Rec)} {hs:List Value} (h:HeadsOk w0 wr ps hs) (hk:∀ i k,i<ps.length→(hs.getD i nilS).ownBlock=some k→w'.heap[k]?=wr.heap[k]?):HeadsOk w0 w' ps hs :=
 ⟨h.len,fun i hi=>ownBlocks (h.row i hi) (fun k hk'=>hk i k hi hk'),h.apart⟩
theorem PartsSoFar.keep {w0 wr w':World} {ps:List (List Rec)} {hs:List Value} {v:Value} (h:PartsSoFar w0 ps hs v wr) (hk:Keeps NoBlock wr w'):PartsSoFar w0 ps hs v w' :=
 ⟨h.heads.kept (fun i k hi hk'=>hk.block k ((h.heads.row i hi).lt k hk').2 (fun h=>h)),ownBlocks h.own (fun k hk'=>hk.block k (h.own.lt k hk').2 (fun h=>h)),h.below.trans (hk.below h.below.size (fun _ _ h=>h))⟩
theorem PartsSoFar.keeps {w0 wr:World} {ps:List (List Rec)} {hs:List Value} {v:Value} (h:PartsSoFar w0 ps hs v wr):Keeps NoBlock w0 wr:=.ofBelow h.below
theorem PartsSoFar.snoc {w0 wr w':World} {ps:List (List Rec)} {hs:List Value} {v v':Value} (h:PartsSoFar w0 ps hs v wr) (hr:w'.ownsRow w0.heap.size 22 1 v' (hs.length+1) (hs ++ [nilS])) (hg:wr.grownBy w' v.ownBlock):PartsSoFar w0 (ps ++ [[]]) (hs ++ [nilS]) v' w':=by
 have hl:=h.heads.len
 refine ⟨⟨by rw [List.length_append,List.length_append,hl];rfl,fun i hi=>?_,fun i j k hi hj hij=>?_⟩,by rw [List.length_append];exact hr,h.below.trans ((Below.refl _ wr).grown hg h.below.size (fun k hk=>own_from h.own hk))⟩
 ·rw [List.length_append,List.length_singleton] at hi
  by_cases he:i<ps.length
  ·rw [getD_app _ _ _ (by omega),getD_app _ _ _ he]
   exact ownBlocks (h.heads.row i he) (fun k hk=>hg.block k ((h.heads.row i he).lt k hk).2 (fun e=>rows_apart (by decide) (h.heads.row i he) h.own k hk e.symm))
  ·obtain rfl:i=ps.length:=by omega
   have e1:(hs ++ [nilS]).getD ps.length nilS=nilS:=by rw [List.getD_eq_getElem?_getD,List.getElem?_append_right (by omega),hl,Nat.sub_self];rfl
   have e2:(ps ++ [[]]).getD ps.length ([]:List Rec)=[]:=by rw [List.getD_eq_getElem?_getD,List.getElem?_append_right (by omega),Nat.sub_self];rfl
   rw [e1,e2]
   exact World.ownsRow_nil _ _ _ _
 ·rw [List.length_append,List.length_singleton] at hi hj
  have e1:∀ x,ps.length≤x→(hs ++ [nilS]).getD x nilS=nilS:=fun x hx=>by
   rw [List.getD_eq_getElem?_getD,List.getElem?_append_right (by omega)]
   rcases Nat.eq_zero_or_pos (x - hs.length) with h0|h0
   ·rw [h0];rfl
   ·rw [List.getElem?_eq_none (by simp;omega)];rfl
  by_cases hi':i<ps.length
  ·by_cases hj':j<ps.length
   ·rw [getD_app _ _ _ (by omega),getD_app _ _ _ (by omega)]
    exact h.heads.apart i j k hi' hj' hij
   ·rw [e1 j (by omega)]
    intro _
    simp [nilS,Value.ownBlock]
  ·rw [e1 i (by omega)]
   intro hk
   simp [nilS,Value.ownBlock] at hk
theorem HeadsOk.put {w0 wr w':World} {ps:List (List Rec)} {hs:List Value} (h:HeadsOk w0 wr ps hs) {m g cap:Nat} (hm:m<ps.length) (r:Rec)
  (hr:w'.ownsRow w0.heap.size 48 4 (.slice (some ⟨g,0,none⟩) ((ps.getD m []).length+1) cap) ((ps.getD m []).length+1) (rcFlat (ps.getD m []) ++ rcFour r))
  (hg:wr.grownBy w' (hs.getD m nilS).ownBlock) (hn:(hs.getD m nilS).ownBlock=some g ∨ wr.heap.size≤g) :
  HeadsOk w0 w' (ps.set m (ps.getD m [] ++ [r])) (hs.set m (.slice (some ⟨g,0,none⟩) ((ps.getD m []).length+1) cap)):=by
 have hl:=h.len
 have e1:∀ x,(hs.set m (.slice (some ⟨g,0,none⟩) ((ps.getD m []).length+1) cap)).getD x nilS=if x=m then .slice (some ⟨g,0,none⟩) ((ps.getD m []).length+1) cap else hs.getD x nilS:=fun x=>by
  rw [List.getD_eq_getElem?_getD,List.getElem?_set]
  by_cases hx:m=x
  ·subst hx
   rw [if_pos rfl,if_pos rfl,if_pos (by omega)]
   rfl
  ·rw [if_neg hx,if_neg (fun e=>hx e.symm),List.getD_eq_getElem?_getD]
 have e2:∀ x,(ps.set m (ps.getD m [] ++ [r])).getD x []=if x=m then ps.getD m [] ++ [r] else ps.getD x []:=fun x=>by
  rw [List.getD_eq_getElem?_getD,List.getElem?_set]
  by_cases hx:m=x
  ·subst hx
   rw [if_pos rfl,if_pos rfl,if_pos hm]
   simp
  ·rw [if_neg hx,if_neg (fun e=>hx e.symm),List.getD_eq_getElem?_getD]
 have hgl:∀ i,i<ps.length→i ≠ m→(hs.getD i nilS).ownBlock ≠ some g:=fun i hi him hk=>by
  rcases hn with hn|hn
  ·exact h.apart i m g hi hm him hk hn
  ·have:=((h.row i hi).lt g hk).2
   omega
 refine ⟨by rw [List.length_set,List.length_set,hl],fun i hi=>?_,fun i j k hi hj hij=>?_⟩
 ·rw [List.length_set] at hi
  rw [e1,e2]
  by_cases him:i=m
  ·rw [if_pos him,if_pos him,List.length_append,rcFlat_append,show rcFlat [r]=rcFour r by simp [rcFlat]]
   exact hr
  ·rw [if_neg him,if_neg him]
   exact ownBlocks (h.row i hi) (fun k hk=>hg.block k ((h.row i hi).lt k hk).2 (fun e=>h.apart i m k hi hm him hk e.symm))
 ·rw [List.length_set] at hi hj
  rw [e1,e1]
  by_cases him:i=m
  ·rw [if_pos him,if_neg (fun e=>hij (him.trans e.symm))]
   intro hk
   have:g=k:=by simpa [Value.ownBlock] using hk
   subst this
   exact hgl j hj (fun e=>hij (him.trans e.symm))
  ·rw [if_neg him]
   by_cases hjm:j=m
   ·rw [if_pos hjm]
    intro hk e
    have:g=k:=by simpa [Value.ownBlock] using e
    subst this
    exact hgl i hi him hk
   ·rw [if_neg hjm]
    exact h.apart i j k hi hj hij
end
section
open Go.RowKit
theorem firstBad_append:∀ (a b:List Rec),firstBad (a ++ b)=if firstBad a=0 then firstBad b else firstBad a
 | [],b=>by simp [firstBad]
 | r :: a,b=>by
  rw [List.cons_append,firstBad,firstBad]
  by_cases h:checkR r=0
  ·rw [if_pos h,if_pos h,firstBad_append a b]
  ·rw [if_neg h,if_neg h,if_neg h]
theorem firstBad_take {l:List Rec} {j:Nat} (hj:j<l.length) (h:firstBad (l.take j)=0):firstBad (l.take (j+1))=checkR (l.getD j Rec.none):=by
 rw [List.take_succ_eq_append_getElem hj,firstBad_append,if_pos h]
 unfold firstBad
 have e:l.getD j Rec.none=l[j]:=by simp [hj]
 rw [e]
 by_cases hc:checkR l[j]=0
 ·rw [if_pos hc,hc]
  rfl
 ·rw [if_neg hc]
theorem firstBad_stop {l:List Rec} {j:Nat} (h:firstBad (l.take j) ≠ 0):firstBad l=firstBad (l.take j):=by
 conv=>lhs;rw [← List.take_append_drop j l]
 rw [firstBad_append,if_neg h]
theorem rises_adj:∀ {l:List Rec},risesR l=true ↔ ∀ i,i+1<l.length→(l.getD i Rec.none).seq<(l.getD (i+1) Rec.none).seq
 | []=>by simp [risesR]
 | [a]=>by simp [risesR]
 | a :: b :: l=>by
  unfold risesR
  rw [Bool.and_eq_true,rises_adj,decide_eq_true_eq]
  constructor
  ·rintro ⟨h1,h2⟩ i hi
   cases i with
   | zero=>exact h1
   | succ i=>exact h2 i (by simpa using hi)
  ·intro h
   exact ⟨h 0 (by simp),fun i hi=>h (i+1) (by simpa using hi)⟩
end
section
open Go.RowKit
structure InR (w:World) (p:Option Addr) (n c:Nat) (l:List Rec):Prop where
 len:n=l.length
 cap:n≤c
 room:c≤9223372036854775807
 fine:∀ r ∈ l,r.Fine
 key:∀ r ∈ l,r.key.length≤100000
 val:∀ r ∈ l,r.val.length≤100000
 at_:RecsAt w p l
theorem InR.keep {w w':World} {p:Option Addr} {n c:Nat} {l:List Rec} (h:InR w p n c l) (hk:Keeps NoBlock w w'):InR w' p n c l :=
 ⟨h.len,h.cap,h.room,h.fine,h.key,h.val,h.at_.keep hk (fun _ _ h=>h)⟩
theorem getR_mem {l:List Rec} {j:Nat} (h:j<l.length):l.getD j Rec.none ∈ l:=by simp [h]
end
section
open Go.RowKit
theorem infoInt:(Tryz.prog.info? 3).map (fun i=>(i.zero,i.size,i.bytes))=some (some (.int .i64 0),1,8):=by kernel_rfl
theorem sizesR_length (l:List Rec):(sizesR l).length=l.length:=by unfold sizesR;rw [List.length_map]
theorem recB_few {r:Rec} (hf:r.Fine) (h1:r.key.length≤100000) (h2:r.val.length≤100000):(recB r).length≤1000000:=by
 have a1:=(seal_length (bodyR r)).2
 have a2:=sizeN_bound (bodyR r).length
 have a3:=bodyR_length hf (by omega) (by omega)
 show (sealN (bodyR r)).length≤_
 omega
end
section
open Go.RowKit
theorem putPart_length (out:List (List Rec)) (k:Nat) (r:Rec):(putPart out k r).length=if out.length≤k then out.length+1 else out.length:=by
 unfold putPart
 split <;> simp
theorem partsGo_snoc:∀ (l:List Rec) (ks:List Nat) (out:List (List Rec)) (r:Rec) (k:Nat),l.length=ks.length→partsGo out (l ++ [r]) (ks ++ [k])=putPart (partsGo out l ks) k r
 | [],[],out,r,k,_=>by simp [partsGo]
 | [],_ :: _,_,_,_,h=>by simp at h
 | _ :: _,[],_,_,_,h=>by simp at h
 | x :: l,y :: ks,out,r,k,h=>by
  rw [List.cons_append,List.cons_append,partsGo,partsGo,partsGo_snoc l ks _ r k (by simpa using h)]
def partsTo (l:List Rec) (ks:List Nat) (j:Nat):List (List Rec):=partsGo [] (l.take j) (ks.take j)
theorem partsTo_step {l:List Rec} {ks:List Nat} {j:Nat} (h:l.length=ks.length) (hj:j<l.length):partsTo l ks (j+1)=putPart (partsTo l ks j) (ks.getD j 0) (l.getD j Rec.none):=by
 unfold partsTo
 rw [List.take_succ_eq_append_getElem hj,List.take_succ_eq_append_getElem (by omega:j<ks.length),partsGo_snoc _ _ _ _ _ (by rw [List.length_take,List.length_take];omega)]
 simp [hj,show j<ks.length by omega]
theorem steps_at:∀ (ks:List Nat) (l:List Rec) (out:List (List Rec)) (j:Nat),Steps out.length ks→l.length=ks.length→j<ks.length →
  ks.getD j 0=(partsGo out (l.take j) (ks.take j)).length ∨ ks.getD j 0+1=(partsGo out (l.take j) (ks.take j)).length
 | [],_,_,_,_,_,h=>by simp at h
 | k :: ks,[],_,_,_,h,_=>by simp at h
 | k :: ks,r :: l,out,0,hs,_,_=>by
  rcases hs with ⟨h,_⟩|⟨h,_⟩
  ·exact .inl h
  ·exact .inr h
 | k :: ks,r :: l,out,j+1,hs,hl,hj=>by
  rw [List.take_succ_cons,List.take_succ_cons,partsGo,List.getD_cons_succ]
  refine steps_at ks l _ j ?_ (by simpa using hl) (by simpa using hj)
  rw [putPart_length]
  rcases hs with ⟨h,h2⟩|⟨h,h2⟩
  ·rw [if_pos (by omega)];exact h2
  ·rw [if_neg (by omega)];exact h2
theorem PartsSoFar.slice {w0 wr:World} {ps:List (List Rec)} {hs:List Value} {v:Value} (h:PartsSoFar w0 ps hs v wr):∃ qo co,v=.slice qo hs.length co:=by
 rcases h.own.2 with ⟨rfl,h0⟩|⟨g,cap,cur,rfl,_⟩
 ·exact ⟨none,0,by rw [h0]⟩
 ·exact ⟨_,_,rfl⟩
theorem PartsSoFar.cell {w0 wr:World} {ps:List (List Rec)} {hs:List Value} {g cap i:Nat} (h:PartsSoFar w0 ps hs (.slice (some ⟨g,0,none⟩) hs.length cap) wr) (hi:i<hs.length):wr.cell? ⟨g,i,none⟩=some (hs.getD i nilS):=by
 have:=h.own.cells (g:=g) rfl i (hs.getD i nilS) (by simp [hi])
 rwa [Addr.add_lit,Nat.zero_add] at this
end
end Go.Proofs.YtehkjkcnigknkaaGreat

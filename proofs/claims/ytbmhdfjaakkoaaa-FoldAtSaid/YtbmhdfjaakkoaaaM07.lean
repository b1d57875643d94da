/-
  ElRef; ElRow; Rows1; RecsApp; FoLaws; FoStr.
-/
import Derived.Deep.RegionHeld3
import Derived.Lib.Hide
import Derived.Test.YtbmhdfjaakkoaaaM01
import Derived.Test.YtbmhdfjaakkoaaaM03
import Derived.Test.YtbmhdfjaakkoaaaM04
import Derived.Test.YtbmhdfjaakkoaaaM05
import Derived.Test.YtbmhdfjaakkoaaaM06
namespace Go.Proofs.Ytbmhdfjaakkoaaa
open Lib (hid)
section
open Go.RowKit
def prCells (p:Pr):Array Value:=#[.string (strOfNums p.key),.string (strOfNums p.val)]
def PrAt (w:World) (g:Nat) (p:Pr):Prop:=w.cell? ⟨g,0,none⟩=some (.string (strOfNums p.key))∧w.cell? ⟨g,1,none⟩=some (.string (strOfNums p.val))
theorem PrAt.ofWhole {w:World} {g:Nat} {t:TypeId} {p:Pr} (h:Whole w g t (prCells p)):PrAt w g p:=⟨h.cell 0 rfl,h.cell 1 rfl⟩
end
section
open Go.RowKit
theorem own_keep {w w':World} {base size n:Nat} {e:TypeId} {v:Value} {xs:List Value} (h:w.ownsRow base e size v n xs) {S:Nat→Prop} (hk:Keeps S w w') (hs:∀ k,base≤k→¬ S k):w'.ownsRow base e size v n xs:=by
 refine ⟨h.1,?_⟩
 rcases h.2 with hn|⟨g,cap,cur,rfl,hb,hgg,rest⟩
 ·exact .inl hn
 ·have hlt:g<w.heap.size:=(Array.getElem?_eq_some_iff.1 hgg).1
  exact .inr ⟨g,cap,cur,rfl,hb,(hk.block g hlt (hs g hb)).trans hgg,rest⟩
def PrsAt (w:World) (p:Option Addr) (l:List Pr):Prop :=
 ∀ i,i<l.length→∃ a:Addr,p=some a∧w.cell? (a.add (i*2))=some (.string (strOfNums (l.getD i Pr.none).key))∧w.cell? ⟨(a.add (i*2)).block,(a.add (i*2)).off+1,none⟩=some (.string (strOfNums (l.getD i Pr.none).val))
theorem PrsAt.keep {w w':World} {p:Option Addr} {l:List Pr} (h:PrsAt w p l) {S:Nat→Prop} (hk:Keeps S w w') (hs:∀ k,k<w.heap.size→¬ S k):PrsAt w' p l:=fun i hi=>by
 obtain ⟨a,rfl,c0,c1⟩:=h i hi
 exact ⟨a,rfl,hk.cell c0 (hs _ (ltOfCell c0)),hk.cell c1 (hs _ (ltOfCell c1))⟩
def prTwo (p:Pr):List Value:=[.string (strOfNums p.key),.string (strOfNums p.val)]
def prFlat (l:List Pr):List Value:=l.flatMap prTwo
theorem prFlat_at:∀ (l:List Pr) (i j:Nat),i<l.length→j<2→(prFlat l)[i*2+j]?=(prTwo (l.getD i Pr.none))[j]?
 | [],i,j,h,_=>by simp at h
 | r :: l,0,j,_,hj=>by
  rw [prFlat,List.flatMap_cons,List.getElem?_append_left (by simp [prTwo];omega)]
  simp
 | r :: l,i+1,j,h,hj=>by
  rw [prFlat,List.flatMap_cons,List.getElem?_append_right (by simp [prTwo];omega),← prFlat]
  have e:(i+1)*2+j - (prTwo r).length=i*2+j:=by simp [prTwo];omega
  rw [e,prFlat_at l i j (by simpa using h) hj]
  simp
theorem PrsAt.ofOwn {w:World} {base n:Nat} {t:TypeId} {v:Value} {l:List Pr} (h:w.ownsRow base t 2 v n (prFlat l)) (hn:n=l.length) :
  ∃ p c,v=.slice p n c∧n≤c∧c≤9223372036854775807∧(p=none→n=0∧c=0)∧PrsAt w p l:=by
 have h':=h
 rcases h with ⟨_,⟨rfl,rfl⟩|⟨g,cap,cur,rfl,hg,hh,hc1,hc2,hc3,hc4⟩⟩
 ·exact ⟨none,0,rfl,Nat.le_refl _,by decide,fun _=>⟨rfl,rfl⟩,fun i hi=>by omega⟩
 ·refine ⟨_,cap,rfl,hc1,by unfold maxLen at hc2;omega,fun h=>by simp at h,fun i hi=>?_⟩
  have hc:=h'.cells (g:=g) rfl
  have ha:∀ j u,j<2→(prTwo (l.getD i Pr.none))[j]?=some u→w.cell? ⟨g,i*2+j,none⟩=some u:=fun j u hj hu=>by
   have:=hc (i*2+j) u (by rw [prFlat_at l i j hi hj];exact hu)
   rw [Addr.add_lit,Nat.zero_add] at this
   exact this
  refine ⟨⟨g,0,none⟩,rfl,?_,?_⟩
  all_goals simp only [Addr.add_lit,Nat.zero_add]
  ·exact ha 0 _ (by decide) rfl
  ·exact ha 1 _ (by decide) rfl
def NewPrs (w:World) (l:List Pr) (v:Value) (w':World):Prop :=
 ∃ (q:Option Addr) (m d:Nat),v=.slice q m d∧m=l.length∧m≤d∧d≤9223372036854775807∧(q=none→m=0∧d=0)∧PrsAt w' q l∧Keeps NoBlock w w'
def PrsSoFar (t:TypeId) (w0:World) (l:List Pr) (v:Value) (wr:World):Prop:=wr.ownsRow w0.heap.size t 2 v l.length (prFlat l)∧Below w0.heap.size w0 wr
theorem PrsSoFar.new {t:TypeId} {w0 wr:World} {l:List Pr} {v:Value} (h:PrsSoFar t w0 l v wr):NewPrs w0 l v wr:=by
 obtain ⟨p,c,hv,h1,h2,h3,h4⟩:=PrsAt.ofOwn h.1 rfl
 exact ⟨p,_,c,hv,rfl,h1,h2,h3,h4,Keeps.ofBelow h.2⟩
end
section
open Go.RowKit
section
variable {α:Type} {v0:α→Value} {dd:α}
def OnesAt (v0:α→Value) (dd:α) (w:World) (p:Option Addr) (l:List α):Prop :=
 ∀ i,i<l.length→∃ a:Addr,p=some a∧w.cell? (a.add i)=some (v0 (l.getD i dd))
theorem OnesAt.keep {w w':World} {p:Option Addr} {l:List α} (h:OnesAt v0 dd w p l) {S:Nat→Prop} (hk:Keeps S w w') (hs:∀ k,k<w.heap.size→¬ S k):OnesAt v0 dd w' p l:=fun i hi=>by
 obtain ⟨a,rfl,hc⟩:=h i hi
 exact ⟨a,rfl,hk.cell hc (hs _ (ltOfCell hc))⟩
theorem OnesAt.nil (w:World) (p:Option Addr):OnesAt v0 dd w p []:=fun i hi=>by simp at hi
theorem OnesAt.cells {w:World} {ad:Addr} {l:List α} (h:OnesAt v0 dd w (some ad) l) {j:Nat} {u:Value} (hj:(l.map v0)[j]?=some u):w.cell? (ad.add j)=some u:=by
 have hlt:j<l.length:=by
  have:=(List.getElem?_eq_some_iff.1 hj).1
  rwa [List.length_map] at this
 obtain ⟨a,ha,hc⟩:=h j hlt
 obtain rfl:=Option.some.inj ha
 rw [hc,← hj]
 simp [List.getElem?_eq_getElem hlt]
def OnesSoFar (v0:α→Value) (t:TypeId) (w0:World) (l:List α) (v:Value) (wr:World):Prop:=wr.ownsRow w0.heap.size t 1 v l.length (l.map v0)∧Below w0.heap.size w0 wr
theorem OnesSoFar.start {t:TypeId} (w0:World):OnesSoFar v0 t w0 ([]:List α) (.slice none 0 0) w0:=⟨World.ownsRow_nil _ _ _ _,Below.refl _ _⟩
theorem OnesSoFar.startAt {t:TypeId} {w0 wr:World} (h:Below w0.heap.size w0 wr):OnesSoFar v0 t w0 ([]:List α) (.slice none 0 0) wr:=⟨World.ownsRow_nil _ _ _ _,h⟩
theorem OnesSoFar.alloc {t:TypeId} {w0 wr:World} {l:List α} {v:Value} (h:OnesSoFar v0 t w0 l v wr) (o:Obj):OnesSoFar v0 t w0 l v (wr.alloc o):=⟨World.ownsRow.alloc h.1 o,h.2.alloc h.2.size o⟩
theorem OnesSoFar.keep {t:TypeId} {w0 wr w':World} {l:List α} {v:Value} (h:OnesSoFar v0 t w0 l v wr) (hk:Keeps NoBlock wr w'):OnesSoFar v0 t w0 l v w' :=
 ⟨own_keep h.1 hk (fun _ _ h=>h),h.2.trans (hk.below h.2.size (fun _ _ h=>h))⟩
theorem OnesSoFar.keeps {t:TypeId} {w0 wr:World} {l:List α} {v:Value} (h:OnesSoFar v0 t w0 l v wr):Keeps NoBlock w0 wr:=.ofBelow h.2
theorem OnesSoFar.new {t:TypeId} {w0 wr:World} {l:List α} {v:Value} (h:OnesSoFar v0 t w0 l v wr):∃ (q:Option Addr) (m d:Nat),v=.slice q m d∧m=l.length∧m≤d∧d≤9223372036854775807∧(q=none→m=0∧d=0)∧OnesAt v0 dd wr q l∧Keeps NoBlock w0 wr:=by
 obtain ⟨h',hb⟩:=h
 have h9:=h'
 rcases h' with ⟨_,⟨rfl,e⟩|⟨g,cap,cur,rfl,hg,hh,hc1,hc2,hc3,hc4⟩⟩
 ·exact ⟨none,0,0,rfl,e.symm,Nat.le_refl _,by decide,fun _=>⟨rfl,rfl⟩,fun i hi=>by rw [e] at hi;omega,Keeps.ofBelow hb⟩
 ·refine ⟨_,_,cap,rfl,rfl,hc1,by unfold maxLen at hc2;omega,fun h=>by simp at h,fun i hi=>⟨_,rfl,?_⟩,Keeps.ofBelow hb⟩
  exact h9.cells (g:=g) rfl i _ (by simp [List.getElem?_eq_getElem hi])
theorem OnesSoFar.setOther {t:TypeId} {w0 wr:World} {l:List α} {v:Value} (h:OnesSoFar v0 t w0 l v wr) {p:Addr} (hp:v.ownBlock ≠ some p.block) (hb:w0.heap.size≤p.block) (x:Value):OnesSoFar v0 t w0 l v (wr.setCell p x) :=
 ⟨ownsRow_setCell_other h.1 hp _,h.2.setCell hb _⟩
theorem OnesSoFar.apart {t:TypeId} {w0 wr:World} {l:List α} {v:Value} (h:OnesSoFar v0 t w0 l v wr) {k:Nat} (hk:wr.heap.size≤k):v.ownBlock ≠ some k:=fun e=>by
 have:=(h.1.lt k e).2
 omega
theorem OnesSoFar.made {t:TypeId} (w:World) (l:List α) (cs:Array Value) (hcs:cs.toList=l.map v0) (hl:l.length≤1000000000):OnesSoFar v0 t w l (.slice (some ⟨w.heap.size,0,none⟩) l.length l.length) (w.alloc (.cells cs t)):=by
 have hs:cs.size=l.length:=by rw [← Array.length_toList,hcs,List.length_map]
 exact ⟨⟨by simp,.inr ⟨w.heap.size,l.length,cs,rfl,Nat.le_refl _,heap_alloc_new w _,Nat.le_refl _,by unfold maxLen;omega,by rw [hs,Nat.mul_one],by rw [hcs,Nat.mul_one,← List.length_map (f:=v0),List.take_length]⟩⟩,(Below.refl _ w).alloc (Nat.le_refl _) _⟩
end
end
section
open Go.RowKit
theorem RecsAt.flat {w:World} {ad:Addr} {l:List Rec} (h:RecsAt w (some ad) l) {j:Nat} {u:Value} (hj:(rcFlat l)[j]?=some u):w.cell? (ad.add j)=some u:=by
 have hlt:j<l.length*4:=by
  have:=(List.getElem?_eq_some_iff.1 hj).1
  rwa [rcFlat_len] at this
 have e1:j=(j / 4)*4+j % 4:=by omega
 have h4:j % 4<4:=Nat.mod_lt _ (by decide)
 have hi:j / 4<l.length:=by omega
 rw [e1,rcFlat_at l (j / 4) (j % 4) hi h4] at hj
 obtain ⟨a,ha,c0,c1,c2,c3⟩:=h (j / 4) hi
 obtain rfl:=Option.some.inj ha
 have e2:ad.add j=(ad.add (j / 4*4)).add (j % 4):=by
  conv=>lhs;rw [e1]
  rw [← Addr.add_add]
 rw [e2]
 have hk:j % 4=0 ∨ j % 4=1 ∨ j % 4=2 ∨ j % 4=3:=by omega
 rcases hk with hk|hk|hk|hk <;> rw [hk] at hj ⊢ <;> simp only [rcFour,List.getElem?_cons_zero,List.getElem?_cons_succ,Option.some.injEq] at hj <;> rw [← hj]
 ·rw [show ∀ a:Addr,a.add 0=a from fun a=>rfl]
  exact c0
 ·exact c1
 ·exact c2
 ·exact c3
theorem wpList_append_recs {w w0:World} {ops:Array Oper} {rest:List Oper} {o:Oper} {a:Act} {Q:Exit→Act→World→Prop} (hgd:o.guard=none) (s x:Operand)
  (ho:o.op=.call { callee:=.builtin .append,args:=#[s,x],argTypes:=#[22,22] })
  (v:Value) (l:List Rec) (hs:a.eval s=v) (hown:RecsSoFar w0 l v w) (p:Option Addr) (m c:Nat) (l2:List Rec) (hx:a.eval x=.slice p m c) (hp0:p=none→m=0∧c=0) (hm:m=l2.length) (hat:RecsAt w p l2)
  (hroom:l.length+m≤1000000000)
  (h:∀ v' w',RecsSoFar w0 (l ++ l2) v' w'→Below w0.heap.size w w'→wpList Try.prog ops Q rest (a.put o.dst v') w'):wpList Try.prog ops Q (o :: rest) a w:=by
 obtain ⟨i0,hi,hz0,hz1,hz2⟩:=info_parts infoRc
 refine wpList_append_any hgd s x 22 ho w0.heap.size 30 i0 (.agg #[.bool false,.int .u64 0,.string ⟨#[]⟩,.string ⟨#[]⟩]) 4 48 Try.underlying22 hi hz0 hz1 hz2 rfl (by decide) v l.length (rcFlat l) hs hown.1 p m c (rcFlat l2) hx hp0 (by rw [rcFlat_len,hm]) ?_ ?_ (by unfold maxLen;omega) (by omega) hown.2.size ?_
 ·intro ad had j u hj
  subst had
  exact RecsAt.flat hat hj
 ·intro u hu
  obtain ⟨r,_,hr⟩:=List.mem_flatMap.1 hu
  simp only [rcFour,List.mem_cons,List.not_mem_nil,or_false] at hr
  rcases hr with rfl|rfl|rfl|rfl <;> rfl
 ·intro v' w' h2 h3
  refine h v' w' ⟨?_,hown.2.trans h3⟩ h3
  rw [rcFlat_append,List.length_append,← hm]
  exact h2
end
section
open Go.RowKit
def strV (xs:List Int):Value:=.string (strOfNums xs)
def NewStrs (w:World) (l:List (List Int)) (v:Value) (w':World):Prop :=
 ∃ (q:Option Addr) (m d:Nat),v=.slice q m d∧m=l.length∧m≤d∧d≤9223372036854775807∧(q=none→m=0∧d=0)∧OnesAt strV [] w' q l∧Keeps NoBlock w w'
def lastV (l:List Rec) (k:List Int):Value:=.tuple #[recV ((lastF l k).getD Rec.none),.bool (lastF l k).isSome]
def sameF (l m:List Rec):Bool:=(l ++ m).all fun r=>decide (atF l r.key=atF m r.key)
structure FoAtOk:Prop where
 at_:∀ (p:Option Addr) (n c:Nat) (l:List Rec) (k:List Int) (w:World),InR w p n c l→n≤100000→Octets k→k.length≤100000 →
  Calls Try.prog 11 #[.slice p n c,.string (strOfNums k)] w fun e w'=>e=.returned (.tuple #[.int .i64 (atF l k).1,.string (strOfNums (atF l k).2)])∧Keeps NoBlock w w'
structure FoLastOk:Prop where
 last:∀ (p:Option Addr) (n c:Nat) (l:List Rec) (k:List Int) (w:World),InR w p n c l→n≤100000→Octets k→k.length≤100000 →
  Calls Try.prog 13 #[.slice p n c,.string (strOfNums k)] w fun e w'=>e=.returned (lastV l k)∧Keeps NoBlock w w'
structure FoKeysOk:Prop where
 keys:∀ (p:Option Addr) (n c:Nat) (l:List Rec) (w:World),InR w p n c l→n≤10000 →
  Calls Try.prog 10 #[.slice p n c] w fun e w'=>∃ v,e=.returned v∧NewStrs w ((byKeyF l).map Rec.key) v w'
structure FoLiveOk:Prop where
 live:∀ (p:Option Addr) (n c:Nat) (l:List Rec) (w:World),InR w p n c l→n≤10000 →
  Calls Try.prog 15 #[.slice p n c] w fun e w'=>∃ v,e=.returned v∧NewRecs w (liveF l) v w'
structure FoCompactOk:Prop where
 compact:∀ (p:Option Addr) (n c:Nat) (l:List Rec) (w:World),InR w p n c l→n≤10000 →
  Calls Try.prog 17 #[.slice p n c] w fun e w'=>∃ v,e=.returned v∧NewRecs w (compactF l) v w'
structure FoSortedOk:Prop where
 sorted:∀ (p:Option Addr) (n c:Nat) (l:List Rec) (w:World),InR w p n c l→n≤10000 →
  Calls Try.prog 19 #[.slice p n c] w fun e w'=>∃ v,e=.returned v∧NewRecs w (sortedF l) v w'
structure FoSameOk:Prop where
 same:∀ (p:Option Addr) (n c:Nat) (l:List Rec) (q:Option Addr) (m d:Nat) (k:List Rec) (w:World),InR w p n c l→InR w q m d k→n≤10000→m≤10000 →
  Calls Try.prog 21 #[.slice p n c,.slice q m d] w fun e w'=>e=.returned (.bool (sameF l k))∧Keeps NoBlock w w'
theorem RecsSoFar.made (w:World):RecsSoFar w [] (.slice (some ⟨w.heap.size,0,none⟩) 0 0) (w.alloc (.cells #[] 30)) :=
 ⟨⟨rfl,.inr ⟨w.heap.size,0,#[],rfl,Nat.le_refl _,heap_alloc_new w _,Nat.le_refl _,Nat.zero_le _,rfl,rfl⟩⟩,(Below.refl _ w).alloc (Nat.le_refl _) _⟩
theorem oct_few {xs:List Int} (h:(xs.all fun b=>decide (0≤b) && decide (b<256))=true):Octets xs:=fun b hb=>by
 have:=List.all_eq_true.1 h b hb
 rw [Bool.and_eq_true,decide_eq_true_iff,decide_eq_true_iff] at this
 exact this
def exA:Rec:=⟨false,1,[97],[120]⟩
def exB:Rec:=⟨false,2,[98],[121]⟩
def exC:Rec:=⟨true,3,[97],[]⟩
theorem three_in (w:World):InR (w.alloc (.cells #[.bool false,.int .u64 1,.string ⟨#[97]⟩,.string ⟨#[120]⟩,.bool false,.int .u64 2,.string ⟨#[98]⟩,.string ⟨#[121]⟩,.bool true,.int .u64 3,.string ⟨#[97]⟩,.string ⟨#[]⟩] 30)) (some ⟨w.heap.size,0,none⟩) 3 3 [exA,exB,exC]:=by
 have hall:∀ r ∈ [exA,exB,exC],r.Fine∧r.key.length≤100000∧r.val.length≤100000:=by
  intro r hr
  simp only [List.mem_cons,List.not_mem_nil,or_false] at hr
  rcases hr with rfl|rfl|rfl
  ·exact ⟨⟨by decide,oct_few (by decide),oct_few (by decide)⟩,by decide,by decide⟩
  ·exact ⟨⟨by decide,oct_few (by decide),oct_few (by decide)⟩,by decide,by decide⟩
  ·exact ⟨⟨by decide,oct_few (by decide),oct_few (by decide)⟩,by decide,by decide⟩
 refine ⟨rfl,Nat.le_refl _,by decide,fun r hr=>(hall r hr).1,fun r hr=>(hall r hr).2.1,fun r hr=>(hall r hr).2.2,fun i hi=>⟨_,rfl,?_⟩⟩
 have hw:=Whole.new w 30 #[.bool false,.int .u64 1,.string ⟨#[97]⟩,.string ⟨#[120]⟩,.bool false,.int .u64 2,.string ⟨#[98]⟩,.string ⟨#[121]⟩,.bool true,.int .u64 3,.string ⟨#[97]⟩,.string ⟨#[]⟩]
 have:i=0 ∨ i=1 ∨ i=2:=by simp at hi;omega
 rcases this with rfl|rfl|rfl
 ·exact ⟨hw.cell 0 rfl,hw.cell 1 rfl,hw.cell 2 rfl,hw.cell 3 rfl⟩
 ·exact ⟨hw.cell 4 rfl,hw.cell 5 rfl,hw.cell 6 rfl,hw.cell 7 rfl⟩
 ·exact ⟨hw.cell 8 rfl,hw.cell 9 rfl,hw.cell 10 rfl,hw.cell 11 rfl⟩
set_option maxHeartbeats 4000000 in
set_option maxRecDepth 10000 in
theorem lives18_true (H:FoAtOk) (w:World):Calls Try.prog 7 #[] w fun e w'=>e=.returned (.bool true)∧Keeps NoBlock w w':=by
 have ex1:atF [exA,exB,exC] [97]=(1,[]):=by decide
 have ex2:atF [exA,exB,exC] [98]=(2,[121]):=by decide
 have ex3:atF [exA,exB,exC] [99]=(0,[]):=by decide
 have H1:=hid (fun p w h=>H.at_ p 3 3 [exA,exB,exC] [97] w h (by decide) (oct_few (by decide)) (by decide))
 have H2:=hid (fun p w h=>H.at_ p 3 3 [exA,exB,exC] [98] w h (by decide) (oct_few (by decide)) (by decide))
 have H3:=hid (fun p w h=>H.at_ p 3 3 [exA,exB,exC] [99] w h (by decide) (oct_few (by decide)) (by decide))
 rw [ex1] at H1
 rw [ex2] at H2
 rw [ex3] at H3
 simp only [show strOfNums [97]=⟨#[97]⟩ from rfl,show strOfNums [98]=⟨#[98]⟩ from rfl,show strOfNums [99]=⟨#[99]⟩ from rfl,show strOfNums [121]=⟨#[121]⟩ from rfl,show strOfNums []=⟨#[]⟩ from rfl] at H1 H2 H3
 have HI:=hid (three_in w)
 have HK:=hid ((Keeps.refl NoBlock w).alloc (.cells #[.bool false,.int .u64 1,.string ⟨#[97]⟩,.string ⟨#[120]⟩,.bool false,.int .u64 2,.string ⟨#[98]⟩,.string ⟨#[121]⟩,.bool true,.int .u64 3,.string ⟨#[97]⟩,.string ⟨#[]⟩] 30))
 clear H ex1 ex2 ex3
 go_enter Try.func7,Try.ntmps7
 go_wp2_with fail
 refine (H1.out _ _ HI.out).mono ?_
 rintro e w1 ⟨rfl,hk⟩
 have HI:=hid (HI.out.keep hk)
 have HK:=hid (HK.out.trans hk)
 clear hk
 go_wp2_with fail
 refine (H2.out _ _ HI.out).mono ?_
 rintro e w2 ⟨rfl,hk⟩
 have HI:=hid (HI.out.keep hk)
 have HK:=hid (HK.out.trans hk)
 clear hk
 go_wp2_with fail
 refine (H3.out _ _ HI.out).mono ?_
 rintro e w3 ⟨rfl,hk⟩
 have HK:=hid (HK.out.trans hk)
 clear hk HI
 go_wp2_with fail
 go_ret
 exact ⟨rfl,HK.out⟩
end
section
open Go.RowKit
theorem infoStr:(Try.prog.info? 9).map (fun i=>(i.zero,i.size,i.bytes))=some (some (.string ⟨#[]⟩),1,16):=by kernel_rfl
theorem wpList_append_strs {w w0:World} {ops:Array Oper} {rest:List Oper} {o:Oper} {a:Act} {Q:Exit→Act→World→Prop} (hgd:o.guard=none) (s x:Operand)
  (ho:o.op=.call { callee:=.builtin .append,args:=#[s,x],argTypes:=#[26,26] })
  (v:Value) (l:List (List Int)) (hs:a.eval s=v) (hown:OnesSoFar strV 9 w0 l v w) (p:Option Addr) (m c:Nat) (l2:List (List Int)) (hx:a.eval x=.slice p m c) (hp0:p=none→m=0∧c=0) (hm:m=l2.length) (hat:OnesAt strV [] w p l2)
  (hroom:l.length+m≤1000000000)
  (h:∀ v' w',OnesSoFar strV 9 w0 (l ++ l2) v' w'→Below w0.heap.size w w'→wpList Try.prog ops Q rest (a.put o.dst v') w'):wpList Try.prog ops Q (o :: rest) a w:=by
 obtain ⟨i0,hi,hz0,hz1,hz2⟩:=info_parts infoStr
 refine wpList_append_any hgd s x 26 ho w0.heap.size 9 i0 (.string ⟨#[]⟩) 1 16 Try.underlying26 hi hz0 hz1 hz2 rfl (by decide) v l.length (l.map strV) hs hown.1 p m c (l2.map strV) hx hp0 (by rw [List.length_map,hm,Nat.mul_one]) ?_ ?_ (by unfold maxLen;omega) (by omega) hown.2.size ?_
 ·intro ad had j u hj
  subst had
  exact OnesAt.cells hat hj
 ·intro u hu
  obtain ⟨r,_,rfl⟩:=List.mem_map.1 hu
  rfl
 ·intro v' w' h2 h3
  refine h v' w' ⟨?_,hown.2.trans h3⟩ h3
  rw [List.map_append,List.length_append,← hm]
  exact h2
end
end Go.Proofs.Ytbmhdfjaakkoaaa

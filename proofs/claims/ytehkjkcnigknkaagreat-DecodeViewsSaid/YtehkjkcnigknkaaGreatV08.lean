/-
  ElRef; ElRow; TabFiWalk; FenNum; Lift; Open.
-/
import Derived.Deep.RegionHeld3
import Derived.ProofKit
import Derived.OpenShut
import Derived.SizedLaws
import Derived.Carry
import Derived.ChangeSame
import Derived.JoinedOf
import Derived.JoinedAt
import Derived.Deep.Slices
import Derived.Test.YtehkjkcnigknkaaGreatV01
import Derived.Test.YtehkjkcnigknkaaGreatV02
import Derived.Test.YtehkjkcnigknkaaGreatV03
import Derived.Test.YtehkjkcnigknkaaGreatV05
import Derived.Test.YtehkjkcnigknkaaGreatV06
import Derived.Test.YtehkjkcnigknkaaGreatV07
namespace Go.Proofs.YtehkjkcnigknkaaGreat
section
open Go.RowKit
def prCells (p:Pr):Array Value:=#[.string (strOfNums p.key),.string (strOfNums p.val)]
def PrAt (w:World) (g:Nat) (p:Pr):Prop:=w.cell? ⟨g,0,none⟩=some (.string (strOfNums p.key))∧w.cell? ⟨g,1,none⟩=some (.string (strOfNums p.val))
theorem PrAt.ofWhole {w:World} {g:Nat} {t:TypeId} {p:Pr} (h:Whole w g t (prCells p)):PrAt w g p:=⟨h.cell 0 rfl,h.cell 1 rfl⟩
end
section
open Go.RowKit
theorem own_keep {w w':World} {base size n:Nat} {e:TypeId} {v:Value} {xs:List Value} (h:w.ownsRow base e size v n xs) {S:Nat→Prop} (hk:Keeps S w w') (hs:∀ k,base≤k→¬ S k):w'.ownsRow base e size v n xs:=by
 refine ⟨h.1,?_⟩
 rcases h.2 with hn|⟨g,cap,cur,rfl,hb,hgg,rest⟩
 ·exact .inl hn
 ·have hlt:g<w.heap.size:=(Array.getElem?_eq_some_iff.1 hgg).1
  exact .inr ⟨g,cap,cur,rfl,hb,(hk.block g hlt (hs g hb)).trans hgg,rest⟩
def PrsAt (w:World) (p:Option Addr) (l:List Pr):Prop :=
 ∀ i,i<l.length→∃ a:Addr,p=some a∧w.cell? (a.add (i*2))=some (.string (strOfNums (l.getD i Pr.none).key))∧w.cell? ⟨(a.add (i*2)).block,(a.add (i*2)).off+1,none⟩=some (.string (strOfNums (l.getD i Pr.none).val))
theorem PrsAt.keep {w w':World} {p:Option Addr} {l:List Pr} (h:PrsAt w p l) {S:Nat→Prop} (hk:Keeps S w w') (hs:∀ k,k<w.heap.size→¬ S k):PrsAt w' p l:=fun i hi=>by
 obtain ⟨a,rfl,c0,c1⟩:=h i hi
 exact ⟨a,rfl,hk.cell c0 (hs _ (ltOfCell c0)),hk.cell c1 (hs _ (ltOfCell c1))⟩
def prTwo (p:Pr):List Value:=[.string (strOfNums p.key),.string (strOfNums p.val)]
def prFlat (l:List Pr):List Value:=l.flatMap prTwo
theorem prFlat_at:∀ (l:List Pr) (i j:Nat),i<l.length→j<2→(prFlat l)[i*2+j]?=(prTwo (l.getD i Pr.none))[j]?
 | [],i,j,h,_=>by simp at h
 | r :: l,0,j,_,hj=>by
  rw [prFlat,List.flatMap_cons,List.getElem?_append_left (by simp [prTwo];omega)]
  simp
 | r :: l,i+1,j,h,hj=>by
  rw [prFlat,List.flatMap_cons,List.getElem?_append_right (by simp [prTwo];omega),← prFlat]
  have e:(i+1)*2+j - (prTwo r).length=i*2+j:=by simp [prTwo];omega
  rw [e,prFlat_at l i j (by simpa using h) hj]
  simp
theorem PrsAt.ofOwn {w:World} {base n:Nat} {t:TypeId} {v:Value} {l:List Pr} (h:w.ownsRow base t 2 v n (prFlat l)) (hn:n=l.length) :
  ∃ p c,v=.slice p n c∧n≤c∧c≤9223372036854775807∧(p=none→n=0∧c=0)∧PrsAt w p l:=by
 have h':=h
 rcases h with ⟨_,⟨rfl,rfl⟩|⟨g,cap,cur,rfl,hg,hh,hc1,hc2,hc3,hc4⟩⟩
 ·exact ⟨none,0,rfl,Nat.le_refl _,by decide,fun _=>⟨rfl,rfl⟩,fun i hi=>by omega⟩
 ·refine ⟨_,cap,rfl,hc1,by unfold maxLen at hc2;omega,fun h=>by simp at h,fun i hi=>?_⟩
  have hc:=h'.cells (g:=g) rfl
  have ha:∀ j u,j<2→(prTwo (l.getD i Pr.none))[j]?=some u→w.cell? ⟨g,i*2+j,none⟩=some u:=fun j u hj hu=>by
   have:=hc (i*2+j) u (by rw [prFlat_at l i j hi hj];exact hu)
   rw [Addr.add_lit,Nat.zero_add] at this
   exact this
  refine ⟨⟨g,0,none⟩,rfl,?_,?_⟩
  all_goals simp only [Addr.add_lit,Nat.zero_add]
  ·exact ha 0 _ (by decide) rfl
  ·exact ha 1 _ (by decide) rfl
def NewPrs (w:World) (l:List Pr) (v:Value) (w':World):Prop :=
 ∃ (q:Option Addr) (m d:Nat),v=.slice q m d∧m=l.length∧m≤d∧d≤9223372036854775807∧(q=none→m=0∧d=0)∧PrsAt w' q l∧Keeps NoBlock w w'
def PrsSoFar (t:TypeId) (w0:World) (l:List Pr) (v:Value) (wr:World):Prop:=wr.ownsRow w0.heap.size t 2 v l.length (prFlat l)∧Below w0.heap.size w0 wr
theorem PrsSoFar.new {t:TypeId} {w0 wr:World} {l:List Pr} {v:Value} (h:PrsSoFar t w0 l v wr):NewPrs w0 l v wr:=by
 obtain ⟨p,c,hv,h1,h2,h3,h4⟩:=PrsAt.ofOwn h.1 rfl
 exact ⟨p,_,c,hv,rfl,h1,h2,h3,h4,Keeps.ofBelow h.2⟩
end
section
open Go.RowKit
theorem infoU64:(Tryz.prog.info? 46).map (fun i=>(i.zero,i.size,i.bytes))=some (some (.int .u64 0),1,8):=by kernel_rfl
def numV (x:Nat):Value:=.int .u64 (x:Int)
def NumsSoFar (w0:World) (l:List Nat) (v:Value) (wr:World):Prop:=wr.ownsRow w0.heap.size 46 1 v l.length (l.map numV)∧Below w0.heap.size w0 wr
theorem NumsSoFar.keep {w0 wr w':World} {l:List Nat} {v:Value} (h:NumsSoFar w0 l v wr) (hk:Keeps NoBlock wr w'):NumsSoFar w0 l v w' :=
 ⟨own_keep h.1 hk (fun _ _ h=>h),h.2.trans (hk.below h.2.size (fun _ _ h=>h))⟩
theorem NumsSoFar.alloc {w0 wr:World} {l:List Nat} {v:Value} (h:NumsSoFar w0 l v wr) (o:Obj):NumsSoFar w0 l v (wr.alloc o):=⟨World.ownsRow.alloc h.1 o,h.2.alloc h.2.size o⟩
theorem own_nums {w0 w:World} {l:List Nat} {v:Value} (h:w.ownsRow w0.heap.size 46 1 v l.length (l.map numV)):∃ q m d,v=.slice q m d∧(q=none→m=0∧d=0)∧m=l.length∧∀ ad,q=some ad→∀ j u,(l.map numV)[j]?=some u→w.cell? (ad.add j)=some u:=by
 have h':=h
 rcases h with ⟨_,⟨rfl,e⟩|⟨g,cap,cur,rfl,_⟩⟩
 ·exact ⟨none,0,0,rfl,fun _=>⟨rfl,rfl⟩,e.symm,fun ad h=>by simp at h⟩
 ·exact ⟨_,_,cap,rfl,fun h=>by simp at h,rfl,fun ad had j u hu=>by obtain rfl:=Option.some.inj had;exact h'.cells (g:=g) rfl j u hu⟩
end
section
def ofFrom:Nat→List En→List Nat
 | _,[]=>[]
 | i,e :: l=>if i % 16=0 then e.hash :: ofFrom (i+1) l else ofFrom (i+1) l
def ofF (l:List En):List Nat:=ofFrom 0 l
def countF (n:Int):Nat:=(n.toNat+15) / 16
theorem ofFrom_length:∀ (i:Nat) (l:List En),(ofFrom i l).length+(i+15) / 16=(i+l.length+15) / 16
 | i,[]=>by simp [ofFrom]
 | i,e :: l=>by
  have ih:=ofFrom_length (i+1) l
  rw [List.length_cons,ofFrom]
  split
  ·rw [List.length_cons]
   omega
  ·omega
theorem ofF_length (l:List En):(ofF l).length=(l.length+15) / 16:=by
 have:=ofFrom_length 0 l
 unfold ofF
 omega
theorem ofFrom_mem:∀ (i:Nat) (l:List En) (x:Nat),x ∈ ofFrom i l→∃ e ∈ l,e.hash=x
 | _,[],_,h=>by simp [ofFrom] at h
 | i,e :: l,x,h=>by
  rw [ofFrom] at h
  split at h
  ·rcases List.mem_cons.1 h with rfl|h
   ·exact ⟨e,List.mem_cons_self,rfl⟩
   ·obtain ⟨y,hy,rfl⟩:=ofFrom_mem _ l x h
    exact ⟨y,List.mem_cons_of_mem _ hy,rfl⟩
  ·obtain ⟨y,hy,rfl⟩:=ofFrom_mem _ l x h
   exact ⟨y,List.mem_cons_of_mem _ hy,rfl⟩
theorem ofF_fine {l:List En} (h:∀ e ∈ l,e.Fine):∀ x ∈ ofF l,x<18446744073709551616:=fun x hx=>by
 obtain ⟨e,he,rfl⟩:=ofFrom_mem 0 l x hx
 exact (h e he).hash
theorem ofFrom_snoc:∀ (i:Nat) (l:List En) (e:En),ofFrom i (l ++ [e])=if (i+l.length) % 16=0 then ofFrom i l ++ [e.hash] else ofFrom i l
 | i,[],e=>by
  rw [List.nil_append,ofFrom]
  simp [ofFrom]
 | i,x :: l,e=>by
  rw [List.cons_append,ofFrom,ofFrom,List.length_cons,ofFrom_snoc (i+1) l e,show i+1+l.length=i+(l.length+1) by omega]
  by_cases h1:i % 16=0 <;> by_cases h2:(i+(l.length+1)) % 16=0 <;> simp [h1,h2]
theorem ofF_snoc (l:List En) (e:En):ofF (l ++ [e])=if l.length % 16=0 then ofF l ++ [e.hash] else ofF l:=by
 have:=ofFrom_snoc 0 l e
 rwa [Nat.zero_add] at this
def textF:List Nat→List Int
 | []=>[]
 | x :: l=>digits (x:Int) 8 ++ textF l
theorem textF_length:∀ l:List Nat,(textF l).length=8*l.length
 | []=>rfl
 | x :: l=>by
  rw [textF,List.length_append,digits_length,textF_length l,List.length_cons]
  omega
theorem textF_octets:∀ l:List Nat,Octets (textF l)
 | []=>fun b hb=>by simp [textF] at hb
 | x :: l=>(digits_octets _ 8).app (textF_octets l)
theorem textF_snoc (l:List Nat) (x:Nat):textF (l ++ [x])=textF l ++ digits (x:Int) 8:=by
 induction l with
 | nil=>simp [textF]
 | cons y l ih=>rw [List.cons_append,textF,ih,textF];simp only [List.append_assoc]
end
section
open Go.ChangeShapes Go.WideShapes Go.ChangeAt Go.RowKit
theorem own:ownKnob Tryz.prog.godebug=none:=by kernel_rfl
theorem laidOut:laidOutB Tryz.prog=true:=by kernel_rfl
theorem trodAll_stay {H:Type} {enc:TypeId × Value→H} {W W':World} (hb:Below W.heap.size W W'):∀ (ts:List TypeId) (vs:List Value) (ds:List (DataW H)) (ps:List MemPlace),(∀ t ∈ ts,Tryz.prog.readableRec t=true∧t<Tryz.prog.types.size) →
  DataW.TrodAll enc Tryz.prog W 0 (fun _=>true) true ts vs ds ps→(∀ x ∈ ps,x.block<W.heap.size)→DataW.TrodAll enc Tryz.prog W' 0 (fun b=>decide (b<W.heap.size)) true ts vs ds ps
 | [],[],[],_,_,h,_=>h
 | t :: ts,v :: vs,d :: ds,_,hr,⟨p,q,h1,h2,e⟩,hlt=>by
  subst e
  exact ⟨p,q,Below.trod laidOut (hr t List.mem_cons_self).1 (hr t List.mem_cons_self).2 h1 hb (fun x hx=>hlt x (List.mem_append_left _ hx)),
   trodAll_stay hb ts vs ds q (fun u hu=>hr u (List.mem_cons_of_mem _ hu)) h2 (fun x hx=>hlt x (List.mem_append_right _ hx)),rfl⟩
 | [],_ :: _,_,_,_,h,_=>h.elim
 | [],[],_ :: _,_,_,h,_=>h.elim
 | _ :: _,[],_,_,_,h,_=>h.elim
 | _ :: _,_ :: _,[],_,_,h,_=>h.elim
def LawSpec (s:ChangeSpec) (n:Nat):Prop :=
 s.vars=[]∧∀ (H:Type) (ds:List (DataW H)),ds.length=n→(s.fn H ds).results=[.lit (.bool true)]∧(s.fn H ds).args=ds∧(s.fn H ds).vars=[]
theorem trodAll_length {H:Type} {enc:TypeId × Value→H} {W:World} {sp:Nat→Bool} {hd:Bool}:∀ (ts:List TypeId) (vs:List Value) (ds:List (DataW H)) (ps:List MemPlace),DataW.TrodAll enc Tryz.prog W 0 sp hd ts vs ds ps→ds.length=ts.length
 | [],[],[],_,_=>rfl
 | _ :: ts,_ :: vs,_ :: ds,_,⟨_,q,_,h2,_⟩=>by simp [trodAll_length ts vs ds q h2]
 | [],_ :: _,_,_,h=>h.elim
 | [],[],_ :: _,_,h=>h.elim
 | _ :: _,[],_,_,h=>h.elim
 | _ :: _,_ :: _,[],_,h=>h.elim
theorem law_post {H:Type} {enc:TypeId × Value→H} {f:Func} {s:ChangeSpec} {W W':World} {args:Array Value} {ds gs:List (DataW H)} {before:List MemPlace} (hs:LawSpec s f.params.size) (hres:f.resultTypes=#[4])
  (hr0:(f.params.toList.all fun t=>Tryz.prog.readableRec t && decide (t<Tryz.prog.types.size))=true) (hW:DataW.Whole enc Tryz.prog f.params.toList s.vars false W args.toList ds gs before) (hb:Below W.heap.size W W') :
  s.post enc Tryz.prog f false true false false W args (.bool true) W':=by
 have hr:∀ t ∈ f.params.toList,Tryz.prog.readableRec t=true∧t<Tryz.prog.types.size:=fun t ht=>by simpa using List.all_eq_true.1 hr0 t ht
 have hW':=hW
 obtain ⟨p,q,hA,hV,rfl,_,_⟩:=hW
 rw [hs.1] at hV
 have hgs:gs=[]∧q=[]:=by
  cases gs with
  | nil=>exact ⟨rfl,hV⟩
  | cons g gs=>exact hV.elim
 obtain ⟨rfl,rfl⟩:=hgs
 have hl:=trodAll_length _ _ _ _ hA
 have hlt:∀ x ∈ p,x.block<W.heap.size:=fun x hx=>by simpa using hW'.lt x (List.mem_append_left _ hx)
 obtain ⟨h1,h2,h3⟩:=hs.2 H (ds ++ []) (by simpa using hl)
 refine ⟨ds,[],p ++ [],[],p,[],hW',?_,?_,?_,hb.frame _,fun h=>by cases h⟩
 ·rw [h1,hres]
  exact trodAll_mk1 (shut_bool Tryz.underlying4 true)
 ·rw [h2,List.append_nil]
  exact trodAll_stay hb _ _ _ _ hr hA hlt
 ·rw [h3,hs.1]
  rfl
end
section
open Go.ChangeShapes Go.WideShapes Go.ChangeAt Go.RowKit
end
end Go.Proofs.YtehkjkcnigknkaaGreat

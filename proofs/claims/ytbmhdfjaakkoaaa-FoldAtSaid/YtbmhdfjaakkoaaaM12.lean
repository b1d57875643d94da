/-
  NewBytes; RecLaws; RecBdWalk; RecRsWalk; Lift; Open.
-/
import Derived.ProofKit
import Derived.OpenShut
import Derived.SizedLaws
import Derived.Carry
import Derived.ChangeSame
import Derived.JoinedOf
import Derived.JoinedAt
import Derived.Deep.Slices
import Derived.Test.YtbmhdfjaakkoaaaM01
import Derived.Test.YtbmhdfjaakkoaaaM11
namespace Go.Proofs.Ytbmhdfjaakkoaaa
section
open Go.RowKit
end
section
open Go.RowKit
end
section
open Go.RowKit
theorem RecsAt.one (w:World) (t:TypeId) (r:Rec):RecsAt (w.alloc (.cells (recCells r) t)) (some ⟨w.heap.size,0,none⟩) [r]:=fun i hi=>by
 have:i=0:=by simp at hi;omega
 subst this
 have h:=RecAt.ofWhole (r:=r) (Whole.new w t (recCells r))
 exact ⟨_,rfl,h.1,h.2.1,h.2.2.1,h.2.2.2⟩
end
section
open Go.RowKit
def recFour (r:Rec):List Value:=[.bool r.del,.int .u64 (r.seq:Int),.string (strOfNums r.key),.string (strOfNums r.val)]
def recFlat (l:List Rec):List Value:=l.flatMap recFour
theorem recFlat_at:∀ (l:List Rec) (i j:Nat),i<l.length→j<4→(recFlat l)[i*4+j]?=(recFour (l.getD i Rec.none))[j]?
 | [],i,j,h,_=>by simp at h
 | r :: l,0,j,_,hj=>by
  rw [recFlat,List.flatMap_cons,List.getElem?_append_left (by simp [recFour];omega)]
  simp
 | r :: l,i+1,j,h,hj=>by
  rw [recFlat,List.flatMap_cons,List.getElem?_append_right (by simp [recFour];omega),← recFlat]
  have e:(i+1)*4+j - (recFour r).length=i*4+j:=by simp [recFour];omega
  rw [e,recFlat_at l i j (by simpa using h) hj]
  simp
theorem RecsAt.ofOwn {w:World} {base n:Nat} {v:Value} {l:List Rec} (h:w.ownsRow base 30 4 v n (recFlat l)) (hn:n=l.length) :
  ∃ p c,v=.slice p n c∧n≤c∧c≤9223372036854775807∧RecsAt w p l:=by
 have h':=h
 rcases h with ⟨_,⟨rfl,rfl⟩|⟨g,cap,cur,rfl,hg,hh,hc1,hc2,hc3,hc4⟩⟩
 ·exact ⟨none,0,rfl,Nat.le_refl _,by decide,fun i hi=>by omega⟩
 ·refine ⟨_,cap,rfl,hc1,by unfold maxLen at hc2;omega,fun i hi=>?_⟩
  have hc:=h'.cells (g:=g) rfl
  have ha:∀ j u,j<4→(recFour (l.getD i Rec.none))[j]?=some u→w.cell? ⟨g,i*4+j,none⟩=some u:=fun j u hj hu=>by
   have:=hc (i*4+j) u (by rw [recFlat_at l i j hi hj];exact hu)
   rw [Addr.add_lit,Nat.zero_add] at this
   exact this
  refine ⟨⟨g,0,none⟩,rfl,?_,?_,?_,?_⟩
  all_goals simp only [Addr.add_lit,Nat.zero_add]
  ·exact ha 0 _ (by decide) rfl
  ·exact ha 1 _ (by decide) rfl
  ·exact ha 2 _ (by decide) rfl
  ·exact ha 3 _ (by decide) rfl
end
section
open Go.ChangeShapes Go.WideShapes Go.ChangeAt Go.RowKit
theorem own:ownKnob Try.prog.godebug=none:=by kernel_rfl
theorem laidOut:laidOutB Try.prog=true:=by kernel_rfl
theorem trodAll_stay {H:Type} {enc:TypeId × Value→H} {W W':World} (hb:Below W.heap.size W W'):∀ (ts:List TypeId) (vs:List Value) (ds:List (DataW H)) (ps:List MemPlace),(∀ t ∈ ts,Try.prog.readableRec t=true∧t<Try.prog.types.size) →
  DataW.TrodAll enc Try.prog W 0 (fun _=>true) true ts vs ds ps→(∀ x ∈ ps,x.block<W.heap.size)→DataW.TrodAll enc Try.prog W' 0 (fun b=>decide (b<W.heap.size)) true ts vs ds ps
 | [],[],[],_,_,h,_=>h
 | t :: ts,v :: vs,d :: ds,_,hr,⟨p,q,h1,h2,e⟩,hlt=>by
  subst e
  exact ⟨p,q,Below.trod laidOut (hr t List.mem_cons_self).1 (hr t List.mem_cons_self).2 h1 hb (fun x hx=>hlt x (List.mem_append_left _ hx)),
   trodAll_stay hb ts vs ds q (fun u hu=>hr u (List.mem_cons_of_mem _ hu)) h2 (fun x hx=>hlt x (List.mem_append_right _ hx)),rfl⟩
 | [],_ :: _,_,_,_,h,_=>h.elim
 | [],[],_ :: _,_,_,h,_=>h.elim
 | _ :: _,[],_,_,_,h,_=>h.elim
 | _ :: _,_ :: _,[],_,_,h,_=>h.elim
def LawSpec (s:ChangeSpec) (n:Nat):Prop :=
 s.vars=[]∧∀ (H:Type) (ds:List (DataW H)),ds.length=n→(s.fn H ds).results=[.lit (.bool true)]∧(s.fn H ds).args=ds∧(s.fn H ds).vars=[]
theorem trodAll_length {H:Type} {enc:TypeId × Value→H} {W:World} {sp:Nat→Bool} {hd:Bool}:∀ (ts:List TypeId) (vs:List Value) (ds:List (DataW H)) (ps:List MemPlace),DataW.TrodAll enc Try.prog W 0 sp hd ts vs ds ps→ds.length=ts.length
 | [],[],[],_,_=>rfl
 | _ :: ts,_ :: vs,_ :: ds,_,⟨_,q,_,h2,_⟩=>by simp [trodAll_length ts vs ds q h2]
 | [],_ :: _,_,_,h=>h.elim
 | [],[],_ :: _,_,h=>h.elim
 | _ :: _,[],_,_,h=>h.elim
 | _ :: _,_ :: _,[],_,h=>h.elim
theorem law_post {H:Type} {enc:TypeId × Value→H} {f:Func} {s:ChangeSpec} {W W':World} {args:Array Value} {ds gs:List (DataW H)} {before:List MemPlace} (hs:LawSpec s f.params.size) (hres:f.resultTypes=#[4])
  (hr0:(f.params.toList.all fun t=>Try.prog.readableRec t && decide (t<Try.prog.types.size))=true) (hW:DataW.Whole enc Try.prog f.params.toList s.vars false W args.toList ds gs before) (hb:Below W.heap.size W W') :
  s.post enc Try.prog f false true false false W args (.bool true) W':=by
 have hr:∀ t ∈ f.params.toList,Try.prog.readableRec t=true∧t<Try.prog.types.size:=fun t ht=>by simpa using List.all_eq_true.1 hr0 t ht
 have hW':=hW
 obtain ⟨p,q,hA,hV,rfl,_,_⟩:=hW
 rw [hs.1] at hV
 have hgs:gs=[]∧q=[]:=by
  cases gs with
  | nil=>exact ⟨rfl,hV⟩
  | cons g gs=>exact hV.elim
 obtain ⟨rfl,rfl⟩:=hgs
 have hl:=trodAll_length _ _ _ _ hA
 have hlt:∀ x ∈ p,x.block<W.heap.size:=fun x hx=>by simpa using hW'.lt x (List.mem_append_left _ hx)
 obtain ⟨h1,h2,h3⟩:=hs.2 H (ds ++ []) (by simpa using hl)
 refine ⟨ds,[],p ++ [],[],p,[],hW',?_,?_,?_,hb.frame _,fun h=>by cases h⟩
 ·rw [h1,hres]
  exact trodAll_mk1 (shut_bool Try.underlying4 true)
 ·rw [h2,List.append_nil]
  exact trodAll_stay hb _ _ _ _ hr hA hlt
 ·rw [h3,hs.1]
  rfl
end
section
open Go.ChangeShapes Go.WideShapes Go.ChangeAt Go.RowKit
end
end Go.Proofs.Ytbmhdfjaakkoaaa

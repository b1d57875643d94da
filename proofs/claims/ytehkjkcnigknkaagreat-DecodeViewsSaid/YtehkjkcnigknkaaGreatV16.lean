/-
  Rows1; PkPlan; FtGetN; VarRead; Lives2; ApartWalk.
-/
import Derived.Test.YtehkjkcnigknkaaGreatV03
import Derived.Test.YtehkjkcnigknkaaGreatV05
import Derived.Test.YtehkjkcnigknkaaGreatV07
import Derived.Test.YtehkjkcnigknkaaGreatV08
import Derived.Test.YtehkjkcnigknkaaGreatV09
import Derived.Test.YtehkjkcnigknkaaGreatV10
import Derived.Test.YtehkjkcnigknkaaGreatV15
namespace Go.Proofs.YtehkjkcnigknkaaGreat
section
open Go.RowKit
section
variable {α:Type} {v0:α→Value} {dd:α}
def OnesAt (v0:α→Value) (dd:α) (w:World) (p:Option Addr) (l:List α):Prop :=
 ∀ i,i<l.length→∃ a:Addr,p=some a∧w.cell? (a.add i)=some (v0 (l.getD i dd))
theorem OnesAt.keep {w w':World} {p:Option Addr} {l:List α} (h:OnesAt v0 dd w p l) {S:Nat→Prop} (hk:Keeps S w w') (hs:∀ k,k<w.heap.size→¬ S k):OnesAt v0 dd w' p l:=fun i hi=>by
 obtain ⟨a,rfl,hc⟩:=h i hi
 exact ⟨a,rfl,hk.cell hc (hs _ (ltOfCell hc))⟩
theorem OnesAt.nil (w:World) (p:Option Addr):OnesAt v0 dd w p []:=fun i hi=>by simp at hi
theorem OnesAt.cells {w:World} {ad:Addr} {l:List α} (h:OnesAt v0 dd w (some ad) l) {j:Nat} {u:Value} (hj:(l.map v0)[j]?=some u):w.cell? (ad.add j)=some u:=by
 have hlt:j<l.length:=by
  have:=(List.getElem?_eq_some_iff.1 hj).1
  rwa [List.length_map] at this
 obtain ⟨a,ha,hc⟩:=h j hlt
 obtain rfl:=Option.some.inj ha
 rw [hc,← hj]
 simp [List.getElem?_eq_getElem hlt]
def OnesSoFar (v0:α→Value) (t:TypeId) (w0:World) (l:List α) (v:Value) (wr:World):Prop:=wr.ownsRow w0.heap.size t 1 v l.length (l.map v0)∧Below w0.heap.size w0 wr
theorem OnesSoFar.start {t:TypeId} (w0:World):OnesSoFar v0 t w0 ([]:List α) (.slice none 0 0) w0:=⟨World.ownsRow_nil _ _ _ _,Below.refl _ _⟩
theorem OnesSoFar.alloc {t:TypeId} {w0 wr:World} {l:List α} {v:Value} (h:OnesSoFar v0 t w0 l v wr) (o:Obj):OnesSoFar v0 t w0 l v (wr.alloc o):=⟨World.ownsRow.alloc h.1 o,h.2.alloc h.2.size o⟩
theorem OnesSoFar.keep {t:TypeId} {w0 wr w':World} {l:List α} {v:Value} (h:OnesSoFar v0 t w0 l v wr) (hk:Keeps NoBlock wr w'):OnesSoFar v0 t w0 l v w' :=
 ⟨own_keep h.1 hk (fun _ _ h=>h),h.2.trans (hk.below h.2.size (fun _ _ h=>h))⟩
theorem OnesSoFar.keeps {t:TypeId} {w0 wr:World} {l:List α} {v:Value} (h:OnesSoFar v0 t w0 l v wr):Keeps NoBlock w0 wr:=.ofBelow h.2
theorem OnesSoFar.new {t:TypeId} {w0 wr:World} {l:List α} {v:Value} (h:OnesSoFar v0 t w0 l v wr):∃ (q:Option Addr) (m d:Nat),v=.slice q m d∧m=l.length∧m≤d∧d≤9223372036854775807∧(q=none→m=0∧d=0)∧OnesAt v0 dd wr q l∧Keeps NoBlock w0 wr:=by
 obtain ⟨h',hb⟩:=h
 have h9:=h'
 rcases h' with ⟨_,⟨rfl,e⟩|⟨g,cap,cur,rfl,hg,hh,hc1,hc2,hc3,hc4⟩⟩
 ·exact ⟨none,0,0,rfl,e.symm,Nat.le_refl _,by decide,fun _=>⟨rfl,rfl⟩,fun i hi=>by rw [e] at hi;omega,Keeps.ofBelow hb⟩
 ·refine ⟨_,_,cap,rfl,rfl,hc1,by unfold maxLen at hc2;omega,fun h=>by simp at h,fun i hi=>⟨_,rfl,?_⟩,Keeps.ofBelow hb⟩
  exact h9.cells (g:=g) rfl i _ (by simp [List.getElem?_eq_getElem hi])
theorem OnesSoFar.setOther {t:TypeId} {w0 wr:World} {l:List α} {v:Value} (h:OnesSoFar v0 t w0 l v wr) {p:Addr} (hp:v.ownBlock ≠ some p.block) (hb:w0.heap.size≤p.block) (x:Value):OnesSoFar v0 t w0 l v (wr.setCell p x) :=
 ⟨ownsRow_setCell_other h.1 hp _,h.2.setCell hb _⟩
theorem OnesSoFar.apart {t:TypeId} {w0 wr:World} {l:List α} {v:Value} (h:OnesSoFar v0 t w0 l v wr) {k:Nat} (hk:wr.heap.size≤k):v.ownBlock ≠ some k:=fun e=>by
 have:=(h.1.lt k e).2
 omega
theorem OnesSoFar.made {t:TypeId} (w:World) (l:List α) (cs:Array Value) (hcs:cs.toList=l.map v0) (hl:l.length≤1000000000):OnesSoFar v0 t w l (.slice (some ⟨w.heap.size,0,none⟩) l.length l.length) (w.alloc (.cells cs t)):=by
 have hs:cs.size=l.length:=by rw [← Array.length_toList,hcs,List.length_map]
 exact ⟨⟨by simp,.inr ⟨w.heap.size,l.length,cs,rfl,Nat.le_refl _,heap_alloc_new w _,Nat.le_refl _,by unfold maxLen;omega,by rw [hs,Nat.mul_one],by rw [hcs,Nat.mul_one,← List.length_map (f:=v0),List.take_length]⟩⟩,(Below.refl _ w).alloc (Nat.le_refl _) _⟩
theorem wpList_append_oneG {w w0:World} {ops:Array Oper} {rest:List Oper} {o:Oper} {a:Act} {Q:Exit→Act→World→Prop} (hgd:o.guard=none) (s x:Operand) (t:TypeId)
  (ho:o.op=.call { callee:=.builtin .append,args:=#[s,x],argTypes:=#[t,t] })
  (e:TypeId) (i:TypeInfo) (z:Value) (bytes:Nat) (ht:Tryz.prog.underlying t=some (.slice e)) (hi:Tryz.prog.info? e=some i) (hz:i.zero=some z)
  (hsize:i.size=1) (hby:i.bytes=bytes) (hzs:z.cells.size=1)
  (v:Value) (l:List α) (hs:a.eval s=v) (hown:OnesSoFar v0 e w0 l v w) (g:Nat) (r:α) (hx:a.eval x=.slice (some ⟨g,0,none⟩) 1 1)
  (h0:w.cell? ⟨g,0,none⟩=some (v0 r)) (o0:(v0 r).oneCell'=true)
  (hbytes:(l.length+1)*bytes≤140737488355328) (hroom:l.length≤140737488355327)
  (h:∀ v' w',OnesSoFar v0 e w0 (l ++ [r]) v' w'→w.grownBy w' v.ownBlock→wpList Tryz.prog ops Q rest (a.put o.dst v') w'):wpList Tryz.prog ops Q (o :: rest) a w:=by
 refine wpList_append_own w hgd s x t ho w0.heap.size e i z 1 bytes ht hi hz hsize hby hzs (by decide) v l.length (l.map v0) hs hown.1 ⟨g,0,none⟩ 1 1 [v0 r] hx rfl ?_ ?_ (by unfold maxLen;omega) hbytes hown.2.size ?_
 ·intro j u hj
  rw [Addr.add_lit,Nat.zero_add]
  match j,hj with
  | 0,hj=>obtain rfl:=Option.some.inj hj;exact h0
  | k+1,hj=>simp at hj
 ·intro u hu
  simp at hu
  subst hu
  exact o0
 ·intro v' w' h2 h3 _
  refine h v' w' ⟨?_,hown.2.trans ((Below.refl _ w).grown h3 hown.2.size (fun k hk=>own_from hown.1 hk))⟩ h3
  rw [List.map_append,List.length_append]
  exact h2
end
end
section
open Go.RowKit
def intV (z:Int):Value:=.int .i64 z
structure InZ (w:World) (p:Option Addr) (n c:Nat) (zs:List Int):Prop where
 len:n=zs.length
 cap:n≤c
 room:c≤9223372036854775807
 bare:p=none→n=0∧c=0
 fine:∀ z ∈ zs,-9223372036854775808≤z∧z≤9223372036854775807
 at_:OnesAt intV 0 w p zs
theorem getI_mem {zs:List Int} {j:Nat} (h:j<zs.length):zs.getD j 0 ∈ zs:=by simp [h]
def PlanPost (w:World) (t:Int × List Nat) (e:Ending) (w':World):Prop :=
 ∃ (q:Option Addr) (m d:Nat),e=.returned (.tuple #[.slice q m d,.int .i64 t.1])∧m=t.2.length∧RowN w' q t.2∧Keeps NoBlock w w'
theorem PlanPost.gone {w w':World} {t:Int × List Nat} {y:Int} (h:t=(y,[])) (hk:Keeps NoBlock w w'):PlanPost w t (.returned (.tuple #[.slice none 0 0,.int .i64 y])) w':=by
 subst h
 exact ⟨none,0,0,rfl,rfl,fun i hi=>by simp at hi,hk⟩
theorem NumsSoFar.set5 {w0 wr:World} {l:List Nat} {v:Value} (h:NumsSoFar w0 l v wr) {g:Nat} (hp:v.ownBlock ≠ some g) (hb:w0.heap.size≤g) (a b c d e:Value) :
  NumsSoFar w0 l v (((((wr.setCell ⟨g,0,none⟩ a).setCell ⟨g,1,none⟩ b).setCell ⟨g,2,none⟩ c).setCell ⟨g,3,none⟩ d).setCell ⟨g,4,none⟩ e) :=
 ((((h.setOther (p:=⟨g,0,none⟩) hp hb a).setOther (p:=⟨g,1,none⟩) hp hb b).setOther (p:=⟨g,2,none⟩) hp hb c).setOther (p:=⟨g,3,none⟩) hp hb d).setOther (p:=⟨g,4,none⟩) hp hb e
theorem runP_zero (e s:Nat) (zs:List Int):runP e s (zs.take 0)=⟨0,emptyP e s 0,[]⟩:=rfl
theorem planP_gone {e s:Nat} {zs:List Int} (hm:mayC e s=true) {j:Nat} {y:Int} (hy:y ≠ 0) (h:runP e s (zs.take j)=⟨y,Rm.none,[]⟩):planP e s zs=(y,[]):=by
 have h1:=runP_gone (e:=e) (s:=s) (zs:=zs) (j:=j) (by rw [h];exact hy)
 unfold planP
 rw [if_pos hm,h1,h]
end
section
open Go.RowKit
end
section
open Go.RowKit
theorem Begun.store {w0:World} {p:Option Addr} {N c a:Nat} {y:Int} {W:World} (h:Begun w0 p N c a y W) {D:Nat} (hD:D<w0.heap.size) (v:Value):Begun w0 p N c a y (W.setCell ⟨D,0,none⟩ v) :=
 ⟨h.at_.setOther (by simp;omega) v,h.why.setOther (by simp;omega) v,Whole.setOther h.cur (by simp;omega) v,h.var.setOther (by simp;omega) v⟩
theorem getFnOk:∀ (fn:Fn) (first cap:Array Value) (w:World),(Instr.makeFunc fn first cap).run Tryz.prog w=.ok (.func fn first cap) w:=fun _ _ _ _=>rfl
end
section
open Go.RowKit
end
section
open Go.RowKit
end
end Go.Proofs.YtehkjkcnigknkaaGreat

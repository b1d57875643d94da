/-
  Rows2; TabRef; TabRef2; TabRef3; Ref1; TabGet.
-/
import Derived.Deep.QuietTactic
import Derived.StillTailTactics
import Derived.Deep.RegionHeld3
import Derived.Lib.Hide
import Derived.Test.YtehkjkcnigknkaaGreatV02
import Derived.Test.YtehkjkcnigknkaaGreatV03
namespace Go.Proofs.YtehkjkcnigknkaaGreat
open Lib (hid)
section
open Go.RowKit
section
variable {α:Type} {v0 v1:α→Value} {dd:α}
def TwosAt (v0 v1:α→Value) (dd:α) (w:World) (p:Option Addr) (l:List α):Prop :=
 ∀ i,i<l.length→∃ a:Addr,p=some a∧w.cell? (a.add (i*2))=some (v0 (l.getD i dd))∧w.cell? ⟨(a.add (i*2)).block,(a.add (i*2)).off+1,none⟩=some (v1 (l.getD i dd))
theorem TwosAt.keep {w w':World} {p:Option Addr} {l:List α} (h:TwosAt v0 v1 dd w p l) {S:Nat→Prop} (hk:Keeps S w w') (hs:∀ k,k<w.heap.size→¬ S k):TwosAt v0 v1 dd w' p l:=fun i hi=>by
 obtain ⟨a,rfl,c0,c1⟩:=h i hi
 exact ⟨a,rfl,hk.cell c0 (hs _ (ltOfCell c0)),hk.cell c1 (hs _ (ltOfCell c1))⟩
theorem TwosAt.nil (w:World) (p:Option Addr):TwosAt v0 v1 dd w p []:=fun i hi=>by simp at hi
def twoFlat (v0 v1:α→Value) (l:List α):List Value:=l.flatMap fun x=>[v0 x,v1 x]
theorem twoFlat_append (a b:List α):twoFlat v0 v1 (a ++ b)=twoFlat v0 v1 a ++ twoFlat v0 v1 b:=List.flatMap_append
theorem twoFlat_length:∀ l:List α,(twoFlat v0 v1 l).length=l.length*2
 | []=>rfl
 | x :: l=>by
  rw [twoFlat,List.flatMap_cons,List.length_append,← twoFlat,twoFlat_length l]
  simp
  omega
theorem twoFlat_at:∀ (l:List α) (i j:Nat),i<l.length→j<2→(twoFlat v0 v1 l)[i*2+j]?=[v0 (l.getD i dd),v1 (l.getD i dd)][j]?
 | [],i,j,h,_=>by simp at h
 | r :: l,0,j,_,hj=>by
  rw [twoFlat,List.flatMap_cons,List.getElem?_append_left (by simp;omega)]
  simp
 | r :: l,i+1,j,h,hj=>by
  rw [twoFlat,List.flatMap_cons,List.getElem?_append_right (by simp;omega),← twoFlat]
  have e:(i+1)*2+j - [v0 r,v1 r].length=i*2+j:=by simp;omega
  rw [e,twoFlat_at l i j (by simpa using h) hj]
  simp
theorem add_even_one (a:Addr) (i:Nat):(⟨(a.add (i*2)).block,(a.add (i*2)).off+1,none⟩:Addr)=a.add (i*2+1):=by
 unfold Addr.add
 rw [if_neg (show ¬ i*2+1=0 by omega)]
 split
 ·rename_i h
  rw [h]
 ·rfl
theorem TwosAt.cells {w:World} {ad:Addr} {l:List α} (h:TwosAt v0 v1 dd w (some ad) l) {j:Nat} {u:Value} (hj:(twoFlat v0 v1 l)[j]?=some u):w.cell? (ad.add j)=some u:=by
 have hlt:j<l.length*2:=by
  have:=(List.getElem?_eq_some_iff.1 hj).1
  rwa [twoFlat_length] at this
 have hi:j / 2<l.length:=by omega
 obtain ⟨a,ha,c0,c1⟩:=h (j / 2) hi
 obtain rfl:=Option.some.inj ha
 by_cases h2:j % 2=0
 ·have e:j=j / 2*2+0:=by omega
  rw [e,twoFlat_at (dd:=dd) l (j / 2) 0 hi (by decide)] at hj
  rw [show j=j / 2*2 by omega,c0]
  simpa using hj
 ·have e:j=j / 2*2+1:=by omega
  rw [e,twoFlat_at (dd:=dd) l (j / 2) 1 hi (by decide)] at hj
  rw [add_even_one] at c1
  rw [e,c1]
  simpa using hj
theorem TwosAt.ofOwn {w:World} {base n:Nat} {t:TypeId} {v:Value} {l:List α} (h:w.ownsRow base t 2 v n (twoFlat v0 v1 l)) (hn:n=l.length) :
  ∃ p c,v=.slice p n c∧n≤c∧c≤9223372036854775807∧(p=none→n=0∧c=0)∧TwosAt v0 v1 dd w p l:=by
 have h':=h
 rcases h with ⟨_,⟨rfl,rfl⟩|⟨g,cap,cur,rfl,hg,hh,hc1,hc2,hc3,hc4⟩⟩
 ·exact ⟨none,0,rfl,Nat.le_refl _,by decide,fun _=>⟨rfl,rfl⟩,fun i hi=>by omega⟩
 ·refine ⟨_,cap,rfl,hc1,by unfold maxLen at hc2;omega,fun h=>by simp at h,fun i hi=>?_⟩
  have hc:=h'.cells (g:=g) rfl
  have ha:∀ j u,j<2→[v0 (l.getD i dd),v1 (l.getD i dd)][j]?=some u→w.cell? ⟨g,i*2+j,none⟩=some u:=fun j u hj hu=>by
   have:=hc (i*2+j) u (by rw [twoFlat_at (dd:=dd) l i j hi hj];exact hu)
   rw [Addr.add_lit,Nat.zero_add] at this
   exact this
  refine ⟨⟨g,0,none⟩,rfl,?_,?_⟩
  all_goals simp only [Addr.add_lit,Nat.zero_add]
  ·exact ha 0 _ (by decide) rfl
  ·exact ha 1 _ (by decide) rfl
def NewTwos (v0 v1:α→Value) (dd:α) (w:World) (l:List α) (v:Value) (w':World):Prop :=
 ∃ (q:Option Addr) (m d:Nat),v=.slice q m d∧m=l.length∧m≤d∧d≤9223372036854775807∧(q=none→m=0∧d=0)∧TwosAt v0 v1 dd w' q l∧Keeps NoBlock w w'
theorem NewTwos.ofNil (w w':World) (h:Keeps NoBlock w w'):NewTwos v0 v1 dd w [] (.slice none 0 0) w' :=
 ⟨none,0,0,rfl,rfl,Nat.le_refl _,by decide,fun _=>⟨rfl,rfl⟩,TwosAt.nil _ _,h⟩
def TwosSoFar (v0 v1:α→Value) (t:TypeId) (w0:World) (l:List α) (v:Value) (wr:World):Prop:=wr.ownsRow w0.heap.size t 2 v l.length (twoFlat v0 v1 l)∧Below w0.heap.size w0 wr
theorem TwosSoFar.start {t:TypeId} (w0:World):TwosSoFar v0 v1 t w0 ([]:List α) (.slice none 0 0) w0:=⟨⟨by simp [twoFlat],.inl ⟨rfl,rfl⟩⟩,Below.refl _ _⟩
theorem TwosSoFar.alloc {t:TypeId} {w0 wr:World} {l:List α} {v:Value} (h:TwosSoFar v0 v1 t w0 l v wr) (o:Obj):TwosSoFar v0 v1 t w0 l v (wr.alloc o):=⟨World.ownsRow.alloc h.1 o,h.2.alloc h.2.size o⟩
theorem TwosSoFar.keep {t:TypeId} {w0 wr w':World} {l:List α} {v:Value} (h:TwosSoFar v0 v1 t w0 l v wr) (hk:Keeps NoBlock wr w'):TwosSoFar v0 v1 t w0 l v w':=by
 refine ⟨⟨h.1.1,?_⟩,h.2.trans (hk.below h.2.size (fun _ _ h=>h))⟩
 rcases h.1.2 with hn|⟨g,cap,cur,rfl,hb,hgg,rest⟩
 ·exact .inl hn
 ·have hlt:g<wr.heap.size:=(Array.getElem?_eq_some_iff.1 hgg).1
  exact .inr ⟨g,cap,cur,rfl,hb,(hk.block g hlt (fun h=>h)).trans hgg,rest⟩
theorem TwosSoFar.keeps {t:TypeId} {w0 wr:World} {l:List α} {v:Value} (h:TwosSoFar v0 v1 t w0 l v wr):Keeps NoBlock w0 wr:=.ofBelow h.2
theorem TwosSoFar.new {t:TypeId} {w0 wr:World} {l:List α} {v:Value} (h:TwosSoFar v0 v1 t w0 l v wr):NewTwos v0 v1 dd w0 l v wr:=by
 obtain ⟨p,c,hv,h1,h2,h3,h4⟩:=TwosAt.ofOwn (dd:=dd) h.1 rfl
 exact ⟨p,_,c,hv,rfl,h1,h2,h3,h4,Keeps.ofBelow h.2⟩
theorem wpList_append_twoG {w w0:World} {ops:Array Oper} {rest:List Oper} {o:Oper} {a:Act} {Q:Exit→Act→World→Prop} (hgd:o.guard=none) (s x:Operand) (t:TypeId)
  (ho:o.op=.call { callee:=.builtin .append,args:=#[s,x],argTypes:=#[t,t] })
  (e:TypeId) (i:TypeInfo) (z:Value) (bytes:Nat) (ht:Tryz.prog.underlying t=some (.slice e)) (hi:Tryz.prog.info? e=some i) (hz:i.zero=some z)
  (hsize:i.size=2) (hby:i.bytes=bytes) (hzs:z.cells.size=2)
  (v:Value) (l:List α) (hs:a.eval s=v) (hown:TwosSoFar v0 v1 e w0 l v w) (g:Nat) (r:α) (hx:a.eval x=.slice (some ⟨g,0,none⟩) 1 1)
  (h0:w.cell? ⟨g,0,none⟩=some (v0 r)) (h1:w.cell? ⟨g,1,none⟩=some (v1 r)) (o0:(v0 r).oneCell'=true) (o1:(v1 r).oneCell'=true)
  (hbytes:(l.length+1)*bytes≤140737488355328) (hroom:l.length≤140737488355327)
  (h:∀ v' w',TwosSoFar v0 v1 e w0 (l ++ [r]) v' w'→w.grownBy w' v.ownBlock→wpList Tryz.prog ops Q rest (a.put o.dst v') w'):wpList Tryz.prog ops Q (o :: rest) a w:=by
 refine wpList_append_own w hgd s x t ho w0.heap.size e i z 2 bytes ht hi hz hsize hby hzs (by decide) v l.length (twoFlat v0 v1 l) hs hown.1 ⟨g,0,none⟩ 1 1 (twoFlat v0 v1 [r]) hx (by rw [twoFlat_length];rfl) ?_ ?_ (by unfold maxLen;omega) hbytes hown.2.size ?_
 ·intro j u hj
  rw [Addr.add_lit,Nat.zero_add]
  match j,hj with
  | 0,hj=>obtain rfl:=Option.some.inj hj;exact h0
  | 1,hj=>obtain rfl:=Option.some.inj hj;exact h1
  | k+2,hj=>simp [twoFlat] at hj
 ·intro u hu
  simp only [twoFlat,List.flatMap_cons,List.flatMap_nil,List.append_nil,List.mem_cons,List.not_mem_nil,or_false] at hu
  rcases hu with rfl|rfl
  ·exact o0
  ·exact o1
 ·intro v' w' h2 h3 _
  refine h v' w' ⟨?_,hown.2.trans ((Below.refl _ w).grown h3 hown.2.size (fun k hk=>own_from hown.1 hk))⟩ h3
  rw [twoFlat_append,List.length_append]
  exact h2
theorem TwosSoFar.apart {t:TypeId} {w0 wr:World} {l:List α} {v:Value} (h:TwosSoFar v0 v1 t w0 l v wr) {k:Nat} (hk:wr.heap.size≤k):v.ownBlock ≠ some k:=fun e=>by
 have:=(h.1.lt k e).2
 omega
theorem wpList_append_twos {w w0:World} {ops:Array Oper} {rest:List Oper} {o:Oper} {a:Act} {Q:Exit→Act→World→Prop} (hgd:o.guard=none) (s x:Operand) (t:TypeId)
  (ho:o.op=.call { callee:=.builtin .append,args:=#[s,x],argTypes:=#[t,t] })
  (e:TypeId) (i:TypeInfo) (z:Value) (bytes:Nat) (ht:Tryz.prog.underlying t=some (.slice e)) (hi:Tryz.prog.info? e=some i) (hz:i.zero=some z)
  (hsize:i.size=2) (hby:i.bytes=bytes) (hzs:z.cells.size=2)
  (v:Value) (l:List α) (hs:a.eval s=v) (hown:TwosSoFar v0 v1 e w0 l v w) (p:Option Addr) (m c:Nat) (l2:List α) (hx:a.eval x=.slice p m c) (hp0:p=none→m=0∧c=0) (hm:m=l2.length) (hat:TwosAt v0 v1 dd w p l2)
  (o0:∀ r,(v0 r).oneCell'=true) (o1:∀ r,(v1 r).oneCell'=true)
  (hbytes:(l.length+m)*bytes≤140737488355328) (hroom:l.length+m≤140737488355327)
  (h:∀ v' w',TwosSoFar v0 v1 e w0 (l ++ l2) v' w'→wpList Tryz.prog ops Q rest (a.put o.dst v') w'):wpList Tryz.prog ops Q (o :: rest) a w:=by
 refine wpList_append_any hgd s x t ho w0.heap.size e i z 2 bytes ht hi hz hsize hby hzs (by decide) v l.length (twoFlat v0 v1 l) hs hown.1 p m c (twoFlat v0 v1 l2) hx hp0 (by rw [twoFlat_length,hm]) ?_ ?_ (by unfold maxLen;omega) hbytes hown.2.size ?_
 ·intro ad had j u hj
  subst had
  exact TwosAt.cells hat hj
 ·intro u hu
  obtain ⟨r,_,hr⟩:=List.mem_flatMap.1 hu
  simp only [List.mem_cons,List.not_mem_nil,or_false] at hr
  rcases hr with rfl|rfl
  ·exact o0 r
  ·exact o1 r
 ·intro v' w' h2 h3
  refine h v' w' ⟨?_,hown.2.trans h3⟩
  rw [twoFlat_append,List.length_append,← hm]
  exact h2
theorem TwosSoFar.made {t:TypeId} (w:World):TwosSoFar v0 v1 t w ([]:List α) (.slice (some ⟨w.heap.size,0,none⟩) 0 0) (w.alloc (.cells #[] t)) :=
 ⟨World.ownsRow_made w #[] 0 (Nat.le_refl _) (Nat.zero_le _) rfl,(Below.refl _ _).alloc (Nat.le_refl _) _⟩
end
end
section
open Go.RowKit
def enH (e:En):Value:=.int .u64 (e.hash:Int)
def enA (e:En):Value:=.int .u32 (e.at_:Int)
def enV (e:En):Value:=.agg #[.int .u64 (e.hash:Int),.int .u32 (e.at_:Int)]
def enCells (e:En):Array Value:=#[.int .u64 (e.hash:Int),.int .u32 (e.at_:Int)]
def EnsAt (w:World) (p:Option Addr) (l:List En):Prop:=TwosAt enH enA En.none w p l
def NewEns (w:World) (l:List En) (v:Value) (w':World):Prop:=NewTwos enH enA En.none w l v w'
theorem EnsAt.at_ {w:World} {p:Option Addr} {l:List En} (h:EnsAt w p l) (j:Nat) (hj:j<l.length):∃ a:Addr,p=some a∧w.cell? (a.add (j*2))=some (.int .u64 ((l.getD j En.none).hash:Int))∧w.cell? ⟨(a.add (j*2)).block,(a.add (j*2)).off+1,none⟩=some (.int .u32 ((l.getD j En.none).at_:Int)):=h j hj
theorem EnsAt.keep {w w':World} {p:Option Addr} {l:List En} (h:EnsAt w p l) (hk:Keeps NoBlock w w'):EnsAt w' p l:=TwosAt.keep h hk (fun _ _ h=>h)
theorem infoEnL:(Tryz.prog.info? 129).map (fun i=>(i.zero,i.size,i.bytes))=some (some (.agg #[.int .u64 0,.int .u32 0]),2,16):=by kernel_rfl
theorem infoEnR:(Tryz.prog.info? 105).map (fun i=>(i.zero,i.size,i.bytes))=some (some (.agg #[.int .u64 0,.int .u32 0]),2,16):=by kernel_rfl
theorem less_ref (a b:En) (w:World):Calls Tryz.prog 105 #[enV a,enV b] w fun e w'=>e=.returned (.bool (decide (LessE a b)))∧Keeps NoBlock w w':=by
 unfold enV
 by_cases h1:a.hash<b.hash
 ·have d:decide (LessE a b)=true:=decide_eq_true (.inl h1)
  rw [d]
  have c1:decide ((a.hash:Int)<(b.hash:Int))=true:=decide_eq_true (by omega)
  have c2:decide (a.hash<b.hash)=true:=decide_eq_true h1
  go_enter Tryz.func105,Tryz.ntmps105
  go_wp2_with fail
  go_ret
  exact ⟨rfl,((Keeps.refl _ _).alloc _).alloc _⟩
 ·have c1:decide ((a.hash:Int)<(b.hash:Int))=false:=decide_eq_false (by omega)
  have c2:decide (a.hash<b.hash)=false:=decide_eq_false h1
  by_cases h2:a.hash=b.hash
  ·have d:decide (LessE a b)=decide (a.at_<b.at_):=by
    congr 1
    apply propext
    unfold LessE
    omega
   rw [d]
   have c3:((a.hash:Int) == (b.hash:Int))=true:=by rw [h2];simp
   by_cases h3:a.at_<b.at_
   ·have c4:decide ((a.at_:Int)<(b.at_:Int))=true:=decide_eq_true (by omega)
    have c5:decide (a.at_<b.at_)=true:=decide_eq_true h3
    clear h2 d
    go_enter Tryz.func105,Tryz.ntmps105
    go_wp2_with fail
    go_ret
    exact ⟨by simp [c5],((Keeps.refl _ _).alloc _).alloc _⟩
   ·have c4:decide ((a.at_:Int)<(b.at_:Int))=false:=decide_eq_false (by omega)
    have c5:decide (a.at_<b.at_)=false:=decide_eq_false h3
    clear h2 d
    go_enter Tryz.func105,Tryz.ntmps105
    go_wp2_with fail
    go_ret
    exact ⟨by simp [c5],((Keeps.refl _ _).alloc _).alloc _⟩
  ·have d:decide (LessE a b)=false:=decide_eq_false (by unfold LessE;omega)
   rw [d]
   have c3:((a.hash:Int) == (b.hash:Int))=false:=by rw [beq_eq_false_iff_ne];omega
   clear h2 d
   go_enter Tryz.func105,Tryz.ntmps105
   go_wp2_with fail
   go_ret
   exact ⟨rfl,((Keeps.refl _ _).alloc _).alloc _⟩
end
section
open Go.RowKit
theorem enEqR (a b:En) (w:World):(binOp .eql 105 (.agg #[.int .u64 (a.hash:Int),.int .u32 (a.at_:Int)]) (.agg #[.int .u64 (b.hash:Int),.int .u32 (b.at_:Int)])).run Tryz.prog w=.ok (.bool (decide (a=b))) w:=by
 by_cases h1:a.hash=b.hash
 ·by_cases h2:a.at_=b.at_
  ·have hd:decide (a=b)=true:=decide_eq_true (En.ext' h1 h2)
   rw [hd]
   simp [go_sem,h1,h2]
  ·have hd:decide (a=b)=false:=decide_eq_false (fun h=>h2 (by rw [h]))
   rw [hd]
   have e:((a.at_:Int) == (b.at_:Int))=false:=by rw [beq_eq_false_iff_ne];omega
   simp [go_sem,h1,e]
 ·have hd:decide (a=b)=false:=decide_eq_false (fun h=>h1 (by rw [h]))
  rw [hd]
  have e:((a.hash:Int) == (b.hash:Int))=false:=by rw [beq_eq_false_iff_ne];omega
  simp [go_sem,e]
structure PutSt (l:List En) (e:En) (j:Nat) (o:List En) (b:Bool):Prop where
 yes:b=true→o ++ l.drop j=putE l e
 no:b=false→o=l.take j∧o ++ putE (l.drop j) e=putE l e
 len:o.length≤j+1
theorem PutSt.start (l:List En) (e:En):PutSt l e 0 [] false:=⟨fun h=>by simp at h,fun _=>⟨rfl,rfl⟩,Nat.zero_le _⟩
theorem drop_getD {l:List En} {j:Nat} (hj:j<l.length):l.drop j=l.getD j En.none :: l.drop (j+1):=by
 rw [List.drop_eq_getElem_cons hj]
 simp [hj]
theorem take_getD {l:List En} {j:Nat} (hj:j<l.length):l.take (j+1)=l.take j ++ [l.getD j En.none]:=by
 rw [List.take_succ_eq_append_getElem hj]
 simp [hj]
theorem PutSt.done {l:List En} {e:En} {j:Nat} {o:List En} (h:PutSt l e j o true) (hj:j<l.length) (hl:o.length≤j+1):PutSt l e (j+1) (o ++ [l.getD j En.none]) true :=
 ⟨fun _=>by rw [← h.yes rfl,drop_getD hj,List.append_assoc];rfl,fun h=>by simp at h,by rw [List.length_append];simp;exact hl⟩
theorem PutSt.same {l:List En} {e:En} {j:Nat} {o:List En} (h:PutSt l e j o false) (hj:j<l.length) (he:l.getD j En.none=e):PutSt l e (j+1) (o ++ [l.getD j En.none]) true:=by
 obtain ⟨h1,h2⟩:=h.no rfl
 refine ⟨fun _=>?_,fun h=>by simp at h,?_⟩
 ·rw [← h2,drop_getD hj,putE,if_pos he,List.append_assoc]
  rfl
 ·rw [h1,List.length_append,List.length_take];simp;omega
theorem PutSt.ahead {l:List En} {e:En} {j:Nat} {o:List En} (h:PutSt l e j o false) (hj:j<l.length) (he:l.getD j En.none ≠ e) (hl:LessE e (l.getD j En.none)):PutSt l e (j+1) ((o ++ [e]) ++ [l.getD j En.none]) true:=by
 obtain ⟨h1,h2⟩:=h.no rfl
 refine ⟨fun _=>?_,fun h=>by simp at h,?_⟩
 ·rw [← h2,drop_getD hj,putE,if_neg he,if_pos hl,List.append_assoc,List.append_assoc]
  rfl
 ·rw [h1,List.length_append,List.length_append,List.length_take];simp;omega
theorem PutSt.on {l:List En} {e:En} {j:Nat} {o:List En} (h:PutSt l e j o false) (hj:j<l.length) (he:l.getD j En.none ≠ e) (hl:¬ LessE e (l.getD j En.none)):PutSt l e (j+1) (o ++ [l.getD j En.none]) false:=by
 obtain ⟨h1,h2⟩:=h.no rfl
 refine ⟨fun h=>by simp at h,fun _=>⟨?_,?_⟩,?_⟩
 ·rw [h1,take_getD hj]
 ·rw [← h2,drop_getD hj,putE,if_neg he,if_neg hl,List.append_assoc]
  rfl
 ·rw [h1,List.length_append,List.length_take];simp;omega
set_option maxHeartbeats 8000000 in
set_option maxRecDepth 10000 in
theorem put11_ref (p:Option Addr) (n c:Nat) (l:List En) (e:En) (hn:n=l.length) (hn9:n≤1000000) (w:World) (hl:EnsAt w p l) :
  Calls Tryz.prog 76 #[.slice p n c,enV e] w fun r w'=>∃ v,r=.returned v∧NewEns w (putE l e) v w':=by
 obtain ⟨i0,hi,hz0,hz1,hz2⟩:=info_parts infoEnR
 have HL:=hid hl
 have HN:=hid hn
 have HLess:=hid (fun a b w=>less_ref a b w)
 clear hl hn
 unfold enV at HLess ⊢
 have HE0:Hid (Whole (w.alloc (.cells #[.int .u64 (e.hash:Int),.int .u32 (e.at_:Int)] 105)) w.heap.size 105 (enCells e)):=hid (Whole.new _ _ _)
 have HK0:=hid ((Keeps.refl NoBlock w).alloc (.cells #[.int .u64 (e.hash:Int),.int .u32 (e.at_:Int)] 105))
 obtain ⟨w0,hw0⟩:∃ w0,w0=w.alloc (.cells #[.int .u64 (e.hash:Int),.int .u32 (e.at_:Int)] 105):=⟨_,rfl⟩
 rw [← hw0] at HE0 HK0
 have HL0:=hid (HL.out.keep HK0.out)
 go_enter Tryz.func76,Tryz.ntmps76
 go_wp2_with fail
 rw [← hw0]
 clear hw0
 go_loopw [5,6,11] (fun v f i wr=>∃ (j:Nat) (o:List En) (b:Bool),j≤n∧i=.int .i64 (j:Int)∧f=.bool b∧Hid (PutSt l e j o b)∧Hid (TwosSoFar enH enA 105 w0 o v wr)) (fun _ _ i _=>n - (intOf i).toNat)
 case atStart=>exact ⟨0,[],false,Nat.zero_le _,rfl,rfl,hid (PutSt.start l e),hid (TwosSoFar.start w0)⟩
 case round =>
  obtain ⟨j,o,b,hj,rfl,rfl,HP,HS⟩:=hrel
  by_cases hlt:j<n
  ·have hdj:decide ((j:Int)<(n:Int))=true:=decide_eq_true (by omega)
   have hjl:j<l.length:=by rw [← HN.out];exact hlt
   have holen:o.length≤1000001:=by have:=HP.out.len;omega
   obtain ⟨a,rfl,c0,c1⟩:=(HL0.out.keep HS.out.keeps).at_ j hjl
   have hE:=HE0.out.keep HS.out.keeps (fun h=>h)
   have e0:=hE.cell 0 rfl
   have e1:=hE.cell 1 rfl
   simp only [enCells,List.getElem_toArray,List.getElem_cons_zero,List.getElem_cons_succ] at e0 e1
   have HEw:=hid hE
   have hsz:w.heap.size<wr.heap.size:=hE.lt
   obtain ⟨r,hr⟩:∃ r,r=l.getD j En.none:=⟨_,rfl⟩
   have HSame:=hid (fun (h:PutSt l e j o false) (he:r=e)=>(show PutSt l e (j+1) (o ++ [r]) true by rw [hr] at he ⊢;exact h.same hjl he))
   have HAhead:=hid (fun (h:PutSt l e j o false) (he:r ≠ e) (hl:LessE e r)=>(show PutSt l e (j+1) (o ++ [e,r]) true by rw [hr] at he hl ⊢;have hh:=h.ahead hjl he hl;rwa [List.append_assoc] at hh))
   have HOn:=hid (fun (h:PutSt l e j o false) (he:r ≠ e) (hl:¬ LessE e r)=>(show PutSt l e (j+1) (o ++ [r]) false by rw [hr] at he hl ⊢;exact h.on hjl he hl))
   have HDone:=hid (fun (h:PutSt l e j o true) (hl:o.length≤j+1)=>(show PutSt l e (j+1) (o ++ [r]) true by rw [hr];exact h.done hjl hl))
   rw [← hr] at c0 c1
   have heq:=fun w=>enEqR r e w
   have HEa:=hid (hE.alloc (.cells #[.int .u64 (r.hash:Int),.int .u32 (r.at_:Int)] 105))
   have a0:=HEa.out.cell 0 rfl
   have a1:=HEa.out.cell 1 rfl
   simp only [enCells,List.getElem_toArray,List.getElem_cons_zero,List.getElem_cons_succ] at a0 a1
   clear hr hjl hE
   have HO:=hid holen
   have HPd:=hid (fun (_:b=true)=>HP.out.len)
   clear holen
   by_cases hre:r=e
   ·have heq':∀ w,(binOp .eql 105 (.agg #[.int .u64 (r.hash:Int),.int .u32 (r.at_:Int)]) (.agg #[.int .u64 (e.hash:Int),.int .u32 (e.at_:Int)])).run Tryz.prog w=.ok (.bool true) w:=fun w=>by rw [heq w,decide_eq_true hre]
    have HRe:=hid hre
    clear heq hre
    cases b
    ·have HW:=hid (Whole.newAt (wr.alloc (.cells #[.int .u64 (r.hash:Int),.int .u32 (r.at_:Int)] 105)) 105 (enCells r) (wr.heap.size+1) (by simp))
     have HS2:=hid ((HS.out.alloc (.cells #[.int .u64 (r.hash:Int),.int .u32 (r.at_:Int)] 105)).alloc (.cells #[.int .u64 (r.hash:Int),.int .u32 (r.at_:Int)] 105))
     go_wp2_with (at_builtin;refine wpList_append_twoG rfl _ _ 72 rfl 105 i0 (.agg #[.int .u64 0,.int .u32 0]) 16 Tryz.underlying72 hi hz0 hz1 hz2 rfl _ _ rfl HS2.out (wr.heap.size+1) r rfl (HW.out.cell 0 rfl) (HW.out.cell 1 rfl) rfl rfl (by have:=HO.out;first|omega|(simp;omega)) (by have:=HO.out;first|omega|(simp;omega)) ?_)
     intro v5 w5 h5 g5
     have HS9:=hid h5
     have HP9:=hid (HSame.out HP.out HRe.out)
     clear h5 g5
     go_wp2_with fail
     exact ⟨⟨j+1,o ++ [r],true,by omega,by go_num,rfl,HP9,HS9⟩,by simp [intOf];omega⟩
    ·have HTr:=hid (show o.length≤j+1 from HP.out.len)
     have HW:=hid (Whole.newAt (wr.alloc (.cells #[.int .u64 (r.hash:Int),.int .u32 (r.at_:Int)] 105)) 105 (enCells r) (wr.heap.size+1) (by simp))
     have HS2:=hid ((HS.out.alloc (.cells #[.int .u64 (r.hash:Int),.int .u32 (r.at_:Int)] 105)).alloc (.cells #[.int .u64 (r.hash:Int),.int .u32 (r.at_:Int)] 105))
     go_wp2_with (at_builtin;refine wpList_append_twoG rfl _ _ 72 rfl 105 i0 (.agg #[.int .u64 0,.int .u32 0]) 16 Tryz.underlying72 hi hz0 hz1 hz2 rfl _ _ rfl HS2.out (wr.heap.size+1) r rfl (HW.out.cell 0 rfl) (HW.out.cell 1 rfl) rfl rfl (by have:=HO.out;first|omega|(simp;omega)) (by have:=HO.out;first|omega|(simp;omega)) ?_)
     intro v5 w5 h5 g5
     have HS9:=hid h5
     have HP9:=hid (HDone.out HP.out HTr.out)
     clear h5 g5
     go_wp2_with fail
     exact ⟨⟨j+1,o ++ [r],true,by omega,by go_num,rfl,HP9,HS9⟩,by simp [intOf];omega⟩
   ·have heq':∀ w,(binOp .eql 105 (.agg #[.int .u64 (r.hash:Int),.int .u32 (r.at_:Int)]) (.agg #[.int .u64 (e.hash:Int),.int .u32 (e.at_:Int)])).run Tryz.prog w=.ok (.bool false) w:=fun w=>by rw [heq w,decide_eq_false hre]
    have HRe:=hid hre
    clear heq hre
    cases b
    rotate_left
    ·have HTr:=hid (show o.length≤j+1 from HP.out.len)
     have HW:=hid (Whole.newAt (wr.alloc (.cells #[.int .u64 (r.hash:Int),.int .u32 (r.at_:Int)] 105)) 105 (enCells r) (wr.heap.size+1) (by simp))
     have HS2:=hid ((HS.out.alloc (.cells #[.int .u64 (r.hash:Int),.int .u32 (r.at_:Int)] 105)).alloc (.cells #[.int .u64 (r.hash:Int),.int .u32 (r.at_:Int)] 105))
     go_wp2_with (at_builtin;refine wpList_append_twoG rfl _ _ 72 rfl 105 i0 (.agg #[.int .u64 0,.int .u32 0]) 16 Tryz.underlying72 hi hz0 hz1 hz2 rfl _ _ rfl HS2.out (wr.heap.size+1) r rfl (HW.out.cell 0 rfl) (HW.out.cell 1 rfl) rfl rfl (by have:=HO.out;first|omega|(simp;omega)) (by have:=HO.out;first|omega|(simp;omega)) ?_)
     intro v5 w5 h5 g5
     have HS9:=hid h5
     have HP9:=hid (HDone.out HP.out HTr.out)
     clear h5 g5
     go_wp2_with fail
     exact ⟨⟨j+1,o ++ [r],true,by omega,by go_num,rfl,HP9,HS9⟩,by simp [intOf];omega⟩
    have HLe:=hid (fun w=>HLess.out e r w)
    by_cases hle:LessE e r
    ·rw [decide_eq_true hle] at HLe
     have HLt:=hid hle
     clear hle
     go_wp2_with fail
     refine (HLe.out _).mono ?_
     rintro z w2 ⟨rfl,hk⟩
     have HSx:=hid ((HS.out.alloc (.cells #[.int .u64 (r.hash:Int),.int .u32 (r.at_:Int)] 105)).keep hk)
     have HEx:=hid (HEa.out.keep hk (fun h=>h))
     have HXx:=hid ((Whole.new wr 105 (enCells r)).keep hk (fun h=>h))
     have HSz:Hid (wr.heap.size+1≤w2.heap.size):=hid (by have:=hk.size;simpa using this)
     have b0:=HEx.out.cell 0 rfl
     have b1:=HEx.out.cell 1 rfl
     simp only [enCells,List.getElem_toArray,List.getElem_cons_zero,List.getElem_cons_succ] at b0 b1
     have HW:=hid (Whole.new w2 105 (enCells e))
     have HS2:=hid (HSx.out.alloc (.cells #[.int .u64 (e.hash:Int),.int .u32 (e.at_:Int)] 105))
     have HX2:=hid (HXx.out.alloc (.cells #[.int .u64 (e.hash:Int),.int .u32 (e.at_:Int)] 105))
     clear hk a0 a1 c0 c1 e0 e1
     go_wp2_with (at_builtin;refine wpList_append_twoG rfl _ _ 72 rfl 105 i0 (.agg #[.int .u64 0,.int .u32 0]) 16 Tryz.underlying72 hi hz0 hz1 hz2 rfl _ _ rfl HS2.out w2.heap.size e rfl (HW.out.cell 0 rfl) (HW.out.cell 1 rfl) rfl rfl (by have:=HO.out;first|omega|(simp;omega)) (by have:=HO.out;first|omega|(simp;omega)) ?_)
     intro v4 w4 h4 g4
     have HX4:=hid (HX2.out.grown g4 (HS.out.apart (Nat.le_refl _)))
     have x0:=HX4.out.cell 0 rfl
     have x1:=HX4.out.cell 1 rfl
     simp only [enCells,List.getElem_toArray,List.getElem_cons_zero,List.getElem_cons_succ] at x0 x1
     have HO4:Hid ((o ++ [e]).length≤1000002):=hid (by rw [List.length_append];have:=HO.out;simp;omega)
     have HW4:=hid (Whole.new w4 105 (enCells r))
     have HS4:=hid (h4.alloc (.cells #[.int .u64 (r.hash:Int),.int .u32 (r.at_:Int)] 105))
     clear h4 g4 b0 b1
     go_wp2_with (at_builtin;refine wpList_append_twoG rfl _ _ 72 rfl 105 i0 (.agg #[.int .u64 0,.int .u32 0]) 16 Tryz.underlying72 hi hz0 hz1 hz2 rfl _ _ rfl HS4.out w4.heap.size r rfl (HW4.out.cell 0 rfl) (HW4.out.cell 1 rfl) rfl rfl (by have:=HO4.out;first|omega|(simp;omega)) (by have:=HO4.out;first|omega|(simp;omega)) ?_)
     intro v5 w5 h5 g5
     have HS9:Hid (TwosSoFar enH enA 105 w0 (o ++ [e,r]) v5 w5):=hid h5
     have HP9:=hid (HAhead.out HP.out HRe.out HLt.out)
     clear h5 g5
     go_wp2_with fail
     exact ⟨⟨j+1,o ++ [e,r],true,by omega,by go_num,rfl,HP9,HS9⟩,by simp [intOf];omega⟩
    ·rw [decide_eq_false hle] at HLe
     have HLt:=hid hle
     clear hle
     go_wp2_with fail
     refine (HLe.out _).mono ?_
     rintro z w2 ⟨rfl,hk⟩
     have HSx:=hid ((HS.out.alloc (.cells #[.int .u64 (r.hash:Int),.int .u32 (r.at_:Int)] 105)).keep hk)
     have HXx:=hid ((Whole.new wr 105 (enCells r)).keep hk (fun h=>h))
     have b0:=HXx.out.cell 0 rfl
     have b1:=HXx.out.cell 1 rfl
     simp only [enCells,List.getElem_toArray,List.getElem_cons_zero,List.getElem_cons_succ] at b0 b1
     have HW:=hid (Whole.new w2 105 (enCells r))
     have HS2:=hid (HSx.out.alloc (.cells #[.int .u64 (r.hash:Int),.int .u32 (r.at_:Int)] 105))
     clear hk a0 a1 c0 c1 e0 e1
     go_wp2_with (at_builtin;refine wpList_append_twoG rfl _ _ 72 rfl 105 i0 (.agg #[.int .u64 0,.int .u32 0]) 16 Tryz.underlying72 hi hz0 hz1 hz2 rfl _ _ rfl HS2.out w2.heap.size r rfl (HW.out.cell 0 rfl) (HW.out.cell 1 rfl) rfl rfl (by have:=HO.out;first|omega|(simp;omega)) (by have:=HO.out;first|omega|(simp;omega)) ?_)
     intro v5 w5 h5 g5
     have HS9:=hid h5
     have HP9:=hid (HOn.out HP.out HRe.out HLt.out)
     clear h5 g5
     go_wp2_with fail
     exact ⟨⟨j+1,o ++ [r],false,by omega,by go_num,rfl,HP9,HS9⟩,by simp [intOf];omega⟩
  ·have hdj:decide ((j:Int)<(n:Int))=false:=decide_eq_false (by omega)
   have hdrop:l.drop j=[]:=List.drop_eq_nil_of_le (by have:=HN.out;omega)
   have HO:Hid (o.length≤1000001):=hid (by have:=HP.out.len;omega)
   cases b
   ·have HF:Hid (o ++ [e]=putE l e):=hid (by
     have h:=(HP.out.no rfl).2
     rw [hdrop] at h
     exact h)
    have hE:=HE0.out.keep HS.out.keeps (fun h=>h)
    have e0:=hE.cell 0 rfl
    have e1:=hE.cell 1 rfl
    simp only [enCells,List.getElem_toArray,List.getElem_cons_zero,List.getElem_cons_succ] at e0 e1
    have HW:=hid (Whole.new wr 105 (enCells e))
    have HS2:=hid (HS.out.alloc (.cells #[.int .u64 (e.hash:Int),.int .u32 (e.at_:Int)] 105))
    clear hE hdrop
    go_wp2_with (at_builtin;refine wpList_append_twoG rfl _ _ 72 rfl 105 i0 (.agg #[.int .u64 0,.int .u32 0]) 16 Tryz.underlying72 hi hz0 hz1 hz2 rfl _ _ rfl HS2.out wr.heap.size e rfl (HW.out.cell 0 rfl) (HW.out.cell 1 rfl) rfl rfl (by have:=HO.out;first|omega|(simp;omega)) (by have:=HO.out;first|omega|(simp;omega)) ?_)
    intro v5 w5 h5 g5
    have HN5:=hid (h5.new (dd:=En.none))
    rw [HF.out] at HN5
    clear h5 g5
    go_wp2_with fail
    go_ret
    obtain ⟨q,m,d,h1,h2,h3,h4,h5,h6,h7⟩:=HN5.out
    exact ⟨_,rfl,q,m,d,h1,h2,h3,h4,h5,h6,HK0.out.trans h7⟩
   ·have HF:Hid (o=putE l e):=hid (by
     have h:=HP.out.yes rfl
     rwa [hdrop,List.append_nil] at h)
    have HN5:=hid (HS.out.new (dd:=En.none))
    rw [HF.out] at HN5
    clear hdrop
    go_wp2_with fail
    go_ret
    obtain ⟨q,m,d,h1,h2,h3,h4,h5,h6,h7⟩:=HN5.out
    exact ⟨_,rfl,q,m,d,h1,h2,h3,h4,h5,h6,HK0.out.trans h7⟩
end
section
open Go.RowKit
theorem sortE_step {l:List En} {j:Nat} (hj:j<l.length):putE (sortE (l.take j)) (l.getD j En.none)=sortE (l.take (j+1)):=by
 rw [take_getD hj,sortE_snoc]
set_option maxHeartbeats 4000000 in
set_option maxRecDepth 10000 in
theorem sorted11_ref (p:Option Addr) (n c:Nat) (l:List En) (hn:n=l.length) (hn9:n≤1000000) (w:World) (hl:EnsAt w p l) :
  Calls Tryz.prog 47 #[.slice p n c] w fun r w'=>∃ v,r=.returned v∧NewEns w (sortE l) v w':=by
 have HL:=hid hl
 have HN:=hid hn
 have HPut:=hid (fun p n c l e hn hn9 w hl=>put11_ref p n c l e hn hn9 w hl)
 unfold enV at HPut
 clear hl hn
 go_enter Tryz.func47,Tryz.ntmps47
 go_wp2_with fail
 go_loopw [3,8] (fun v i wr=>∃ j:Nat,j≤n∧i=.int .i64 (j:Int)∧Hid (NewEns w (sortE (l.take j)) v wr)) (fun _ i _=>n - (intOf i).toNat)
 case atStart=>exact ⟨0,Nat.zero_le _,rfl,hid (NewTwos.ofNil w w (Keeps.refl _ _))⟩
 case round =>
  obtain ⟨j,hj,rfl,HS⟩:=hrel
  obtain ⟨q,m,d,rfl,hm,hmd,hd,hq,hat,hk⟩:=HS.out
  have HK:=hid hk
  have HAt:=hid hat
  have HM:=hid (show m=(sortE (l.take j)).length∧m≤j from ⟨hm,by have:=sortE_len (l.take j);rw [List.length_take] at this;omega⟩)
  have HQ:=hid hq
  clear hk hat hm hq
  by_cases hlt:j<n
  ·have hdj:decide ((j:Int)<(n:Int))=true:=decide_eq_true (by omega)
   have hjl:j<l.length:=by rw [← HN.out];exact hlt
   obtain ⟨a,rfl,c0,c1⟩:=(HL.out.keep HK.out).at_ j hjl
   have HT:=hid (sortE_step hjl)
   obtain ⟨r,hr⟩:∃ r,r=l.getD j En.none:=⟨_,rfl⟩
   rw [← hr] at c0 c1 HT
   have HP:=hid (fun w hl=>HPut.out q m d (sortE (l.take j)) r HM.out.1 (by have:=HM.out.2;omega) w hl)
   rw [HT.out] at HP
   clear hr hjl
   go_wp2_with fail
   refine (HP.out _ (EnsAt.keep HAt.out ((Keeps.refl NoBlock wr).alloc _))).mono ?_
   rintro e w2 ⟨v2,rfl,q2,m2,d2,rfl,h1,h2,h3,h4,h5,h6⟩
   have HN2:=hid (show NewEns w (sortE (l.take (j+1))) (.slice q2 m2 d2) w2 from ⟨q2,m2,d2,rfl,h1,h2,h3,h4,h5,(HK.out.alloc _).trans h6⟩)
   clear h1 h2 h3 h4 h5 h6
   go_wp2_with fail
   exact ⟨⟨j+1,by omega,by go_num,HN2⟩,by simp [intOf];omega⟩
  ·have hdj:decide ((j:Int)<(n:Int))=false:=decide_eq_false (by omega)
   have HS2:=HS
   rw [List.take_of_length_le (by have:=HN.out;omega)] at HS2
   go_wp2_with fail
   go_ret
   exact ⟨_,rfl,HS2.out⟩
theorem risesE_adj:∀ {l:List En},risesE l=true ↔ ∀ i,i+1<l.length→LessE (l.getD i En.none) (l.getD (i+1) En.none)
 | []=>by simp [risesE]
 | [a]=>by simp [risesE]
 | a :: b :: l=>by
  rw [risesE,Bool.and_eq_true,risesE_adj (l:=b :: l),decide_eq_true_eq]
  constructor
  ·rintro ⟨h1,h2⟩ i hi
   cases i with
   | zero=>exact h1
   | succ i=>exact h2 i (by simpa using hi)
  ·intro h
   exact ⟨h 0 (by simp),fun i hi=>h (i+1) (by simpa using hi)⟩
theorem textE_take {l:List En} {j:Nat} (hj:j<l.length):textE (l.take (j+1))=textE (l.take j) ++ (digits ((l.getD j En.none).hash:Int) 8 ++ digits ((l.getD j En.none).at_:Int) 4):=by
 rw [take_getD hj,textE_snoc]
set_option maxHeartbeats 4000000 in
set_option maxRecDepth 10000 in
theorem text11_ref (p:Option Addr) (n c:Nat) (l:List En) (hn:n=l.length) (hn9:n≤1000000) (hf:∀ e ∈ l,e.Fine) (w:World) (hl:EnsAt w p l) :
  Calls Tryz.prog 50 #[.slice p n c] w fun e w'=>e=.returned (.string (strOfNums (textE l)))∧Keeps NoBlock w w':=by
 have HL:=hid hl
 have HN:=hid hn
 have HFi:=hid hf
 clear hl hn hf
 go_enter Tryz.func50,Tryz.ntmps50
 go_wp2_with fail
 go_loopw [3,8] (fun x i wr=>∃ j:Nat,j≤n∧i=.int .i64 (j:Int)∧x=.string (strOfNums (textE (l.take j)))∧Keeps NoBlock w wr) (fun _ i _=>n - (intOf i).toNat)
 case atStart=>exact ⟨0,Nat.zero_le _,rfl,rfl,Keeps.refl _ _⟩
 case round =>
  obtain ⟨j,hj,rfl,rfl,hk⟩:=hrel
  have HK:=hid hk
  clear hk
  by_cases hlt:j<n
  ·have hdj:decide ((j:Int)<(n:Int))=true:=decide_eq_true (by omega)
   have hjl:j<l.length:=by rw [← HN.out];exact hlt
   obtain ⟨a,rfl,c0,c1⟩:=(HL.out.keep HK.out).at_ j hjl
   have HT:=hid (textE_take hjl)
   have hfine:=HFi.out (l.getD j En.none) (by simp [hjl])
   have hlen:(textE (l.take j)).length≤12000000:=by rw [textE_length,List.length_take];omega
   obtain ⟨r,hr⟩:∃ r,r=l.getD j En.none:=⟨_,rfl⟩
   rw [← hr] at c0 c1 HT hfine
   obtain ⟨A,hA⟩:∃ A,A=textE (l.take j):=⟨_,rfl⟩
   rw [← hA] at HT hlen ⊢
   have wa:IntKind.u64.wrap (r.at_:Int)=(r.at_:Int):=by have:=hfine.at_;rw [IntKind.wrap_u64];omega
   have HN8:=hid (fun w=>num_any (r.hash:Int) 8 8 rfl (by decide) (by omega) (by have:=hfine.hash;omega) w)
   have HN4:=hid (fun w=>num_any (r.at_:Int) 4 4 rfl (by decide) (by omega) (by have:=hfine.at_;omega) w)
   have z8:=str_size (digits (r.hash:Int) 8)
   have z4:=str_size (digits (r.at_:Int) 4)
   have zA:=str_size A
   rw [digits_length] at z8 z4
   have a1:=str_append A (digits (r.hash:Int) 8)
   have a2:=str_append (A ++ digits (r.hash:Int) 8) (digits (r.at_:Int) 4)
   have zA8:=str_size (A ++ digits (r.hash:Int) 8)
   rw [List.length_append,digits_length] at zA8
   rw [List.append_assoc,← HT.out] at a2
   obtain ⟨D8,hD8⟩:∃ D8,D8=digits (r.hash:Int) 8:=⟨_,rfl⟩
   obtain ⟨D4,hD4⟩:∃ D4,D4=digits (r.at_:Int) 4:=⟨_,rfl⟩
   rw [← hD8] at HN8 z8 a1 a2 zA8
   rw [← hD4] at HN4 z4 a2
   obtain ⟨M,hM⟩:∃ M,M=A.length:=⟨_,rfl⟩
   rw [← hM] at zA zA8 hlen
   have r1:¬ 9223372036854775807<M+8:=by omega
   have r2:¬ 9223372036854775807<M+8+4:=by omega
   obtain ⟨A8,hA8⟩:∃ A8,A8=A ++ D8:=⟨_,rfl⟩
   rw [← hA8] at a1 a2 zA8
   obtain ⟨B,hB⟩:∃ B,B=textE (l.take (j+1)):=⟨_,rfl⟩
   rw [← hB] at a2
   have HB:=hid hB
   clear hr hjl hfine hA HT hD8 hD4 hM hA8 hB
   go_wp2_with fail
   obtain ⟨W,hW⟩:∃ W,W=wr.alloc (.cells #[.int .u64 (r.hash:Int),.int .u32 (r.at_:Int)] 105):=⟨_,rfl⟩
   have HR:Hid (Whole W wr.heap.size 105 (enCells r)):=hid (by rw [hW];exact Whole.new _ _ _)
   have HKW:Hid (Keeps NoBlock w W):=hid (by rw [hW];exact HK.out.alloc _)
   rw [← hW]
   clear hW
   have sN:W.cell? ⟨wr.heap.size,0,none⟩=some (.int .u64 (r.hash:Int))∧W.cell? ⟨wr.heap.size,1,none⟩=some (.int .u32 (r.at_:Int)):=⟨HR.out.cell 0 rfl,HR.out.cell 1 rfl⟩
   have s0:W.drew.cell? ⟨wr.heap.size,0,none⟩=some (.int .u64 (r.hash:Int))∧W.drew.cell? ⟨wr.heap.size,1,none⟩=some (.int .u32 (r.at_:Int)):=sN
   go_region_held3 (fun w'=>w'.cell? ⟨wr.heap.size,0,none⟩=some (.int .u64 (r.hash:Int))∧w'.cell? ⟨wr.heap.size,1,none⟩=some (.int .u32 (r.at_:Int)))
    (first|exact s5|exact s0|exact sN)
    (first|(go_at_call 48;(first|(with_reducible refine (HN8.out _).mono ?_)|(with_reducible refine (HN4.out _).mono ?_));rintro e w5 ⟨rfl,hk⟩;have hk':Keeps NoBlock W w5:=(by first|exact hk|exact hk.ofDrew|exact hk.ofDrewN);have HKW:=hid (HKW.out.trans hk');have HR:=hid (HR.out.keep hk' (fun h=>h));have s5:w5.cell? ⟨wr.heap.size,0,none⟩=some (.int .u64 (r.hash:Int))∧w5.cell? ⟨wr.heap.size,1,none⟩=some (.int .u32 (r.at_:Int)):=⟨HR.out.cell 0 rfl,HR.out.cell 1 rfl⟩;clear hk hk';obtain ⟨W,rfl⟩:∃ x,x=w5:=⟨_,rfl⟩))
   go_wp2_with fail
   exact ⟨⟨j+1,by omega,by go_num,by rw [HB.out],HKW.out⟩,by simp [intOf];omega⟩
  ·have hdj:decide ((j:Int)<(n:Int))=false:=decide_eq_false (by omega)
   have hT:l.take j=l:=List.take_of_length_le (by have:=HN.out;omega)
   rw [hT]
   clear hT
   go_wp2_with fail
   go_ret
   exact ⟨rfl,HK.out⟩
end
section
open Go.RowKit
def rdr (xs:List Int) (a y:Int):Value:=.agg #[.string (strOfNums xs),.int .i64 a,.int .i64 y]
theorem str_drop (xs:List Int) (n:Nat):(strOfNums xs).extract n (strOfNums xs).size=strOfNums (xs.drop n):=by
 apply ByteArray.ext
 simp only [strOfNums,ByteArray.size]
 simp [List.map_drop]
 rw [List.take_of_length_le (by simp)]
def strSize:Value→Nat
 | .string b=>b.size
 | _=>0
theorem strSize_of (xs:List Int):strSize (.string (strOfNums xs))=xs.length:=str_size xs
theorem str_piece (xs:List Int) (a b:Nat) (i n:Nat) (ha:a=i) (hb:b=i+n):(strOfNums xs).extract a b=strOfNums ((xs.drop i).take n):=by
 subst ha hb
 apply ByteArray.ext
 simp [strOfNums,List.map_drop,List.map_take]
theorem str_get (xs:List Int) (h:Octets xs) (k:Nat) (hk:k<(strOfNums xs).size):(((strOfNums xs)[k].toNat:Nat):Int)=xs.getD k 0:=by
 have hl:k<xs.length:=by rwa [str_size] at hk
 have h1:(strOfNums xs).data.toList[k]?=some ((strOfNums xs)[k]):=by
  rw [Array.getElem?_toList]
  exact Array.getElem?_eq_getElem hk
 rw [strOfNums_data,List.getElem?_map,List.getElem?_eq_getElem hl] at h1
 have e:UInt8.ofNat (xs[k]).toNat=(strOfNums xs)[k]:=by simpa using h1
 have hb:=h _ (List.getElem_mem hl)
 rw [← e,UInt8.toNat_ofNat',show xs.getD k 0=xs[k] by simp [hl]]
 omega
theorem le_step (xs:List Int) (ho:Octets xs) (h8:xs.length≤8) (m:Nat) (hm:m<xs.length) :
  IntKind.u64.wrap (IntKind.u64.wrap (le (xs.drop (m+1))*256)+IntKind.u64.wrap (xs.getD m 0))=le (xs.drop m):=by
 have hd:xs.drop m=xs.getD m 0 :: xs.drop (m+1):=by
  rw [List.drop_eq_getElem_cons hm]
  simp [hm]
 have hb:=le_bound (xs.drop m) (ho.drop m)
 have hb2:=le_bound (xs.drop (m+1)) (ho.drop (m+1))
 have hg:=ho.getD m
 have hp:(2:Int) ^ (8*(xs.drop m).length)≤18446744073709551616:=by
  have h1:2 ^ (8*(xs.drop m).length)≤2 ^ 64:=Nat.pow_le_pow_right (by omega) (by rw [List.length_drop];omega)
  have e:(2:Int) ^ (8*(xs.drop m).length)=((2 ^ (8*(xs.drop m).length):Nat):Int):=by push_cast;rfl
  rw [e]
  exact Int.le_trans (Int.ofNat_le.2 h1) (by decide)
 rw [hd] at hb ⊢
 rw [hd] at hp
 simp only [le] at hb ⊢
 obtain ⟨q,hq⟩:∃ q,q=le (xs.drop (m+1)):=⟨_,rfl⟩
 rw [← hq] at hb hb2 ⊢
 have h1:xs.getD m 0+256*q<18446744073709551616:=Int.lt_of_lt_of_le hb.2 hp
 rw [IntKind.wrap_u64,IntKind.wrap_u64,IntKind.wrap_u64]
 omega
set_option maxHeartbeats 800000 in
set_option maxRecDepth 10000 in
theorem value_ref (xs:List Int) (ho:Octets xs) (h8:xs.length≤8) (w:World) :
  Calls Tryz.prog 72 #[.string (strOfNums xs)] w fun e w'=>e=.returned (.int .u64 (le xs))∧w=w':=by
 have HO:=hid ho
 have hss:(strOfNums xs).size=xs.length:=str_size xs
 obtain ⟨n,hn⟩:∃ n,n=xs.length:=⟨_,rfl⟩
 have HN:=hid hn
 rw [← hn] at hss h8
 clear ho hn
 go_enter Tryz.func72,Tryz.ntmps72
 go_wp2
 go_loop [3,4] (fun x i=>∃ k:Nat,k≤n∧i=.int .i64 ((k:Int) - 1)∧x=.int .u64 (le (xs.drop k))) (fun _ i=>(intOf i+1).toNat)
 case atStart=>exact ⟨n,Nat.le_refl _,rfl,by rw [HN.out];simp [le]⟩
 case round =>
  obtain ⟨k,hk,rfl,rfl⟩:=hrel
  by_cases hlt:1≤k
  ·obtain ⟨m,rfl⟩:∃ m,k=m+1:=⟨k - 1,by omega⟩
   have hi:((m+1:Nat):Int) - 1=(m:Int):=by omega
   rw [hi]
   go_wp2
   go_round
   case rel =>
    refine ⟨m,by omega,rfl,congrArg (Value.int IntKind.u64) ?_⟩
    rw [str_get xs HO.out m (by omega)]
    exact le_step xs HO.out (by have:=HN.out;omega) m (by have:=HN.out;omega)
   case measure=>simp [intOf]
  ·obtain rfl:k=0:=by omega
   go_wp2
   go_ret
   exact ⟨by simp,rfl⟩
end
section
open Go.RowKit
theorem own_apart {w:World} {base size n g:Nat} {e t:TypeId} {v:Value} {xs:List Value} {cs:Array Value} (hte:t ≠ e) (h:w.ownsRow base e size v n xs) (hg:Whole w g t cs):v.ownBlock ≠ some g:=by
 intro hb
 rcases h.2 with ⟨rfl,_⟩|⟨k,cap,cur,rfl,_,hk,_⟩
 ·simp [Value.ownBlock] at hb
 ·obtain rfl:k=g:=by simpa [Value.ownBlock] using hb
  have e:=hk.symm.trans (show w.heap[k]?=_ from hg)
  simp at e
  exact hte e.2.symm
theorem TwosSoFar.setOther {α:Type} {v0 v1:α→Value} {t:TypeId} {w0 wr:World} {l:List α} {v:Value} (h:TwosSoFar v0 v1 t w0 l v wr) {p:Addr} (hp:v.ownBlock ≠ some p.block) (hb:w0.heap.size≤p.block) (x:Value):TwosSoFar v0 v1 t w0 l v (wr.setCell p x) :=
 ⟨ownsRow_setCell_other h.1 hp _,h.2.setCell hb _⟩
def rdrCells (xs:List Int) (a y:Int):Array Value:=#[.string (strOfNums xs),.int .i64 a,.int .i64 y]
end
end Go.Proofs.YtehkjkcnigknkaaGreat

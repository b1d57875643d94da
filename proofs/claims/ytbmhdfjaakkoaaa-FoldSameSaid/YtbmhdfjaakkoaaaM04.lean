/-
  FoNum; Grow; RecsOwn; InR; FoRef; FoLater.
-/
import Derived.Laws.AppendOwnNone
import Derived.Deep.QuietTactic
import Derived.Lib.Hide
import Derived.Test.YtbmhdfjaakkoaaaM01
import Derived.Test.YtbmhdfjaakkoaaaM03
namespace Go.Proofs.Ytbmhdfjaakkoaaa
open Lib (hid)
section
def lessK:List Int→List Int→Bool
 | _,[]=>false
 | [],_ :: _=>true
 | a :: x,b :: y=>decide (a<b) || (decide (a=b) && lessK x y)
def atStep (k:List Int) (st:Int × List Int) (r:Rec):Int × List Int:=if r.key=k then (if r.del=true then (1,[]) else (2,r.val)) else st
def atF (l:List Rec) (k:List Int):Int × List Int:=l.foldl (atStep k) (0,[])
def lastF (l:List Rec) (k:List Int):Option Rec:=l.foldl (fun st r=>if r.key=k then some r else st) none
def laterF (k:List Int) (l:List Rec):Bool:=l.any fun x=>decide (x.key=k)
def compactF:List Rec→List Rec
 | []=>[]
 | r :: l=>if laterF r.key l=true then compactF l else r :: compactF l
def insStep (r:Rec) (st:Bool × List Rec) (x:Rec):Bool × List Rec:=if (!st.1 && lessK r.key x.key)=true then (true,st.2 ++ [r] ++ [x]) else (st.1,st.2 ++ [x])
def insEnd (r:Rec) (st:Bool × List Rec):List Rec:=if st.1=true then st.2 else st.2 ++ [r]
def insK (O:List Rec) (r:Rec):List Rec:=insEnd r (O.foldl (insStep r) (false,[]))
def byKeyF (l:List Rec):List Rec:=(compactF l).foldl insK []
def liveF (l:List Rec):List Rec:=(byKeyF l).filter fun r=>!r.del
def seqStep (r:Rec) (st:Bool × List Rec) (x:Rec):Bool × List Rec:=if (!(st.1 || decide (x.seq=r.seq)) && decide (r.seq<x.seq))=true then (true,st.2 ++ [r] ++ [x]) else (st.1 || decide (x.seq=r.seq),st.2 ++ [x])
def insS (O:List Rec) (r:Rec):List Rec:=insEnd r (O.foldl (seqStep r) (false,[]))
def sortedF (l:List Rec):List Rec:=l.foldl insS []
theorem foldl_snoc {α β:Type} (f:β→α→β) (b:β) (l:List α) (j:Nat) (d:α) (hj:j<l.length):(l.take (j+1)).foldl f b=f ((l.take j).foldl f b) (l.getD j d):=by
 rw [List.take_succ_eq_append_getElem hj,List.foldl_append]
 simp [hj]
theorem drop_at {l:List Rec} {j:Nat} (hj:j<l.length):l.drop j=l.getD j Rec.none :: l.drop (j+1):=by
 rw [List.drop_eq_getElem_cons hj]
 simp [hj]
theorem laterF_true {k:List Int} {l:List Rec}:laterF k l=true ↔ ∃ x ∈ l,x.key=k:=by
 unfold laterF
 rw [List.any_eq_true]
 constructor
 ·rintro ⟨x,hx,h⟩;exact ⟨x,hx,of_decide_eq_true h⟩
 ·rintro ⟨x,hx,h⟩;exact ⟨x,hx,decide_eq_true h⟩
theorem laterF_false {k:List Int} {l:List Rec}:laterF k l=false ↔ ∀ x ∈ l,x.key ≠ k:=by
 rw [← Bool.not_eq_true,laterF_true]
 constructor
 ·intro h x hx e;exact h ⟨x,hx,e⟩
 ·rintro h ⟨x,hx,e⟩;exact h x hx e
theorem compactF_sublist:∀ l:List Rec,(compactF l).Sublist l
 | []=>List.Sublist.refl _
 | r :: l=>by
  unfold compactF
  split
  ·exact (compactF_sublist l).cons r
  ·exact (compactF_sublist l).cons_cons r
theorem compactF_mem {l:List Rec} {r:Rec} (h:r ∈ compactF l):r ∈ l:=(compactF_sublist l).subset h
theorem compactF_length (l:List Rec):(compactF l).length≤l.length:=(compactF_sublist l).length_le
theorem compact_step {l P:List Rec} {j:Nat} (hj:j<l.length) (h:compactF l=P ++ compactF (l.drop j)) :
  compactF l=(if laterF (l.getD j Rec.none).key (l.drop (j+1))=true then P else P ++ [l.getD j Rec.none]) ++ compactF (l.drop (j+1)):=by
 rw [drop_at hj] at h
 rw [h]
 conv=>lhs;rw [compactF]
 split
 ·rfl
 ·simp
theorem atF_append (l m:List Rec) (k:List Int):atF (l ++ m) k=m.foldl (atStep k) (atF l k):=by
 unfold atF
 rw [List.foldl_append]
theorem atStep_other {k:List Int} {l:List Rec} (h:∀ x ∈ l,x.key ≠ k):∀ st,l.foldl (atStep k) st=st:=by
 induction l with
 | nil=>intro st;rfl
 | cons r l ih =>
  intro st
  rw [List.foldl_cons,ih (fun x hx=>h x (by simp [hx]))]
  unfold atStep
  rw [if_neg (h r (by simp))]
def sayR (r:Rec):Int × List Int:=if r.del=true then (1,[]) else (2,r.val)
theorem atF_snoc (l:List Rec) (r:Rec) (k:List Int):atF (l ++ [r]) k=if r.key=k then sayR r else atF l k:=by
 rw [atF_append]
 rfl
theorem at_later {k:List Int}:∀ (l:List Rec) (s t:Int × List Int),laterF k l=true→l.foldl (atStep k) s=l.foldl (atStep k) t:=by
 intro l
 induction l with
 | nil=>intro s t h;simp [laterF] at h
 | cons r l ih =>
  intro s t h
  rw [List.foldl_cons,List.foldl_cons]
  by_cases hr:r.key=k
  ·have:atStep k s r=atStep k t r:=by unfold atStep;rw [if_pos hr,if_pos hr]
   rw [this]
  ·refine ih _ _ ?_
   rw [laterF_true] at h ⊢
   obtain ⟨x,hx,he⟩:=h
   rcases List.mem_cons.1 hx with rfl|hx
   ·exact absurd he hr
   ·exact ⟨x,hx,he⟩
theorem at_compact (k:List Int):∀ (l:List Rec) (s:Int × List Int),(compactF l).foldl (atStep k) s=l.foldl (atStep k) s:=by
 intro l
 induction l with
 | nil=>intro s;rfl
 | cons r l ih =>
  intro s
  rw [compactF]
  by_cases h:laterF r.key l=true
  ·rw [if_pos h,ih,List.foldl_cons]
   by_cases hr:r.key=k
   ·subst hr
    exact at_later l _ _ h
   ·rw [show atStep k s r=s from if_neg hr]
  ·rw [if_neg h,List.foldl_cons,List.foldl_cons,ih]
theorem atF_compact (l:List Rec) (k:List Int):atF (compactF l) k=atF l k:=at_compact k l _
theorem insStep_run (r:Rec):∀ (O:List Rec) (b:Bool) (nx:List Rec),O.foldl (insStep r) (b,nx)=if b=true then (true,nx ++ O) else
  (O.any fun x=>lessK r.key x.key,nx ++ (O.takeWhile fun x=>!lessK r.key x.key) ++ (if (O.any fun x=>lessK r.key x.key)=true then r :: (O.dropWhile fun x=>!lessK r.key x.key) else [])):=by
 intro O
 induction O with
 | nil=>intro b nx;cases b <;> simp
 | cons x O ih =>
  intro b nx
  rw [List.foldl_cons]
  cases b with
  | true =>
   rw [show insStep r (true,nx) x=(true,nx ++ [x]) from rfl,ih]
   simp
  | false =>
   by_cases hx:lessK r.key x.key=true
   ·rw [show insStep r (false,nx) x=(true,nx ++ [r] ++ [x]) from by unfold insStep;rw [hx];rfl,ih]
    simp [hx]
   ·rw [Bool.not_eq_true] at hx
    rw [show insStep r (false,nx) x=(false,nx ++ [x]) from by unfold insStep;rw [hx];rfl,ih]
    simp [hx]
theorem while_all {p:Rec→Bool}:∀ (O:List Rec),(∀ x ∈ O,p x=true)→O.takeWhile p=O∧O.dropWhile p=[]
 | [],_=>⟨rfl,rfl⟩
 | x :: O,h=>by
  obtain ⟨h1,h2⟩:=while_all O (fun y hy=>h y (by simp [hy]))
  rw [List.takeWhile_cons,List.dropWhile_cons,h x (by simp)]
  exact ⟨by simp [h1],by simp [h2]⟩
theorem insK_eq (O:List Rec) (r:Rec):insK O r=(O.takeWhile fun x=>!lessK r.key x.key) ++ r :: (O.dropWhile fun x=>!lessK r.key x.key):=by
 unfold insK insEnd
 rw [insStep_run]
 simp only [Bool.false_eq_true,if_false,List.nil_append]
 by_cases h:(O.any fun x=>lessK r.key x.key)=true
 ·rw [if_pos h,if_pos h]
 ·rw [if_neg h,if_neg h]
  have h2:∀ x ∈ O,(!lessK r.key x.key)=true:=fun x hx=>by
   rw [Bool.not_eq_true] at h
   have:=List.any_eq_false.1 h x hx
   simpa using this
  obtain ⟨h3,h4⟩:=while_all O h2
  rw [List.append_nil,h3,h4]
theorem insK_perm (O:List Rec) (r:Rec):(insK O r).Perm (r :: O):=by
 rw [insK_eq]
 refine (List.perm_middle).trans ?_
 rw [List.takeWhile_append_dropWhile]
theorem byKey_perm_go:∀ (l O:List Rec),(l.foldl insK O).Perm (O ++ l)
 | [],O=>by simp
 | r :: l,O=>by
  rw [List.foldl_cons]
  refine (byKey_perm_go l _).trans ?_
  refine ((insK_perm O r).append_right l).trans ?_
  exact (List.perm_middle (l₁:=O) (l₂:=l) (a:=r)).symm
theorem byKeyF_perm (l:List Rec):(byKeyF l).Perm (compactF l):=by
 have:=byKey_perm_go (compactF l) []
 rwa [List.nil_append] at this
theorem byKeyF_mem {l:List Rec} {r:Rec}:r ∈ byKeyF l ↔ r ∈ compactF l:=(byKeyF_perm l).mem_iff
theorem byKeyF_length (l:List Rec):(byKeyF l).length≤l.length:=by rw [(byKeyF_perm l).length_eq];exact compactF_length l
theorem liveF_mem {l:List Rec} {r:Rec} (h:r ∈ liveF l):r ∈ l:=compactF_mem (byKeyF_mem.1 (List.mem_filter.1 h).1)
theorem liveF_length (l:List Rec):(liveF l).length≤l.length:=Nat.le_trans (List.length_filter_le _ _) (byKeyF_length l)
theorem insEnd_seq (r:Rec):∀ (O:List Rec) (b:Bool) (nx:List Rec),(O.foldl (seqStep r) (b,nx)).2.length≤nx.length+O.length+(if b=true then 0 else 1)∧((O.foldl (seqStep r) (b,nx)).1=false→(O.foldl (seqStep r) (b,nx)).2.length≤nx.length+O.length)∧∀ x ∈ (O.foldl (seqStep r) (b,nx)).2,x ∈ nx ∨ x ∈ O ∨ x=r:=by
 intro O
 induction O with
 | nil =>
  intro b nx
  refine ⟨by simp,fun _=>by simp,fun x hx=>.inl hx⟩
 | cons x O ih =>
  intro b nx
  rw [List.foldl_cons]
  by_cases h:(!(b || decide (x.seq=r.seq)) && decide (r.seq<x.seq))=true
  ·rw [show seqStep r (b,nx) x=(true,nx ++ [r] ++ [x]) from if_pos h]
   obtain ⟨h1,h2,h3⟩:=ih true (nx ++ [r] ++ [x])
   have hb:b=false:=by
    cases b
    ·rfl
    ·simp at h
   refine ⟨?_,?_,fun y hy=>?_⟩
   ·rw [hb]
    simp at h1 ⊢
    omega
   ·intro he
    have:=h2 he
    have h4:∀ (O:List Rec) (nx:List Rec),(O.foldl (seqStep r) (true,nx)).1=true:=by
     intro O
     induction O with
     | nil=>intro nx;rfl
     | cons y O ih2 =>
      intro nx
      rw [List.foldl_cons,show seqStep r (true,nx) y=(true,nx ++ [y]) from by unfold seqStep;simp]
      exact ih2 _
    rw [h4] at he
    exact absurd he (by decide)
   ·rcases h3 y hy with h|h|h
    ·simp at h
     rcases h with h|h|h
     ·exact .inl h
     ·exact .inr (.inr h)
     ·exact .inr (.inl (by simp [h]))
    ·exact .inr (.inl (by simp [h]))
    ·exact .inr (.inr h)
  ·rw [show seqStep r (b,nx) x=(b || decide (x.seq=r.seq),nx ++ [x]) from if_neg h]
   obtain ⟨h1,h2,h3⟩:=ih (b || decide (x.seq=r.seq)) (nx ++ [x])
   refine ⟨?_,?_,fun y hy=>?_⟩
   ·simp at h1 ⊢
    cases b <;> by_cases hs:x.seq=r.seq <;> simp [hs] at h1 ⊢ <;> omega
   ·intro he
    have:=h2 he
    simp at this ⊢
    omega
   ·rcases h3 y hy with h|h|h
    ·simp at h
     rcases h with h|h
     ·exact .inl h
     ·exact .inr (.inl (by simp [h]))
    ·exact .inr (.inl (by simp [h]))
    ·exact .inr (.inr h)
theorem insS_length (O:List Rec) (r:Rec):(insS O r).length≤O.length+1:=by
 obtain ⟨h1,h2,_⟩:=insEnd_seq r O false []
 unfold insS insEnd
 split
 ·simp at h1;omega
 ·rename_i h
  have:=h2 (by simpa using h)
  simp at this ⊢
  omega
theorem insS_mem {O:List Rec} {r x:Rec} (h:x ∈ insS O r):x ∈ O ∨ x=r:=by
 obtain ⟨_,_,h3⟩:=insEnd_seq r O false []
 unfold insS insEnd at h
 split at h
 ·rcases h3 x h with h|h|h
  ·simp at h
  ·exact .inl h
  ·exact .inr h
 ·rcases List.mem_append.1 h with h|h
  ·rcases h3 x h with h|h|h
   ·simp at h
   ·exact .inl h
   ·exact .inr h
  ·exact .inr (by simpa using h)
theorem sorted_go:∀ (l O:List Rec),(l.foldl insS O).length≤O.length+l.length∧∀ x ∈ l.foldl insS O,x ∈ O ∨ x ∈ l
 | [],O=>⟨by simp,fun x hx=>.inl hx⟩
 | r :: l,O=>by
  rw [List.foldl_cons]
  obtain ⟨h1,h2⟩:=sorted_go l (insS O r)
  have h3:=insS_length O r
  refine ⟨by simp;omega,fun x hx=>?_⟩
  rcases h2 x hx with h|h
  ·rcases insS_mem h with h|h
   ·exact .inl h
   ·exact .inr (by simp [h])
  ·exact .inr (by simp [h])
theorem sortedF_length (l:List Rec):(sortedF l).length≤l.length:=by
 have:=(sorted_go l []).1
 rwa [List.length_nil,Nat.zero_add] at this
theorem sortedF_mem {l:List Rec} {x:Rec} (h:x ∈ sortedF l):x ∈ l:=by
 rcases (sorted_go l []).2 x h with h|h
 ·simp at h
 ·exact h
end
section
open Go.RowKit
theorem own_from {w:World} {base size n k:Nat} {e:TypeId} {v:Value} {xs:List Value} (h:w.ownsRow base e size v n xs) (hk:v.ownBlock=some k):base≤k:=by
 rcases h with ⟨_,⟨rfl,_⟩|⟨g,cap,cur,rfl,hg,_⟩⟩
 ·simp [Value.ownBlock] at hk
 ·simp [Value.ownBlock] at hk
  omega
set_option maxRecDepth 10000 in
theorem wpList_append_any {w:World} {ops:Array Oper} {rest:List Oper} {o:Oper} {a:Act} {Q:Exit→Act→World→Prop} (hgd:o.guard=none) (s x:Operand) (t:TypeId)
  (ho:o.op=.call { callee:=.builtin .append,args:=#[s,x],argTypes:=#[t,t] })
  (base:Nat) (e:TypeId) (i:TypeInfo) (z:Value) (size bytes:Nat) (ht:Try.prog.underlying t=some (.slice e)) (hi:Try.prog.info? e=some i) (hz:i.zero=some z)
  (hsize:i.size=size) (hby:i.bytes=bytes) (hzs:z.cells.size=size) (hsz:0<size)
  (v:Value) (n:Nat) (xs:List Value) (hs:a.eval s=v) (hown:w.ownsRow base e size v n xs)
  (p:Option Addr) (m c:Nat) (news:List Value) (hx:a.eval x=.slice p m c) (hp0:p=none→m=0∧c=0) (hl:news.length=m*size)
  (hnews:∀ ad,p=some ad→∀ j u,news[j]?=some u→w.cell? (ad.add j)=some u) (h1:∀ u ∈ news,u.oneCell'=true)
  (h63:n+m≤maxLen) (hbytes:(n+m)*bytes≤140737488355328) (hbase:base≤w.heap.size)
  (h:∀ v' w',w'.ownsRow base e size v' (n+m) (xs ++ news)→Below base w w'→wpList Try.prog ops Q rest (a.put o.dst v') w'):wpList Try.prog ops Q (o :: rest) a w:=by
 cases p with
 | none =>
  obtain ⟨rfl,rfl⟩:=hp0 rfl
  obtain rfl:news=[]:=List.length_eq_zero_iff.1 (by omega)
  refine wpList_append_own_none hgd s x t ho base e i size ht hi v n xs hs hown hx (h v w ?_ (Below.refl base w))
  rw [List.append_nil,Nat.add_zero]
  exact hown
 | some ad =>
  refine wpList_append_own w hgd s x t ho base e i z size bytes ht hi hz hsize hby hzs hsz v n xs hs hown ad m c news hx hl (hnews ad rfl) h1 h63 hbytes hbase ?_
  intro v' w' h2 h3 _
  exact h v' w' h2 ((Below.refl base w).grown h3 hbase (fun k hk=>own_from hown hk))
end
section
open Go.RowKit
theorem infoRc:(Try.prog.info? 30).map (fun i=>(i.zero,i.size,i.bytes))=some (some (.agg #[.bool false,.int .u64 0,.string ⟨#[]⟩,.string ⟨#[]⟩]),4,48):=by kernel_rfl
def rcFour (r:Rec):List Value:=[.bool r.del,.int .u64 (r.seq:Int),.string (strOfNums r.key),.string (strOfNums r.val)]
def rcFlat (l:List Rec):List Value:=l.flatMap rcFour
theorem rcFlat_len (l:List Rec):(rcFlat l).length=l.length*4:=by
 induction l with
 | nil=>rfl
 | cons r l ih =>
  rw [rcFlat,List.flatMap_cons,List.length_append,← rcFlat,ih]
  simp [rcFour]
  omega
theorem rcFlat_append (a b:List Rec):rcFlat (a ++ b)=rcFlat a ++ rcFlat b:=List.flatMap_append
theorem rcFlat_at:∀ (l:List Rec) (i j:Nat),i<l.length→j<4→(rcFlat l)[i*4+j]?=(rcFour (l.getD i Rec.none))[j]?
 | [],i,j,h,_=>by simp at h
 | r :: l,0,j,_,hj=>by
  rw [rcFlat,List.flatMap_cons,List.getElem?_append_left (by simp [rcFour];omega)]
  simp
 | r :: l,i+1,j,h,hj=>by
  rw [rcFlat,List.flatMap_cons,List.getElem?_append_right (by simp [rcFour];omega),← rcFlat]
  have e:(i+1)*4+j - (rcFour r).length=i*4+j:=by simp [rcFour];omega
  rw [e,rcFlat_at l i j (by simpa using h) hj]
  simp
theorem RecsAt.nil (w:World) (p:Option Addr):RecsAt w p []:=fun i hi=>by simp at hi
def NewRecs (w:World) (l:List Rec) (v:Value) (w':World):Prop :=
 ∃ (q:Option Addr) (m d:Nat),v=.slice q m d∧m=l.length∧m≤d∧d≤9223372036854775807∧(q=none→m=0∧d=0)∧RecsAt w' q l∧Keeps NoBlock w w'
def RecsSoFar (w0:World) (l:List Rec) (v:Value) (wr:World):Prop:=wr.ownsRow w0.heap.size 30 4 v l.length (rcFlat l)∧Below w0.heap.size w0 wr
theorem RecsSoFar.start (w0:World):RecsSoFar w0 [] (.slice none 0 0) w0:=⟨⟨by simp [rcFlat],.inl ⟨rfl,rfl⟩⟩,Below.refl _ _⟩
theorem RecsSoFar.startAt {w0 wr:World} (h:Below w0.heap.size w0 wr):RecsSoFar w0 [] (.slice none 0 0) wr:=⟨⟨by simp [rcFlat],.inl ⟨rfl,rfl⟩⟩,h⟩
theorem RecsSoFar.alloc {w0 wr:World} {l:List Rec} {v:Value} (h:RecsSoFar w0 l v wr) (o:Obj):RecsSoFar w0 l v (wr.alloc o):=⟨World.ownsRow.alloc h.1 o,h.2.alloc h.2.size o⟩
theorem RecsSoFar.keep {w0 wr w':World} {l:List Rec} {v:Value} (h:RecsSoFar w0 l v wr) (hk:Keeps NoBlock wr w'):RecsSoFar w0 l v w':=by
 refine ⟨⟨h.1.1,?_⟩,h.2.trans (hk.below h.2.size (fun _ _ h=>h))⟩
 rcases h.1.2 with hn|⟨g,cap,cur,rfl,hb,hgg,rest⟩
 ·exact .inl hn
 ·have hlt:g<wr.heap.size:=(Array.getElem?_eq_some_iff.1 hgg).1
  exact .inr ⟨g,cap,cur,rfl,hb,(hk.block g hlt (fun h=>h)).trans hgg,rest⟩
theorem RecsSoFar.keeps {w0 wr:World} {l:List Rec} {v:Value} (h:RecsSoFar w0 l v wr):Keeps NoBlock w0 wr:=.ofBelow h.2
theorem RecsSoFar.new {w0 wr:World} {l:List Rec} {v:Value} (h:RecsSoFar w0 l v wr):NewRecs w0 l v wr:=by
 have h':=h.1
 rcases h.1 with ⟨_,⟨rfl,h0⟩|⟨g,cap,cur,rfl,hg,hh,hc1,hc2,hc3,hc4⟩⟩
 ·obtain rfl:l=[]:=List.length_eq_zero_iff.1 h0
  exact ⟨none,0,0,rfl,rfl,Nat.le_refl _,by decide,fun _=>⟨rfl,rfl⟩,RecsAt.nil _ _,h.keeps⟩
 ·refine ⟨_,_,cap,rfl,rfl,hc1,by unfold maxLen at hc2;omega,fun h=>by simp at h,fun i hi=>?_,h.keeps⟩
  have hc:=h'.cells (g:=g) rfl
  have ha:∀ j u,j<4→(rcFour (l.getD i Rec.none))[j]?=some u→wr.cell? ⟨g,i*4+j,none⟩=some u:=fun j u hj hu=>by
   have:=hc (i*4+j) u (by rw [rcFlat_at l i j hi hj];exact hu)
   rw [Addr.add_lit,Nat.zero_add] at this
   exact this
  refine ⟨⟨g,0,none⟩,rfl,?_⟩
  simp only [Addr.add_lit,Nat.zero_add]
  exact ⟨ha 0 _ (by decide) rfl,ha 1 _ (by decide) rfl,ha 2 _ (by decide) rfl,ha 3 _ (by decide) rfl⟩
theorem wpList_append_rec {w w0:World} {ops:Array Oper} {rest:List Oper} {o:Oper} {a:Act} {Q:Exit→Act→World→Prop} (hgd:o.guard=none) (s x:Operand)
  (ho:o.op=.call { callee:=.builtin .append,args:=#[s,x],argTypes:=#[22,22] })
  (v:Value) (l:List Rec) (hs:a.eval s=v) (hown:RecsSoFar w0 l v w) (g:Nat) (r:Rec) (hx:a.eval x=.slice (some ⟨g,0,none⟩) 1 1)
  (hg:Whole w g 30 (recCells r)) (hroom:l.length≤1000000000)
  (h:∀ v' w',RecsSoFar w0 (l ++ [r]) v' w'→w.grownBy w' v.ownBlock→wpList Try.prog ops Q rest (a.put o.dst v') w'):wpList Try.prog ops Q (o :: rest) a w:=by
 obtain ⟨i0,hi,hz0,hz1,hz2⟩:=info_parts infoRc
 refine wpList_append_own w hgd s x 22 ho w0.heap.size 30 i0 (.agg #[.bool false,.int .u64 0,.string ⟨#[]⟩,.string ⟨#[]⟩]) 4 48 Try.underlying22 hi hz0 hz1 hz2 rfl (by decide) v l.length (rcFlat l) hs hown.1 ⟨g,0,none⟩ 1 1 (rcFour r) hx rfl ?_ ?_ (by unfold maxLen;omega) (by omega) hown.2.size ?_
 ·intro j u hj
  rw [Addr.add_lit,Nat.zero_add]
  match j,hj with
  | 0,hj=>obtain rfl:=Option.some.inj hj;exact hg.cell 0 rfl
  | 1,hj=>obtain rfl:=Option.some.inj hj;exact hg.cell 1 rfl
  | 2,hj=>obtain rfl:=Option.some.inj hj;exact hg.cell 2 rfl
  | 3,hj=>obtain rfl:=Option.some.inj hj;exact hg.cell 3 rfl
  | k+4,hj=>simp [rcFour] at hj
 ·intro u hu
  simp only [rcFour,List.mem_cons,List.not_mem_nil,or_false] at hu
  rcases hu with rfl|rfl|rfl|rfl <;> rfl
 ·intro v' w' h2 h3 _
  refine h v' w' ⟨?_,hown.2.trans ((Below.refl _ w).grown h3 hown.2.size (fun k hk=>own_from hown.1 hk))⟩ h3
  rw [rcFlat_append,List.length_append,show rcFlat [r]=rcFour r by simp [rcFlat]]
  exact h2
end
section
open Go.RowKit
structure InR (w:World) (p:Option Addr) (n c:Nat) (l:List Rec):Prop where
 len:n=l.length
 cap:n≤c
 room:c≤9223372036854775807
 fine:∀ r ∈ l,r.Fine
 key:∀ r ∈ l,r.key.length≤100000
 val:∀ r ∈ l,r.val.length≤100000
 at_:RecsAt w p l
theorem InR.keep {w w':World} {p:Option Addr} {n c:Nat} {l:List Rec} (h:InR w p n c l) (hk:Keeps NoBlock w w'):InR w' p n c l :=
 ⟨h.len,h.cap,h.room,h.fine,h.key,h.val,h.at_.keep hk (fun _ _ h=>h)⟩
theorem getR_mem {l:List Rec} {j:Nat} (h:j<l.length):l.getD j Rec.none ∈ l:=by simp [h]
end
section
open Go.RowKit
theorem str_list (xs:List Int):(strOfNums xs).toList=xs.map fun n=>UInt8.ofNat n.toNat:=by
 rw [ByteArray.toList_eq,strOfNums_data]
theorem u8_lt {a b:Int} (ha:0≤a∧a≤255) (hb:0≤b∧b≤255):decide (UInt8.ofNat a.toNat<UInt8.ofNat b.toNat)=decide (a<b):=by
 rw [decide_eq_decide,UInt8.lt_iff_toNat_lt,UInt8.toNat_ofNat',UInt8.toNat_ofNat']
 omega
theorem u8_eq {a b:Int} (ha:0≤a∧a≤255) (hb:0≤b∧b≤255):(UInt8.ofNat a.toNat == UInt8.ofNat b.toNat)=decide (a=b):=by
 rw [Bool.eq_iff_iff,beq_iff_eq,decide_eq_true_iff,← UInt8.toNat_inj,UInt8.toNat_ofNat',UInt8.toNat_ofNat']
 omega
theorem less_str:∀ {a b:List Int} (_:Octets a) (_:Octets b),Go.Op.bytesLess (strOfNums a).toList (strOfNums b).toList=lessK a b:=by
 intro a b ha hb
 rw [str_list,str_list]
 induction a generalizing b with
 | nil=>cases b <;> rfl
 | cons x a ih =>
  cases b with
  | nil=>rfl
  | cons y b =>
   have hx:=ha x (by simp)
   have hy:=hb y (by simp)
   rw [List.map_cons,List.map_cons,Go.Op.bytesLess,lessK,ih (fun z hz=>ha z (by simp [hz])) (fun z hz=>hb z (by simp [hz])),u8_lt (by omega) (by omega),u8_eq (by omega) (by omega)]
theorem same_str {a b:List Int} (ha:Octets a) (hb:Octets b):((strOfNums a).toList == (strOfNums b).toList)=decide (a=b):=by
 rw [text_beq,decide_eq_decide]
 exact ⟨fun h=>strOf_inj ha hb h,fun h=>by rw [h]⟩
set_option maxHeartbeats 4000000 in
set_option maxRecDepth 10000 in
theorem at18_ref (p:Option Addr) (n c:Nat) (l:List Rec) (k:List Int) (hk:Octets k) (w:World) (hi:InR w p n c l) :
  Calls Try.prog 12 #[.slice p n c,.string (strOfNums k)] w fun e w'=>e=.returned (.tuple #[.int .i64 (atF l k).1,.string (strOfNums (atF l k).2)])∧Keeps NoBlock w w':=by
 have HI:=hid hi
 have HKo:=hid hk
 have hn9:n≤9223372036854775807:=Nat.le_trans hi.cap hi.room
 clear hi hk
 go_enter Try.func12,Try.ntmps12
 go_wp2_with fail
 go_loopw [6,7,12] (fun a b i wr=>∃ j:Nat,j≤n∧i=.int .i64 (j:Int)∧a=.int .i64 (atF (l.take j) k).1∧b=.string (strOfNums (atF (l.take j) k).2)∧Hid (Keeps NoBlock w wr)) (fun _ _ i _=>n - (intOf i).toNat)
 case atStart=>exact ⟨0,Nat.zero_le _,rfl,rfl,rfl,hid (Keeps.refl _ _)⟩
 case round =>
  obtain ⟨j,hj,rfl,rfl,rfl,HK⟩:=hrel
  by_cases hlt:j<n
  rotate_left
  ·have hdj:decide ((j:Int)<(n:Int))=false:=decide_eq_false (by omega)
   have hdj2:decide (j<n)=false:=decide_eq_false hlt
   have hT:l.take j=l:=List.take_of_length_le (by have:=HI.out.len;omega)
   rw [hT]
   go_wp2_with fail
   exact bodyPost_ret (results_tmp2 rfl _ _ _) rfl ⟨rfl,HK.out⟩
  have hdj:decide ((j:Int)<(n:Int))=true:=decide_eq_true (by omega)
  have hdj2:decide (j<n)=true:=decide_eq_true hlt
  have hjl:j<l.length:=by rw [← HI.out.len];exact hlt
  obtain ⟨a,rfl,x0,x1,x2,x3⟩:=(HI.out.at_.keep HK.out (fun _ _ h=>h)) j hjl
  have hmem:=getR_mem hjl
  have hst:=hid (show atF (l.take (j+1)) k=atStep k (atF (l.take j) k) (l.getD j Rec.none) from foldl_snoc (atStep k) (0,[]) l j Rec.none hjl)
  have hcmp:=same_str (HI.out.fine _ hmem).key HKo.out
  obtain ⟨st,hs⟩:∃ st,st=atF (l.take j) k:=⟨_,rfl⟩
  obtain ⟨r,hr⟩:∃ r,r=l.getD j Rec.none:=⟨_,rfl⟩
  rw [← hr] at x0 x1 x2 x3 hst hcmp
  rw [← hs] at hst ⊢
  clear hr hs hmem hjl
  by_cases he:r.key=k
  rotate_left
  ·rw [decide_eq_false he] at hcmp
   have HE:=hid (show atF (l.take (j+1)) k=st by rw [hst.out];exact if_neg he)
   clear he hst
   go_wp2_with fail
   go_roundw
   case rel=>exact ⟨j+1,by omega,by go_num,by rw [HE.out],by rw [HE.out],hid (HK.out.alloc _)⟩
   case measure=>simp [intOf];omega
  rw [decide_eq_true he] at hcmp
  by_cases hd:r.del=true
  ·rw [hd] at x0
   have HE:=hid (show atF (l.take (j+1)) k=(1,[]) by rw [hst.out];unfold atStep;rw [if_pos he,if_pos hd])
   clear he hst hd
   go_wp2_with fail
   go_roundw
   case rel=>exact ⟨j+1,by omega,by go_num,by rw [HE.out],by rw [HE.out];rfl,hid (HK.out.alloc _)⟩
   case measure=>simp [intOf];omega
  ·rw [Bool.not_eq_true] at hd
   rw [hd] at x0
   have HE:=hid (show atF (l.take (j+1)) k=(2,r.val) by rw [hst.out];unfold atStep;rw [if_pos he,if_neg (by rw [hd];simp)])
   clear he hst hd
   go_wp2_with fail
   go_roundw
   case rel=>exact ⟨j+1,by omega,by go_num,by rw [HE.out],by rw [HE.out],hid (HK.out.alloc _)⟩
   case measure=>simp [intOf];omega
end
section
open Go.RowKit
theorem RecsAt.part {w:World} {a:Addr} {l:List Rec} (h:RecsAt w (some a) l) (A:Nat):RecsAt w (some (a.add (A*4))) (l.drop A):=fun i hi=>by
 rw [List.length_drop] at hi
 obtain ⟨a',ha',c0,c1,c2,c3⟩:=h (A+i) (by omega)
 obtain rfl:=Option.some.inj ha'
 have e1:(a.add (A*4)).add (i*4)=a.add ((A+i)*4):=by rw [Addr.add_add,← Nat.add_mul]
 have e2:(l.drop A).getD i Rec.none=l.getD (A+i) Rec.none:=by
  rw [List.getD_eq_getElem?_getD,List.getD_eq_getElem?_getD,List.getElem?_drop]
 refine ⟨_,rfl,?_⟩
 rw [e1,e2]
 exact ⟨c0,c1,c2,c3⟩
theorem laterF_take {k:List Int} {l:List Rec} {j:Nat} (hj:j<l.length) (h:laterF k (l.take j)=false) (h2:(l.getD j Rec.none).key ≠ k):laterF k (l.take (j+1))=false:=by
 rw [laterF_false] at h ⊢
 rw [List.take_succ_eq_append_getElem hj]
 intro x hx
 rcases List.mem_append.1 hx with hx|hx
 ·exact h x hx
 ·simp [hj] at h2
  rw [List.mem_singleton.1 hx]
  exact h2
set_option maxHeartbeats 4000000 in
set_option maxRecDepth 10000 in
theorem later18_ref (p:Option Addr) (n c:Nat) (l:List Rec) (i:Nat) (w:World) (hin:i<n) (hi:InR w p n c l) :
  Calls Try.prog 26 #[.slice p n c,.int .i64 (i:Int)] w fun e w'=>e=.returned (.bool (laterF (l.getD i Rec.none).key (l.drop (i+1))))∧Keeps NoBlock w w':=by
 have hn9:n≤9223372036854775807:=Nat.le_trans hi.cap hi.room
 have hcap:=hi.cap
 have hroom:=hi.room
 have hil:i<l.length:=by rw [← hi.len];exact hin
 obtain ⟨a,rfl,y0,y1,y2,y3⟩:=hi.at_ i hil
 have hcmp:=fun (x:Rec) (hx:x ∈ l)=>same_str (hi.fine x hx).key (hi.fine _ (getR_mem hil)).key
 have HAt:=hid (hi.at_.part (i+1))
 have hdl:(l.drop (i+1)).length=n - (i+1):=by rw [List.length_drop,hi.len]
 have HSub:=hid (fun (x:Rec) (hx:x ∈ l.drop (i+1))=>List.mem_of_mem_drop hx)
 have HL:=hid hi.at_
 obtain ⟨K,hK⟩:∃ K,K=(l.getD i Rec.none).key:=⟨_,rfl⟩
 have HY:=hid (fun W (h:Keeps NoBlock w W)=>show W.cell? ⟨(a.add (i*4)).block,(a.add (i*4)).off+2,none⟩=some (.string (strOfNums K)) from by
  obtain ⟨a',ha',_,_,z2,_⟩:=hi.at_.keep h (fun _ _ h=>h) i hil
  obtain rfl:=Option.some.inj ha'
  rw [hK]
  exact z2)
 rw [← hK] at hcmp ⊢
 have HCmp:=hid hcmp
 obtain ⟨D,hD⟩:∃ D,D=l.drop (i+1):=⟨_,rfl⟩
 rw [← hD] at HAt hdl HSub ⊢
 obtain ⟨M,hM⟩:∃ M,M=n - (i+1):=⟨_,rfl⟩
 rw [← hM] at hdl
 obtain ⟨B,hB⟩:∃ B,B=laterF K D:=⟨_,rfl⟩
 have HB:=hid hB
 rw [← hB]
 have HDl:=hid hdl
 have hiI:(i:Int)<(n:Int):=by omega
 have i0:(0:Int)≤(i:Int):=by omega
 have wi:IntKind.i64.wrap ((i:Int)+1)=(i:Int)+1:=IntWalk.i64_in _ (by omega)
 have t1:((i:Int)+1).toNat=i+1:=by omega
 have b1:(i:Int)+1≤(n:Int):=by omega
 have b0:(0:Int)≤(i:Int)+1:=by omega
 have di:decide ((i:Int)<(n:Int))=true:=decide_eq_true hiI
 have di2:decide (i<n)=true:=decide_eq_true hin
 clear hi y0 y1 y2 y3 hcmp hK hD hB hil hdl
 by_cases hfull:i+1=c
 ·have hM0:M=0:=by omega
  have hB0:B=false:=by
   have hDn:D=[]:=List.eq_nil_of_length_eq_zero (by rw [HDl.out,hM0])
   rw [HB.out,hDn]
   rfl
  have hcn:c=n:=by omega
  have hni:n=i+1:=by omega
  clear hM hM0 HAt HB HDl HCmp HSub HY HL
  subst hcn
  subst hni
  go_enter Try.func26,Try.ntmps26
  subst hB0
  go_wp2_with fail
  go_loopw [12] (fun x wr=>x=.int .i64 0∧wr=w) (fun _ _=>0)
  case atStart=>exact ⟨rfl,rfl⟩
  case round =>
   obtain ⟨rfl,rfl⟩:=hrel
   go_wp2_with fail
   go_ret
   exact ⟨rfl,Keeps.refl _ _⟩
 ·have b3:i+1<c:=by omega
  have b4:(i:Int)+1<(c:Int):=by omega
  have b5:¬ c - (i+1)=0:=by omega
  have b6:¬ (c:Int) - ((i:Int)+1)=0:=by omega
  have b8:¬ c=i+1:=by omega
  obtain ⟨C,hC⟩:∃ C,C=c - (i+1):=⟨_,rfl⟩
  obtain ⟨a1,ha1⟩:∃ a1,a1=a.add ((i+1)*4):=⟨_,rfl⟩
  rw [← ha1] at HAt
  go_enter Try.func26,Try.ntmps26
  go_wp2_with fail
  rw [← ha1,← hC,← hM]
  have hM9:M≤9223372036854775807:=by omega
  clear ha1 hC hM b0 b1 b3 b4 b5 b6 b8 hfull t1 wi
  go_loopw [12] (fun x wr=>∃ j:Nat,j≤M∧x=.int .i64 (j:Int)∧Hid (laterF K (D.take j)=false)∧Hid (Keeps NoBlock w wr)) (fun x _=>M - (intOf x).toNat)
  case atStart=>exact ⟨0,Nat.zero_le _,rfl,hid rfl,hid (Keeps.refl _ _)⟩
  case round =>
   obtain ⟨j,hj,rfl,HF,HK⟩:=hrel
   by_cases hlt:j<M
   rotate_left
   ·have hdj:decide ((j:Int)<(M:Int))=false:=decide_eq_false (by omega)
    have hdj2:decide (j<M)=false:=decide_eq_false hlt
    have hb:B=false:=by
     have h:=HF.out
     rw [List.take_of_length_le (by have:=HDl.out;omega)] at h
     rw [HB.out,h]
    subst hb
    go_wp2_with fail
    go_ret
    exact ⟨rfl,HK.out⟩
   have hdj:decide ((j:Int)<(M:Int))=true:=decide_eq_true (by omega)
   have hdj2:decide (j<M)=true:=decide_eq_true hlt
   have hjl:j<D.length:=by rw [HDl.out];exact hlt
   have hmem:=getR_mem hjl
   obtain ⟨a2,ha2,x0,x1,x2,x3⟩:=(HAt.out.keep HK.out (fun _ _ h=>h)) j hjl
   obtain rfl:=Option.some.inj ha2
   have hcmp:=HCmp.out _ (HSub.out _ hmem)
   have HN:=hid (fun h=>laterF_take hjl HF.out h)
   have HIs:=hid (fun (h:(D.getD j Rec.none).key=K)=>(laterF_true.2 ⟨_,hmem,h⟩:laterF K D=true))
   obtain ⟨r,hr⟩:∃ r,r=D.getD j Rec.none:=⟨_,rfl⟩
   rw [← hr] at x0 x1 x2 x3 hcmp HN HIs
   have y2:=HY.out (wr.alloc (.cells #[.bool r.del,.int .u64 (r.seq:Int),.string (strOfNums r.key),.string (strOfNums r.val)] 30)) (HK.out.alloc _)
   clear hr hmem hjl ha2
   by_cases he:r.key=K
   ·rw [decide_eq_true he] at hcmp
    have hb:B=true:=by rw [HB.out,HIs.out he]
    subst hb
    clear he
    go_wp2_with fail
    go_quiet (fail)
    go_wp2_with fail
    go_ret
    exact ⟨rfl,by first|exact (HK.out.alloc _).drewN _|exact HK.out.alloc _⟩
   ·rw [decide_eq_false he] at hcmp
    have HE:=hid (HN.out he)
    clear he
    go_wp2_with fail
    go_quiet (fail)
    go_wp2_with fail
    go_roundw
    case rel=>exact ⟨j+1,by omega,by go_num,HE,hid (by first|exact (HK.out.alloc _).drewN _|exact HK.out.alloc _)⟩
    case measure=>simp [intOf];omega
end
end Go.Proofs.Ytbmhdfjaakkoaaa

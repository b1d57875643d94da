/-
  OpenS; OpenR; OpenRb; TabNum; Rows2; TabRef.
-/
import Derived.Lib.SmallJoins
import Derived.Deep.Slices
import Derived.Deep.QuietTactic
import Derived.StillTailTactics
import Derived.Test.YtbmhdfjaakkoaaaM01
import Derived.Test.YtbmhdfjaakkoaaaM02
import Derived.Test.YtbmhdfjaakkoaaaM04
import Derived.Test.YtbmhdfjaakkoaaaM06
import Derived.Test.YtbmhdfjaakkoaaaM12
namespace Go.Proofs.Ytbmhdfjaakkoaaa
section
open Go.Joins Go.ChangeShapes Go.WideShapes Go.ChangeAt Go.RowKit Go.Deep
theorem nums_of_str (s:ByteArray):∃ xs,s=strOfNums xs∧Octets xs∧xs.length=s.size:=by
 refine ⟨s.data.toList.map fun b=>(b.toNat:Int),?_,fun b hb=>?_,by rw [List.length_map];rfl⟩
 ·apply ByteArray.ext
  apply Array.ext'
  rw [strOfNums_data,List.map_map]
  have e:((fun n:Int=>UInt8.ofNat n.toNat) ∘ fun b:UInt8=>(b.toNat:Int))=id:=by
   funext b
   simp
  rw [e,List.map_id]
 ·obtain ⟨x,_,rfl⟩:=List.mem_map.1 hb
  have:=x.toNat_lt
  omega
theorem plusPlain {w:World} {p:Addr} {v:Value} (j:Nat) (h:w.cell? p=some v):p.add j=⟨p.block,p.off+j,none⟩:=by
 obtain ⟨b,o,s⟩:=p
 cases s with
 | none=>unfold Addr.add;split <;> simp_all
 | some x =>
  unfold World.cell? at h
  split at h <;> simp at h
end
section
open Go.Joins Go.ChangeShapes Go.WideShapes Go.ChangeAt Go.RowKit Go.Deep
structure Rec.Arg (r:Rec):Prop where
 fine:r.Fine
 key:r.key.length≤9223372036854775807
 val:r.val.length≤9223372036854775807
theorem seq_u64 {n:Int} (h:(Lit.int .u64 n).wf=true):∃ x:Nat,n=(x:Int)∧x<18446744073709551616:=by
 have:0≤n∧n≤18446744073709551615:=by simpa [Lit.wf,IntKind.min,IntKind.max,IntKind.signed,IntKind.bits] using h
 exact ⟨n.toNat,by omega,by omega⟩
theorem rec_of_four {H:Type} {enc:TypeId × Value→H} {W:World} {sp:Nat→Bool} {v0 v1 v2 v3:Value} {y0 y1 y2 y3:DataW H × List MemPlace} {n0 n1 n2 n3:Nat}
  (t0:DataW.trod enc Try.prog W 0 sp true n0 4 [v0]=some y0) (t1:DataW.trod enc Try.prog W 0 sp true n1 28 [v1]=some y1)
  (t2:DataW.trod enc Try.prog W 0 sp true n2 9 [v2]=some y2) (t3:DataW.trod enc Try.prog W 0 sp true n3 9 [v3]=some y3) :
  ∃ r:Rec,v0=.bool r.del∧v1=.int .u64 (r.seq:Int)∧v2=.string (strOfNums r.key)∧v3=.string (strOfNums r.val)∧r.Arg:=by
 obtain ⟨b,e0,_⟩:=DataW.trod_bool Try.underlying4 t0
 obtain ⟨z,e1,_,hz⟩:=DataW.trod_int Try.underlying28 t1
 obtain ⟨s,e2,_,hs⟩:=DataW.trod_string Try.underlying9 t2
 obtain ⟨u,e3,_,hu⟩:=DataW.trod_string Try.underlying9 t3
 obtain ⟨q,rfl,hq⟩:=seq_u64 hz
 obtain ⟨xs,rfl,ox,lx⟩:=nums_of_str s
 obtain ⟨ys,rfl,oy,ly⟩:=nums_of_str u
 unfold maxLen at hs hu
 exact ⟨⟨b,q,xs,ys⟩,by simpa using e0,by simpa using e1,by simpa using e2,by simpa using e3,⟨⟨hq,ox,oy⟩,by simp only;omega,by simp only;omega⟩⟩
set_option maxRecDepth 100000 in
theorem open_rec {H:Type} {enc:TypeId × Value→H} {W:World} {base:Nat} {v:Value} {d:DataW H} {ps:List MemPlace} (hv:Value.okWide Try.prog W .any base 30 v) (h:DataW.Trod enc Try.prog W 0 (fun _=>true) true 30 v d ps) :
  ∃ r:Rec,v=recV r∧r.Arg:=by
 obtain ⟨v0,v1,v2,v3,y0,y1,y2,y3,n,rfl,_,_,t0,t1,t2,t3⟩:=open_agg4 Try.underlying30 (by kernel_rfl) (by kernel_rfl) hv h
 obtain ⟨r,rfl,rfl,rfl,rfl,hr⟩:=rec_of_four t0 t1 t2 t3
 exact ⟨r,rfl,hr⟩
set_option maxRecDepth 100000 in
theorem recs_of_trod {H:Type} {enc:TypeId × Value→H} {W:World} {a0:Option Addr} {len cap:Nat} {d:DataW H} {ps:List MemPlace} (h:DataW.Trod enc Try.prog W 0 (fun _=>true) true 22 (.slice a0 len cap) d ps) :
  ∃ (p:Option Addr) (n c:Nat) (l:List Rec),Value.slice a0 len cap=.slice p n c∧n=l.length∧n≤c∧c≤9223372036854775807∧RecsAt W p l∧(∀ r ∈ l,r.Arg):=by
 obtain ⟨fuel,hf⟩:=h
 rcases Go.Deep.open_slice Try.underlying22 hf with ⟨hcs,_⟩|⟨a,len',cap',m,n,D,Pl,hcs,_,hl,hm,hmm,_,hi⟩
 ·simp [Value.cells] at hcs
  obtain ⟨rfl,rfl,rfl⟩:=hcs
  exact ⟨none,0,0,[],rfl,rfl,Nat.le_refl _,by omega,fun i hi=>by simp at hi,fun b hb=>by simp at hb⟩
 ·simp [Value.cells] at hcs
  obtain ⟨rfl,rfl,rfl⟩:=hcs
  simp only [if_true] at hmm
  have hall:∀ i,i<len→∃ r:Rec,(W.cell? (a.add (i*4))=some (.bool r.del)∧W.cell? ⟨(a.add (i*4)).block,(a.add (i*4)).off+1,none⟩=some (.int .u64 (r.seq:Int)) ∧
    W.cell? ⟨(a.add (i*4)).block,(a.add (i*4)).off+2,none⟩=some (.string (strOfNums r.key))∧W.cell? ⟨(a.add (i*4)).block,(a.add (i*4)).off+3,none⟩=some (.string (strOfNums r.val)))∧r.Arg:=by
   intro i hlt
   obtain ⟨cs,hc,ht⟩:=hi i (by omega)
   obtain ⟨ys,n',_,_,hlen,hyl,hfs⟩:=DataW.trod_struct Try.underlying30 ht
   have hyl4:ys.length=4:=hyl
   have h4:Try.prog.cellsOf 30=4:=by kernel_rfl
   rw [h4] at hc hlen
   have hb:Try.prog.cellsOf 4=1:=by kernel_rfl
   have hu:Try.prog.cellsOf 28=1:=by kernel_rfl
   have hs:Try.prog.cellsOf 9=1:=by kernel_rfl
   obtain ⟨_,_,hat⟩:=World.cells?_some hc
   match cs,hlen with
   | [v0,v1,v2,v3],_ =>
    have t0:=hfs 0 _ rfl
    have t1:=hfs 1 _ rfl
    have t2:=hfs 2 _ rfl
    have t3:=hfs 3 _ rfl
    simp only [List.getElem_toArray,List.getElem_cons_zero,List.getElem_cons_succ] at t0 t1 t2 t3
    simp only [hb,hu,hs,List.drop_zero,List.drop_succ_cons,List.take_succ_cons,List.take_zero] at t0 t1 t2 t3
    obtain ⟨y0,hy0⟩:∃ y,ys[0]?=some y:=⟨_,List.getElem?_eq_getElem (by omega)⟩
    obtain ⟨y1,hy1⟩:∃ y,ys[1]?=some y:=⟨_,List.getElem?_eq_getElem (by omega)⟩
    obtain ⟨y2,hy2⟩:∃ y,ys[2]?=some y:=⟨_,List.getElem?_eq_getElem (by omega)⟩
    obtain ⟨y3,hy3⟩:∃ y,ys[3]?=some y:=⟨_,List.getElem?_eq_getElem (by omega)⟩
    rw [hy0] at t0;rw [hy1] at t1;rw [hy2] at t2;rw [hy3] at t3
    obtain ⟨r,rfl,rfl,rfl,rfl,hr⟩:=rec_of_four t0 t1 t2 t3
    have k0:W.cell? (a.add (i*4))=some (.bool r.del):=hat 0 (by omega)
    have k1:=hat 1 (by omega)
    have k2:=hat 2 (by omega)
    have k3:=hat 3 (by omega)
    rw [plusPlain 1 k0] at k1
    rw [plusPlain 2 k0] at k2
    rw [plusPlain 3 k0] at k3
    exact ⟨r,⟨k0,k1,k2,k3⟩,hr⟩
  haveI:Inhabited Rec:=⟨Rec.none⟩
  obtain ⟨f,hf⟩:=Go.Deep.choose_lt (α:=Rec) hall
  refine ⟨some a,len,cap,(List.range len).map f,rfl,by simp,hl,by unfold maxLen at hm;omega,fun i hi=>⟨a,rfl,?_⟩,fun z hz=>?_⟩
  ·have hi':i<len:=by simpa using hi
   have:=(hf i hi').1
   simpa [hi'] using this
  ·obtain ⟨i,hi,rfl⟩:=List.mem_map.1 hz
   exact (hf i (by simpa using hi)).2
set_option maxRecDepth 100000 in
theorem open_recs {H:Type} {enc:TypeId × Value→H} {W:World} {base:Nat} {v:Value} {d:DataW H} {ps:List MemPlace} (hv:Value.okWide Try.prog W .any base 22 v) (h:DataW.Trod enc Try.prog W 0 (fun _=>true) true 22 v d ps) :
  ∃ (p:Option Addr) (n c:Nat) (l:List Rec),v=.slice p n c∧n=l.length∧n≤c∧c≤9223372036854775807∧RecsAt W p l∧(∀ r ∈ l,r.Arg):=by
 obtain ⟨a0,len,cap,rfl⟩:=okWide_slice Try.underlying22 hv
 exact recs_of_trod h
end
section
open Go.Joins Go.ChangeShapes Go.WideShapes Go.ChangeAt Go.RowKit Go.Deep
set_option maxRecDepth 100000 in
theorem recs_bare {H:Type} {enc:TypeId × Value→H} {W:World} {p:Option Addr} {n c:Nat} {d:DataW H} {ps:List MemPlace} (h:DataW.Trod enc Try.prog W 0 (fun _=>true) true 22 (.slice p n c) d ps):p=none→n=0∧c=0:=by
 obtain ⟨fuel,hf⟩:=h
 rcases Go.Deep.open_slice Try.underlying22 hf with ⟨hcs,_⟩|⟨a,len',cap',m,k,D,Pl,hcs,_⟩
 ·simp [Value.cells] at hcs
  obtain ⟨rfl,rfl,rfl⟩:=hcs
  exact fun _=>⟨rfl,rfl⟩
 ·simp [Value.cells] at hcs
  obtain ⟨rfl,rfl,rfl⟩:=hcs
  exact fun h=>by simp at h
set_option maxRecDepth 100000 in
theorem recs_reach {H:Type} {enc:TypeId × Value→H} {W:World} {p:Option Addr} {n c:Nat} {ts:List TypeId} {ds:List (DataW H)} {d:DataW H} {ps:List MemPlace} {j:Nat} (hsz:(DataW.weightsEach Try.prog ts ds).all (·≤reachBytes)=true) (ht:ts[j]?=some 22) (hd:ds[j]?=some d)
  (h:DataW.Trod enc Try.prog W 0 (fun _=>true) true 22 (.slice p n c) d ps):n*48≤140737488351232:=by
 obtain ⟨fuel,hf⟩:=h
 rcases Go.Deep.open_slice Try.underlying22 hf with ⟨hcs,_⟩|⟨a,len',cap',m,k,D,Pl,hcs,_,_,_,_,hx,_⟩
 ·simp [Value.cells] at hcs
  obtain ⟨rfl,rfl,rfl⟩:=hcs
  omega
 ·simp [Value.cells] at hcs
  obtain ⟨rfl,rfl,rfl⟩:=hcs
  simp only [Prod.mk.injEq] at hx
  rw [hx.1] at hd
  have:=sized_slice hsz ht hd Try.underlying22
  rw [show Try.prog.bytesOf 30=48 from by kernel_rfl] at this
  simp only [List.length_map,List.length_range,reachBytes] at this
  omega
end
section
structure En where
 hash:Nat
 at_:Nat
instance:DecidableEq En:=fun a b=>decidable_of_iff (a.hash=b.hash∧a.at_=b.at_) ⟨fun h=>by cases a;cases b;simp at h;rw [h.1,h.2],fun h=>by rw [h];exact ⟨rfl,rfl⟩⟩
def En.none:En:=⟨0,0⟩
structure En.Fine (e:En):Prop where
 hash:e.hash<18446744073709551616
 at_:e.at_<4294967296
theorem En.ext' {a b:En} (h1:a.hash=b.hash) (h2:a.at_=b.at_):a=b:=by cases a;cases b;simp at h1 h2;rw [h1,h2]
theorem En.ne {a b:En} (h:a ≠ b):a.hash ≠ b.hash ∨ a.at_ ≠ b.at_:=by
 by_cases h1:a.hash=b.hash
 ·exact .inr fun h2=>h (En.ext' h1 h2)
 ·exact .inl h1
def LessE (a b:En):Prop:=a.hash<b.hash ∨ a.hash=b.hash∧a.at_<b.at_
instance (a b:En):Decidable (LessE a b):=by unfold LessE;infer_instance
theorem LessE.trans {a b c:En} (h:LessE a b) (g:LessE b c):LessE a c:=by unfold LessE at *;omega
theorem LessE.irrefl (a:En):¬ LessE a a:=by unfold LessE;omega
theorem LessE.total {a b:En} (h:a ≠ b):LessE a b ∨ LessE b a:=by
 have:=En.ne h
 unfold LessE
 omega
theorem LessE.not {a b:En} (h:¬ LessE a b) (hne:a ≠ b):LessE b a:=(LessE.total hne).resolve_left h
def putE:List En→En→List En
 | [],e=>[e]
 | x :: l,e=>if x=e then x :: l else if LessE e x then e :: x :: l else x :: putE l e
end
section
open Go.RowKit
section
variable {α:Type} {v0 v1:α→Value} {dd:α}
def TwosAt (v0 v1:α→Value) (dd:α) (w:World) (p:Option Addr) (l:List α):Prop :=
 ∀ i,i<l.length→∃ a:Addr,p=some a∧w.cell? (a.add (i*2))=some (v0 (l.getD i dd))∧w.cell? ⟨(a.add (i*2)).block,(a.add (i*2)).off+1,none⟩=some (v1 (l.getD i dd))
theorem TwosAt.keep {w w':World} {p:Option Addr} {l:List α} (h:TwosAt v0 v1 dd w p l) {S:Nat→Prop} (hk:Keeps S w w') (hs:∀ k,k<w.heap.size→¬ S k):TwosAt v0 v1 dd w' p l:=fun i hi=>by
 obtain ⟨a,rfl,c0,c1⟩:=h i hi
 exact ⟨a,rfl,hk.cell c0 (hs _ (ltOfCell c0)),hk.cell c1 (hs _ (ltOfCell c1))⟩
theorem TwosAt.nil (w:World) (p:Option Addr):TwosAt v0 v1 dd w p []:=fun i hi=>by simp at hi
def twoFlat (v0 v1:α→Value) (l:List α):List Value:=l.flatMap fun x=>[v0 x,v1 x]
theorem twoFlat_length:∀ l:List α,(twoFlat v0 v1 l).length=l.length*2
 | []=>rfl
 | x :: l=>by
  rw [twoFlat,List.flatMap_cons,List.length_append,← twoFlat,twoFlat_length l]
  simp
  omega
theorem twoFlat_at:∀ (l:List α) (i j:Nat),i<l.length→j<2→(twoFlat v0 v1 l)[i*2+j]?=[v0 (l.getD i dd),v1 (l.getD i dd)][j]?
 | [],i,j,h,_=>by simp at h
 | r :: l,0,j,_,hj=>by
  rw [twoFlat,List.flatMap_cons,List.getElem?_append_left (by simp;omega)]
  simp
 | r :: l,i+1,j,h,hj=>by
  rw [twoFlat,List.flatMap_cons,List.getElem?_append_right (by simp;omega),← twoFlat]
  have e:(i+1)*2+j - [v0 r,v1 r].length=i*2+j:=by simp;omega
  rw [e,twoFlat_at l i j (by simpa using h) hj]
  simp
theorem add_even_one (a:Addr) (i:Nat):(⟨(a.add (i*2)).block,(a.add (i*2)).off+1,none⟩:Addr)=a.add (i*2+1):=by
 unfold Addr.add
 rw [if_neg (show ¬ i*2+1=0 by omega)]
 split
 ·rename_i h
  rw [h]
 ·rfl
theorem TwosAt.cells {w:World} {ad:Addr} {l:List α} (h:TwosAt v0 v1 dd w (some ad) l) {j:Nat} {u:Value} (hj:(twoFlat v0 v1 l)[j]?=some u):w.cell? (ad.add j)=some u:=by
 have hlt:j<l.length*2:=by
  have:=(List.getElem?_eq_some_iff.1 hj).1
  rwa [twoFlat_length] at this
 have hi:j / 2<l.length:=by omega
 obtain ⟨a,ha,c0,c1⟩:=h (j / 2) hi
 obtain rfl:=Option.some.inj ha
 by_cases h2:j % 2=0
 ·have e:j=j / 2*2+0:=by omega
  rw [e,twoFlat_at (dd:=dd) l (j / 2) 0 hi (by decide)] at hj
  rw [show j=j / 2*2 by omega,c0]
  simpa using hj
 ·have e:j=j / 2*2+1:=by omega
  rw [e,twoFlat_at (dd:=dd) l (j / 2) 1 hi (by decide)] at hj
  rw [add_even_one] at c1
  rw [e,c1]
  simpa using hj
theorem TwosAt.ofOwn {w:World} {base n:Nat} {t:TypeId} {v:Value} {l:List α} (h:w.ownsRow base t 2 v n (twoFlat v0 v1 l)) (hn:n=l.length) :
  ∃ p c,v=.slice p n c∧n≤c∧c≤9223372036854775807∧(p=none→n=0∧c=0)∧TwosAt v0 v1 dd w p l:=by
 have h':=h
 rcases h with ⟨_,⟨rfl,rfl⟩|⟨g,cap,cur,rfl,hg,hh,hc1,hc2,hc3,hc4⟩⟩
 ·exact ⟨none,0,rfl,Nat.le_refl _,by decide,fun _=>⟨rfl,rfl⟩,fun i hi=>by omega⟩
 ·refine ⟨_,cap,rfl,hc1,by unfold maxLen at hc2;omega,fun h=>by simp at h,fun i hi=>?_⟩
  have hc:=h'.cells (g:=g) rfl
  have ha:∀ j u,j<2→[v0 (l.getD i dd),v1 (l.getD i dd)][j]?=some u→w.cell? ⟨g,i*2+j,none⟩=some u:=fun j u hj hu=>by
   have:=hc (i*2+j) u (by rw [twoFlat_at (dd:=dd) l i j hi hj];exact hu)
   rw [Addr.add_lit,Nat.zero_add] at this
   exact this
  refine ⟨⟨g,0,none⟩,rfl,?_,?_⟩
  all_goals simp only [Addr.add_lit,Nat.zero_add]
  ·exact ha 0 _ (by decide) rfl
  ·exact ha 1 _ (by decide) rfl
def NewTwos (v0 v1:α→Value) (dd:α) (w:World) (l:List α) (v:Value) (w':World):Prop :=
 ∃ (q:Option Addr) (m d:Nat),v=.slice q m d∧m=l.length∧m≤d∧d≤9223372036854775807∧(q=none→m=0∧d=0)∧TwosAt v0 v1 dd w' q l∧Keeps NoBlock w w'
def TwosSoFar (v0 v1:α→Value) (t:TypeId) (w0:World) (l:List α) (v:Value) (wr:World):Prop:=wr.ownsRow w0.heap.size t 2 v l.length (twoFlat v0 v1 l)∧Below w0.heap.size w0 wr
theorem TwosSoFar.start {t:TypeId} (w0:World):TwosSoFar v0 v1 t w0 ([]:List α) (.slice none 0 0) w0:=⟨⟨by simp [twoFlat],.inl ⟨rfl,rfl⟩⟩,Below.refl _ _⟩
theorem TwosSoFar.alloc {t:TypeId} {w0 wr:World} {l:List α} {v:Value} (h:TwosSoFar v0 v1 t w0 l v wr) (o:Obj):TwosSoFar v0 v1 t w0 l v (wr.alloc o):=⟨World.ownsRow.alloc h.1 o,h.2.alloc h.2.size o⟩
theorem TwosSoFar.keep {t:TypeId} {w0 wr w':World} {l:List α} {v:Value} (h:TwosSoFar v0 v1 t w0 l v wr) (hk:Keeps NoBlock wr w'):TwosSoFar v0 v1 t w0 l v w':=by
 refine ⟨⟨h.1.1,?_⟩,h.2.trans (hk.below h.2.size (fun _ _ h=>h))⟩
 rcases h.1.2 with hn|⟨g,cap,cur,rfl,hb,hgg,rest⟩
 ·exact .inl hn
 ·have hlt:g<wr.heap.size:=(Array.getElem?_eq_some_iff.1 hgg).1
  exact .inr ⟨g,cap,cur,rfl,hb,(hk.block g hlt (fun h=>h)).trans hgg,rest⟩
theorem TwosSoFar.keeps {t:TypeId} {w0 wr:World} {l:List α} {v:Value} (h:TwosSoFar v0 v1 t w0 l v wr):Keeps NoBlock w0 wr:=.ofBelow h.2
theorem TwosSoFar.new {t:TypeId} {w0 wr:World} {l:List α} {v:Value} (h:TwosSoFar v0 v1 t w0 l v wr):NewTwos v0 v1 dd w0 l v wr:=by
 obtain ⟨p,c,hv,h1,h2,h3,h4⟩:=TwosAt.ofOwn (dd:=dd) h.1 rfl
 exact ⟨p,_,c,hv,rfl,h1,h2,h3,h4,Keeps.ofBelow h.2⟩
theorem TwosSoFar.apart {t:TypeId} {w0 wr:World} {l:List α} {v:Value} (h:TwosSoFar v0 v1 t w0 l v wr) {k:Nat} (hk:wr.heap.size≤k):v.ownBlock ≠ some k:=fun e=>by
 have:=(h.1.lt k e).2
 omega
theorem TwosSoFar.made {t:TypeId} (w:World):TwosSoFar v0 v1 t w ([]:List α) (.slice (some ⟨w.heap.size,0,none⟩) 0 0) (w.alloc (.cells #[] t)) :=
 ⟨World.ownsRow_made w #[] 0 (Nat.le_refl _) (Nat.zero_le _) rfl,(Below.refl _ _).alloc (Nat.le_refl _) _⟩
end
end
section
open Go.RowKit
def enH (e:En):Value:=.int .u64 (e.hash:Int)
def enA (e:En):Value:=.int .u32 (e.at_:Int)
def EnsAt (w:World) (p:Option Addr) (l:List En):Prop:=TwosAt enH enA En.none w p l
theorem EnsAt.at_ {w:World} {p:Option Addr} {l:List En} (h:EnsAt w p l) (j:Nat) (hj:j<l.length):∃ a:Addr,p=some a∧w.cell? (a.add (j*2))=some (.int .u64 ((l.getD j En.none).hash:Int))∧w.cell? ⟨(a.add (j*2)).block,(a.add (j*2)).off+1,none⟩=some (.int .u32 ((l.getD j En.none).at_:Int)):=h j hj
theorem EnsAt.keep {w w':World} {p:Option Addr} {l:List En} (h:EnsAt w p l) (hk:Keeps NoBlock w w'):EnsAt w' p l:=TwosAt.keep h hk (fun _ _ h=>h)
end
end Go.Proofs.Ytbmhdfjaakkoaaa

/-
  OpenS; OpenR; OpenRR; RecNone; ImLaws3; ImApWalk.
-/
import Derived.Lib.SmallJoins
import Derived.Deep.Slices
import Derived.Test.YtehkjkcnigknkaaGreatV01
import Derived.Test.YtehkjkcnigknkaaGreatV02
import Derived.Test.YtehkjkcnigknkaaGreatV07
import Derived.Test.YtehkjkcnigknkaaGreatV08
import Derived.Test.YtehkjkcnigknkaaGreatV18
import Derived.Test.YtehkjkcnigknkaaGreatV20
import Derived.Test.YtehkjkcnigknkaaGreatV21
namespace Go.Proofs.YtehkjkcnigknkaaGreat
section
open Go.Joins Go.ChangeShapes Go.WideShapes Go.ChangeAt Go.RowKit Go.Deep
theorem nums_of_str (s:ByteArray):∃ xs,s=strOfNums xs∧Octets xs∧xs.length=s.size:=by
 refine ⟨s.data.toList.map fun b=>(b.toNat:Int),?_,fun b hb=>?_,by rw [List.length_map];rfl⟩
 ·apply ByteArray.ext
  apply Array.ext'
  rw [strOfNums_data,List.map_map]
  have e:((fun n:Int=>UInt8.ofNat n.toNat) ∘ fun b:UInt8=>(b.toNat:Int))=id:=by
   funext b
   simp
  rw [e,List.map_id]
 ·obtain ⟨x,_,rfl⟩:=List.mem_map.1 hb
  have:=x.toNat_lt
  omega
theorem plusPlain {w:World} {p:Addr} {v:Value} (j:Nat) (h:w.cell? p=some v):p.add j=⟨p.block,p.off+j,none⟩:=by
 obtain ⟨b,o,s⟩:=p
 cases s with
 | none=>unfold Addr.add;split <;> simp_all
 | some x =>
  unfold World.cell? at h
  split at h <;> simp at h
end
section
open Go.Joins Go.ChangeShapes Go.WideShapes Go.ChangeAt Go.RowKit Go.Deep
structure Rec.Arg (r:Rec):Prop where
 fine:r.Fine
 key:r.key.length≤9223372036854775807
 val:r.val.length≤9223372036854775807
theorem seq_u64 {n:Int} (h:(Lit.int .u64 n).wf=true):∃ x:Nat,n=(x:Int)∧x<18446744073709551616:=by
 have:0≤n∧n≤18446744073709551615:=by simpa [Lit.wf,IntKind.min,IntKind.max,IntKind.signed,IntKind.bits] using h
 exact ⟨n.toNat,by omega,by omega⟩
theorem rec_of_four {H:Type} {enc:TypeId × Value→H} {W:World} {sp:Nat→Bool} {v0 v1 v2 v3:Value} {y0 y1 y2 y3:DataW H × List MemPlace} {n0 n1 n2 n3:Nat}
  (t0:DataW.trod enc Tryz.prog W 0 sp true n0 4 [v0]=some y0) (t1:DataW.trod enc Tryz.prog W 0 sp true n1 46 [v1]=some y1)
  (t2:DataW.trod enc Tryz.prog W 0 sp true n2 9 [v2]=some y2) (t3:DataW.trod enc Tryz.prog W 0 sp true n3 9 [v3]=some y3) :
  ∃ r:Rec,v0=.bool r.del∧v1=.int .u64 (r.seq:Int)∧v2=.string (strOfNums r.key)∧v3=.string (strOfNums r.val)∧r.Arg:=by
 obtain ⟨b,e0,_⟩:=DataW.trod_bool Tryz.underlying4 t0
 obtain ⟨z,e1,_,hz⟩:=DataW.trod_int Tryz.underlying46 t1
 obtain ⟨s,e2,_,hs⟩:=DataW.trod_string Tryz.underlying9 t2
 obtain ⟨u,e3,_,hu⟩:=DataW.trod_string Tryz.underlying9 t3
 obtain ⟨q,rfl,hq⟩:=seq_u64 hz
 obtain ⟨xs,rfl,ox,lx⟩:=nums_of_str s
 obtain ⟨ys,rfl,oy,ly⟩:=nums_of_str u
 unfold maxLen at hs hu
 exact ⟨⟨b,q,xs,ys⟩,by simpa using e0,by simpa using e1,by simpa using e2,by simpa using e3,⟨⟨hq,ox,oy⟩,by simp only;omega,by simp only;omega⟩⟩
set_option maxRecDepth 100000 in
theorem recs_of_trod {H:Type} {enc:TypeId × Value→H} {W:World} {a0:Option Addr} {len cap:Nat} {d:DataW H} {ps:List MemPlace} (h:DataW.Trod enc Tryz.prog W 0 (fun _=>true) true 22 (.slice a0 len cap) d ps) :
  ∃ (p:Option Addr) (n c:Nat) (l:List Rec),Value.slice a0 len cap=.slice p n c∧n=l.length∧n≤c∧c≤9223372036854775807∧RecsAt W p l∧(∀ r ∈ l,r.Arg):=by
 obtain ⟨fuel,hf⟩:=h
 rcases Go.Deep.open_slice Tryz.underlying22 hf with ⟨hcs,_⟩|⟨a,len',cap',m,n,D,Pl,hcs,_,hl,hm,hmm,_,hi⟩
 ·simp [Value.cells] at hcs
  obtain ⟨rfl,rfl,rfl⟩:=hcs
  exact ⟨none,0,0,[],rfl,rfl,Nat.le_refl _,by omega,fun i hi=>by simp at hi,fun b hb=>by simp at hb⟩
 ·simp [Value.cells] at hcs
  obtain ⟨rfl,rfl,rfl⟩:=hcs
  simp only [if_true] at hmm
  have hall:∀ i,i<len→∃ r:Rec,(W.cell? (a.add (i*4))=some (.bool r.del)∧W.cell? ⟨(a.add (i*4)).block,(a.add (i*4)).off+1,none⟩=some (.int .u64 (r.seq:Int)) ∧
    W.cell? ⟨(a.add (i*4)).block,(a.add (i*4)).off+2,none⟩=some (.string (strOfNums r.key))∧W.cell? ⟨(a.add (i*4)).block,(a.add (i*4)).off+3,none⟩=some (.string (strOfNums r.val)))∧r.Arg:=by
   intro i hlt
   obtain ⟨cs,hc,ht⟩:=hi i (by omega)
   obtain ⟨ys,n',_,_,hlen,hyl,hfs⟩:=DataW.trod_struct Tryz.underlying48 ht
   have hyl4:ys.length=4:=hyl
   have h4:Tryz.prog.cellsOf 48=4:=by kernel_rfl
   rw [h4] at hc hlen
   have hb:Tryz.prog.cellsOf 4=1:=by kernel_rfl
   have hu:Tryz.prog.cellsOf 46=1:=by kernel_rfl
   have hs:Tryz.prog.cellsOf 9=1:=by kernel_rfl
   obtain ⟨_,_,hat⟩:=World.cells?_some hc
   match cs,hlen with
   | [v0,v1,v2,v3],_ =>
    have t0:=hfs 0 _ rfl
    have t1:=hfs 1 _ rfl
    have t2:=hfs 2 _ rfl
    have t3:=hfs 3 _ rfl
    simp only [List.getElem_toArray,List.getElem_cons_zero,List.getElem_cons_succ] at t0 t1 t2 t3
    simp only [hb,hu,hs,List.drop_zero,List.drop_succ_cons,List.take_succ_cons,List.take_zero] at t0 t1 t2 t3
    obtain ⟨y0,hy0⟩:∃ y,ys[0]?=some y:=⟨_,List.getElem?_eq_getElem (by omega)⟩
    obtain ⟨y1,hy1⟩:∃ y,ys[1]?=some y:=⟨_,List.getElem?_eq_getElem (by omega)⟩
    obtain ⟨y2,hy2⟩:∃ y,ys[2]?=some y:=⟨_,List.getElem?_eq_getElem (by omega)⟩
    obtain ⟨y3,hy3⟩:∃ y,ys[3]?=some y:=⟨_,List.getElem?_eq_getElem (by omega)⟩
    rw [hy0] at t0;rw [hy1] at t1;rw [hy2] at t2;rw [hy3] at t3
    obtain ⟨r,rfl,rfl,rfl,rfl,hr⟩:=rec_of_four t0 t1 t2 t3
    have k0:W.cell? (a.add (i*4))=some (.bool r.del):=hat 0 (by omega)
    have k1:=hat 1 (by omega)
    have k2:=hat 2 (by omega)
    have k3:=hat 3 (by omega)
    rw [plusPlain 1 k0] at k1
    rw [plusPlain 2 k0] at k2
    rw [plusPlain 3 k0] at k3
    exact ⟨r,⟨k0,k1,k2,k3⟩,hr⟩
  haveI:Inhabited Rec:=⟨Rec.none⟩
  obtain ⟨f,hf⟩:=Go.Deep.choose_lt (α:=Rec) hall
  refine ⟨some a,len,cap,(List.range len).map f,rfl,by simp,hl,by unfold maxLen at hm;omega,fun i hi=>⟨a,rfl,?_⟩,fun z hz=>?_⟩
  ·have hi':i<len:=by simpa using hi
   have:=(hf i hi').1
   simpa [hi'] using this
  ·obtain ⟨i,hi,rfl⟩:=List.mem_map.1 hz
   exact (hf i (by simpa using hi)).2
end
section
open Go.Joins Go.ChangeShapes Go.WideShapes Go.ChangeAt Go.RowKit Go.Deep
def RowsAt (w:World) (q:Option Addr) (n:Nat) (f:Nat→List Rec):Prop :=
 ∀ i,i<n→∃ (a:Addr) (p:Option Addr) (N c:Nat),q=some a∧w.cell? (a.add i)=some (.slice p N c)∧N=(f i).length∧N≤c∧c≤9223372036854775807∧RecsAt w p (f i)∧(∀ r ∈ f i,r.Arg)
theorem RowsAt.keep {w w':World} {S:Nat→Prop} {q:Option Addr} {n:Nat} {f:Nat→List Rec} (h:RowsAt w q n f) (hk:Keeps S w w') (hs:∀ k,k<w.heap.size→¬ S k):RowsAt w' q n f:=fun i hi=>by
 obtain ⟨a,p,N,c,e1,e2,e3,e4,e5,e6,e7⟩:=h i hi
 exact ⟨a,p,N,c,e1,hk.cell e2 (hs _ (ltOfCell e2)),e3,e4,e5,e6.keep hk hs,e7⟩
set_option maxRecDepth 100000 in
theorem open_recrows {H:Type} {enc:TypeId × Value→H} {W:World} {base:Nat} {v:Value} {d:DataW H} {ps:List MemPlace} (hv:Value.okWide Tryz.prog W .any base 45 v) (h:DataW.Trod enc Tryz.prog W 0 (fun _=>true) true 45 v d ps) :
  ∃ (q:Option Addr) (n c:Nat) (f:Nat→List Rec),v=.slice q n c∧n≤c∧c≤9223372036854775807∧RowsAt W q n f:=by
 obtain ⟨a0,len,cap,rfl⟩:=okWide_slice Tryz.underlying45 hv
 obtain ⟨fuel,hf⟩:=h
 rcases Go.Deep.open_slice1 Tryz.underlying45 (by kernel_rfl) hf with ⟨hcs,_⟩|⟨a,len',cap',m,n,V,D,Pl,hcs,_,hl,hm,hmm,_,hi⟩
 ·simp [Value.cells] at hcs
  obtain ⟨rfl,rfl,rfl⟩:=hcs
  exact ⟨none,0,0,fun _=>[],rfl,Nat.le_refl _,by omega,fun i h=>by omega⟩
 ·simp [Value.cells] at hcs
  obtain ⟨rfl,rfl,rfl⟩:=hcs
  simp only [if_true] at hmm
  have hall:∀ i,i<len→∃ xs:List Rec,∃ (p:Option Addr) (N c:Nat),W.cell? (a.add i)=some (.slice p N c)∧N=xs.length∧N≤c∧c≤9223372036854775807∧RecsAt W p xs∧(∀ r ∈ xs,r.Arg):=by
   intro i hlt
   obtain ⟨hc,ht⟩:=hi i (by omega)
   have hs:∃ a1 l1 c1,V i=.slice a1 l1 c1:=by
    rcases Go.Deep.open_slice Tryz.underlying22 ht with ⟨hcs,_⟩|⟨b,l1,c1,_,_,_,_,hcs,_⟩
    ·exact ⟨_,_,_,List.head_eq_of_cons_eq hcs⟩
    ·exact ⟨_,_,_,List.head_eq_of_cons_eq hcs⟩
   obtain ⟨a1,l1,c1,hV⟩:=hs
   rw [hV] at hc ht
   obtain ⟨p,N,c,l,e,h1,h2,h3,h4,h5⟩:=recs_of_trod (W:=W) (a0:=a1) (len:=l1) (cap:=c1) ⟨_,ht⟩
   rw [e] at hc
   exact ⟨l,p,N,c,hc,h1,h2,h3,h4,h5⟩
  obtain ⟨f,hf⟩:=Go.Deep.choose_lt (α:=List Rec) (p:=fun i xs=>∃ (p:Option Addr) (N c:Nat),W.cell? (a.add i)=some (.slice p N c)∧N=xs.length∧N≤c∧c≤9223372036854775807∧RecsAt W p xs∧(∀ r ∈ xs,r.Arg)) hall
  refine ⟨some a,len,cap,f,rfl,hl,by unfold maxLen at hm;omega,fun i hlt=>?_⟩
  obtain ⟨p,N,c,h1⟩:=hf i hlt
  exact ⟨a,p,N,c,rfl,h1⟩
end
section
theorem readEnd_none {d:Bool} {s:Nat} {k v r:List Int} (h:(readEnd d s k v r).1 ≠ 0):(readEnd d s k v r).2=Rec.none:=by
 unfold readEnd at h ⊢
 by_cases hr:r=[]
 ·rw [if_pos hr] at h;exact absurd rfl h
 ·rw [if_neg hr]
theorem readKey_none {k:Int} {s:Nat} {xs:List Int} (h:(readKey k s xs).1 ≠ 0):(readKey k s xs).2=Rec.none:=by
 unfold readKey at h ⊢
 by_cases h1:(vtext xs 1 4096).e ≠ 0
 ·rw [if_pos h1]
 ·rw [if_neg h1] at h ⊢
  by_cases h2:k=3
  ·rw [if_pos h2] at h ⊢
   exact readEnd_none h
  ·rw [if_neg h2] at h ⊢
   by_cases h3:(vtext (xs.drop (vtext xs 1 4096).n) 0 1048576).e ≠ 0
   ·rw [if_pos h3]
   ·rw [if_neg h3] at h ⊢
    exact readEnd_none h
theorem readR_none {xs:List Int} (h:(readR xs).1 ≠ 0):(readR xs).2=Rec.none:=by
 cases xs with
 | nil=>rfl
 | cons k xs =>
  change (readKind k xs).1 ≠ 0 at h
  change (readKind k xs).2=Rec.none
  unfold readKind at h ⊢
  by_cases h1:k ≠ 2∧k ≠ 3
  ·rw [if_pos h1]
  ·rw [if_neg h1] at h ⊢
   by_cases h2:(vget xs).e ≠ 0
   ·rw [if_pos h2]
   ·rw [if_neg h2] at h ⊢
    exact readKey_none h
end
section
open Go.RowKit
end
section
open Go.RowKit
theorem few_lit {l:List Rec} {n k:Nat} (h:fewR l n k=true):l.length≤n∧∀ r ∈ l,r.key.length≤k∧r.val.length≤k:=by
 unfold fewR at h
 rw [Bool.and_eq_true,decide_eq_true_eq] at h
 refine ⟨h.2,fun r hr=>?_⟩
 have:=List.all_eq_true.1 h.1 r hr
 unfold littleR at this
 rw [Bool.and_eq_true,decide_eq_true_eq,decide_eq_true_eq] at this
 exact this
end
end Go.Proofs.YtehkjkcnigknkaaGreat

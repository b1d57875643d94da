/-
  OpenE; OpenEd; OpenZ.
-/
import Derived.Lib.SmallJoins
import Derived.Deep.Slices
import Derived.Test.YtehkjkcnigknkaaGreatM05
import Derived.Test.YtehkjkcnigknkaaGreatM08
import Derived.Test.YtehkjkcnigknkaaGreatM09
import Derived.Test.YtehkjkcnigknkaaGreatM15
import Derived.Test.YtehkjkcnigknkaaGreatM42
import Derived.Test.YtehkjkcnigknkaaGreatM43
import Derived.Test.YtehkjkcnigknkaaGreatM44
namespace Go.Proofs.YtehkjkcnigknkaaGreat
section
open Go.Joins Go.ChangeShapes Go.WideShapes Go.ChangeAt Go.RowKit Go.Deep
end
section
open Go.Joins Go.ChangeShapes Go.WideShapes Go.ChangeAt Go.RowKit Go.Deep
theorem ed_of_two {H:Type} {enc:TypeId × Value→H} {W:World} {sp:Nat→Bool} {v0 v1:Value} {y0 y1:DataW H × List MemPlace} {n0 n1:Nat}
  (t0:DataW.trod enc Tryz.prog W 0 sp true n0 39 [v0]=some y0) (t1:DataW.trod enc Tryz.prog W 0 sp true n1 5 [v1]=some y1) :
  ∃ r:Nat × Nat,v0=.int .u16 (r.1:Int)∧v1=.int .u8 (r.2:Int)∧r.1<65536∧r.2<256:=by
 obtain ⟨a,e0,_,w0⟩:=DataW.trod_int Tryz.underlying39 t0
 obtain ⟨b,e1,_,w1⟩:=DataW.trod_int Tryz.underlying5 t1
 have ha:=u16_in w0
 have hb:0≤b∧b≤255:=by simpa [Lit.wf,IntKind.min,IntKind.max,IntKind.signed,IntKind.bits] using w1
 obtain ⟨x,rfl⟩:∃ x:Nat,a=(x:Int):=⟨a.toNat,by omega⟩
 obtain ⟨y,rfl⟩:∃ y:Nat,b=(y:Int):=⟨b.toNat,by omega⟩
 exact ⟨(x,y),by simpa using e0,by simpa using e1,by simp only;omega,by simp only;omega⟩
set_option maxRecDepth 100000 in
theorem open_edits {H:Type} {enc:TypeId × Value→H} {W:World} {base:Nat} {v:Value} {d:DataW H} {ps:List MemPlace} (hv:Value.okWide Tryz.prog W .any base 38 v) (h:DataW.Trod enc Tryz.prog W 0 (fun _=>true) true 38 v d ps) :
  ∃ (p:Option Addr) (n c:Nat) (l:List (Nat × Nat)),v=.slice p n c∧n=l.length∧n≤9223372036854775807∧(∀ x ∈ l,x.1<65536∧x.2<256)∧TwosAt edA edB (0,0) W p l:=by
 obtain ⟨a0,len,cap,rfl⟩:=okWide_slice Tryz.underlying38 hv
 obtain ⟨fuel,hf⟩:=h
 rcases Go.Deep.open_slice Tryz.underlying38 hf with ⟨hcs,_⟩|⟨a,len',cap',m,n,D,Pl,hcs,_,hl,hm,hmm,_,hi⟩
 ·simp [Value.cells] at hcs
  obtain ⟨rfl,rfl,rfl⟩:=hcs
  exact ⟨none,0,0,[],rfl,rfl,by omega,fun b hb=>by simp at hb,fun i hi=>by simp at hi⟩
 ·simp [Value.cells] at hcs
  obtain ⟨rfl,rfl,rfl⟩:=hcs
  simp only [if_true] at hmm
  have hall:∀ i,i<len→∃ r:Nat × Nat,(W.cell? (a.add (i*2))=some (.int .u16 (r.1:Int))∧W.cell? ⟨(a.add (i*2)).block,(a.add (i*2)).off+1,none⟩=some (.int .u8 (r.2:Int)))∧r.1<65536∧r.2<256:=by
   intro i hlt
   obtain ⟨cs,hc,ht⟩:=hi i (by omega)
   obtain ⟨ys,n',_,_,hlen,hyl,hfs⟩:=DataW.trod_struct Tryz.underlying41 ht
   have hyl2:ys.length=2:=hyl
   have h2:Tryz.prog.cellsOf 41=2:=by kernel_rfl
   rw [h2] at hc hlen
   have hs:Tryz.prog.cellsOf 39=1:=by kernel_rfl
   have hs2:Tryz.prog.cellsOf 5=1:=by kernel_rfl
   obtain ⟨_,_,hat⟩:=World.cells?_some hc
   match cs,hlen with
   | [v0,v1],_ =>
    have t0:=hfs 0 _ rfl
    have t1:=hfs 1 _ rfl
    simp only [List.getElem_toArray,List.getElem_cons_zero,List.getElem_cons_succ] at t0 t1
    simp only [hs,hs2,List.drop_zero,List.drop_succ_cons,List.take_succ_cons,List.take_zero] at t0 t1
    obtain ⟨y0,hy0⟩:∃ y,ys[0]?=some y:=⟨_,List.getElem?_eq_getElem (by omega)⟩
    obtain ⟨y1,hy1⟩:∃ y,ys[1]?=some y:=⟨_,List.getElem?_eq_getElem (by omega)⟩
    rw [hy0] at t0;rw [hy1] at t1
    obtain ⟨r,rfl,rfl,hr⟩:=ed_of_two t0 t1
    have k0:W.cell? (a.add (i*2))=some (.int .u16 (r.1:Int)):=hat 0 (by omega)
    have k1:=hat 1 (by omega)
    rw [plusPlain 1 k0] at k1
    exact ⟨r,⟨k0,k1⟩,hr⟩
  haveI:Inhabited (Nat × Nat):=⟨(0,0)⟩
  obtain ⟨f,hf⟩:=Go.Deep.choose_lt (α:=Nat × Nat) hall
  refine ⟨some a,len,cap,(List.range len).map f,rfl,by simp,by unfold maxLen at hm;omega,fun z hz=>?_,fun i hi=>⟨a,rfl,?_⟩⟩
  ·obtain ⟨i,hi,rfl⟩:=List.mem_map.1 hz
   exact (hf i (by simpa using hi)).2
  ·have hi':i<len:=by simpa using hi
   have:=(hf i hi').1
   simpa [hi',edA,edB] using this
end
section
open Go.ChangeShapes Go.WideShapes Go.ChangeAt Go.RowKit
theorem i64_wf {n:Int} (h:(Lit.int .i64 n).wf=true):-9223372036854775808≤n∧n≤9223372036854775807:=by
 simpa [Lit.wf,IntKind.min,IntKind.max,IntKind.signed,IntKind.bits] using h
end
end Go.Proofs.YtehkjkcnigknkaaGreat

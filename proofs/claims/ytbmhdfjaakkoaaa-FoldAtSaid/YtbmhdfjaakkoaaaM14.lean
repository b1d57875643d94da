/-
  TabRef2; TabRef3; TabGet; BufO; TabLaws; OpenE.
-/
import Derived.Deep.RegionHeld3
import Derived.Lib.SmallJoins
import Derived.Deep.Slices
import Derived.Test.YtbmhdfjaakkoaaaM02
import Derived.Test.YtbmhdfjaakkoaaaM05
import Derived.Test.YtbmhdfjaakkoaaaM12
import Derived.Test.YtbmhdfjaakkoaaaM13
namespace Go.Proofs.Ytbmhdfjaakkoaaa
section
open Go.RowKit
structure PutSt (l:List En) (e:En) (j:Nat) (o:List En) (b:Bool):Prop where
 yes:b=true→o ++ l.drop j=putE l e
 no:b=false→o=l.take j∧o ++ putE (l.drop j) e=putE l e
 len:o.length≤j+1
theorem PutSt.start (l:List En) (e:En):PutSt l e 0 [] false:=⟨fun h=>by simp at h,fun _=>⟨rfl,rfl⟩,Nat.zero_le _⟩
theorem drop_getD {l:List En} {j:Nat} (hj:j<l.length):l.drop j=l.getD j En.none :: l.drop (j+1):=by
 rw [List.drop_eq_getElem_cons hj]
 simp [hj]
theorem take_getD {l:List En} {j:Nat} (hj:j<l.length):l.take (j+1)=l.take j ++ [l.getD j En.none]:=by
 rw [List.take_succ_eq_append_getElem hj]
 simp [hj]
theorem PutSt.done {l:List En} {e:En} {j:Nat} {o:List En} (h:PutSt l e j o true) (hj:j<l.length) (hl:o.length≤j+1):PutSt l e (j+1) (o ++ [l.getD j En.none]) true :=
 ⟨fun _=>by rw [← h.yes rfl,drop_getD hj,List.append_assoc];rfl,fun h=>by simp at h,by rw [List.length_append];simp;exact hl⟩
theorem PutSt.same {l:List En} {e:En} {j:Nat} {o:List En} (h:PutSt l e j o false) (hj:j<l.length) (he:l.getD j En.none=e):PutSt l e (j+1) (o ++ [l.getD j En.none]) true:=by
 obtain ⟨h1,h2⟩:=h.no rfl
 refine ⟨fun _=>?_,fun h=>by simp at h,?_⟩
 ·rw [← h2,drop_getD hj,putE,if_pos he,List.append_assoc]
  rfl
 ·rw [h1,List.length_append,List.length_take];simp;omega
theorem PutSt.ahead {l:List En} {e:En} {j:Nat} {o:List En} (h:PutSt l e j o false) (hj:j<l.length) (he:l.getD j En.none ≠ e) (hl:LessE e (l.getD j En.none)):PutSt l e (j+1) ((o ++ [e]) ++ [l.getD j En.none]) true:=by
 obtain ⟨h1,h2⟩:=h.no rfl
 refine ⟨fun _=>?_,fun h=>by simp at h,?_⟩
 ·rw [← h2,drop_getD hj,putE,if_neg he,if_pos hl,List.append_assoc,List.append_assoc]
  rfl
 ·rw [h1,List.length_append,List.length_append,List.length_take];simp;omega
theorem PutSt.on {l:List En} {e:En} {j:Nat} {o:List En} (h:PutSt l e j o false) (hj:j<l.length) (he:l.getD j En.none ≠ e) (hl:¬ LessE e (l.getD j En.none)):PutSt l e (j+1) (o ++ [l.getD j En.none]) false:=by
 obtain ⟨h1,h2⟩:=h.no rfl
 refine ⟨fun h=>by simp at h,fun _=>⟨?_,?_⟩,?_⟩
 ·rw [h1,take_getD hj]
 ·rw [← h2,drop_getD hj,putE,if_neg he,if_neg hl,List.append_assoc]
  rfl
 ·rw [h1,List.length_append,List.length_take];simp;omega
end
section
open Go.RowKit
end
section
open Go.RowKit
theorem TwosSoFar.setOther {α:Type} {v0 v1:α→Value} {t:TypeId} {w0 wr:World} {l:List α} {v:Value} (h:TwosSoFar v0 v1 t w0 l v wr) {p:Addr} (hp:v.ownBlock ≠ some p.block) (hb:w0.heap.size≤p.block) (x:Value):TwosSoFar v0 v1 t w0 l v (wr.setCell p x) :=
 ⟨ownsRow_setCell_other h.1 hp _,h.2.setCell hb _⟩
end
section
open Go.RowKit
end
section
open Go.RowKit
end
section
open Go.Joins Go.ChangeShapes Go.WideShapes Go.ChangeAt Go.RowKit Go.Deep
set_option maxRecDepth 100000 in
theorem open_strE {H:Type} {enc:TypeId × Value→H} {W:World} {base:Nat} {v:Value} {d:DataW H} {ps:List MemPlace} (hv:Value.okWide Try.prog W .any base 9 v) (h:DataW.Trod enc Try.prog W 0 (fun _=>true) true 9 v d ps) :
  ∃ xs:List Int,v=.string (strOfNums xs)∧Octets xs∧xs.length≤9223372036854775807:=by
 obtain ⟨fuel,hf⟩:=h
 obtain ⟨s,e0,_,hs⟩:=DataW.trod_string Try.underlying9 hf
 obtain ⟨xs,rfl,ox,lx⟩:=nums_of_str s
 unfold maxLen at hs
 obtain ⟨s',rfl⟩:=okWide_string Try.underlying9 hv
 refine ⟨xs,?_,ox,by omega⟩
 simpa [Value.cells] using e0
end
end Go.Proofs.Ytbmhdfjaakkoaaa

/-
  RecRef2; In8; ThinSum; ThinAll; ThinLives; ChecksWalk.
-/
import Derived.BigQuiet
import Derived.Lib.SlBytesConst
import Derived.Test.YtbmhdfjaakkoaaaM01
import Derived.Test.YtbmhdfjaakkoaaaM03
import Derived.Test.YtbmhdfjaakkoaaaM06
namespace Go.Proofs.Ytbmhdfjaakkoaaa
section
open Go.RowKit
end
section
open Go.RowKit
structure In8 (w:World) (p:Option Addr) (N c:Nat) (xs:List Int):Prop where
 len:N=xs.length
 cap:N≤c
 room:c≤9223372036854775807
 bare:p=none→N=0∧c=0
 oct:Octets xs
 at_:Bytes8 w p xs
theorem In8.nil (w:World):In8 w none 0 0 []:=⟨rfl,Nat.le_refl _,by decide,fun _=>⟨rfl,rfl⟩,fun b hb=>by simp at hb,Bytes8.nil _ _⟩
theorem Bytes8.left {w:World} {p:Option Addr} {xs ys:List Int} (h:Bytes8 w p (xs ++ ys)):Bytes8 w p xs:=fun h0=>by
 obtain ⟨a,ha,hc⟩:=h (by rw [List.length_append];omega)
 refine ⟨a,ha,fun i hi=>?_⟩
 rw [hc i (by rw [List.length_append];omega),List.getD_eq_getElem?_getD,List.getD_eq_getElem?_getD,List.getElem?_append_left hi]
end
section
open Go.RowKit
end
section
open Go.RowKit
end
section
open Go.RowKit
end
section
open Go.RowKit
end
end Go.Proofs.Ytbmhdfjaakkoaaa

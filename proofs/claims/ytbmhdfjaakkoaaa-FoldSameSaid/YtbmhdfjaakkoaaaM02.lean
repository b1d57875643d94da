/-
  BufB; Ref1; VarNum; VarGet; Ref2; Set3.
-/
import Derived.Laws.BytesArg
import Derived.Deep.RegionHeld3
import Derived.Deep.Cut
import Derived.Test.YtbmhdfjaakkoaaaM01
namespace Go.Proofs.Ytbmhdfjaakkoaaa
section
open Go.RowKit
theorem str_size (xs:List Int):(strOfNums xs).size=xs.length:=by simp [strOfNums,ByteArray.size]
end
section
open Go.RowKit
end
section
end
section
open Go.RowKit
section
variable {k:Nat} {p:Option Addr} {xs:List Int} {N c a:Nat} {w:World} {i X:Nat} {wr:World}
end
end
section
open Go.RowKit
section
variable {xs:List Int} {a:Int} {B R:Nat} {w:World} {i X:Nat} {wr:World}
end
end
section
open Go.RowKit
end
end Go.Proofs.Ytbmhdfjaakkoaaa

/-
  ConfRef; CobsOct; FrNum; ElNum; ThinRef; ThinRefSum.
-/
import Derived.Deep.RegionHeld3
import Derived.Deep.CutRange
import Derived.Deep.DeepCutAuto
import Derived.StillTailTactics
import Derived.Test.YtbmhdfjaakkoaaaM01
import Derived.Test.YtbmhdfjaakkoaaaM02
import Derived.Test.YtbmhdfjaakkoaaaM03
import Derived.Test.YtbmhdfjaakkoaaaM05
namespace Go.Proofs.Ytbmhdfjaakkoaaa
section
open Go.RowKit
end
section
end
section
end
section
structure Pr where
 key:List Int
 val:List Int
def Pr.none:Pr:=⟨[],[]⟩
structure Pr.Fine (p:Pr):Prop where
 key:Octets p.key
 val:Octets p.val
end
section
open Go.RowKit
end
section
open Go.RowKit
end
end Go.Proofs.Ytbmhdfjaakkoaaa

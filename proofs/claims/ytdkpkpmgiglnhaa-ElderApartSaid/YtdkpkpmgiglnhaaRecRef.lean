/-
  The document's Text, End, GetText, where it goes on and where it stopped; its Check and Body of a record.
-/
import Derived.Test.YtdkpkpmgiglnhaaRef2
import Derived.Test.YtdkpkpmgiglnhaaSet3
import Derived.Test.YtdkpkpmgiglnhaaRecNum
import Derived.Test.YtdkpkpmgiglnhaaVarPut
import Derived.Deep.RegionHeld3
import Derived.Lib.Bytes
namespace Go.Proofs.Ytdkpkpmgiglnhaa
open Go.RowKit

/-- A record, as a value. -/
def recV (r : Rec) : Value := .agg #[.bool r.del, .int .u64 (r.seq : Int), .string (strOfNums r.key), .string (strOfNums r.val)]
def recCells (r : Rec) : Array Value := #[.bool r.del, .int .u64 (r.seq : Int), .string (strOfNums r.key), .string (strOfNums r.val)]

theorem str_isnone (xs : List Int) : (strOfNums xs).toList.isEmpty = xs.isEmpty := by
  rw [Lib.strOfNums_toList]
  cases xs <;> rfl

def endE (xs : List Int) (y : Int) : Int := if y = 0 then (if xs = [] then 0 else 3) else y
end Go.Proofs.Ytdkpkpmgiglnhaa

/-
  FrHead; FrGetH2; FrGetH; FrLaws; FrOpWalk; FrSeWalk.
-/
import Derived.Deep.Cut
import Derived.Deep.RegionHeld3
import Derived.Test.YtmifbohdepejaaaM05
import Derived.Test.YtmifbohdepejaaaM11
import Derived.Test.YtmifbohdepejaaaM12
import Derived.Test.YtmifbohdepejaaaM19
namespace Go.Proofs.Ytmifbohdepejaaa
open Go.RowKit

end Go.Proofs.Ytmifbohdepejaaa

namespace Go.Proofs.Ytmifbohdepejaaa
open Go.RowKit

def headOut (t : Int × Nat × Nat × Nat) : Value := .tuple #[confV t.2.1 t.2.2.1, .int .u64 (t.2.2.2 : Int), .int .i64 t.1]

theorem step_room {X : List Int} {A : Int} {d : Nat} (hd : d ≤ X.length) (h0 : 0 ≤ A) (h1 : A + X.length ≤ 10000000) : 0 ≤ A + (d : Int) ∧ A + (d : Int) + (X.drop d).length ≤ 10000000 ∧ (X.drop d).length ≤ X.length := by
  rw [List.length_drop]
  omega

end Go.Proofs.Ytmifbohdepejaaa

namespace Go.Proofs.Ytmifbohdepejaaa
open Go.RowKit

end Go.Proofs.Ytmifbohdepejaaa

namespace Go.Proofs.Ytmifbohdepejaaa
open Go.RowKit

/-- A record of no more bytes than frames are made of here. -/
structure Rec.Little (r : Rec) : Prop where
  fine : r.Fine
  key : r.key.length ≤ 100000
  val : r.val.length ≤ 100000
theorem seal_nil : (sealN []).length = 10 ∧ (sealN []).getD 0 0 = 9 ∧ (sealN []).getD 9 0 = 0 := by decide +kernel

end Go.Proofs.Ytmifbohdepejaaa

namespace Go.Proofs.Ytmifbohdepejaaa
open Go.RowKit

theorem bytes_self (xs : List Int) : ((strOfNums xs).toList == (strOfNums xs).toList) = true := by simp

end Go.Proofs.Ytmifbohdepejaaa

namespace Go.Proofs.Ytmifbohdepejaaa
open Go.RowKit

end Go.Proofs.Ytmifbohdepejaaa

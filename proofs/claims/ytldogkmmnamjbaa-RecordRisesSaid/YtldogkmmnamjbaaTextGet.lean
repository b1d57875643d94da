/-
  Contract of GetText: the next text of a cursor's bytes, or where and why its reading stops.
-/
import Derived.Test.YtldogkmmnamjbaaVarGet
import Derived.Test.YtldogkmmnamjbaaBufB
import Derived.Test.YtldogkmmnamjbaaRecNum
namespace Go.Proofs.Ytldogkmmnamjbaa
open Go.RowKit

theorem vtext_by (xs : List Int) (l m : Nat) (t : VR) (ht : t = vget xs) : vtext xs l m = if t.e ≠ 0 then ⟨t.e, t.n, []⟩
  else if (m : Int) < t.x then ⟨3, t.n, []⟩
  else if t.x < (l : Int) then ⟨4, t.n, []⟩
  else if (xs.drop t.n).length < t.x.toNat then ⟨2, t.n, []⟩
  else ⟨0, t.n + t.x.toNat, (xs.drop t.n).take t.x.toNat⟩ := by subst ht; rfl

end Go.Proofs.Ytldogkmmnamjbaa

/-
  Contracts of the call that Run defers: what it does where the reading went on to its end, and where it was given up.
-/
import Derived.Test.YtldogkmmnamjbaaCurC
import Derived.RegionTactic
import Derived.BigRegion
import Derived.ChangeAlike
import Derived.LaidEqlPtr
import Derived.Lib.Builder
namespace Go.Proofs.Ytldogkmmnamjbaa
open Go.RowKit

/-- The frame of the deferred call behind its first region, and what stands behind. -/
def doorTmps (V A E k : Nat) (a y : Int) (r : List Value) : Array Value :=
  ⟨[.pointer (some ⟨V, 0, none⟩), .pointer (some ⟨A, 0, none⟩), .pointer (some ⟨E, 0, none⟩), undef, undef, undef, .pointer (some ⟨k, 0, none⟩), .pointer (some ⟨k, 0, none⟩), .pointer (some ⟨k, 1, none⟩), .int .i64 a, .pointer (some ⟨k, 0, none⟩), .pointer (some ⟨k, 0, none⟩), .pointer (some ⟨k, 3, none⟩), .int .i64 y] ++ r⟩

def MidPost (V A E k : Nat) (a : Nat) (y : Int) (w : World) : Exit → Act → World → Prop
  | .normal, a', w' => a' = { tmps := doorTmps V A E k a y (List.replicate 15 undef), defers := [] } ∧ ∃ m, w' = (((w.setCell ⟨A, 0, none⟩ (.int .i64 a)).setCell ⟨E, 0, none⟩ (.int .i64 y)).drewN m)
  | _, _, _ => False

theorem MidPost.told {V A E k a : Nat} {y : Int} {w w' : World} {e : Exit} {a' : Act} (h : MidPost V A E k a y w e a' w') :
    e = .normal ∧ a' = { tmps := doorTmps V A E k a y (List.replicate 15 undef), defers := [] } ∧ ∃ m, w' = (((w.setCell ⟨A, 0, none⟩ (.int .i64 a)).setCell ⟨E, 0, none⟩ (.int .i64 y)).drewN m) := by
  cases e with
  | normal => exact ⟨rfl, h⟩
  | _ => exact h.elim

end Go.Proofs.Ytldogkmmnamjbaa

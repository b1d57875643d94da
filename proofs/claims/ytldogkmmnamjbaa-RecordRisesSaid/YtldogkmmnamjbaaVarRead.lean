/-
  Contract of Read: the number with which bytes begin, by a reading of its own.
-/
import Derived.Test.YtldogkmmnamjbaaVarGet
import Derived.Test.YtldogkmmnamjbaaCurE
namespace Go.Proofs.Ytldogkmmnamjbaa
open Go.RowKit

/-- What a reading of one number leaves: the number, if there is one. -/
def gotVal (t : VR) : Value := .int .u64 (if t.e = 0 then t.x else 0)

/-- Run's answer to a reading of one number: how many bytes, why it stopped; the number in block D. -/
def GotIn (D : Nat) (t : VR) (w0 : World) (e : Ending) (w' : World) : Prop :=
  e = .returned (.tuple #[.int .i64 t.n, .int .i64 t.e]) ∧ Whole w' D 29 #[gotVal t] ∧ Keeps (Just D) w0 w'

/-- Read's answer. -/
def readOut (t : VR) : Value := .tuple #[gotVal t, .int .i64 (if t.e = 0 then (t.n : Int) else 0), .int .i64 t.e]

theorem getFnOk : ∀ (fn : Fn) (first cap : Array Value) (w : World), (Instr.makeFunc fn first cap).run Try.prog w = .ok (.func fn first cap) w := fun _ _ _ _ => rfl

end Go.Proofs.Ytldogkmmnamjbaa

/-
  Package record's own functions do what the laws ask of them.
-/
import Derived.Test.YtldogkmmnamjbaaRecNone
import Derived.Test.YtldogkmmnamjbaaRecBody
import Derived.Test.YtldogkmmnamjbaaRecRead
namespace Go.Proofs.Ytldogkmmnamjbaa
open Go.RowKit

theorem recMakeFn : ∀ (fn : Fn) (first cap : Array Value) (w : World), (Instr.makeFunc fn first cap).run Try.prog w = .ok (.func fn first cap) w := fun _ _ _ _ => rfl

theorem body_ok7 : BodyOk where
  check := fun r w h => check_own r (by have := h.key; omega) (by have := h.val; omega) w
  body := fun r w h => body_own r w h
end Go.Proofs.Ytldogkmmnamjbaa

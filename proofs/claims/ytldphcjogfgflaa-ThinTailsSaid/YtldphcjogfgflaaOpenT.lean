/-
  Arguments, opened: numbers of 32 bits, bytes.
-/
import Derived.Test.YtldphcjogfgflaaOpen
import Derived.Test.YtldphcjogfgflaaThinNum
namespace Go.Proofs.Ytldphcjogfgflaa

theorem u32_wf {n : Int} (h : (Lit.int .u32 n).wf = true) : U32 n := by
  have : 0 ≤ n ∧ n ≤ 4294967295 := by simpa [Lit.wf, IntKind.min, IntKind.max, IntKind.signed, IntKind.bits] using h
  exact ⟨this.1, by omega⟩
end Go.Proofs.Ytldphcjogfgflaa

/-
  Arguments, opened: numbers of 16 bits.
-/
import Derived.Test.YtdkpkpmgiglnhaaOpen
namespace Go.Proofs.Ytdkpkpmgiglnhaa

theorem u16_in {n : Int} (h : (Lit.int .u16 n).wf = true) : 0 ≤ n ∧ n < 65536 := by
  have : 0 ≤ n ∧ n ≤ 65535 := by simpa [Lit.wf, IntKind.min, IntKind.max, IntKind.signed, IntKind.bits] using h
  omega
end Go.Proofs.Ytdkpkpmgiglnhaa

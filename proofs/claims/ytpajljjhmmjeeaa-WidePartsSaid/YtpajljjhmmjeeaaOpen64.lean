/-
  Arguments, opened: numbers of 64 bits.
-/
import Derived.Test.YtpajljjhmmjeeaaOpenW
import Derived.Test.YtpajljjhmmjeeaaOpen
import Derived.Test.YtpajljjhmmjeeaaWideNum
namespace Go.Proofs.Ytpajljjhmmjeeaa

theorem u64_in {n : Int} (h : (Lit.int .u64 n).wf = true) : U64 n := by
  obtain ⟨x, rfl, hx⟩ := u64_wf h
  exact nat_u64 hx
end Go.Proofs.Ytpajljjhmmjeeaa

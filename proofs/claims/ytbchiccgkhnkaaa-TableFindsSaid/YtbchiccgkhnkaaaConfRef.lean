/-
  The document's answers for a config: may it be, a segment's bytes.
-/
import Derived.Test.YtbchiccgkhnkaaaMem
import Derived.Test.YtbchiccgkhnkaaaNum
namespace Go.Proofs.Ytbchiccgkhnkaaa
open Go.RowKit

def confV (e s : Nat) : Value := .agg #[.int .u8 (e : Int), .int .u32 (s : Int)]
def confCells (e s : Nat) : Array Value := #[.int .u8 (e : Int), .int .u32 (s : Int)]
def mayC (e s : Nat) : Bool := decide (12 ≤ e) && decide (e ≤ 24) && decide (1 ≤ s) && decide (s ≤ 65536)
theorem mayC_true {e s : Nat} : mayC e s = true ↔ 12 ≤ e ∧ e ≤ 24 ∧ 1 ≤ s ∧ s ≤ 65536 := by
  unfold mayC
  simp only [Bool.and_eq_true, decide_eq_true_eq]
  omega
theorem two_e {e : Nat} (h : e ≤ 24) : 1 ≤ 2 ^ e ∧ 2 ^ e ≤ 16777216 := by
  constructor
  · exact Nat.one_le_two_pow
  · have := Nat.pow_le_pow_right (n := 2) (by omega) h
    omega

end Go.Proofs.Ytbchiccgkhnkaaa

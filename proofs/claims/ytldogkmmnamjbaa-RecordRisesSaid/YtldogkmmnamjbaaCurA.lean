/-
  Contracts of package cursor's leaves: within, Left, At, of a cursor that is nil, closed or open; stop and Fail.
-/
import Derived.Test.YtldogkmmnamjbaaMem
import Derived.Recover
import Derived.Defers
import Derived.BigQuiet
import Derived.Deep.QuietTactic
namespace Go.Proofs.Ytldogkmmnamjbaa
open Go.RowKit

/-- A cursor that isn't within its reading: nil, or closed. -/
def Dead (w : World) (p : Option Addr) : Prop := p = none ∨ ∃ k, p = some ⟨k, 0, none⟩ ∧ w.cell? ⟨k, 2, none⟩ = some (.bool false)

/-- The address, where there are bytes at all. -/
def From (p : Option Addr) (a n : Nat) (v : Value) : Prop := ∃ q c, v = .slice q n c ∧ (0 < n → q = p.map (·.add a))

theorem from_mk (p : Option Addr) (a n N c : Nat) (h : a + n ≤ N) (hc : N ≤ c) : From p a n (.slice (if c = a then p else p.map (·.add a)) n (c - a)) :=
  ⟨_, _, rfl, fun h0 => by rw [if_neg (by omega)]⟩

end Go.Proofs.Ytldogkmmnamjbaa

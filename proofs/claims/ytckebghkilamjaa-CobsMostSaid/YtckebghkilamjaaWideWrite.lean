/-
  Package wide: Write.
-/
import Derived.Test.YtckebghkilamjaaWideCopy
import Derived.Deep.CutRange
import Derived.Deep.DeepCutAuto
namespace Go.Proofs.Ytckebghkilamjaa
open Go.RowKit

theorem addNone (g o i : Nat) : Addr.add ⟨g, o, none⟩ i = ⟨g, o + i, none⟩ := by unfold Addr.add; split <;> simp_all

theorem part_apart (g : Nat) (a : Addr) (ha : some (⟨g, 5, none⟩ : Addr) = some a) (i j : Nat) (hj : j < 4) : a.add i ≠ ⟨g, 1 + j, none⟩ := by
  obtain rfl := Option.some.inj ha
  rw [addNone]
  intro e
  have := congrArg Addr.off e
  simp at this
  omega
theorem block_apart {g : Nat} {q : Option Addr} (h : ∀ a, q = some a → a.block ≠ g) (a : Addr) (ha : q = some a) (i j : Nat) : a.add i ≠ ⟨g, 1 + j, none⟩ := by
  intro e
  have := congrArg Addr.block e
  rw [addBlock] at this
  exact h a ha this

end Go.Proofs.Ytckebghkilamjaa

/-
  A struct of three cells, stored whole.
-/
import Derived.Test.YtbchiccgkhnkaaaMem
namespace Go.Proofs.Ytbchiccgkhnkaaa
open Go.RowKit

theorem Keeps.set3 {S : Nat → Prop} {a b : World} (h : Keeps S a b) {g : Nat} (hg : a.heap.size ≤ g) (x y z : Value) : Keeps S a (((b.setCell ⟨g, 0, none⟩ x).setCell ⟨g, 1, none⟩ y).setCell ⟨g, 2, none⟩ z) :=
  ((h.setNew hg 0 x).setNew hg 1 y).setNew hg 2 z
theorem Whole.other3 {w : World} {g h : Nat} {t : TypeId} {cs : Array Value} (hw : Whole w g t cs) (hn : g ≠ h) (x y z : Value) : Whole (((w.setCell ⟨h, 0, none⟩ x).setCell ⟨h, 1, none⟩ y).setCell ⟨h, 2, none⟩ z) g t cs :=
  ((hw.setOther (p := ⟨h, 0, none⟩) hn x).setOther (p := ⟨h, 1, none⟩) hn y).setOther (p := ⟨h, 2, none⟩) hn z
theorem Whole.set3 {w : World} {g : Nat} {t : TypeId} {a b c : Value} (hw : Whole w g t #[a, b, c]) (x y z : Value) : Whole (((w.setCell ⟨g, 0, none⟩ x).setCell ⟨g, 1, none⟩ y).setCell ⟨g, 2, none⟩ z) g t #[x, y, z] := by
  have := ((hw.set 0 x).set 1 y).set 2 z
  simpa using this
end Go.Proofs.Ytbchiccgkhnkaaa

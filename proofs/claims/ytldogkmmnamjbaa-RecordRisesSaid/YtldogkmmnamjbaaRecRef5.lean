/-
  The document's Read of a record: its walk.
-/
import Derived.Test.YtldogkmmnamjbaaRecRef4
namespace Go.Proofs.Ytldogkmmnamjbaa
open Go.RowKit

theorem Keeps.set4 {S : Nat → Prop} {a b : World} (h : Keeps S a b) {g : Nat} (hg : a.heap.size ≤ g) (x y z u : Value) : Keeps S a ((((b.setCell ⟨g, 0, none⟩ x).setCell ⟨g, 1, none⟩ y).setCell ⟨g, 2, none⟩ z).setCell ⟨g, 3, none⟩ u) :=
  (((h.setNew hg 0 x).setNew hg 1 y).setNew hg 2 z).setNew hg 3 u

end Go.Proofs.Ytldogkmmnamjbaa

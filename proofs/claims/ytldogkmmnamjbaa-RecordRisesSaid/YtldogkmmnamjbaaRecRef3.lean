/-
  The document's Body of a record.
-/
import Derived.Test.YtldogkmmnamjbaaRecRef2
import Derived.Test.YtldogkmmnamjbaaSumsWalk
namespace Go.Proofs.Ytldogkmmnamjbaa
open Go.RowKit

/-- The cells of a record that lies in block g. -/
def RecAt (w : World) (g : Nat) (r : Rec) : Prop :=
  w.cell? ⟨g, 0, none⟩ = some (.bool r.del) ∧ w.cell? ⟨g, 1, none⟩ = some (.int .u64 (r.seq : Int)) ∧ w.cell? ⟨g, 2, none⟩ = some (.string (strOfNums r.key)) ∧ w.cell? ⟨g, 3, none⟩ = some (.string (strOfNums r.val))
theorem RecAt.ofWhole {w : World} {g : Nat} {t : TypeId} {r : Rec} (h : Whole w g t (recCells r)) : RecAt w g r :=
  ⟨h.cell 0 rfl, h.cell 1 rfl, h.cell 2 rfl, h.cell 3 rfl⟩

theorem str_cons (b : Int) (xs : List Int) (c : UInt8) (h : UInt8.ofNat b.toNat = c) : (⟨#[c]⟩ : ByteArray) ++ strOfNums xs = strOfNums (b :: xs) := by
  have e : (⟨#[c]⟩ : ByteArray) = strOfNums [b] := by
    apply ByteArray.ext
    simp [strOfNums, h]
  rw [e, str_append]
  rfl

end Go.Proofs.Ytldogkmmnamjbaa

/-
  Arguments, opened: a text's bytes; a row's cells.
-/
import Derived.Test.YtbchiccgkhnkaaaOpen
import Derived.Test.YtbchiccgkhnkaaaBufB
import Derived.Lib.SmallJoins
import Derived.Deep.Slices
namespace Go.Proofs.Ytbchiccgkhnkaaa
open Go.Joins Go.ChangeShapes Go.WideShapes Go.ChangeAt Go.RowKit Go.Deep

theorem nums_of_str (s : ByteArray) : ∃ xs, s = strOfNums xs ∧ Octets xs ∧ xs.length = s.size := by
  refine ⟨s.data.toList.map fun b => (b.toNat : Int), ?_, fun b hb => ?_, by rw [List.length_map]; rfl⟩
  · apply ByteArray.ext
    apply Array.ext'
    rw [strOfNums_data, List.map_map]
    have e : ((fun n : Int => UInt8.ofNat n.toNat) ∘ fun b : UInt8 => (b.toNat : Int)) = id := by
      funext b
      simp
    rw [e, List.map_id]
  · obtain ⟨x, _, rfl⟩ := List.mem_map.1 hb
    have := x.toNat_lt
    omega

theorem plusPlain {w : World} {p : Addr} {v : Value} (j : Nat) (h : w.cell? p = some v) : p.add j = ⟨p.block, p.off + j, none⟩ := by
  obtain ⟨b, o, s⟩ := p
  cases s with
  | none => unfold Addr.add; split <;> simp_all
  | some x =>
    unfold World.cell? at h
    split at h <;> simp at h
end Go.Proofs.Ytbchiccgkhnkaaa

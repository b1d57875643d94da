/-
  Arguments, opened: bytes; what else the laws of a stage take stands beside them.
-/
import Derived.Test.YtbchiccgkhnkaaaLift
import Derived.Test.YtbchiccgkhnkaaaNum
import Derived.Deep.Slices
namespace Go.Proofs.Ytbchiccgkhnkaaa
open Go.ChangeShapes Go.WideShapes Go.ChangeAt Go.RowKit

theorem octet_wf {n : Int} (h : (Lit.int .u8 n).wf = true) : 0 ≤ n ∧ n < 256 := by
  have : 0 ≤ n ∧ n ≤ 255 := by simpa [Lit.wf, IntKind.min, IntKind.max, IntKind.signed, IntKind.bits] using h
  omega

set_option maxRecDepth 100000 in
/-- An argument that is a slice of bytes. -/
theorem open_octets {H : Type} {enc : TypeId × Value → H} {W : World} {base : Nat} {v : Value} {d : DataW H} {ps : List MemPlace} (hv : Value.okWide Try.prog W .any base 38 v) (h : DataW.Trod enc Try.prog W 0 (fun _ => true) true 38 v d ps) :
    ∃ (p : Option Addr) (N c : Nat) (xs : List Int), v = .slice p N c ∧ N = xs.length ∧ N ≤ c ∧ c ≤ 9223372036854775807 ∧ Bytes8 W p xs ∧ Octets xs ∧ (1 ≤ N → ∀ r, p = some r → r.block < W.heap.size) ∧ (p = none → N = 0 ∧ c = 0) := by
  obtain ⟨a0, len, cap, rfl⟩ := okWide_slice Try.underlying38 hv
  obtain ⟨fuel, hf⟩ := h
  rcases open_ints Try.underlying38 Try.underlying5 (by kernel_rfl) hf with ⟨hcs, hx⟩ | ⟨a, len', cap', zs, hcs, _, hl, hm, hz, hx, hcell, hwz⟩
  · simp [Value.cells] at hcs
    obtain ⟨rfl, rfl, rfl⟩ := hcs
    exact ⟨none, 0, 0, [], rfl, rfl, Nat.le_refl _, by omega, Bytes8.nil _ _, fun b hb => by simp at hb, fun h => by omega, fun _ => ⟨rfl, rfl⟩⟩
  · simp [Value.cells] at hcs
    obtain ⟨rfl, rfl, rfl⟩ := hcs
    simp only [if_true] at hz
    have hxl : (zs.take len).length = len := by simp; omega
    have hb8 : Bytes8 W (some a) (zs.take len) := fun _ => ⟨a, rfl, fun i hi => by
      rw [hxl] at hi
      rw [hcell i (by omega)]
      simp [hi]⟩
    refine ⟨some a, len, cap, zs.take len, rfl, hxl.symm, hl, by unfold maxLen at hm; omega, hb8, fun b hb => octet_wf (hwz b (List.mem_of_mem_take hb)), fun h1 r hr => ?_, fun h => by simp at h⟩
    obtain ⟨a', ha', hc'⟩ := hb8 (by omega)
    obtain rfl := Option.some.inj hr
    obtain rfl := Option.some.inj ha'
    have := ltOfCell (hc' 0 (by omega))
    rwa [addBlock] at this
end Go.Proofs.Ytbchiccgkhnkaaa

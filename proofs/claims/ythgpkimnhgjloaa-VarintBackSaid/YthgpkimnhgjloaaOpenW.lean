/-
  Arguments, opened: numbers of 64 bits, and rows of them.
-/
import Derived.Test.YthgpkimnhgjloaaOpen
namespace Go.Proofs.Ythgpkimnhgjloaa
open Go.ChangeShapes Go.WideShapes Go.ChangeAt Go.RowKit

theorem u64_wf {n : Int} (h : (Lit.int .u64 n).wf = true) : ∃ x : Nat, n = x ∧ x < 18446744073709551616 := by
  have : 0 ≤ n ∧ n ≤ 18446744073709551615 := by simpa [Lit.wf, IntKind.min, IntKind.max, IntKind.signed, IntKind.bits] using h
  exact ⟨n.toNat, by omega, by omega⟩

/-- A row of numbers of 64 bits that can be read. -/
def RowN (w : World) (p : Option Addr) (l : List Nat) : Prop := ∀ i, i < l.length → ∃ a, p = some a ∧ w.cell? (a.add i) = some (.int .u64 (l.getD i 0 : Nat))

theorem RowN.keep {w w' : World} {p : Option Addr} {l : List Nat} (h : RowN w p l) {S : Nat → Prop} (hk : Keeps S w w') (hs : ∀ k, k < w.heap.size → ¬ S k) : RowN w' p l := fun i hi => by
  obtain ⟨a, rfl, hc⟩ := h i hi
  exact ⟨a, rfl, hk.cell hc (hs _ (ltOfCell hc))⟩

/-- Numbers as naturals. -/
theorem nat_list (zs : List Int) (h : ∀ z ∈ zs, 0 ≤ z ∧ z < 18446744073709551616) : ∃ l : List Nat, zs = l.map (fun n : Nat => (n : Int)) ∧ ∀ n ∈ l, n < 18446744073709551616 := by
  refine ⟨zs.map Int.toNat, ?_, ?_⟩
  · rw [List.map_map]
    conv => lhs; rw [← List.map_id zs]
    exact List.map_congr_left fun z hz => by have := h z hz; simp; omega
  · intro n hn
    obtain ⟨z, hz, rfl⟩ := List.mem_map.1 hn
    have := h z hz
    omega

/-- An argument that is a row of numbers of 64 bits. -/
theorem open_row {H : Type} {enc : TypeId × Value → H} {W : World} {base : Nat} {v : Value} {d : DataW H} {ps : List MemPlace} (hv : Value.okWide Try.prog W .any base 22 v) (h : DataW.Trod enc Try.prog W 0 (fun _ => true) true 22 v d ps) :
    ∃ (p : Option Addr) (n c : Nat) (l : List Nat), v = .slice p n c ∧ n = l.length ∧ RowN W p l ∧ (∀ z ∈ l, z < 18446744073709551616) ∧ n ≤ 9223372036854775807 := by
  obtain ⟨a0, len, cap, rfl⟩ := okWide_slice Try.underlying22 hv
  obtain ⟨fuel, hf⟩ := h
  rcases open_ints Try.underlying22 Try.underlying27 (by kernel_rfl) hf with ⟨hcs, hx⟩ | ⟨a, len', cap', zs, hcs, _, hl, hm, hz, hx, hcell, hwz⟩
  · simp [Value.cells] at hcs
    obtain ⟨rfl, rfl, rfl⟩ := hcs
    exact ⟨none, 0, 0, [], rfl, rfl, fun i hi => by simp at hi, fun b hb => by simp at hb, by omega⟩
  · simp [Value.cells] at hcs
    obtain ⟨rfl, rfl, rfl⟩ := hcs
    simp only [if_true] at hz
    have hxl : (zs.take len).length = len := by simp; omega
    obtain ⟨l, hl1, hl2⟩ := nat_list (zs.take len) (fun b hb => by
      obtain ⟨x, rfl, hx⟩ := u64_wf (hwz b (List.mem_of_mem_take hb))
      omega)
    have hll : l.length = len := by rw [← hxl, hl1, List.length_map]
    refine ⟨some a, len, cap, l, rfl, hll.symm, fun i hi => ⟨a, rfl, ?_⟩, hl2, by unfold maxLen at hm; omega⟩
    rw [hll] at hi
    rw [hcell i (by omega)]
    have e : (zs.take len)[i]? = some ((l.getD i 0 : Nat) : Int) := by
      rw [hl1]
      simp [show i < l.length by omega]
    rw [List.getElem?_take, if_pos hi] at e
    simp [e]
end Go.Proofs.Ythgpkimnhgjloaa

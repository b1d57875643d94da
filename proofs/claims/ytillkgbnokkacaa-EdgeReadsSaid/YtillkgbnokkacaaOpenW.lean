/-
  Arguments, opened: numbers of 64 bits, and rows of them.
-/
import Derived.Test.YtillkgbnokkacaaOpen
namespace Go.Proofs.Ytillkgbnokkacaa
open Go.ChangeShapes Go.WideShapes Go.ChangeAt Go.RowKit

theorem u64_wf {n : Int} (h : (Lit.int .u64 n).wf = true) : ∃ x : Nat, n = x ∧ x < 18446744073709551616 := by
  have : 0 ≤ n ∧ n ≤ 18446744073709551615 := by simpa [Lit.wf, IntKind.min, IntKind.max, IntKind.signed, IntKind.bits] using h
  exact ⟨n.toNat, by omega, by omega⟩

/-- A row of numbers of 64 bits that can be read. -/
def RowN (w : World) (p : Option Addr) (l : List Nat) : Prop := ∀ i, i < l.length → ∃ a, p = some a ∧ w.cell? (a.add i) = some (.int .u64 (l.getD i 0 : Nat))

theorem RowN.keep {w w' : World} {p : Option Addr} {l : List Nat} (h : RowN w p l) {S : Nat → Prop} (hk : Keeps S w w') (hs : ∀ k, k < w.heap.size → ¬ S k) : RowN w' p l := fun i hi => by
  obtain ⟨a, rfl, hc⟩ := h i hi
  exact ⟨a, rfl, hk.cell hc (hs _ (ltOfCell hc))⟩

/-- Numbers as naturals. -/
theorem nat_list (zs : List Int) (h : ∀ z ∈ zs, 0 ≤ z ∧ z < 18446744073709551616) : ∃ l : List Nat, zs = l.map (fun n : Nat => (n : Int)) ∧ ∀ n ∈ l, n < 18446744073709551616 := by
  refine ⟨zs.map Int.toNat, ?_, ?_⟩
  · rw [List.map_map]
    conv => lhs; rw [← List.map_id zs]
    exact List.map_congr_left fun z hz => by have := h z hz; simp; omega
  · intro n hn
    obtain ⟨z, hz, rfl⟩ := List.mem_map.1 hn
    have := h z hz
    omega

end Go.Proofs.Ytillkgbnokkacaa

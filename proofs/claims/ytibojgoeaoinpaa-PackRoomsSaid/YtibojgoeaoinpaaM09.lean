/-
  OpenW; FenRow; FenLaws; FenOf; FenRange; FenOfWalk.
-/
import Derived.Test.YtibojgoeaoinpaaM04
import Derived.Test.YtibojgoeaoinpaaM05
import Derived.Test.YtibojgoeaoinpaaM08
namespace Go.Proofs.Ytibojgoeaoinpaa
open Go.ChangeShapes Go.WideShapes Go.ChangeAt Go.RowKit

theorem u64_wf {n : Int} (h : (Lit.int .u64 n).wf = true) : ∃ x : Nat, n = x ∧ x < 18446744073709551616 := by
  have : 0 ≤ n ∧ n ≤ 18446744073709551615 := by simpa [Lit.wf, IntKind.min, IntKind.max, IntKind.signed, IntKind.bits] using h
  exact ⟨n.toNat, by omega, by omega⟩

/-- A row of numbers of 64 bits that can be read. -/
def RowN (w : World) (p : Option Addr) (l : List Nat) : Prop := ∀ i, i < l.length → ∃ a, p = some a ∧ w.cell? (a.add i) = some (.int .u64 (l.getD i 0 : Nat))

theorem RowN.keep {w w' : World} {p : Option Addr} {l : List Nat} (h : RowN w p l) {S : Nat → Prop} (hk : Keeps S w w') (hs : ∀ k, k < w.heap.size → ¬ S k) : RowN w' p l := fun i hi => by
  obtain ⟨a, rfl, hc⟩ := h i hi
  exact ⟨a, rfl, hk.cell hc (hs _ (ltOfCell hc))⟩

/-- Numbers as naturals. -/
theorem nat_list (zs : List Int) (h : ∀ z ∈ zs, 0 ≤ z ∧ z < 18446744073709551616) : ∃ l : List Nat, zs = l.map (fun n : Nat => (n : Int)) ∧ ∀ n ∈ l, n < 18446744073709551616 := by
  refine ⟨zs.map Int.toNat, ?_, ?_⟩
  · rw [List.map_map]
    conv => lhs; rw [← List.map_id zs]
    exact List.map_congr_left fun z hz => by have := h z hz; simp; omega
  · intro n hn
    obtain ⟨z, hz, rfl⟩ := List.mem_map.1 hn
    have := h z hz
    omega

set_option maxRecDepth 100000 in
/-- An argument that is a row of numbers of 64 bits. -/
theorem open_row {H : Type} {enc : TypeId × Value → H} {W : World} {base : Nat} {v : Value} {d : DataW H} {ps : List MemPlace} (hv : Value.okWide Try.prog W .any base 46 v) (h : DataW.Trod enc Try.prog W 0 (fun _ => true) true 46 v d ps) :
    ∃ (p : Option Addr) (n c : Nat) (l : List Nat), v = .slice p n c ∧ n = l.length ∧ RowN W p l ∧ (∀ z ∈ l, z < 18446744073709551616) ∧ n ≤ 9223372036854775807 := by
  obtain ⟨a0, len, cap, rfl⟩ := okWide_slice Try.underlying46 hv
  obtain ⟨fuel, hf⟩ := h
  rcases open_ints Try.underlying46 Try.underlying33 (by kernel_rfl) hf with ⟨hcs, hx⟩ | ⟨a, len', cap', zs, hcs, _, hl, hm, hz, hx, hcell, hwz⟩
  · simp [Value.cells] at hcs
    obtain ⟨rfl, rfl, rfl⟩ := hcs
    exact ⟨none, 0, 0, [], rfl, rfl, fun i hi => by simp at hi, fun b hb => by simp at hb, by omega⟩
  · simp [Value.cells] at hcs
    obtain ⟨rfl, rfl, rfl⟩ := hcs
    simp only [if_true] at hz
    have hxl : (zs.take len).length = len := by simp; omega
    obtain ⟨l, hl1, hl2⟩ := nat_list (zs.take len) (fun b hb => by
      obtain ⟨x, rfl, hx⟩ := u64_wf (hwz b (List.mem_of_mem_take hb))
      omega)
    have hll : l.length = len := by rw [← hxl, hl1, List.length_map]
    refine ⟨some a, len, cap, l, rfl, hll.symm, fun i hi => ⟨a, rfl, ?_⟩, hl2, by unfold maxLen at hm; omega⟩
    rw [hll] at hi
    rw [hcell i (by omega)]
    have e : (zs.take len)[i]? = some ((l.getD i 0 : Nat) : Int) := by
      rw [hl1]
      simp [show i < l.length by omega]
    rw [List.getElem?_take, if_pos hi] at e
    simp [e]
end Go.Proofs.Ytibojgoeaoinpaa

namespace Go.Proofs.Ytibojgoeaoinpaa
open Go.RowKit

/-- Entries whose Hashes and places are 0, 1 .. -/
def stepE (n : Nat) : List En := (List.range n).map fun i => ⟨i, i⟩
theorem stepE_snoc (n : Nat) : stepE n ++ [⟨n, n⟩] = stepE (n + 1) := by
  unfold stepE
  rw [List.range_succ, List.map_append]
  rfl
theorem stepE_length (n : Nat) : (stepE n).length = n := by unfold stepE; rw [List.length_map, List.length_range]

end Go.Proofs.Ytibojgoeaoinpaa

namespace Go.Proofs.Ytibojgoeaoinpaa
open Go.RowKit

/-- A row of numbers of new memory. -/
def NewRow (w : World) (l : List Nat) (v : Value) (w' : World) : Prop :=
  ∃ (q : Option Addr) (m d : Nat), v = .slice q m d ∧ m = l.length ∧ m ≤ d ∧ d ≤ 9223372036854775807 ∧ (q = none → m = 0 ∧ d = 0) ∧ RowN w' q l ∧ (0 < m → ∀ a, q = some a → w.heap.size ≤ a.block) ∧ Keeps NoBlock w w'

structure FenCtOk : Prop where
  count : ∀ (n : Int) (w : World), -1000000000 ≤ n → n ≤ 1000000000 →
    Calls Try.prog 32 #[.int .i64 n] w fun e w' => e = .returned (.int .i64 (countF n : Int)) ∧ Keeps NoBlock w w'

theorem step_fine {n : Nat} (h : n ≤ 1000) : ∀ e ∈ stepE n, e.Fine := fun e he => by
  obtain ⟨i, hi, rfl⟩ := List.mem_map.1 he
  have := List.mem_range.1 hi
  exact ⟨by show i < _; omega, by show i < _; omega⟩
theorem step_rises : risesE (stepE 40) = true := by decide
theorem step_of : ofF (stepE 40) = [0, 16, 32] := by decide
theorem step_range : rangeF (ofF (stepE 40)) 40 17 = (16, 32) := by decide

end Go.Proofs.Ytibojgoeaoinpaa

namespace Go.Proofs.Ytibojgoeaoinpaa
open Go.RowKit

end Go.Proofs.Ytibojgoeaoinpaa

namespace Go.Proofs.Ytibojgoeaoinpaa
open Go.RowKit

/-- How many are below, how many aren't above. -/
def twoF (fs : List Nat) (h : Nat) : Nat × Nat := (fs.countP fun f => decide (f < h), fs.countP fun f => decide (f ≤ h))
theorem twoF_take {l : List Nat} {h j : Nat} (hj : j < l.length) : twoF (l.take (j + 1)) h = ((twoF (l.take j) h).1 + (if l.getD j 0 < h then 1 else 0), (twoF (l.take j) h).2 + (if l.getD j 0 ≤ h then 1 else 0)) := by
  unfold twoF
  have e : l.take (j + 1) = l.take j ++ [l.getD j 0] := by rw [List.take_succ_eq_append_getElem hj]; simp [hj]
  rw [e, List.countP_append, List.countP_append, List.countP_cons, List.countP_cons]
  simp
theorem twoF_le (l : List Nat) (h : Nat) : (twoF l h).1 ≤ l.length ∧ (twoF l h).2 ≤ l.length := ⟨List.countP_le_length, List.countP_le_length⟩
theorem rangeF_two (l : List Nat) (N h : Nat) : rangeF l N h = if (twoF l h).2 = 0 then (0, 0) else (16 * ((twoF l h).1 - 1), min N (16 * (twoF l h).2)) := rfl

theorem two_ret {a b x y : Int} (h1 : a = x) (h2 : b = y) : Ending.returned (.tuple #[.int .i64 a, .int .i64 b]) = .returned (.tuple #[.int .i64 x, .int .i64 y]) := by rw [h1, h2]

end Go.Proofs.Ytibojgoeaoinpaa

namespace Go.Proofs.Ytibojgoeaoinpaa
open Go.RowKit

theorem rowN_cells {w : World} {q : Option Addr} {l : List Nat} (h : RowN w q l) : ∀ ad, q = some ad → ∀ j u, (l.map numV)[j]? = some u → w.cell? (ad.add j) = some u := fun ad had j u hu => by
  rw [List.getElem?_map] at hu
  obtain ⟨x, hx, rfl⟩ := Option.map_eq_some_iff.1 hu
  obtain ⟨hj, hx⟩ := List.getElem?_eq_some_iff.1 hx
  obtain ⟨a, ha, c⟩ := h j hj
  obtain rfl := Option.some.inj (had.symm.trans ha)
  rw [c]
  simp [hj, hx, numV]
theorem cells_rowN {w : World} {q : Option Addr} {l : List Nat} {m d : Nat} (hm : m = l.length) (hb : q = none → m = 0 ∧ d = 0) (h : ∀ ad, q = some ad → ∀ j u, (l.map numV)[j]? = some u → w.cell? (ad.add j) = some u) : RowN w q l := fun j hj => by
  cases q with
  | none => have := (hb rfl).1; omega
  | some ad => exact ⟨ad, rfl, by rw [h ad rfl j (numV (l.getD j 0)) (by simp [hj])]; rfl⟩

end Go.Proofs.Ytibojgoeaoinpaa

/-
  The law WideParts: its walk.
-/
import Derived.Test.YtckebghkilamjaaWSumsWalk
import Derived.Test.YtckebghkilamjaaTailsWalk
namespace Go.Proofs.Ytckebghkilamjaa
open Go.RowKit

/-- The first k parts, one behind the other. -/
def catN (f : Nat → List Int) : Nat → List Int
  | 0 => []
  | k + 1 => catN f k ++ f k
theorem catN_octets {f : Nat → List Int} {n : Nat} (h : ∀ i, i < n → Octets (f i)) : ∀ k, k ≤ n → Octets (catN f k)
  | 0, _ => fun b hb => by simp [catN] at hb
  | k + 1, hk => fun b hb => (List.mem_append.1 hb).elim (catN_octets h k (by omega) b) (h k (by omega) b)

/-- A row of slices of bytes that can be read. -/
def RowB (w : World) (q : Option Addr) (n : Nat) (f : Nat → List Int) : Prop :=
  ∀ i, i < n → ∃ (a : Addr) (p : Option Addr) (N c : Nat), q = some a ∧ w.cell? (a.add i) = some (.slice p N c) ∧ N = (f i).length ∧ N ≤ c ∧ c ≤ 9223372036854775807 ∧ Bytes8 w p (f i) ∧ Octets (f i) ∧ (p = none → N = 0 ∧ c = 0)

theorem RowB.keep {w w' : World} {q : Option Addr} {n : Nat} {f : Nat → List Int} (h : RowB w q n f) (hk : Keeps NoBlock w w') : RowB w' q n f := fun i hi => by
  obtain ⟨a, p, N, c, hq, hc, h1, h2, h3, h4, h5, h6⟩ := h i hi
  exact ⟨a, p, N, c, hq, hk.cell hc (fun h => h), h1, h2, h3, h4.keep hk (fun _ _ h => h), h5, h6⟩

/-- A block of n bytes at least. -/
def Bytish (w : World) (g n : Nat) : Prop := ∃ cur, Whole w g 5 cur ∧ ∀ i, i < n → ∃ x : Int, cur[i]? = some (.int .u8 x) ∧ 0 ≤ x ∧ x < 256

theorem Copied.both {w0 wx : World} {N : Nat} {xs : List Int} {v : Value} (h : Copied w0 N xs v wx) (hn : N = xs.length) (ho : Octets xs) :
    ∃ (q : Option Addr) (d g : Nat), v = .slice q N d ∧ N ≤ d ∧ d ≤ 9223372036854775807 ∧ Bytes8 wx q xs ∧ (q = none → N = 0 ∧ d = 0) ∧ w0.heap.size ≤ g ∧ (0 < N → q = some ⟨g, 0, none⟩) ∧ (0 < N → Bytish wx g N) := by
  obtain ⟨q, d, hv, h1, h2, h3, h4⟩ := h.read2 hn
  by_cases h0 : 0 < N
  · obtain ⟨g, d', cur, hv', _, _, hg, hw, hc⟩ := h.whole hn h0
    have e := hv.symm.trans hv'
    simp only [Value.slice.injEq] at e
    refine ⟨q, d, g, hv, h1, h2, h3, h4, hg, fun _ => e.1, fun _ => ⟨cur, hw, fun i hi => ⟨_, hc i hi, ?_⟩⟩⟩
    exact ho.getD i
  · exact ⟨q, d, w0.heap.size, hv, h1, h2, h3, h4, Nat.le_refl _, fun h => absurd h h0, fun h => absurd h h0⟩

end Go.Proofs.Ytckebghkilamjaa

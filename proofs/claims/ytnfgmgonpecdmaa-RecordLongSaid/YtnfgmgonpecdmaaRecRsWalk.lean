/-
  The law RecordRises: its walk.
-/
import Derived.Test.YtnfgmgonpecdmaaRecBdWalk
import Derived.Test.YtnfgmgonpecdmaaCurC
namespace Go.Proofs.Ytnfgmgonpecdmaa
open Go.RowKit

theorem infoRec : (Try.prog.info? 24).map (fun i => (i.zero, i.size, i.bytes)) = some (some (.agg #[.bool false, .int .u64 0, .string ⟨#[]⟩, .string ⟨#[]⟩]), 4, 48) := by kernel_rfl

def recFour (r : Rec) : List Value := [.bool r.del, .int .u64 (r.seq : Int), .string (strOfNums r.key), .string (strOfNums r.val)]
def recFlat (l : List Rec) : List Value := l.flatMap recFour
theorem recFlat_len (l : List Rec) : (recFlat l).length = l.length * 4 := by
  induction l with
  | nil => rfl
  | cons r l ih =>
    rw [recFlat, List.flatMap_cons, List.length_append, ← recFlat, ih]
    simp [recFour]
    omega
theorem recFlat_append (a b : List Rec) : recFlat (a ++ b) = recFlat a ++ recFlat b := List.flatMap_append
theorem recFlat_at : ∀ (l : List Rec) (i j : Nat), i < l.length → j < 4 → (recFlat l)[i * 4 + j]? = (recFour (l.getD i Rec.none))[j]?
  | [], i, j, h, _ => by simp at h
  | r :: l, 0, j, _, hj => by
    rw [recFlat, List.flatMap_cons, List.getElem?_append_left (by simp [recFour]; omega)]
    simp
  | r :: l, i + 1, j, h, hj => by
    rw [recFlat, List.flatMap_cons, List.getElem?_append_right (by simp [recFour]; omega), ← recFlat]
    have e : (i + 1) * 4 + j - (recFour r).length = i * 4 + j := by simp [recFour]; omega
    rw [e, recFlat_at l i j (by simpa using h) hj]
    simp

theorem RecsAt.ofOwn {w : World} {base n : Nat} {v : Value} {l : List Rec} (h : w.ownsRow base 24 4 v n (recFlat l)) (hn : n = l.length) :
    ∃ p c, v = .slice p n c ∧ n ≤ c ∧ c ≤ 9223372036854775807 ∧ RecsAt w p l := by
  have h' := h
  rcases h with ⟨_, ⟨rfl, rfl⟩ | ⟨g, cap, cur, rfl, hg, hh, hc1, hc2, hc3, hc4⟩⟩
  · exact ⟨none, 0, rfl, Nat.le_refl _, by decide, fun i hi => by omega⟩
  · refine ⟨_, cap, rfl, hc1, by unfold maxLen at hc2; omega, fun i hi => ?_⟩
    have hc := h'.cells (g := g) rfl
    have ha : ∀ j u, j < 4 → (recFour (l.getD i Rec.none))[j]? = some u → w.cell? ⟨g, i * 4 + j, none⟩ = some u := fun j u hj hu => by
      have := hc (i * 4 + j) u (by rw [recFlat_at l i j hi hj]; exact hu)
      rw [Addr.add_lit, Nat.zero_add] at this
      exact this
    refine ⟨⟨g, 0, none⟩, rfl, ?_, ?_, ?_, ?_⟩
    all_goals simp only [Addr.add_lit, Nat.zero_add]
    · exact ha 0 _ (by decide) rfl
    · exact ha 1 _ (by decide) rfl
    · exact ha 2 _ (by decide) rfl
    · exact ha 3 _ (by decide) rfl

/-- The records picked so far. -/
def PartAt (w0 : World) (l : List Rec) (j : Nat) (v : Value) (wr : World) : Prop :=
  ∃ m : List Rec, m.Sublist (l.take j) ∧ wr.ownsRow w0.heap.size 24 4 v m.length (recFlat m) ∧ Below w0.heap.size w0 wr

end Go.Proofs.Ytnfgmgonpecdmaa

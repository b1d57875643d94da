/-
  Whether two rows of whatever kind are alike, place by place.
-/
import Derived.Test.YtdkpkpmgiglnhaaMem
namespace Go.Proofs.Ytdkpkpmgiglnhaa

/-- Whether two rows are alike so far. -/
def alikeG {α : Type} [DecidableEq α] (l m : List α) (k : Nat) : Bool := decide (l.length = m.length ∧ l.take k = m.take k)
section
variable {α : Type} [DecidableEq α] {l m : List α}
theorem alikeG_zero : alikeG l m 0 = decide (l.length = m.length) := by simp [alikeG]
theorem alikeG_len {k : Nat} (h : alikeG l m k = true) : l.length = m.length := (of_decide_eq_true h).1
omit [DecidableEq α] in
theorem take_snocG (l : List α) (d : α) {k : Nat} (hk : k < l.length) : l.take (k + 1) = l.take k ++ [l.getD k d] := by
  rw [List.take_succ_eq_append_getElem hk]
  simp [hk]
theorem alikeG_succ (d : α) {k : Nat} (hk : k < l.length) (h : alikeG l m k = true) : alikeG l m (k + 1) = decide (l.getD k d = m.getD k d) := by
  obtain ⟨h1, h2⟩ := of_decide_eq_true h
  unfold alikeG
  rw [take_snocG l d hk, take_snocG m d (by omega), h2]
  simp [h1]
theorem alikeG_not {k j : Nat} (hj : k ≤ j) (h : alikeG l m k = false) : alikeG l m j = false := by
  have h1 := of_decide_eq_false h
  refine decide_eq_false fun hh => h1 ⟨hh.1, ?_⟩
  have := congrArg (List.take k) hh.2
  simpa [List.take_take, Nat.min_eq_left hj] using this
theorem alikeG_all {k : Nat} (hk : l.length ≤ k) : alikeG l m k = decide (l = m) := by
  unfold alikeG
  congr 1
  apply propext
  constructor
  · rintro ⟨h1, h2⟩
    rwa [List.take_of_length_le hk, List.take_of_length_le (by omega)] at h2
  · rintro rfl
    exact ⟨rfl, rfl⟩
end
end Go.Proofs.Ytdkpkpmgiglnhaa

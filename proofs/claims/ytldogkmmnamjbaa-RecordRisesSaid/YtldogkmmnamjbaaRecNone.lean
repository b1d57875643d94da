/-
  Beside an error there is no record.
-/
import Derived.Test.YtldogkmmnamjbaaRecNum
namespace Go.Proofs.Ytldogkmmnamjbaa

theorem readEnd_none {d : Bool} {s : Nat} {k v r : List Int} (h : (readEnd d s k v r).1 ≠ 0) : (readEnd d s k v r).2 = Rec.none := by
  unfold readEnd at h ⊢
  by_cases hr : r = []
  · rw [if_pos hr] at h; exact absurd rfl h
  · rw [if_neg hr]
theorem readKey_none {k : Int} {s : Nat} {xs : List Int} (h : (readKey k s xs).1 ≠ 0) : (readKey k s xs).2 = Rec.none := by
  unfold readKey at h ⊢
  by_cases h1 : (vtext xs 1 4096).e ≠ 0
  · rw [if_pos h1]
  · rw [if_neg h1] at h ⊢
    by_cases h2 : k = 3
    · rw [if_pos h2] at h ⊢
      exact readEnd_none h
    · rw [if_neg h2] at h ⊢
      by_cases h3 : (vtext (xs.drop (vtext xs 1 4096).n) 0 1048576).e ≠ 0
      · rw [if_pos h3]
      · rw [if_neg h3] at h ⊢
        exact readEnd_none h
theorem readR_none {xs : List Int} (h : (readR xs).1 ≠ 0) : (readR xs).2 = Rec.none := by
  cases xs with
  | nil => rfl
  | cons k xs =>
    change (readKind k xs).1 ≠ 0 at h
    change (readKind k xs).2 = Rec.none
    unfold readKind at h ⊢
    by_cases h1 : k ≠ 2 ∧ k ≠ 3
    · rw [if_pos h1]
    · rw [if_neg h1] at h ⊢
      by_cases h2 : (vget xs).e ≠ 0
      · rw [if_pos h2]
      · rw [if_neg h2] at h ⊢
        exact readKey_none h
end Go.Proofs.Ytldogkmmnamjbaa

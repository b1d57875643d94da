/-
  Package record's own Check, kind, gone.
-/
import Derived.Test.YtldogkmmnamjbaaRecLaws
import Derived.Test.YtldogkmmnamjbaaTextGet
import Derived.Test.YtldogkmmnamjbaaTextPut
import Derived.Test.YtldogkmmnamjbaaVarLen
namespace Go.Proofs.Ytldogkmmnamjbaa
open Go.RowKit

theorem str_none {xs : List Int} (h : xs.length = 0) : strOfNums xs = ⟨#[]⟩ := by
  obtain rfl : xs = [] := List.length_eq_zero_iff.1 h
  rfl
theorem str_some {xs : List Int} (h : 0 < xs.length) : (strOfNums xs).toList.isEmpty = false := by
  rw [ByteArray.toList_eq]
  cases xs with
  | nil => simp at h
  | cons a r => simp [strOfNums]

set_option maxHeartbeats 1600000 in
set_option maxRecDepth 10000 in
theorem check_own (r : Rec) (h1 : r.key.length ≤ 140737488355328) (h2 : r.val.length ≤ 140737488355328) (w : World) :
    Calls Try.prog 9 #[recV r] w fun e w' => e = .returned (.int .i64 (checkR r)) ∧ Keeps NoBlock w w' := by
  obtain ⟨del, seq, key, val⟩ := r
  simp only at h1 h2
  have hk := str_size key
  have hv := str_size val
  have hdef : checkR ⟨del, seq, key, val⟩ = if key.length = 0 then 4 else if 4096 < key.length then 3 else if del = true ∧ 0 < val.length then 4 else if 1048576 < val.length then 3 else 0 := rfl
  rw [hdef]
  have hv0 := fun h => str_none (xs := val) h
  have hv1 := fun h => str_some (xs := val) h
  unfold recV
  simp only
  clear hdef
  obtain ⟨K, hK⟩ : ∃ K, K = key.length := ⟨_, rfl⟩
  obtain ⟨V, hV⟩ : ∃ V, V = val.length := ⟨_, rfl⟩
  rw [← hK] at h1 hk ⊢
  rw [← hV] at h2 hv hv0 hv1 ⊢
  clear hK hV
  by_cases c1 : K = 0
  · rw [if_pos c1]
    subst c1
    clear hv0 hv1
    go_enter Try.func9, Try.ntmps9
    go_wp2_with fail
    go_ret
    exact ⟨rfl, (Keeps.refl _ _).alloc _⟩
  · rw [if_neg c1]
    have d1 : decide ((K : Int) < 1) = false := decide_eq_false (by omega)
    by_cases c2 : 4096 < K
    · rw [if_pos c2]
      have d2 : decide ((4096 : Int) < (K : Int)) = true := decide_eq_true (by omega)
      clear hv0 hv1
      go_enter Try.func9, Try.ntmps9
      go_wp2_with fail
      go_ret
      exact ⟨rfl, (Keeps.refl _ _).alloc _⟩
    · rw [if_neg c2]
      have d2 : decide ((4096 : Int) < (K : Int)) = false := decide_eq_false (by omega)
      cases del with
      | true =>
        by_cases c3 : 0 < V
        · rw [if_pos ⟨rfl, c3⟩]
          have e3 := hv1 c3
          clear hv0 hv1
          go_enter Try.func9, Try.ntmps9
          go_wp2_with fail
          go_ret
          exact ⟨rfl, (Keeps.refl _ _).alloc _⟩
        · obtain rfl : V = 0 := by omega
          rw [if_neg (by simp), if_neg (by decide)]
          rw [hv0 rfl]
          clear hv0 hv1 hv
          go_enter Try.func9, Try.ntmps9
          go_wp2_with fail
          go_ret
          exact ⟨rfl, (Keeps.refl _ _).alloc _⟩
      | false =>
        rw [if_neg (by simp)]
        clear hv0 hv1
        by_cases c4 : 1048576 < V
        · rw [if_pos c4]
          have d4 : decide ((1048576 : Int) < (V : Int)) = true := decide_eq_true (by omega)
          go_enter Try.func9, Try.ntmps9
          go_wp2_with fail
          go_ret
          exact ⟨rfl, (Keeps.refl _ _).alloc _⟩
        · rw [if_neg c4]
          have d4 : decide ((1048576 : Int) < (V : Int)) = false := decide_eq_false (by omega)
          go_enter Try.func9, Try.ntmps9
          go_wp2_with fail
          go_ret
          exact ⟨rfl, (Keeps.refl _ _).alloc _⟩

theorem kind_own (r : Rec) (w : World) :
    Calls Try.prog 12 #[recV r] w fun e w' => e = .returned (.int .u8 (if r.del then 3 else 2)) ∧ Keeps NoBlock w w' := by
  obtain ⟨del, seq, key, val⟩ := r
  unfold recV
  simp only
  cases del
  all_goals
    go_enter Try.func12, Try.ntmps12
    go_wp2_with fail
    go_ret
    exact ⟨rfl, (Keeps.refl _ _).alloc _⟩

end Go.Proofs.Ytldogkmmnamjbaa

/-
  The document's Text, End, GetText, where it goes on and where it stopped; its Check and Body of a record.
-/
import Derived.Test.YtldogkmmnamjbaaRef2
import Derived.Test.YtldogkmmnamjbaaSet3
import Derived.Test.YtldogkmmnamjbaaRecNum
import Derived.Test.YtldogkmmnamjbaaVarPut
import Derived.Deep.RegionHeld3
import Derived.Lib.Bytes
namespace Go.Proofs.Ytldogkmmnamjbaa
open Go.RowKit

/-- A record, as a value. -/
def recV (r : Rec) : Value := .agg #[.bool r.del, .int .u64 (r.seq : Int), .string (strOfNums r.key), .string (strOfNums r.val)]
def recCells (r : Rec) : Array Value := #[.bool r.del, .int .u64 (r.seq : Int), .string (strOfNums r.key), .string (strOfNums r.val)]

set_option maxHeartbeats 800000 in
theorem check7_ref (r : Rec) (h1 : r.key.length ≤ 140737488355328) (h2 : r.val.length ≤ 140737488355328) (w : World) :
    Calls Try.prog 10 #[recV r] w fun e w' => e = .returned (.int .i64 (checkR r)) ∧ Keeps NoBlock w w' := by
  obtain ⟨del, seq, key, val⟩ := r
  simp only at h1 h2
  have hk := str_size key
  have hv := str_size val
  have hdef : checkR ⟨del, seq, key, val⟩ = if key.length = 0 then 4 else if 4096 < key.length then 3 else if del = true ∧ 0 < val.length then 4 else if 1048576 < val.length then 3 else 0 := rfl
  rw [hdef]
  unfold recV
  simp only
  clear hdef
  obtain ⟨K, hK⟩ : ∃ K, K = key.length := ⟨_, rfl⟩
  obtain ⟨V, hV⟩ : ∃ V, V = val.length := ⟨_, rfl⟩
  rw [← hK] at h1 hk ⊢
  rw [← hV] at h2 hv ⊢
  clear hK hV
  by_cases c1 : K = 0
  · rw [if_pos c1]
    subst c1
    go_enter Try.func10, Try.ntmps10
    go_wp2_with fail
    go_ret
    exact ⟨rfl, (Keeps.refl _ _).alloc _⟩
  · rw [if_neg c1]
    have d1 : decide ((K : Int) = 0) = false := decide_eq_false (by omega)
    by_cases c2 : 4096 < K
    · rw [if_pos c2]
      have d2 : decide ((4096 : Int) < (K : Int)) = true := decide_eq_true (by omega)
      go_enter Try.func10, Try.ntmps10
      go_wp2_with fail
      go_ret
      exact ⟨rfl, (Keeps.refl _ _).alloc _⟩
    · rw [if_neg c2]
      have d2 : decide ((4096 : Int) < (K : Int)) = false := decide_eq_false (by omega)
      cases del with
      | true =>
        by_cases c3 : 0 < V
        · rw [if_pos ⟨rfl, c3⟩]
          have d3 : decide ((0 : Int) < (V : Int)) = true := decide_eq_true (by omega)
          go_enter Try.func10, Try.ntmps10
          go_wp2_with fail
          go_ret
          exact ⟨rfl, (Keeps.refl _ _).alloc _⟩
        · obtain rfl : V = 0 := by omega
          rw [if_neg (by simp), if_neg (by decide)]
          go_enter Try.func10, Try.ntmps10
          go_wp2_with fail
          go_ret
          exact ⟨rfl, (Keeps.refl _ _).alloc _⟩
      | false =>
        rw [if_neg (by simp)]
        by_cases c4 : 1048576 < V
        · rw [if_pos c4]
          have d4 : decide ((1048576 : Int) < (V : Int)) = true := decide_eq_true (by omega)
          go_enter Try.func10, Try.ntmps10
          go_wp2_with fail
          go_ret
          exact ⟨rfl, (Keeps.refl _ _).alloc _⟩
        · rw [if_neg c4]
          have d4 : decide ((1048576 : Int) < (V : Int)) = false := decide_eq_false (by omega)
          go_enter Try.func10, Try.ntmps10
          go_wp2_with fail
          go_ret
          exact ⟨rfl, (Keeps.refl _ _).alloc _⟩

theorem str_isnone (xs : List Int) : (strOfNums xs).toList.isEmpty = xs.isEmpty := by
  rw [Lib.strOfNums_toList]
  cases xs <;> rfl

def endE (xs : List Int) (y : Int) : Int := if y = 0 then (if xs = [] then 0 else 3) else y
end Go.Proofs.Ytldogkmmnamjbaa

/-
  Contracts of package cursor's Buffer: number, Four, Eight; and of the document's Num.
-/
import Derived.Test.YtldogkmmnamjbaaBufA
import Derived.Test.YtldogkmmnamjbaaNum
import Derived.Laws.BytesArg
namespace Go.Proofs.Ytldogkmmnamjbaa
open Go.RowKit

/-- The bytes of a number, the lowest one first. -/
def digits (x : Int) : Nat → List Int
  | 0 => []
  | n + 1 => digits x n ++ [x / 2 ^ (8 * n) % 256]

theorem digits_length (x : Int) : ∀ n, (digits x n).length = n
  | 0 => rfl
  | n + 1 => by simp [digits, digits_length x n]

theorem digits_octets (x : Int) : ∀ n, Octets (digits x n)
  | 0 => fun b hb => by simp [digits] at hb
  | n + 1 => fun b hb => by
    simp only [digits, List.mem_append, List.mem_singleton] at hb
    rcases hb with hb | rfl
    · exact digits_octets x n b hb
    · omega

def InLoop (base g : Nat) (xs : List Int) (x : Int) (w : World) (k : Nat) (wr : World) : Prop := BufAt wr base g (xs ++ digits x k) ∧ Below base w wr

/-- Bytes, as a text. -/
theorem textOf (q : Option Addr) (n c : Nat) (xs : List Int) (w : World) (hx : n = xs.length) (h : Bytes8 w q xs) : (convert 33 9 (.slice q n c)).run Try.prog w = .ok (.string (strOfNums xs)) w := by
  subst hx
  cases q with
  | none =>
    have h0 : xs.length = 0 := by
      rcases Nat.eq_zero_or_pos xs.length with h0 | h0
      · exact h0
      · obtain ⟨a, ha, _⟩ := h h0
        simp at ha
    obtain rfl : xs = [] := List.length_eq_zero_iff.1 h0
    exact run_convert_bytes_nil w _ 5 Try.underlying33 Try.underlying5 0 c _ Try.underlying9
  | some a =>
    have hl : (loadCells a xs.length).run Try.prog w = .ok (xs.map (Value.int .u8)).toArray w := by
      have := run_loadCells_list (P := Try.prog) w a (xs.map (Value.int .u8)) (fun j v hj => by
        have hjl : j < xs.length := by simpa using (List.getElem?_eq_some_iff.1 hj).1
        obtain ⟨a', ha', hc⟩ := h (by omega)
        obtain rfl := Option.some.inj ha'
        rw [hc j hjl]
        have e : (xs.map (Value.int .u8))[j]? = some (Value.int .u8 (xs.getD j 0)) := by simp [List.getElem?_eq_getElem hjl]
        rw [e] at hj
        exact hj)
      simpa using this
    rw [run_convert_bytes_string w _ _ 5 (some a) xs.length c Try.underlying33 Try.underlying5 Try.underlying9, run_bytesToString w _ xs.length c xs hl, foldl_push_bytes]
    simp [strOfNums, ByteArray.empty, ByteArray.emptyWithCapacity]
    rfl

theorem str_append (xs ys : List Int) : strOfNums xs ++ strOfNums ys = strOfNums (xs ++ ys) := by
  apply ByteArray.ext
  simp [strOfNums]

theorem str_size (xs : List Int) : (strOfNums xs).size = xs.length := by simp [strOfNums, ByteArray.size]

end Go.Proofs.Ytldogkmmnamjbaa

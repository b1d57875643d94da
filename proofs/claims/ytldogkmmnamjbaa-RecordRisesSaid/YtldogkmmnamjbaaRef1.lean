/-
  Contracts of the document's Reader (Take, Value, Get, Fail), whatever it reads.
-/
import Derived.Test.YtldogkmmnamjbaaBufB
import Derived.Deep.RegionHeld3
namespace Go.Proofs.Ytldogkmmnamjbaa
open Go.RowKit

/-- A Reader, as a value. -/
def rdr (xs : List Int) (a y : Int) : Value := .agg #[.string (strOfNums xs), .int .i64 a, .int .i64 y]

theorem str_take (xs : List Int) (n : Nat) : (strOfNums xs).extract 0 n = strOfNums (xs.take n) := by
  apply ByteArray.ext
  simp [strOfNums, List.map_take]
theorem str_drop (xs : List Int) (n : Nat) : (strOfNums xs).extract n (strOfNums xs).size = strOfNums (xs.drop n) := by
  apply ByteArray.ext
  simp only [strOfNums, ByteArray.size]
  simp [List.map_drop]
  rw [List.take_of_length_le (by simp)]

def strSize : Value → Nat
  | .string b => b.size
  | _ => 0
theorem strSize_of (xs : List Int) : strSize (.string (strOfNums xs)) = xs.length := str_size xs

theorem str_piece (xs : List Int) (a b : Nat) (i n : Nat) (ha : a = i) (hb : b = i + n) : (strOfNums xs).extract a b = strOfNums ((xs.drop i).take n) := by
  subst ha hb
  apply ByteArray.ext
  simp [strOfNums, List.map_drop, List.map_take]

theorem str_get (xs : List Int) (h : Octets xs) (k : Nat) (hk : k < (strOfNums xs).size) : (((strOfNums xs)[k].toNat : Nat) : Int) = xs.getD k 0 := by
  have hl : k < xs.length := by rwa [str_size] at hk
  have h1 : (strOfNums xs).data.toList[k]? = some ((strOfNums xs)[k]) := by
    rw [Array.getElem?_toList]
    exact Array.getElem?_eq_getElem hk
  rw [strOfNums_data, List.getElem?_map, List.getElem?_eq_getElem hl] at h1
  have e : UInt8.ofNat (xs[k]).toNat = (strOfNums xs)[k] := by simpa using h1
  have hb := h _ (List.getElem_mem hl)
  rw [← e, UInt8.toNat_ofNat', show xs.getD k 0 = xs[k] by simp [hl]]
  omega

theorem le_step (xs : List Int) (ho : Octets xs) (h8 : xs.length ≤ 8) (m : Nat) (hm : m < xs.length) :
    IntKind.u64.wrap (IntKind.u64.wrap (le (xs.drop (m + 1)) * 256) + IntKind.u64.wrap (xs.getD m 0)) = le (xs.drop m) := by
  have hd : xs.drop m = xs.getD m 0 :: xs.drop (m + 1) := by
    rw [List.drop_eq_getElem_cons hm]
    simp [hm]
  have hb := le_bound (xs.drop m) (ho.drop m)
  have hb2 := le_bound (xs.drop (m + 1)) (ho.drop (m + 1))
  have hg := ho.getD m
  have hp : (2 : Int) ^ (8 * (xs.drop m).length) ≤ 18446744073709551616 := by
    have h1 : 2 ^ (8 * (xs.drop m).length) ≤ 2 ^ 64 := Nat.pow_le_pow_right (by omega) (by rw [List.length_drop]; omega)
    have e : (2 : Int) ^ (8 * (xs.drop m).length) = ((2 ^ (8 * (xs.drop m).length) : Nat) : Int) := by push_cast; rfl
    rw [e]
    exact Int.le_trans (Int.ofNat_le.2 h1) (by decide)
  rw [hd] at hb ⊢
  rw [hd] at hp
  simp only [le] at hb ⊢
  obtain ⟨q, hq⟩ : ∃ q, q = le (xs.drop (m + 1)) := ⟨_, rfl⟩
  rw [← hq] at hb hb2 ⊢
  have h1 : xs.getD m 0 + 256 * q < 18446744073709551616 := Int.lt_of_lt_of_le hb.2 hp
  rw [IntKind.wrap_u64, IntKind.wrap_u64, IntKind.wrap_u64]
  omega

end Go.Proofs.Ytldogkmmnamjbaa

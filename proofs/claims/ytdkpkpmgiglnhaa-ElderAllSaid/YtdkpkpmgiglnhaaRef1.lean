/-
  Contracts of the document's Reader (Take, Value, Get, Fail), whatever it reads.
-/
import Derived.Test.YtdkpkpmgiglnhaaBufB
import Derived.Deep.RegionHeld3
namespace Go.Proofs.Ytdkpkpmgiglnhaa
open Go.RowKit

/-- A Reader, as a value. -/
def rdr (xs : List Int) (a y : Int) : Value := .agg #[.string (strOfNums xs), .int .i64 a, .int .i64 y]

theorem str_take (xs : List Int) (n : Nat) : (strOfNums xs).extract 0 n = strOfNums (xs.take n) := by
  apply ByteArray.ext
  simp [strOfNums, List.map_take]
theorem str_drop (xs : List Int) (n : Nat) : (strOfNums xs).extract n (strOfNums xs).size = strOfNums (xs.drop n) := by
  apply ByteArray.ext
  simp only [strOfNums, ByteArray.size]
  simp [List.map_drop]
  rw [List.take_of_length_le (by simp)]

def strSize : Value → Nat
  | .string b => b.size
  | _ => 0
theorem strSize_of (xs : List Int) : strSize (.string (strOfNums xs)) = xs.length := str_size xs

theorem str_piece (xs : List Int) (a b : Nat) (i n : Nat) (ha : a = i) (hb : b = i + n) : (strOfNums xs).extract a b = strOfNums ((xs.drop i).take n) := by
  subst ha hb
  apply ByteArray.ext
  simp [strOfNums, List.map_drop, List.map_take]

theorem str_get (xs : List Int) (h : Octets xs) (k : Nat) (hk : k < (strOfNums xs).size) : (((strOfNums xs)[k].toNat : Nat) : Int) = xs.getD k 0 := by
  have hl : k < xs.length := by rwa [str_size] at hk
  have h1 : (strOfNums xs).data.toList[k]? = some ((strOfNums xs)[k]) := by
    rw [Array.getElem?_toList]
    exact Array.getElem?_eq_getElem hk
  rw [strOfNums_data, List.getElem?_map, List.getElem?_eq_getElem hl] at h1
  have e : UInt8.ofNat (xs[k]).toNat = (strOfNums xs)[k] := by simpa using h1
  have hb := h _ (List.getElem_mem hl)
  rw [← e, UInt8.toNat_ofNat', show xs.getD k 0 = xs[k] by simp [hl]]
  omega

theorem le_step (xs : List Int) (ho : Octets xs) (h8 : xs.length ≤ 8) (m : Nat) (hm : m < xs.length) :
    IntKind.u64.wrap (IntKind.u64.wrap (le (xs.drop (m + 1)) * 256) + IntKind.u64.wrap (xs.getD m 0)) = le (xs.drop m) := by
  have hd : xs.drop m = xs.getD m 0 :: xs.drop (m + 1) := by
    rw [List.drop_eq_getElem_cons hm]
    simp [hm]
  have hb := le_bound (xs.drop m) (ho.drop m)
  have hb2 := le_bound (xs.drop (m + 1)) (ho.drop (m + 1))
  have hg := ho.getD m
  have hp : (2 : Int) ^ (8 * (xs.drop m).length) ≤ 18446744073709551616 := by
    have h1 : 2 ^ (8 * (xs.drop m).length) ≤ 2 ^ 64 := Nat.pow_le_pow_right (by omega) (by rw [List.length_drop]; omega)
    have e : (2 : Int) ^ (8 * (xs.drop m).length) = ((2 ^ (8 * (xs.drop m).length) : Nat) : Int) := by push_cast; rfl
    rw [e]
    exact Int.le_trans (Int.ofNat_le.2 h1) (by decide)
  rw [hd] at hb ⊢
  rw [hd] at hp
  simp only [le] at hb ⊢
  obtain ⟨q, hq⟩ : ∃ q, q = le (xs.drop (m + 1)) := ⟨_, rfl⟩
  rw [← hq] at hb hb2 ⊢
  have h1 : xs.getD m 0 + 256 * q < 18446744073709551616 := Int.lt_of_lt_of_le hb.2 hp
  rw [IntKind.wrap_u64, IntKind.wrap_u64, IntKind.wrap_u64]
  omega

set_option maxHeartbeats 800000 in
set_option maxRecDepth 10000 in
theorem value_ref (xs : List Int) (ho : Octets xs) (h8 : xs.length ≤ 8) (w : World) :
    Calls Try.prog 30 #[.string (strOfNums xs)] w fun e w' => e = .returned (.int .u64 (le xs)) ∧ w = w' := by
  have HO := Lib.hid ho
  have hss : (strOfNums xs).size = xs.length := str_size xs
  obtain ⟨n, hn⟩ : ∃ n, n = xs.length := ⟨_, rfl⟩
  have HN := Lib.hid hn
  rw [← hn] at hss h8
  clear ho hn
  go_enter Try.func30, Try.ntmps30
  go_wp2
  go_loop [3, 4] (fun x i => ∃ k : Nat, k ≤ n ∧ i = .int .i64 ((k : Int) - 1) ∧ x = .int .u64 (le (xs.drop k))) (fun _ i => (intOf i + 1).toNat)
  case atStart => exact ⟨n, Nat.le_refl _, rfl, by rw [HN.out]; simp [le]⟩
  case round =>
    obtain ⟨k, hk, rfl, rfl⟩ := hrel
    by_cases hlt : 1 ≤ k
    · obtain ⟨m, rfl⟩ : ∃ m, k = m + 1 := ⟨k - 1, by omega⟩
      have hi : ((m + 1 : Nat) : Int) - 1 = (m : Int) := by omega
      rw [hi]
      go_wp2
      go_round
      case rel =>
        refine ⟨m, by omega, rfl, congrArg (Value.int IntKind.u64) ?_⟩
        rw [str_get xs HO.out m (by omega)]
        exact le_step xs HO.out (by have := HN.out; omega) m (by have := HN.out; omega)
      case measure => simp [intOf]
    · obtain rfl : k = 0 := by omega
      go_wp2
      go_ret
      exact ⟨by simp, rfl⟩

end Go.Proofs.Ytdkpkpmgiglnhaa

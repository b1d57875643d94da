/-
  StrBytes; TextPut; VarLen; RecOwn; RecBody; CobsLaws.
-/
import Derived.Lib.ConvBytes
import Derived.Lib.BitFns
import Derived.Lib.Walk
import Derived.Lib.Strings
import Derived.Lib.Slices
import Derived.Lib.Small
import Derived.Deep.RegionHeld3
import Derived.Lib.SlBytesConst
import Derived.Test.YtmifbohdepejaaaM01
import Derived.Test.YtmifbohdepejaaaM02
import Derived.Test.YtmifbohdepejaaaM05
import Derived.Test.YtmifbohdepejaaaM07
import Derived.Test.YtmifbohdepejaaaM11
import Derived.Test.YtmifbohdepejaaaM12
import Derived.Test.YtmifbohdepejaaaM15
namespace Go.Proofs.Ytmifbohdepejaaa
open Go.RowKit

theorem bytesWorld_keeps (S : Nat → Prop) (w : World) (e : TypeId) (s : ByteArray) : Keeps S w (Lib.bytesWorld w e s) :=
  ⟨rfl, rfl, rfl, by rw [Lib.bytesWorld_size]; omega, fun k hk _ => Lib.bytesWorld_at_old w e s k hk⟩

theorem bytesWorld_bytes (w : World) (e : TypeId) (xs : List Int) (ho : Octets xs) : Bytes8 (Lib.bytesWorld w e (strOfNums xs)) (some ⟨w.heap.size, 0, none⟩) xs := fun _ => ⟨_, rfl, fun i hi => by
  rw [show (⟨w.heap.size, 0, none⟩ : Addr).add i = ⟨w.heap.size, i, none⟩ by
    unfold Addr.add
    split
    · rename_i h
      subst h
      rfl
    · simp]
  rw [Lib.bytesWorld_cell w e _ i (by rw [str_size]; exact hi)]
  have hb := ho (xs.getD i 0) (by rw [List.getD_eq_getElem?_getD, List.getElem?_eq_getElem hi]; exact List.getElem_mem hi)
  have e1 : (strOfNums xs).data.toList.getD i 0 = UInt8.ofNat (xs.getD i 0).toNat := by
    simp [strOfNums, List.getD_eq_getElem?_getD, hi]
  rw [e1]
  have e2 : ((UInt8.ofNat (xs.getD i 0).toNat).toNat : Int) = xs.getD i 0 := by
    simp only [UInt8.toNat_ofNat']
    omega
  rw [e2]⟩

/-- '[]byte(s)': the slice, and the world behind it. -/
theorem run_str_bytes (xs : List Int) (w : World) :
    (convert 9 27 (.string (strOfNums xs))).run Try.prog w = .ok (.slice (some ⟨w.heap.size, 0, none⟩) xs.length (grownCap w xs.length 0 5)) (Lib.bytesWorld w 5 (strOfNums xs)) := by
  have h := Lib.run_convert_string_bytes (P := Try.prog) w 9 27 5 (strOfNums xs) Try.underlying9 Try.underlying27 Try.underlying5
  rw [str_size] at h
  exact h
end Go.Proofs.Ytmifbohdepejaaa

namespace Go.Proofs.Ytmifbohdepejaaa
open Go.RowKit

end Go.Proofs.Ytmifbohdepejaaa

namespace Go.Proofs.Ytmifbohdepejaaa
open Go.RowKit

theorem bitLen_shifted {L x k : Nat} (h : BitLen L (x / 2 ^ k)) (h1 : 2 ^ k ≤ x) : BitLen (k + L) x := by
  have hp := Nat.two_pow_pos k
  obtain ⟨g1, g2⟩ := h
  refine ⟨?_, ?_⟩
  · rw [Nat.pow_add, Nat.mul_comm]
    exact (Nat.div_lt_iff_lt_mul hp).1 g1
  · right
    have hq : 1 ≤ x / 2 ^ k := (Nat.le_div_iff_mul_le hp).2 (by omega)
    rcases g2 with rfl | g2
    · simp at g1; omega
    · have hL : L ≠ 0 := by rintro rfl; simp at g1; omega
      rw [show k + L - 1 = (L - 1) + k by omega, Nat.pow_add]
      exact (Nat.le_div_iff_mul_le hp).1 g2

theorem bitLen_table : ∀ n : Fin 256, n.val < 2 ^ (Lib.bitLen n.val) ∧ (Lib.bitLen n.val = 0 ∨ 2 ^ (Lib.bitLen n.val - 1) ≤ n.val) ∧ Lib.bitLen n.val ≤ 8 := by decide +kernel

def LenOk (x : Int) (w : World) (e : Ending) (w' : World) : Prop := ∃ L : Nat, L ≤ 64 ∧ BitLen L x.toNat ∧ e = .returned (.int .i64 L) ∧ w = w'

theorem len8_in (i : Int) (h0 : 0 ≤ i) (h1 : i ≤ 255) : 0 ≤ Lib.len8 i ∧ Lib.len8 i ≤ 8 := by
  rw [Lib.len8_of i h0 h1]
  have := Lib.bitLen_le8' i h0 h1
  omega

theorem lenOk_of (x i v : Int) (k : Nat) (w : World) (hk : k ≤ 56) (hi : i.toNat = x.toNat / 2 ^ k) (h0 : 0 ≤ i) (h1 : i ≤ 255) (hx : k = 0 ∨ 2 ^ k ≤ x.toNat) (hv : v = k + Lib.len8 i) : LenOk x w (.returned (.int .i64 v)) w := by
  have ht := bitLen_table ⟨i.toNat, by omega⟩
  simp only at ht
  refine ⟨k + Lib.bitLen i.toNat, by omega, ?_, by rw [hv, Lib.len8_of i h0 h1]; simp, rfl⟩
  rcases hx with rfl | hx
  · have e : i.toNat = x.toNat := by simpa using hi
    rw [e] at ht ⊢
    rw [Nat.zero_add]
    exact ⟨ht.1, ht.2.1⟩
  · refine bitLen_shifted ?_ hx
    rw [← hi]
    exact ⟨ht.1, ht.2.1⟩

set_option maxHeartbeats 1000000 in
set_option maxRecDepth 100000 in
theorem len64 (x : Int) (w : World) (h0 : 0 ≤ x) (h1 : x ≤ 18446744073709551615) :
    Calls Try.prog 122 #[.int .u64 x] w (LenOk x w) := by
  by_cases a1 : 4294967296 ≤ x
  · by_cases a2 : 65536 ≤ x / 4294967296
    · by_cases a3 : 256 ≤ x / 4294967296 / 65536
      · have b : 0 ≤ x / 4294967296 / 65536 / 256 ∧ x / 4294967296 / 65536 / 256 ≤ 255 := by omega
        obtain ⟨l0, l1⟩ := len8_in _ b.1 b.2
        obtain ⟨b0, b1⟩ := b
        go_enter Try.func122, Try.ntmps122
        go_wp2
        go_ret
        exact lenOk_of x _ _ 56 w (by omega) (by omega) b0 b1 (by omega) rfl
      · have b : 0 ≤ x / 4294967296 / 65536 ∧ x / 4294967296 / 65536 ≤ 255 := by omega
        obtain ⟨l0, l1⟩ := len8_in _ b.1 b.2
        obtain ⟨b0, b1⟩ := b
        go_enter Try.func122, Try.ntmps122
        go_wp2
        go_ret
        exact lenOk_of x _ _ 48 w (by omega) (by omega) b0 b1 (by omega) rfl
    · by_cases a3 : 256 ≤ x / 4294967296
      · have b : 0 ≤ x / 4294967296 / 256 ∧ x / 4294967296 / 256 ≤ 255 := by omega
        obtain ⟨l0, l1⟩ := len8_in _ b.1 b.2
        obtain ⟨b0, b1⟩ := b
        go_enter Try.func122, Try.ntmps122
        go_wp2
        go_ret
        exact lenOk_of x _ _ 40 w (by omega) (by omega) b0 b1 (by omega) rfl
      · have b : 0 ≤ x / 4294967296 ∧ x / 4294967296 ≤ 255 := by omega
        obtain ⟨l0, l1⟩ := len8_in _ b.1 b.2
        obtain ⟨b0, b1⟩ := b
        go_enter Try.func122, Try.ntmps122
        go_wp2
        go_ret
        exact lenOk_of x _ _ 32 w (by omega) (by omega) b0 b1 (by omega) rfl
  · by_cases a2 : 65536 ≤ x
    · by_cases a3 : 256 ≤ x / 65536
      · have b : 0 ≤ x / 65536 / 256 ∧ x / 65536 / 256 ≤ 255 := by omega
        obtain ⟨l0, l1⟩ := len8_in _ b.1 b.2
        obtain ⟨b0, b1⟩ := b
        go_enter Try.func122, Try.ntmps122
        go_wp2
        go_ret
        exact lenOk_of x _ _ 24 w (by omega) (by omega) b0 b1 (by omega) rfl
      · have b : 0 ≤ x / 65536 ∧ x / 65536 ≤ 255 := by omega
        obtain ⟨l0, l1⟩ := len8_in _ b.1 b.2
        obtain ⟨b0, b1⟩ := b
        go_enter Try.func122, Try.ntmps122
        go_wp2
        go_ret
        exact lenOk_of x _ _ 16 w (by omega) (by omega) b0 b1 (by omega) rfl
    · by_cases a3 : 256 ≤ x
      · have b : 0 ≤ x / 256 ∧ x / 256 ≤ 255 := by omega
        obtain ⟨l0, l1⟩ := len8_in _ b.1 b.2
        obtain ⟨b0, b1⟩ := b
        go_enter Try.func122, Try.ntmps122
        go_wp2
        go_ret
        exact lenOk_of x _ _ 8 w (by omega) (by omega) b0 b1 (by omega) rfl
      · have b : 0 ≤ x ∧ x ≤ 255 := by omega
        obtain ⟨l0, l1⟩ := len8_in _ b.1 b.2
        obtain ⟨b0, b1⟩ := b
        go_enter Try.func122, Try.ntmps122
        go_wp2
        go_ret
        exact lenOk_of x _ _ 0 w (by omega) (by simp) b0 b1 (by omega) (by simp)

end Go.Proofs.Ytmifbohdepejaaa

namespace Go.Proofs.Ytmifbohdepejaaa
open Go.RowKit

theorem str_none {xs : List Int} (h : xs.length = 0) : strOfNums xs = ⟨#[]⟩ := by
  obtain rfl : xs = [] := List.length_eq_zero_iff.1 h
  rfl
theorem str_some {xs : List Int} (h : 0 < xs.length) : (strOfNums xs).toList.isEmpty = false := by
  rw [ByteArray.toList_eq]
  cases xs with
  | nil => simp at h
  | cons a r => simp [strOfNums]

/-- How gone ends: with what the first byte says, or given up. -/
def GonePost (k : Nat) (p : Option Addr) (N c : Nat) (w : World) : List Int → Ending → World → Prop
  | [], e, w' => e = .panicked (given k) ∧ CurB w' k p N c 0 true 2 ∧ Keeps (Just k) w w'
  | b :: _, e, w' => Keeps (Just k) w w' ∧ CurB w' k p N c 1 true (if b ≠ 2 ∧ b ≠ 3 then 4 else 0) ∧ e = if b ≠ 2 ∧ b ≠ 3 then .panicked (given k) else .returned (.bool (b == 3))

end Go.Proofs.Ytmifbohdepejaaa

namespace Go.Proofs.Ytmifbohdepejaaa
open Go.RowKit

theorem Keeps.ofBelowAt {B : Nat} {a b : World} (h : Below B a b) : Keeps (fun k => B ≤ k) a b := ⟨h.os, h.tape, h.output, h.size, fun k _ hn => h.block k (by omega)⟩
theorem Keeps.onBuf {B g : Nat} {a b : World} (h : Keeps (OnBuf B g) a b) (hB : B ≤ g) : Keeps (fun k => B ≤ k) a b := h.wider (fun k _ hk => by rcases hk with rfl | hk <;> omega)

theorem textB_len (t : List Int) (ht : t.length ≤ 2000000) : (textB t).length ≤ 2000010 := by
  unfold textB
  rw [List.length_append]
  have := vnum_ten (x := t.length) (by omega)
  omega

end Go.Proofs.Ytmifbohdepejaaa

namespace Go.Proofs.Ytmifbohdepejaaa
open Go.RowKit

theorem stuff_none : stuff [] = [1] := by decide
theorem stuff_nought : stuff [0] = [1, 1] := by decide
theorem stuff_mid : stuff [7, 0, 8] = [2, 7, 2, 8] := by decide

theorem Bytes8.ofNew1 (w : World) (t : TypeId) (f : Nat × Nat) (a : Int) : Bytes8 (w.alloc (.cells #[.int .u8 a] t f)) (some ⟨w.heap.size, 0, none⟩) [a] := fun _ => by
  refine ⟨_, rfl, fun i hi => ?_⟩
  have : i = 0 := by simp at hi; omega
  subst this
  rw [addZero]
  exact cell_new _ _ _ _ _ rfl
theorem Bytes8.ofNew3 (w : World) (t : TypeId) (f : Nat × Nat) (a b c : Int) : Bytes8 (w.alloc (.cells #[.int .u8 a, .int .u8 b, .int .u8 c] t f)) (some ⟨w.heap.size, 0, none⟩) [a, b, c] := fun _ => by
  refine ⟨_, rfl, fun i hi => ?_⟩
  have : i = 0 ∨ i = 1 ∨ i = 2 := by simp at hi; omega
  rcases this with rfl | rfl | rfl <;> (rw [addZero]; exact cell_new _ _ _ _ _ rfl)

/-- So many bytes, none of them a nought. -/
def solidN (m : Nat) : List Int := (List.range m).map fun i => ((1 + i % 255 : Nat) : Int)
theorem solidN_length (m : Nat) : (solidN m).length = m := by simp [solidN]
theorem solidN_succ (m : Nat) : solidN (m + 1) = solidN m ++ [((1 + m % 255 : Nat) : Int)] := by
  unfold solidN
  rw [List.range_succ, List.map_append]
  rfl
theorem solidN_solid (m : Nat) : Solid (solidN m) := fun b hb => by
  obtain ⟨i, _, rfl⟩ := List.mem_map.1 hb
  omega

end Go.Proofs.Ytmifbohdepejaaa

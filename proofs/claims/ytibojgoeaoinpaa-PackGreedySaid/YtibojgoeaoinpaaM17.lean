/-
  RecLaws; TextGet; StrBytes; TextPut; VarLen; RecOwn.
-/
import Derived.Lib.ConvBytes
import Derived.Lib.BitFns
import Derived.Lib.Walk
import Derived.Lib.Strings
import Derived.Lib.Slices
import Derived.Lib.Small
import Derived.Test.YtibojgoeaoinpaaM01
import Derived.Test.YtibojgoeaoinpaaM02
import Derived.Test.YtibojgoeaoinpaaM05
import Derived.Test.YtibojgoeaoinpaaM07
import Derived.Test.YtibojgoeaoinpaaM12
import Derived.Test.YtibojgoeaoinpaaM16
namespace Go.Proofs.Ytibojgoeaoinpaa
open Go.RowKit

/-- A record of no more bytes than the laws have. -/
structure Rec.Modest (r : Rec) : Prop where
  fine : r.Fine
  key : r.key.length ≤ 2000000
  val : r.val.length ≤ 2000000
def bodyE (r : Rec) : List Int := if checkR r = 0 then bodyR r else []

theorem vnum_one : vnum 1 = [1] := by rw [vnum]; rfl
theorem body_lives : bodyE ⟨false, 1, [97], [98]⟩ = [2, 1, 1, 97, 1, 98] := by
  have h : checkR ⟨false, 1, [97], [98]⟩ = 0 := by decide
  unfold bodyE
  rw [if_pos h]
  show 2 :: (vnum 1 ++ (vnum 1 ++ [97]) ++ (vnum 1 ++ [98])) = _
  rw [vnum_one]
  rfl

end Go.Proofs.Ytibojgoeaoinpaa

namespace Go.Proofs.Ytibojgoeaoinpaa
open Go.RowKit

theorem vtext_by (xs : List Int) (l m : Nat) (t : VR) (ht : t = vget xs) : vtext xs l m = if t.e ≠ 0 then ⟨t.e, t.n, []⟩
  else if (m : Int) < t.x then ⟨3, t.n, []⟩
  else if t.x < (l : Int) then ⟨4, t.n, []⟩
  else if (xs.drop t.n).length < t.x.toNat then ⟨2, t.n, []⟩
  else ⟨0, t.n + t.x.toNat, (xs.drop t.n).take t.x.toNat⟩ := by subst ht; rfl

end Go.Proofs.Ytibojgoeaoinpaa

namespace Go.Proofs.Ytibojgoeaoinpaa
open Go.RowKit

theorem bytesWorld_keeps (S : Nat → Prop) (w : World) (e : TypeId) (s : ByteArray) : Keeps S w (Lib.bytesWorld w e s) :=
  ⟨rfl, rfl, rfl, by rw [Lib.bytesWorld_size]; omega, fun k hk _ => Lib.bytesWorld_at_old w e s k hk⟩

theorem bytesWorld_bytes (w : World) (e : TypeId) (xs : List Int) (ho : Octets xs) : Bytes8 (Lib.bytesWorld w e (strOfNums xs)) (some ⟨w.heap.size, 0, none⟩) xs := fun _ => ⟨_, rfl, fun i hi => by
  rw [show (⟨w.heap.size, 0, none⟩ : Addr).add i = ⟨w.heap.size, i, none⟩ by
    unfold Addr.add
    split
    · rename_i h
      subst h
      rfl
    · simp]
  rw [Lib.bytesWorld_cell w e _ i (by rw [str_size]; exact hi)]
  have hb := ho (xs.getD i 0) (by rw [List.getD_eq_getElem?_getD, List.getElem?_eq_getElem hi]; exact List.getElem_mem hi)
  have e1 : (strOfNums xs).data.toList.getD i 0 = UInt8.ofNat (xs.getD i 0).toNat := by
    simp [strOfNums, List.getD_eq_getElem?_getD, hi]
  rw [e1]
  have e2 : ((UInt8.ofNat (xs.getD i 0).toNat).toNat : Int) = xs.getD i 0 := by
    simp only [UInt8.toNat_ofNat']
    omega
  rw [e2]⟩

/-- '[]byte(s)': the slice, and the world behind it. -/
theorem run_str_bytes (xs : List Int) (w : World) :
    (convert 9 58 (.string (strOfNums xs))).run Try.prog w = .ok (.slice (some ⟨w.heap.size, 0, none⟩) xs.length (grownCap w xs.length 0 5)) (Lib.bytesWorld w 5 (strOfNums xs)) := by
  have h := Lib.run_convert_string_bytes (P := Try.prog) w 9 58 5 (strOfNums xs) Try.underlying9 Try.underlying58 Try.underlying5
  rw [str_size] at h
  exact h
end Go.Proofs.Ytibojgoeaoinpaa

namespace Go.Proofs.Ytibojgoeaoinpaa
open Go.RowKit

end Go.Proofs.Ytibojgoeaoinpaa

namespace Go.Proofs.Ytibojgoeaoinpaa
open Go.RowKit

theorem bitLen_shifted {L x k : Nat} (h : BitLen L (x / 2 ^ k)) (h1 : 2 ^ k ≤ x) : BitLen (k + L) x := by
  have hp := Nat.two_pow_pos k
  obtain ⟨g1, g2⟩ := h
  refine ⟨?_, ?_⟩
  · rw [Nat.pow_add, Nat.mul_comm]
    exact (Nat.div_lt_iff_lt_mul hp).1 g1
  · right
    have hq : 1 ≤ x / 2 ^ k := (Nat.le_div_iff_mul_le hp).2 (by omega)
    rcases g2 with rfl | g2
    · simp at g1; omega
    · have hL : L ≠ 0 := by rintro rfl; simp at g1; omega
      rw [show k + L - 1 = (L - 1) + k by omega, Nat.pow_add]
      exact (Nat.le_div_iff_mul_le hp).1 g2

theorem bitLen_table : ∀ n : Fin 256, n.val < 2 ^ (Lib.bitLen n.val) ∧ (Lib.bitLen n.val = 0 ∨ 2 ^ (Lib.bitLen n.val - 1) ≤ n.val) ∧ Lib.bitLen n.val ≤ 8 := by decide +kernel

def LenOk (x : Int) (w : World) (e : Ending) (w' : World) : Prop := ∃ L : Nat, L ≤ 64 ∧ BitLen L x.toNat ∧ e = .returned (.int .i64 L) ∧ w = w'

theorem len8_in (i : Int) (h0 : 0 ≤ i) (h1 : i ≤ 255) : 0 ≤ Lib.len8 i ∧ Lib.len8 i ≤ 8 := by
  rw [Lib.len8_of i h0 h1]
  have := Lib.bitLen_le8' i h0 h1
  omega

theorem lenOk_of (x i v : Int) (k : Nat) (w : World) (hk : k ≤ 56) (hi : i.toNat = x.toNat / 2 ^ k) (h0 : 0 ≤ i) (h1 : i ≤ 255) (hx : k = 0 ∨ 2 ^ k ≤ x.toNat) (hv : v = k + Lib.len8 i) : LenOk x w (.returned (.int .i64 v)) w := by
  have ht := bitLen_table ⟨i.toNat, by omega⟩
  simp only at ht
  refine ⟨k + Lib.bitLen i.toNat, by omega, ?_, by rw [hv, Lib.len8_of i h0 h1]; simp, rfl⟩
  rcases hx with rfl | hx
  · have e : i.toNat = x.toNat := by simpa using hi
    rw [e] at ht ⊢
    rw [Nat.zero_add]
    exact ⟨ht.1, ht.2.1⟩
  · refine bitLen_shifted ?_ hx
    rw [← hi]
    exact ⟨ht.1, ht.2.1⟩

end Go.Proofs.Ytibojgoeaoinpaa

namespace Go.Proofs.Ytibojgoeaoinpaa
open Go.RowKit

theorem str_none {xs : List Int} (h : xs.length = 0) : strOfNums xs = ⟨#[]⟩ := by
  obtain rfl : xs = [] := List.length_eq_zero_iff.1 h
  rfl
theorem str_some {xs : List Int} (h : 0 < xs.length) : (strOfNums xs).toList.isEmpty = false := by
  rw [ByteArray.toList_eq]
  cases xs with
  | nil => simp at h
  | cons a r => simp [strOfNums]

end Go.Proofs.Ytibojgoeaoinpaa

/-
  Texts: when two of bytes are the same.
-/
import Derived.Test.YtbchiccgkhnkaaaBufB
namespace Go.Proofs.Ytbchiccgkhnkaaa
open Go.RowKit

theorem strOf_inj {xs ys : List Int} (hx : Octets xs) (hy : Octets ys) (h : strOfNums xs = strOfNums ys) : xs = ys := by
  have e : (strOfNums xs).data.toList = (strOfNums ys).data.toList := by rw [h]
  rw [strOfNums_data, strOfNums_data] at e
  have hm : ∀ {zs : List Int}, Octets zs → (zs.map fun n => UInt8.ofNat n.toNat).map (fun u => ((u.toNat : Nat) : Int)) = zs := fun {zs} hz => by
    rw [List.map_map]
    conv => rhs; rw [← List.map_id zs]
    exact List.map_congr_left fun z hzm => by
      have := hz z hzm
      simp [UInt8.toNat_ofNat']
      omega
  rw [← hm hx, ← hm hy, e]

theorem text_beq (a b : ByteArray) : (a.toList == b.toList) = decide (a = b) := by
  rw [Bool.eq_iff_iff, beq_iff_eq, decide_eq_true_iff, ByteArray.toList_eq, ByteArray.toList_eq]
  exact ⟨fun h => ByteArray.ext (Array.toList_inj.1 h), fun h => by rw [h]⟩
end Go.Proofs.Ytbchiccgkhnkaaa

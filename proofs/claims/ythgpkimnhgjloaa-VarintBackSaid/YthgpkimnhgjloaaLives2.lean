/-
  The example of the laws of package varint, 'lives': it is true.
-/
import Derived.Test.YthgpkimnhgjloaaVarPut
namespace Go.Proofs.Ythgpkimnhgjloaa
open Go.RowKit

theorem ret_true {b : Bool} (h : b = true) : Ending.returned (.bool b) = .returned (.bool true) := by rw [h]

/-- A Buffer that wasn't there ahead of all: what is written into it turns nothing that was. -/
theorem keepsNewBuf {w w1 w2 : World} {base g : Nat} (h : Keeps NoBlock w w1) (k : Keeps (OnBuf base g) w1 w2) (hg : w.heap.size ≤ g) (hb : w.heap.size ≤ base) : Keeps NoBlock w w2 :=
  h.then k fun i hi hS => by
    rcases hS with rfl | h1
    · omega
    · omega

theorem bufNew (w : World) : BufAt (w.alloc (.cells #[.slice none 0 0] 26)) w.heap.size w.heap.size [] :=
  ⟨.slice none 0 0, Whole.new _ _ _, by simp, .inl ⟨rfl, by simp⟩⟩

theorem lives2_true (w : World) : Calls Try.prog 7 #[] w fun e w' => e = .returned (.bool true) ∧ Keeps NoBlock w w' := by
  have hv : vnum 300 = [172, 2] := by rw [vnum_big (by omega), vnum_small (by omega)]; rfl
  have HV := Lib.hid hv
  clear hv
  go_enter Try.func7, Try.ntmps7
  go_wp2_with fail
  refine (put_any w.heap.size w.heap.size [] 300 300 rfl _ (bufNew w) (by simp) (by decide) (by decide)).mono ?_
  rintro e w1 ⟨rfl, hbuf, hbel⟩
  rw [List.nil_append, HV.out] at hbuf
  have HK := Lib.hid (keepsNewBuf ((Keeps.refl NoBlock w).alloc (.cells #[.slice none 0 0] 26)) hbel (Nat.le_refl _) (Nat.le_refl _))
  have HB := Lib.hid hbuf
  clear hbuf hbel
  go_wp2_with fail
  refine (bufBytes w.heap.size w.heap.size [172, 2] _ HB.out (by decide)).mono ?_
  rintro e w2 ⟨v, rfl, q, c, rfl, f1, f2, f3, f4, f5⟩
  have hcv := textOf q 2 c [172, 2] w2 rfl f3
  have hs : strOfNums [172, 2] = { data := #[172, 2] } := by decide
  rw [hs] at hcv
  have HK2 := Lib.hid (HK.out.trans f5)
  clear f1 f2 f3 f4 f5 hs
  go_wp2_with fail
  go_ret
  exact ⟨rfl, HK2.out⟩
end Go.Proofs.Ythgpkimnhgjloaa

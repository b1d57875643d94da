/-
  Contracts of Put, and of the document's Num: a number's bytes.
-/
import Derived.Test.YtldogkmmnamjbaaVarNum
import Derived.Test.YtldogkmmnamjbaaBufB
import Derived.Deep.RegionHeld3
namespace Go.Proofs.Ytldogkmmnamjbaa
open Go.RowKit

/-- What Put leaves. -/
def PutOk (base g : Nat) (xs : List Int) (w : World) (e : Ending) (w' : World) : Prop :=
  e = .returned (.tuple #[]) ∧ BufAt w' base g xs ∧ Keeps (OnBuf base g) w w'

set_option maxRecDepth 10000 in
set_option maxHeartbeats 800000 in
theorem put_any (base g : Nat) (xs : List Int) (x : Nat) (z : Int) (hz : z = x) (w : World) (h : BufAt w base g xs) (hs : base ≤ w.heap.size) (hx : xs.length + 10 ≤ 140737488355328) (h64 : x < 18446744073709551616) :
    Calls Try.prog 13 #[.pointer (some ⟨g, 0, none⟩), .int .u64 z] w (PutOk base g (xs ++ vnum x) w) := by
  subst hz
  have HT := Lib.hid (vnum_ten h64)
  have H := Lib.hid h; have HX := Lib.hid hx; have H64 := Lib.hid h64
  clear h hx h64
  go_enter Try.func13, Try.ntmps13
  go_wp2_with fail
  go_loopw [1] (fun v wr => ∃ (y : Nat) (pre : List Int), v = .int .u64 y ∧ y ≤ x ∧ Hid (pre ++ vnum y = vnum x) ∧ BufAt wr base g (xs ++ pre) ∧ Keeps (OnBuf base g) w wr) (fun v _ => (intOf v).toNat)
  case atStart => exact ⟨x, [], rfl, Nat.le_refl _, Lib.hid rfl, by simpa using H.out, Keeps.refl _ _⟩
  case round =>
    obtain ⟨y, pre, rfl, hyx, hpre, hbuf, hbel⟩ := hrel
    have HB := Lib.hid hbuf; have HL := Lib.hid hbel
    clear hbuf hbel
    have hlen : xs.length + pre.length + 1 ≤ 140737488355328 := by
      have e := congrArg List.length hpre.out
      rw [List.length_append] at e
      have := HT.out; have := HX.out; have := vnum_pos y
      omega
    have HLen := Lib.hid hlen
    clear hlen
    by_cases hlt : y < 128
    · go_wp2_with fail
      refine (bufByteK base g (xs ++ pre) _ _ HB.out (by have := HL.out.size; omega) (by have := HLen.out; simp; omega)).mono ?_
      rintro e w2 ⟨rfl, hbuf, hbel⟩
      have HB2 := Lib.hid hbuf; have HL2 := Lib.hid (HL.out.trans hbel)
      clear hbuf hbel
      go_wp2_with fail
      go_returns
      refine ⟨rfl, ?_, HL2.out⟩
      have := HB2.out
      have e := hpre.out
      rw [vnum_small hlt] at e
      rw [← e, ← List.append_assoc]
      first | exact this | (have e2 : IntKind.u8.wrap (y : Int) = y := by (rw [IntKind.wrap_u8']; omega)); (rw [e2] at this; exact this)
    · go_wp2_with fail
      refine (bufByteK base g (xs ++ pre) _ _ HB.out (by have := HL.out.size; omega) (by have := HLen.out; simp; omega)).mono ?_
      rintro e w2 ⟨rfl, hbuf, hbel⟩
      have HB2 := Lib.hid hbuf; have HL2 := Lib.hid (HL.out.trans hbel)
      clear hbuf hbel
      go_wp2_with fail
      go_roundw
      case rel =>
        refine ⟨y / 128, pre ++ [((128 + y % 128 : Nat) : Int)], ?_, by omega, Lib.hid ?_, ?_, HL2.out⟩
        · go_num
        · have e := hpre.out
          rw [vnum_big hlt] at e
          rw [← e, List.append_assoc]
          rfl
        · have := HB2.out
          rw [← IntKind.wrap_u8', more_seven] at this
          rw [← List.append_assoc]
          exact this
      case measure => simp [intOf]; omega

theorem one_conv {v : Int} {W : World} {g : Nat} {t : TypeId} (h : Whole W g t #[.int .u8 v]) : (convert 33 9 (.slice (some ⟨g, 0, none⟩) 1 1)).run Try.prog W = .ok (.string (strOfNums [v])) W :=
  textOf _ 1 1 [v] _ rfl (h.bytes [v] (fun i hi => by
    match i, hi with
    | 0, _ => rfl))

theorem vnum_conv (v : Int) (w : World) : (convert 33 9 (.slice (some ⟨w.heap.size, 0, none⟩) 1 1)).run Try.prog (w.alloc (.cells #[.int .u8 v] 5)) = .ok (.string (strOfNums [v])) (w.alloc (.cells #[.int .u8 v] 5)) :=
  one_conv (Whole.new w _ _)
theorem vnum_convD (v : Int) (w : World) : (convert 33 9 (.slice (some ⟨w.heap.size, 0, none⟩) 1 1)).run Try.prog (w.alloc (.cells #[.int .u8 v] 5)).drew = .ok (.string (strOfNums [v])) (w.alloc (.cells #[.int .u8 v] 5)).drew :=
  one_conv (W := (w.alloc (.cells #[.int .u8 v] 5)).drew) (show Whole _ _ 5 _ from Whole.new w _ _)
theorem vnum_conv_keep {v : Int} {w w1 : World} (h : Keeps NoBlock (w.alloc (.cells #[.int .u8 v] 5)).drew w1) :
    (convert 33 9 (.slice (some ⟨w.heap.size, 0, none⟩) 1 1)).run Try.prog w1 = .ok (.string (strOfNums [v])) w1 ∧ (convert 33 9 (.slice (some ⟨w.heap.size, 0, none⟩) 1 1)).run Try.prog w1.drew = .ok (.string (strOfNums [v])) w1.drew := by
  have hw : Whole w1 w.heap.size 5 #[.int .u8 v] := (show Whole (w.alloc (.cells #[.int .u8 v] 5)).drew _ _ _ from Whole.new w _ _).keep h (fun h => h)
  exact ⟨one_conv hw, one_conv (show Whole w1.drew _ 5 _ from hw)⟩

end Go.Proofs.Ytldogkmmnamjbaa

/-
  Contracts of Put, and of the document's Num: a number's bytes.
-/
import Derived.Test.YtnfgmgonpecdmaaVarNum
import Derived.Test.YtnfgmgonpecdmaaBufB
import Derived.Deep.RegionHeld3
namespace Go.Proofs.Ytnfgmgonpecdmaa
open Go.RowKit

/-- What Put leaves. -/
def PutOk (base g : Nat) (xs : List Int) (w : World) (e : Ending) (w' : World) : Prop :=
  e = .returned (.tuple #[]) ∧ BufAt w' base g xs ∧ Keeps (OnBuf base g) w w'

set_option maxRecDepth 10000 in
set_option maxHeartbeats 800000 in
theorem put_any (base g : Nat) (xs : List Int) (x : Nat) (z : Int) (hz : z = x) (w : World) (h : BufAt w base g xs) (hs : base ≤ w.heap.size) (hx : xs.length + 10 ≤ 140737488355328) (h64 : x < 18446744073709551616) :
    Calls Try.prog 17 #[.pointer (some ⟨g, 0, none⟩), .int .u64 z] w (PutOk base g (xs ++ vnum x) w) := by
  subst hz
  have HT := Lib.hid (vnum_ten h64)
  have H := Lib.hid h; have HX := Lib.hid hx; have H64 := Lib.hid h64
  clear h hx h64
  go_enter Try.func17, Try.ntmps17
  go_wp2_with fail
  go_loopw [1] (fun v wr => ∃ (y : Nat) (pre : List Int), v = .int .u64 y ∧ y ≤ x ∧ Hid (pre ++ vnum y = vnum x) ∧ BufAt wr base g (xs ++ pre) ∧ Keeps (OnBuf base g) w wr) (fun v _ => (intOf v).toNat)
  case atStart => exact ⟨x, [], rfl, Nat.le_refl _, Lib.hid rfl, by simpa using H.out, Keeps.refl _ _⟩
  case round =>
    obtain ⟨y, pre, rfl, hyx, hpre, hbuf, hbel⟩ := hrel
    have HB := Lib.hid hbuf; have HL := Lib.hid hbel
    clear hbuf hbel
    have hlen : xs.length + pre.length + 1 ≤ 140737488355328 := by
      have e := congrArg List.length hpre.out
      rw [List.length_append] at e
      have := HT.out; have := HX.out; have := vnum_pos y
      omega
    have HLen := Lib.hid hlen
    clear hlen
    by_cases hlt : y < 128
    · go_wp2_with fail
      refine (bufByteK base g (xs ++ pre) _ _ HB.out (by have := HL.out.size; omega) (by have := HLen.out; simp; omega)).mono ?_
      rintro e w2 ⟨rfl, hbuf, hbel⟩
      have HB2 := Lib.hid hbuf; have HL2 := Lib.hid (HL.out.trans hbel)
      clear hbuf hbel
      go_wp2_with fail
      go_returns
      refine ⟨rfl, ?_, HL2.out⟩
      have := HB2.out
      have e := hpre.out
      rw [vnum_small hlt] at e
      rw [← e, ← List.append_assoc]
      first | exact this | (have e2 : IntKind.u8.wrap (y : Int) = y := by (rw [IntKind.wrap_u8']; omega)); (rw [e2] at this; exact this)
    · go_wp2_with fail
      refine (bufByteK base g (xs ++ pre) _ _ HB.out (by have := HL.out.size; omega) (by have := HLen.out; simp; omega)).mono ?_
      rintro e w2 ⟨rfl, hbuf, hbel⟩
      have HB2 := Lib.hid hbuf; have HL2 := Lib.hid (HL.out.trans hbel)
      clear hbuf hbel
      go_wp2_with fail
      go_roundw
      case rel =>
        refine ⟨y / 128, pre ++ [((128 + y % 128 : Nat) : Int)], ?_, by omega, Lib.hid ?_, ?_, HL2.out⟩
        · go_num
        · have e := hpre.out
          rw [vnum_big hlt] at e
          rw [← e, List.append_assoc]
          rfl
        · have := HB2.out
          rw [← IntKind.wrap_u8', more_seven] at this
          rw [← List.append_assoc]
          exact this
      case measure => simp [intOf]; omega

theorem one_conv {v : Int} {W : World} {g : Nat} {t : TypeId} (h : Whole W g t #[.int .u8 v]) : (convert 28 9 (.slice (some ⟨g, 0, none⟩) 1 1)).run Try.prog W = .ok (.string (strOfNums [v])) W :=
  textOf _ 1 1 [v] _ rfl (h.bytes [v] (fun i hi => by
    match i, hi with
    | 0, _ => rfl))

theorem vnum_conv (v : Int) (w : World) : (convert 28 9 (.slice (some ⟨w.heap.size, 0, none⟩) 1 1)).run Try.prog (w.alloc (.cells #[.int .u8 v] 5)) = .ok (.string (strOfNums [v])) (w.alloc (.cells #[.int .u8 v] 5)) :=
  one_conv (Whole.new w _ _)
theorem vnum_convD (v : Int) (w : World) : (convert 28 9 (.slice (some ⟨w.heap.size, 0, none⟩) 1 1)).run Try.prog (w.alloc (.cells #[.int .u8 v] 5)).drew = .ok (.string (strOfNums [v])) (w.alloc (.cells #[.int .u8 v] 5)).drew :=
  one_conv (W := (w.alloc (.cells #[.int .u8 v] 5)).drew) (show Whole _ _ 5 _ from Whole.new w _ _)
theorem vnum_conv_keep {v : Int} {w w1 : World} (h : Keeps NoBlock (w.alloc (.cells #[.int .u8 v] 5)).drew w1) :
    (convert 28 9 (.slice (some ⟨w.heap.size, 0, none⟩) 1 1)).run Try.prog w1 = .ok (.string (strOfNums [v])) w1 ∧ (convert 28 9 (.slice (some ⟨w.heap.size, 0, none⟩) 1 1)).run Try.prog w1.drew = .ok (.string (strOfNums [v])) w1.drew := by
  have hw : Whole w1 w.heap.size 5 #[.int .u8 v] := (show Whole (w.alloc (.cells #[.int .u8 v] 5)).drew _ _ _ from Whole.new w _ _).keep h (fun h => h)
  exact ⟨one_conv hw, one_conv (show Whole w1.drew _ 5 _ from hw)⟩

set_option maxHeartbeats 800000 in
theorem num_bytes (x : Nat) : ∀ (z : Int), z = x → x < 18446744073709551616 → ∀ (w : World),
    Calls Try.prog 28 #[.int .u64 z] w fun e w' => e = .returned (.string (strOfNums (vnum x))) ∧ Keeps NoBlock w w' := by
  induction x using Nat.strongRecOn with
  | _ x ih =>
    intro z hz h64 w
    subst hz
    have hcv := vnum_conv
    by_cases hlt : x < 128
    · clear ih
      have hi : (x : Int) < 128 := by omega
      go_enter Try.func28, Try.ntmps28
      go_wp2_with fail
      go_ret
      refine ⟨?_, (Keeps.refl _ _).alloc _⟩
      rw [vnum_small hlt]
      rfl
    · have hcd := vnum_convD
      have hrec := fun z hz w => ih (x / 128) (by omega) z hz (by omega) w
      have HR := Lib.hid hrec
      have hten := vnum_ten (x := x / 128) (by omega)
      clear ih hrec
      have hi : ¬ (x : Int) < 128 := by omega
      have hsz : ∀ v : Int, ¬ 9223372036854775807 < (strOfNums [v]).size + (strOfNums (vnum (x / 128))).size := fun v => by simp only [str_size, List.length_cons, List.length_nil]; omega
      have HQ := Lib.hid (show IntKind.u64.wrap ((x : Int) / 128) = ((x / 128 : Nat) : Int) by rw [IntKind.wrap_u64]; omega)
      have HV := Lib.hid (show IntKind.u8.wrap (IntKind.u64.wrap (128 + (x : Int).tmod 128)) = ((128 + x % 128 : Nat) : Int) by rw [Int.tmod_eq_emod_of_nonneg (by omega), IntKind.wrap_u64, IntKind.wrap_u8']; omega)
      clear h64
      go_enter Try.func28, Try.ntmps28
      go_wp2_with fail
      go_region_with (go_at_call 28; refine (HR.out _ HQ.out _).mono ?_; rintro e w1 ⟨rfl, hk⟩; first | (obtain ⟨hc1, hc2⟩ := vnum_conv_keep hk; have HK := Lib.hid hk; clear hk) | (have HK := Lib.hid hk; clear hk))
      all_goals
        go_wp2_with fail
        go_ret
        refine ⟨?_, ?_⟩
        · show Ending.returned (Value.string (strOfNums [IntKind.u8.wrap (IntKind.u64.wrap (128 + (x : Int).tmod 128))] ++ strOfNums (vnum (x / 128)))) = _
          rw [HV.out, str_append, vnum_big hlt]
          rfl
        · first
            | exact (((Keeps.refl NoBlock w).alloc _).drew).trans HK.out
            | exact ((((Keeps.refl NoBlock w).alloc _).drew).trans HK.out).drew
            | exact (((Keeps.refl NoBlock w).drew).trans HK.out).alloc _
            | exact ((((Keeps.refl NoBlock w).drew).trans HK.out).alloc _).drew
            | exact ((((Keeps.refl NoBlock w).drew).trans HK.out).drew).alloc _
            | exact HK.out.alloc _
end Go.Proofs.Ytnfgmgonpecdmaa

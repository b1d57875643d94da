/-
  The document's Text, End, GetText, where it goes on and where it stopped; its Check and Body of a record.
-/
import Derived.Test.YtbchiccgkhnkaaaRef2
import Derived.Test.YtbchiccgkhnkaaaSet3
import Derived.Test.YtbchiccgkhnkaaaRecNum
import Derived.Test.YtbchiccgkhnkaaaVarPut
import Derived.Deep.RegionHeld3
import Derived.Lib.Bytes
namespace Go.Proofs.Ytbchiccgkhnkaaa
open Go.RowKit

/-- A record, as a value. -/
def recV (r : Rec) : Value := .agg #[.bool r.del, .int .u64 (r.seq : Int), .string (strOfNums r.key), .string (strOfNums r.val)]
def recCells (r : Rec) : Array Value := #[.bool r.del, .int .u64 (r.seq : Int), .string (strOfNums r.key), .string (strOfNums r.val)]

set_option maxHeartbeats 800000 in
theorem fail_gone (xs : List Int) (a y z : Int) (hy : ¬ y = 0) (w : World) :
    Calls Try.prog 47 #[rdr xs a y, .int .i64 z] w fun e w' => e = .returned (rdr xs a y) ∧ Keeps NoBlock w w' := by
  unfold rdr
  go_enter Try.func47, Try.ntmps47
  go_wp2_with fail
  exact bodyPost_ret (v := rdr xs a y) (by simp [results, Try.results47, go_sem, rdr]) rfl ⟨rfl, ((Keeps.refl _ _).alloc _).alloc _⟩

theorem str_isnone (xs : List Int) : (strOfNums xs).toList.isEmpty = xs.isEmpty := by
  rw [Lib.strOfNums_toList]
  cases xs <;> rfl

def endE (xs : List Int) (y : Int) : Int := if y = 0 then (if xs = [] then 0 else 3) else y
set_option maxHeartbeats 2000000 in
set_option maxRecDepth 10000 in
/-- A number, where it stopped. -/
theorem get1_gone (xs : List Int) (a y z : Int) (hy : ¬ y = 0) (w : World) :
    Calls Try.prog 48 #[rdr xs a y, .int .i64 z] w fun e w' => e = .returned (.tuple #[rdr xs a y, .int .u64 0]) ∧ Keeps NoBlock w w' := by
  have HT := Lib.hid (take_ref_gone xs a y z hy)
  have HV := Lib.hid (value_ref [] (fun b hb => by simp at hb) (by simp))
  clear hy
  unfold rdr at *
  go_enter Try.func48, Try.ntmps48
  go_wp2_with fail
  refine (HT.out _).mono ?_
  rintro e w1 ⟨rfl, hk⟩
  have hb : Whole w1 (w.heap.size + 1) 52 #[.string { data := #[] }, .int .i64 0, .int .i64 0] := (Whole.newAt _ _ _ _ (by simp)).keep hk (fun h => h)
  obtain ⟨W, hW⟩ : ∃ W, W = w1.alloc (.cells #[.string (strOfNums xs), .int .i64 a, .int .i64 y] 52) := ⟨_, rfl⟩
  have hbW : Whole W (w.heap.size + 1) 52 #[.string { data := #[] }, .int .i64 0, .int .i64 0] := by rw [hW]; exact hb.alloc _
  have hsW : Whole W w1.heap.size 52 #[.string (strOfNums xs), .int .i64 a, .int .i64 y] := by rw [hW]; exact Whole.new _ _ _
  have hkW : Keeps NoBlock w W := by rw [hW]; exact ((((Keeps.refl _ w).alloc _).alloc _).trans hk).alloc _
  have c0 := hbW.cell 0 rfl
  have c1 := hbW.cell 1 rfl
  have c2 := hbW.cell 2 rfl
  have f0 := hbW.free 0
  have f1 := hbW.free 1
  have f2 := hbW.free 2
  have d0 := hsW.cell 0 rfl
  have d1 := hsW.cell 1 rfl
  have d2 := hsW.cell 2 rfl
  simp only [List.getElem_toArray, List.getElem_cons_zero, List.getElem_cons_succ] at c0 c1 c2 d0 d1 d2
  have HK := Lib.hid hkW
  clear hk HT hb hbW hsW hkW
  go_wp2_with fail
  rw [← hW]
  have HW := Lib.hid hW
  clear hW
  go_region_with (go_at_call 57; refine (HV.out _).mono ?_; rintro e w2 ⟨rfl, rfl⟩)
  all_goals
    go_wp2_with fail
    refine bodyPost_ret (v := .tuple #[rdr xs a y, .int .u64 0]) (by simp [results, Try.results48, go_sem, rdr, c0, c1, c2, le]) rfl ⟨rfl, ?_⟩
    have hk3 := (((HK.out.setNew (g := w.heap.size + 1) (by omega) 0 (.string (strOfNums xs))).setNew (g := w.heap.size + 1) (by omega) 1 (.int .i64 a)).setNew (g := w.heap.size + 1) (by omega) 2 (.int .i64 y)).drew
    have hk4 := (((HK.out.drew.setNew (g := w.heap.size + 1) (by omega) 0 (.string (strOfNums xs))).setNew (g := w.heap.size + 1) (by omega) 1 (.int .i64 a)).setNew (g := w.heap.size + 1) (by omega) 2 (.int .i64 y))
    first | exact hk3 | exact hk4 | exact hk4.drew

end Go.Proofs.Ytbchiccgkhnkaaa

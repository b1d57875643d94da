/-
  The document's Text, End, GetText, where it goes on and where it stopped; its Check and Body of a record.
-/
import Derived.Test.YtnfgmgonpecdmaaRef2
import Derived.Test.YtnfgmgonpecdmaaSet3
import Derived.Test.YtnfgmgonpecdmaaRecNum
import Derived.Test.YtnfgmgonpecdmaaVarPut
import Derived.Deep.RegionHeld3
import Derived.Lib.Bytes
namespace Go.Proofs.Ytnfgmgonpecdmaa
open Go.RowKit

/-- A record, as a value. -/
def recV (r : Rec) : Value := .agg #[.bool r.del, .int .u64 (r.seq : Int), .string (strOfNums r.key), .string (strOfNums r.val)]
def recCells (r : Rec) : Array Value := #[.bool r.del, .int .u64 (r.seq : Int), .string (strOfNums r.key), .string (strOfNums r.val)]

set_option maxHeartbeats 800000 in
theorem check7_ref (r : Rec) (h1 : r.key.length ≤ 140737488355328) (h2 : r.val.length ≤ 140737488355328) (w : World) :
    Calls Try.prog 9 #[recV r] w fun e w' => e = .returned (.int .i64 (checkR r)) ∧ Keeps NoBlock w w' := by
  obtain ⟨del, seq, key, val⟩ := r
  simp only at h1 h2
  have hk := str_size key
  have hv := str_size val
  have hdef : checkR ⟨del, seq, key, val⟩ = if key.length = 0 then 4 else if 4096 < key.length then 3 else if del = true ∧ 0 < val.length then 4 else if 1048576 < val.length then 3 else 0 := rfl
  rw [hdef]
  unfold recV
  simp only
  clear hdef
  obtain ⟨K, hK⟩ : ∃ K, K = key.length := ⟨_, rfl⟩
  obtain ⟨V, hV⟩ : ∃ V, V = val.length := ⟨_, rfl⟩
  rw [← hK] at h1 hk ⊢
  rw [← hV] at h2 hv ⊢
  clear hK hV
  by_cases c1 : K = 0
  · rw [if_pos c1]
    subst c1
    go_enter Try.func9, Try.ntmps9
    go_wp2_with fail
    go_ret
    exact ⟨rfl, (Keeps.refl _ _).alloc _⟩
  · rw [if_neg c1]
    have d1 : decide ((K : Int) = 0) = false := decide_eq_false (by omega)
    by_cases c2 : 4096 < K
    · rw [if_pos c2]
      have d2 : decide ((4096 : Int) < (K : Int)) = true := decide_eq_true (by omega)
      go_enter Try.func9, Try.ntmps9
      go_wp2_with fail
      go_ret
      exact ⟨rfl, (Keeps.refl _ _).alloc _⟩
    · rw [if_neg c2]
      have d2 : decide ((4096 : Int) < (K : Int)) = false := decide_eq_false (by omega)
      cases del with
      | true =>
        by_cases c3 : 0 < V
        · rw [if_pos ⟨rfl, c3⟩]
          have d3 : decide ((0 : Int) < (V : Int)) = true := decide_eq_true (by omega)
          go_enter Try.func9, Try.ntmps9
          go_wp2_with fail
          go_ret
          exact ⟨rfl, (Keeps.refl _ _).alloc _⟩
        · obtain rfl : V = 0 := by omega
          rw [if_neg (by simp), if_neg (by decide)]
          go_enter Try.func9, Try.ntmps9
          go_wp2_with fail
          go_ret
          exact ⟨rfl, (Keeps.refl _ _).alloc _⟩
      | false =>
        rw [if_neg (by simp)]
        by_cases c4 : 1048576 < V
        · rw [if_pos c4]
          have d4 : decide ((1048576 : Int) < (V : Int)) = true := decide_eq_true (by omega)
          go_enter Try.func9, Try.ntmps9
          go_wp2_with fail
          go_ret
          exact ⟨rfl, (Keeps.refl _ _).alloc _⟩
        · rw [if_neg c4]
          have d4 : decide ((1048576 : Int) < (V : Int)) = false := decide_eq_false (by omega)
          go_enter Try.func9, Try.ntmps9
          go_wp2_with fail
          go_ret
          exact ⟨rfl, (Keeps.refl _ _).alloc _⟩

set_option maxHeartbeats 800000 in
theorem text_ref (xs : List Int) (h : xs.length ≤ 1000000000) (w : World) :
    Calls Try.prog 29 #[.string (strOfNums xs)] w fun e w' => e = .returned (.string (strOfNums (textB xs))) ∧ Keeps NoBlock w w' := by
  have HN := Lib.hid (fun w => num_bytes xs.length (xs.length : Int) rfl (by omega) w)
  have hs := str_size xs
  have hten := vnum_ten (x := xs.length) (by omega)
  have hap := str_append (vnum xs.length) xs
  have hsv := str_size (vnum xs.length)
  unfold textB
  obtain ⟨V, hV⟩ : ∃ V, V = vnum xs.length := ⟨_, rfl⟩
  rw [← hV] at HN hten hap hsv ⊢
  obtain ⟨L, hL⟩ : ∃ L, L = xs.length := ⟨_, rfl⟩
  rw [← hL] at HN hs h
  have hroom : ¬ 9223372036854775807 < V.length + L := by omega
  clear hV hL
  go_enter Try.func29, Try.ntmps29
  go_wp2_with fail
  refine (HN.out _).mono ?_
  rintro e w1 ⟨rfl, hk⟩
  have HK := Lib.hid hk
  clear hk
  go_wp2_with fail
  go_ret
  exact ⟨rfl, HK.out⟩

set_option maxHeartbeats 800000 in
theorem fail_gone (xs : List Int) (a y z : Int) (hy : ¬ y = 0) (w : World) :
    Calls Try.prog 43 #[rdr xs a y, .int .i64 z] w fun e w' => e = .returned (rdr xs a y) ∧ Keeps NoBlock w w' := by
  unfold rdr
  go_enter Try.func43, Try.ntmps43
  go_wp2_with fail
  exact bodyPost_ret (v := rdr xs a y) (by simp [results, Try.results43, go_sem, rdr]) rfl ⟨rfl, ((Keeps.refl _ _).alloc _).alloc _⟩

theorem str_isnone (xs : List Int) : (strOfNums xs).toList.isEmpty = xs.isEmpty := by
  rw [Lib.strOfNums_toList]
  cases xs <;> rfl

def endE (xs : List Int) (y : Int) : Int := if y = 0 then (if xs = [] then 0 else 3) else y
set_option maxHeartbeats 800000 in
theorem end_ref (xs : List Int) (a y : Int) (w : World) :
    Calls Try.prog 32 #[rdr xs a y] w fun e w' => e = .returned (rdr xs a (endE xs y)) ∧ Keeps NoBlock w w' := by
  by_cases hx : xs = []
  · subst hx
    have e : endE [] y = y := by unfold endE; by_cases h : y = 0 <;> simp [h]
    have hem : (strOfNums []).toList.isEmpty = true := str_isnone []
    rw [e]
    unfold rdr
    go_enter Try.func32, Try.ntmps32
    go_wp2_with fail
    exact bodyPost_ret (v := rdr [] a y) (by simp [results, Try.results32, go_sem, rdr]) rfl ⟨rfl, ((Keeps.refl _ _).alloc _).alloc _⟩
  · have HF : Hid (∀ w, Calls Try.prog 43 #[rdr xs a y, .int .i64 3] w fun e w' => e = .returned (rdr xs a (endE xs y)) ∧ Keeps NoBlock w w') := Lib.hid (fun w => by
      unfold endE
      by_cases h : y = 0
      · subst h
        rw [if_pos rfl, if_neg hx]
        exact fail_ref xs a 3 w
      · rw [if_neg h]
        exact fail_gone xs a y 3 h w)
    obtain ⟨z, hz⟩ : ∃ z, z = endE xs y := ⟨_, rfl⟩
    rw [← hz] at HF ⊢
    clear hz
    unfold rdr at HF
    unfold rdr
    have hem : (strOfNums xs).toList.isEmpty = false := by rw [str_isnone]; cases xs with
      | nil => exact absurd rfl hx
      | cons b r => rfl
    go_enter Try.func32, Try.ntmps32
    go_wp2_with fail
    refine (HF.out _).mono ?_
    rintro e w1 ⟨rfl, hk⟩
    have hs : Whole w1 (w.heap.size + 1) 62 #[.string { data := #[] }, .int .i64 0, .int .i64 0] := (Whole.newAt _ _ _ _ (by simp)).keep hk (fun h => h)
    have HK := Lib.hid ((((Keeps.refl NoBlock w).alloc _).alloc _).trans hk)
    have c0 := hs.cell 0 rfl
    have c1 := hs.cell 1 rfl
    have c2 := hs.cell 2 rfl
    have f0 := hs.free 0
    have f1 := hs.free 1
    have f2 := hs.free 2
    simp only [List.getElem_toArray, List.getElem_cons_zero, List.getElem_cons_succ] at c0 c1 c2
    clear hk hs
    go_wp2_with fail
    exact bodyPost_ret (v := rdr xs a z) (by simp [results, Try.results32, go_sem, rdr, c0, c1, c2]) rfl ⟨rfl, ((HK.out.setNew (g := w.heap.size + 1) (by omega) 0 _).setNew (g := w.heap.size + 1) (by omega) 1 _).setNew (g := w.heap.size + 1) (by omega) 2 _⟩

set_option maxHeartbeats 2000000 in
set_option maxRecDepth 10000 in
/-- A number, where it stopped. -/
theorem get1_gone (xs : List Int) (a y z : Int) (hy : ¬ y = 0) (w : World) :
    Calls Try.prog 42 #[rdr xs a y, .int .i64 z] w fun e w' => e = .returned (.tuple #[rdr xs a y, .int .u64 0]) ∧ Keeps NoBlock w w' := by
  have HT := Lib.hid (take_ref_gone xs a y z hy)
  have HV := Lib.hid (value_ref [] (fun b hb => by simp at hb) (by simp))
  clear hy
  unfold rdr at *
  go_enter Try.func42, Try.ntmps42
  go_wp2_with fail
  refine (HT.out _).mono ?_
  rintro e w1 ⟨rfl, hk⟩
  have hb : Whole w1 (w.heap.size + 1) 62 #[.string { data := #[] }, .int .i64 0, .int .i64 0] := (Whole.newAt _ _ _ _ (by simp)).keep hk (fun h => h)
  obtain ⟨W, hW⟩ : ∃ W, W = w1.alloc (.cells #[.string (strOfNums xs), .int .i64 a, .int .i64 y] 62) := ⟨_, rfl⟩
  have hbW : Whole W (w.heap.size + 1) 62 #[.string { data := #[] }, .int .i64 0, .int .i64 0] := by rw [hW]; exact hb.alloc _
  have hsW : Whole W w1.heap.size 62 #[.string (strOfNums xs), .int .i64 a, .int .i64 y] := by rw [hW]; exact Whole.new _ _ _
  have hkW : Keeps NoBlock w W := by rw [hW]; exact ((((Keeps.refl _ w).alloc _).alloc _).trans hk).alloc _
  have c0 := hbW.cell 0 rfl
  have c1 := hbW.cell 1 rfl
  have c2 := hbW.cell 2 rfl
  have f0 := hbW.free 0
  have f1 := hbW.free 1
  have f2 := hbW.free 2
  have d0 := hsW.cell 0 rfl
  have d1 := hsW.cell 1 rfl
  have d2 := hsW.cell 2 rfl
  simp only [List.getElem_toArray, List.getElem_cons_zero, List.getElem_cons_succ] at c0 c1 c2 d0 d1 d2
  have HK := Lib.hid hkW
  clear hk HT hb hbW hsW hkW
  go_wp2_with fail
  rw [← hW]
  have HW := Lib.hid hW
  clear hW
  go_region_with (go_at_call 49; refine (HV.out _).mono ?_; rintro e w2 ⟨rfl, rfl⟩)
  all_goals
    go_wp2_with fail
    refine bodyPost_ret (v := .tuple #[rdr xs a y, .int .u64 0]) (by simp [results, Try.results42, go_sem, rdr, c0, c1, c2, le]) rfl ⟨rfl, ?_⟩
    have hk3 := (((HK.out.setNew (g := w.heap.size + 1) (by omega) 0 (.string (strOfNums xs))).setNew (g := w.heap.size + 1) (by omega) 1 (.int .i64 a)).setNew (g := w.heap.size + 1) (by omega) 2 (.int .i64 y)).drew
    have hk4 := (((HK.out.drew.setNew (g := w.heap.size + 1) (by omega) 0 (.string (strOfNums xs))).setNew (g := w.heap.size + 1) (by omega) 1 (.int .i64 a)).setNew (g := w.heap.size + 1) (by omega) 2 (.int .i64 y))
    first | exact hk3 | exact hk4 | exact hk4.drew

set_option maxHeartbeats 2000000 in
set_option maxRecDepth 10000 in
theorem get_gone (xs : List Int) (a y : Int) (hy : ¬ y = 0) (w : World) :
    Calls Try.prog 30 #[rdr xs a y] w fun e w' => e = .returned (.tuple #[rdr xs a y, .int .u64 0]) ∧ Keeps NoBlock w w' := by
  have HG := Lib.hid (fun w => get1_gone xs a y 1 hy w)
  have hyb : (y != 0) = true := by simpa using hy
  have hyc : (y == 0) = false := by simpa using hy
  unfold rdr at HG
  unfold rdr
  go_enter Try.func30, Try.ntmps30
  go_wp2_with fail
  go_loopw [4, 5, 9] (fun x q v wr => x = .int .u64 0 ∧ q = .int .u64 1 ∧ v = .int .i64 0 ∧ Whole wr w.heap.size 62 #[.string (strOfNums xs), .int .i64 a, .int .i64 y] ∧ Whole wr (w.heap.size + 1) 62 #[.string { data := #[] }, .int .i64 0, .int .i64 0] ∧ Keeps NoBlock w wr) (fun _ _ _ _ => 0)
  case atStart => exact ⟨rfl, rfl, rfl, (Whole.new w _ _).alloc _, Whole.newAt _ _ _ _ (by simp), ((Keeps.refl _ _).alloc _).alloc _⟩
  case round =>
    obtain ⟨rfl, rfl, rfl, hb, hs, hk⟩ := hrel
    have c0 := hb.cell 0 rfl
    have c1 := hb.cell 1 rfl
    have c2 := hb.cell 2 rfl
    simp only [List.getElem_toArray, List.getElem_cons_zero, List.getElem_cons_succ] at c0 c1 c2
    have HB := Lib.hid hb; have HS := Lib.hid hs; have HK := Lib.hid hk
    clear hb hs hk
    go_wp2_with fail
    refine (HG.out _).mono ?_
    rintro e w1 ⟨rfl, hk⟩
    have hb1 := HB.out.keep hk (fun h => h)
    have hs1 := HS.out.keep hk (fun h => h)
    have hk1 := HK.out.trans hk
    obtain ⟨W, hW⟩ : ∃ W, W = w1.alloc (.cells #[.string (strOfNums xs), .int .i64 a, .int .i64 y] 62) := ⟨_, rfl⟩
    have hW1 : Whole W w.heap.size 62 #[.string (strOfNums xs), .int .i64 a, .int .i64 y] := by rw [hW]; exact hb1.alloc _
    have hW2 : Whole W (w.heap.size + 1) 62 #[.string { data := #[] }, .int .i64 0, .int .i64 0] := by rw [hW]; exact hs1.alloc _
    have hW3 : Whole W w1.heap.size 62 #[.string (strOfNums xs), .int .i64 a, .int .i64 y] := by rw [hW]; exact Whole.new _ _ _
    have hkW : Keeps NoBlock w W := by rw [hW]; exact hk1.alloc _
    have d0 := hW1.cell 0 rfl
    have d1 := hW1.cell 1 rfl
    have d2 := hW1.cell 2 rfl
    have f0 := hW1.free 0
    have f1 := hW1.free 1
    have f2 := hW1.free 2
    have s0 := hW3.cell 0 rfl
    have s1 := hW3.cell 1 rfl
    have s2 := hW3.cell 2 rfl
    have r0 := hW2.cell 0 rfl
    have r1 := hW2.cell 1 rfl
    have r2 := hW2.cell 2 rfl
    have g0 := hW2.free 0
    have g1 := hW2.free 1
    have g2 := hW2.free 2
    simp only [List.getElem_toArray, List.getElem_cons_zero, List.getElem_cons_succ] at d0 d1 d2 s0 s1 s2 r0 r1 r2
    have HkW := Lib.hid hkW
    clear hb1 hs1 hk1 hW1 hW2 hW3 hkW c0 c1 c2 hk
    go_upto_region 7 with (fail)
    rw [← hW]
    clear hW
    go_wp2_with fail
    exact bodyPost_ret (v := .tuple #[rdr xs a y, .int .u64 0]) (by simp [results, Try.results30, go_sem, rdr, r0, r1, r2]) rfl ⟨rfl, (HkW.out.set3 (Nat.le_refl _) _ _ _).set3 (by omega) _ _ _⟩
end Go.Proofs.Ytnfgmgonpecdmaa

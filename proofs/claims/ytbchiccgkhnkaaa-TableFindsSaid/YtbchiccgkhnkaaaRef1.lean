/-
  Contracts of the document's Reader (Take, Value, Get, Fail), whatever it reads.
-/
import Derived.Test.YtbchiccgkhnkaaaBufB
import Derived.Deep.RegionHeld3
namespace Go.Proofs.Ytbchiccgkhnkaaa
open Go.RowKit

/-- A Reader, as a value. -/
def rdr (xs : List Int) (a y : Int) : Value := .agg #[.string (strOfNums xs), .int .i64 a, .int .i64 y]

theorem str_take (xs : List Int) (n : Nat) : (strOfNums xs).extract 0 n = strOfNums (xs.take n) := by
  apply ByteArray.ext
  simp [strOfNums, List.map_take]
theorem str_drop (xs : List Int) (n : Nat) : (strOfNums xs).extract n (strOfNums xs).size = strOfNums (xs.drop n) := by
  apply ByteArray.ext
  simp only [strOfNums, ByteArray.size]
  simp [List.map_drop]
  rw [List.take_of_length_le (by simp)]

def strSize : Value → Nat
  | .string b => b.size
  | _ => 0
theorem strSize_of (xs : List Int) : strSize (.string (strOfNums xs)) = xs.length := str_size xs

theorem str_piece (xs : List Int) (a b : Nat) (i n : Nat) (ha : a = i) (hb : b = i + n) : (strOfNums xs).extract a b = strOfNums ((xs.drop i).take n) := by
  subst ha hb
  apply ByteArray.ext
  simp [strOfNums, List.map_drop, List.map_take]

set_option maxHeartbeats 800000 in
theorem fail_ref (xs : List Int) (a y : Int) (w : World) :
    Calls Try.prog 47 #[rdr xs a 0, .int .i64 y] w fun e w' => e = .returned (rdr xs a y) ∧ Keeps NoBlock w w' := by
  unfold rdr
  go_enter Try.func47, Try.ntmps47
  go_wp2_with fail
  exact bodyPost_ret (v := rdr xs a y) (by simp [results, Try.results47, go_sem, rdr]) rfl ⟨rfl, ((Keeps.refl _ _).alloc _).alloc _⟩

set_option maxHeartbeats 2000000 in
theorem take_ref (xs : List Int) (a z : Int) (n : Nat) (hz : z = n) (hn : 0 < n) (hle : n ≤ xs.length) (hl : xs.length ≤ 140737488355328) (ha : 0 ≤ a ∧ a ≤ 140737488355328) (w : World) :
    Calls Try.prog 69 #[rdr xs a 0, .int .i64 z] w fun e w' => e = .returned (.tuple #[rdr (xs.drop n) (a + n) 0, .string (strOfNums (xs.take n))]) ∧ Keeps NoBlock w w' := by
  subst hz
  unfold rdr
  have hss : (strOfNums xs).size = xs.length := str_size xs
  have hg : ¬ xs.length < n := by omega
  have hw : IntKind.i64.wrap (a + (n : Int)) = a + (n : Int) := by rw [IntKind.wrap_i64]; omega
  have hd := str_drop xs n
  have ht := str_take xs n
  rw [hss] at hd
  go_enter Try.func69, Try.ntmps69
  go_wp2_with fail
  go_region
  all_goals
    go_wp2_with fail
    exact bodyPost_ret (v := .tuple #[rdr (xs.drop n) (a + n) 0, .string (strOfNums (xs.take n))]) (by simp [results, Try.results69, go_sem, rdr]) rfl ⟨rfl, (((Keeps.refl _ _).alloc _).alloc _).drew⟩

set_option maxHeartbeats 800000 in
theorem take_ref_short (xs : List Int) (a z : Int) (n : Nat) (hz : z = n) (hn : 0 < n) (hle : xs.length < n) (w : World) :
    Calls Try.prog 69 #[rdr xs a 0, .int .i64 z] w fun e w' => e = .returned (.tuple #[rdr xs a 2, .string (strOfNums [])]) ∧ Keeps NoBlock w w' := by
  subst hz
  unfold rdr
  have hss : (strOfNums xs).size = xs.length := str_size xs
  go_enter Try.func69, Try.ntmps69
  go_wp2_with fail
  exact bodyPost_ret (v := .tuple #[rdr xs a 2, .string (strOfNums [])]) (by simp [results, Try.results69, go_sem, rdr]; rfl) rfl ⟨rfl, ((Keeps.refl _ _).alloc _).alloc _⟩

theorem take_ref_gone (xs : List Int) (a y z : Int) (hy : ¬ y = 0) (w : World) :
    Calls Try.prog 69 #[rdr xs a y, .int .i64 z] w fun e w' => e = .returned (.tuple #[rdr xs a y, .string (strOfNums [])]) ∧ Keeps NoBlock w w' := by
  unfold rdr
  go_enter Try.func69, Try.ntmps69
  go_wp2_with fail
  all_goals exact bodyPost_ret (v := .tuple #[rdr xs a y, .string (strOfNums [])]) (by simp [results, Try.results69, go_sem, rdr]; rfl) rfl ⟨rfl, ((Keeps.refl _ _).alloc _).alloc _⟩

theorem take_ref_none (xs : List Int) (a y z : Int) (hz : z ≤ 0) (w : World) :
    Calls Try.prog 69 #[rdr xs a y, .int .i64 z] w fun e w' => e = .returned (.tuple #[rdr xs a y, .string (strOfNums [])]) ∧ Keeps NoBlock w w' := by
  by_cases hy : y = 0
  case neg => exact take_ref_gone xs a y z hy w
  subst hy
  unfold rdr
  go_enter Try.func69, Try.ntmps69
  go_wp2_with fail
  all_goals exact bodyPost_ret (v := .tuple #[rdr xs a 0, .string (strOfNums [])]) (by simp [results, Try.results69, go_sem, rdr]; rfl) rfl ⟨rfl, ((Keeps.refl _ _).alloc _).alloc _⟩

theorem str_get (xs : List Int) (h : Octets xs) (k : Nat) (hk : k < (strOfNums xs).size) : (((strOfNums xs)[k].toNat : Nat) : Int) = xs.getD k 0 := by
  have hl : k < xs.length := by rwa [str_size] at hk
  have h1 : (strOfNums xs).data.toList[k]? = some ((strOfNums xs)[k]) := by
    rw [Array.getElem?_toList]
    exact Array.getElem?_eq_getElem hk
  rw [strOfNums_data, List.getElem?_map, List.getElem?_eq_getElem hl] at h1
  have e : UInt8.ofNat (xs[k]).toNat = (strOfNums xs)[k] := by simpa using h1
  have hb := h _ (List.getElem_mem hl)
  rw [← e, UInt8.toNat_ofNat', show xs.getD k 0 = xs[k] by simp [hl]]
  omega

theorem le_step (xs : List Int) (ho : Octets xs) (h8 : xs.length ≤ 8) (m : Nat) (hm : m < xs.length) :
    IntKind.u64.wrap (IntKind.u64.wrap (le (xs.drop (m + 1)) * 256) + IntKind.u64.wrap (xs.getD m 0)) = le (xs.drop m) := by
  have hd : xs.drop m = xs.getD m 0 :: xs.drop (m + 1) := by
    rw [List.drop_eq_getElem_cons hm]
    simp [hm]
  have hb := le_bound (xs.drop m) (ho.drop m)
  have hb2 := le_bound (xs.drop (m + 1)) (ho.drop (m + 1))
  have hg := ho.getD m
  have hp : (2 : Int) ^ (8 * (xs.drop m).length) ≤ 18446744073709551616 := by
    have h1 : 2 ^ (8 * (xs.drop m).length) ≤ 2 ^ 64 := Nat.pow_le_pow_right (by omega) (by rw [List.length_drop]; omega)
    have e : (2 : Int) ^ (8 * (xs.drop m).length) = ((2 ^ (8 * (xs.drop m).length) : Nat) : Int) := by push_cast; rfl
    rw [e]
    exact Int.le_trans (Int.ofNat_le.2 h1) (by decide)
  rw [hd] at hb ⊢
  rw [hd] at hp
  simp only [le] at hb ⊢
  obtain ⟨q, hq⟩ : ∃ q, q = le (xs.drop (m + 1)) := ⟨_, rfl⟩
  rw [← hq] at hb hb2 ⊢
  have h1 : xs.getD m 0 + 256 * q < 18446744073709551616 := Int.lt_of_lt_of_le hb.2 hp
  rw [IntKind.wrap_u64, IntKind.wrap_u64, IntKind.wrap_u64]
  omega

set_option maxHeartbeats 800000 in
set_option maxRecDepth 10000 in
theorem value_ref (xs : List Int) (ho : Octets xs) (h8 : xs.length ≤ 8) (w : World) :
    Calls Try.prog 57 #[.string (strOfNums xs)] w fun e w' => e = .returned (.int .u64 (le xs)) ∧ w = w' := by
  have HO := Lib.hid ho
  have hss : (strOfNums xs).size = xs.length := str_size xs
  obtain ⟨n, hn⟩ : ∃ n, n = xs.length := ⟨_, rfl⟩
  have HN := Lib.hid hn
  rw [← hn] at hss h8
  clear ho hn
  go_enter Try.func57, Try.ntmps57
  go_wp2
  go_loop [3, 4] (fun x i => ∃ k : Nat, k ≤ n ∧ i = .int .i64 ((k : Int) - 1) ∧ x = .int .u64 (le (xs.drop k))) (fun _ i => (intOf i + 1).toNat)
  case atStart => exact ⟨n, Nat.le_refl _, rfl, by rw [HN.out]; simp [le]⟩
  case round =>
    obtain ⟨k, hk, rfl, rfl⟩ := hrel
    by_cases hlt : 1 ≤ k
    · obtain ⟨m, rfl⟩ : ∃ m, k = m + 1 := ⟨k - 1, by omega⟩
      have hi : ((m + 1 : Nat) : Int) - 1 = (m : Int) := by omega
      rw [hi]
      go_wp2
      go_round
      case rel =>
        refine ⟨m, by omega, rfl, congrArg (Value.int IntKind.u64) ?_⟩
        rw [str_get xs HO.out m (by omega)]
        exact le_step xs HO.out (by have := HN.out; omega) m (by have := HN.out; omega)
      case measure => simp [intOf]
    · obtain rfl : k = 0 := by omega
      go_wp2
      go_ret
      exact ⟨by simp, rfl⟩

set_option maxHeartbeats 2000000 in
set_option maxRecDepth 10000 in
theorem get1_ref (xs : List Int) (a z : Int) (n : Nat) (hz : z = n) (hn : 0 < n) (hle : n ≤ xs.length) (h8 : n ≤ 8) (hl : xs.length ≤ 140737488355328) (ha : 0 ≤ a ∧ a ≤ 140737488355328) (ho : Octets xs) (w : World) :
    Calls Try.prog 48 #[rdr xs a 0, .int .i64 z] w fun e w' => e = .returned (.tuple #[rdr (xs.drop n) (a + n) 0, .int .u64 (le (xs.take n))]) ∧ Keeps NoBlock w w' := by
  have HT := Lib.hid (take_ref xs a z n hz hn hle hl ha)
  have HV := Lib.hid (value_ref (xs.take n) (ho.take n) (by simp; omega))
  clear hz hn hle h8 hl ha ho
  unfold rdr at *
  go_enter Try.func48, Try.ntmps48
  go_wp2_with fail
  refine (HT.out _).mono ?_
  rintro e w1 ⟨rfl, hk⟩
  have hb : Whole w1 (w.heap.size + 1) 52 #[.string { data := #[] }, .int .i64 0, .int .i64 0] := (Whole.newAt _ _ _ _ (by simp)).keep hk (fun h => h)
  obtain ⟨W, hW⟩ : ∃ W, W = w1.alloc (.cells #[.string (strOfNums (xs.drop n)), .int .i64 (a + n), .int .i64 0] 52) := ⟨_, rfl⟩
  have hbW : Whole W (w.heap.size + 1) 52 #[.string { data := #[] }, .int .i64 0, .int .i64 0] := by rw [hW]; exact hb.alloc _
  have hsW : Whole W w1.heap.size 52 #[.string (strOfNums (xs.drop n)), .int .i64 (a + n), .int .i64 0] := by rw [hW]; exact Whole.new _ _ _
  have hkW : Keeps NoBlock w W := by rw [hW]; exact ((((Keeps.refl _ w).alloc _).alloc _).trans hk).alloc _
  have c0 := hbW.cell 0 rfl
  have c1 := hbW.cell 1 rfl
  have c2 := hbW.cell 2 rfl
  have f0 := hbW.free 0
  have f1 := hbW.free 1
  have f2 := hbW.free 2
  have d0 := hsW.cell 0 rfl
  have d1 := hsW.cell 1 rfl
  have d2 := hsW.cell 2 rfl
  simp only [List.getElem_toArray, List.getElem_cons_zero, List.getElem_cons_succ] at c0 c1 c2 d0 d1 d2
  have HK := Lib.hid hkW
  clear hk HT hb hbW hsW hkW
  go_wp2_with fail
  rw [← hW]
  have HW := Lib.hid hW
  clear hW
  go_region_with (go_at_call 57; refine (HV.out _).mono ?_; rintro e w2 ⟨rfl, rfl⟩)
  all_goals
    go_wp2_with fail
    refine bodyPost_ret (v := .tuple #[rdr (xs.drop n) (a + n) 0, .int .u64 (le (xs.take n))]) (by simp [results, Try.results48, go_sem, rdr, c0, c1, c2]) rfl ⟨rfl, ?_⟩
    have hk3 := (((HK.out.setNew (g := w.heap.size + 1) (by omega) 0 (.string (strOfNums (xs.drop n)))).setNew (g := w.heap.size + 1) (by omega) 1 (.int .i64 (a + n))).setNew (g := w.heap.size + 1) (by omega) 2 (.int .i64 0)).drew
    have hk4 := (((HK.out.drew.setNew (g := w.heap.size + 1) (by omega) 0 (.string (strOfNums (xs.drop n)))).setNew (g := w.heap.size + 1) (by omega) 1 (.int .i64 (a + n))).setNew (g := w.heap.size + 1) (by omega) 2 (.int .i64 0))
    first | exact hk3 | exact hk4 | exact hk4.drew

set_option maxHeartbeats 2000000 in
set_option maxRecDepth 10000 in
theorem get1_ref_short (xs : List Int) (a z : Int) (n : Nat) (hz : z = n) (hn : 0 < n) (hle : xs.length < n) (w : World) :
    Calls Try.prog 48 #[rdr xs a 0, .int .i64 z] w fun e w' => e = .returned (.tuple #[rdr xs a 2, .int .u64 0]) ∧ Keeps NoBlock w w' := by
  have HT := Lib.hid (take_ref_short xs a z n hz hn hle)
  have HV := Lib.hid (value_ref [] (fun b hb => by simp at hb) (by simp))
  clear hz hn hle
  unfold rdr at *
  go_enter Try.func48, Try.ntmps48
  go_wp2_with fail
  refine (HT.out _).mono ?_
  rintro e w1 ⟨rfl, hk⟩
  have hb : Whole w1 (w.heap.size + 1) 52 #[.string { data := #[] }, .int .i64 0, .int .i64 0] := (Whole.newAt _ _ _ _ (by simp)).keep hk (fun h => h)
  obtain ⟨W, hW⟩ : ∃ W, W = w1.alloc (.cells #[.string (strOfNums xs), .int .i64 a, .int .i64 2] 52) := ⟨_, rfl⟩
  have hbW : Whole W (w.heap.size + 1) 52 #[.string { data := #[] }, .int .i64 0, .int .i64 0] := by rw [hW]; exact hb.alloc _
  have hsW : Whole W w1.heap.size 52 #[.string (strOfNums xs), .int .i64 a, .int .i64 2] := by rw [hW]; exact Whole.new _ _ _
  have hkW : Keeps NoBlock w W := by rw [hW]; exact ((((Keeps.refl _ w).alloc _).alloc _).trans hk).alloc _
  have c0 := hbW.cell 0 rfl
  have c1 := hbW.cell 1 rfl
  have c2 := hbW.cell 2 rfl
  have f0 := hbW.free 0
  have f1 := hbW.free 1
  have f2 := hbW.free 2
  have d0 := hsW.cell 0 rfl
  have d1 := hsW.cell 1 rfl
  have d2 := hsW.cell 2 rfl
  simp only [List.getElem_toArray, List.getElem_cons_zero, List.getElem_cons_succ] at c0 c1 c2 d0 d1 d2
  have HK := Lib.hid hkW
  clear hk HT hb hbW hsW hkW
  go_wp2_with fail
  rw [← hW]
  have HW := Lib.hid hW
  clear hW
  go_region_with (go_at_call 57; refine (HV.out _).mono ?_; rintro e w2 ⟨rfl, rfl⟩)
  all_goals
    go_wp2_with fail
    refine bodyPost_ret (v := .tuple #[rdr xs a 2, .int .u64 0]) (by simp [results, Try.results48, go_sem, rdr, c0, c1, c2, le]) rfl ⟨rfl, ?_⟩
    have hk3 := (((HK.out.setNew (g := w.heap.size + 1) (by omega) 0 (.string (strOfNums xs))).setNew (g := w.heap.size + 1) (by omega) 1 (.int .i64 a)).setNew (g := w.heap.size + 1) (by omega) 2 (.int .i64 2)).drew
    have hk4 := (((HK.out.drew.setNew (g := w.heap.size + 1) (by omega) 0 (.string (strOfNums xs))).setNew (g := w.heap.size + 1) (by omega) 1 (.int .i64 a)).setNew (g := w.heap.size + 1) (by omega) 2 (.int .i64 2))
    first | exact hk3 | exact hk4 | exact hk4.drew
end Go.Proofs.Ytbchiccgkhnkaaa

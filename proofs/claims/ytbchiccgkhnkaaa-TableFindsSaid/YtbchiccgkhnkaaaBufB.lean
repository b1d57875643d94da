/-
  Contracts of package cursor's Buffer: number, Four, Eight; and of the document's Num.
-/
import Derived.Test.YtbchiccgkhnkaaaBufA
import Derived.Test.YtbchiccgkhnkaaaNum
import Derived.Laws.BytesArg
namespace Go.Proofs.Ytbchiccgkhnkaaa
open Go.RowKit

/-- The bytes of a number, the lowest one first. -/
def digits (x : Int) : Nat → List Int
  | 0 => []
  | n + 1 => digits x n ++ [x / 2 ^ (8 * n) % 256]

theorem digits_length (x : Int) : ∀ n, (digits x n).length = n
  | 0 => rfl
  | n + 1 => by simp [digits, digits_length x n]

theorem digits_octets (x : Int) : ∀ n, Octets (digits x n)
  | 0 => fun b hb => by simp [digits] at hb
  | n + 1 => fun b hb => by
    simp only [digits, List.mem_append, List.mem_singleton] at hb
    rcases hb with hb | rfl
    · exact digits_octets x n b hb
    · omega

def InLoop (base g : Nat) (xs : List Int) (x : Int) (w : World) (k : Nat) (wr : World) : Prop := BufAt wr base g (xs ++ digits x k) ∧ Below base w wr

set_option maxHeartbeats 800000 in
theorem bufNumber (base g : Nat) (xs : List Int) (x : Int) (n : Nat) (z : Int) (hz : z = n) (w : World) (h : BufAt w base g xs) (hb : base ≤ g) (hs : base ≤ w.heap.size) (hx : xs.length + n ≤ 140737488355328) (hn : n ≤ 8) (_x0 : 0 ≤ x) (x1 : x < 18446744073709551616) :
    Calls Try.prog 64 #[.pointer (some ⟨g, 0, none⟩), .int .u64 x, .int .i64 z] w (BufOk base g (xs ++ digits x n) w) := by
  subst hz
  have H := Lib.hid h; have HX := Lib.hid hx; have HX1 := Lib.hid x1
  clear h hx x1
  go_enter Try.func64, Try.ntmps64
  go_wp2_with fail
  go_loopw [9] (fun i wr => ∃ k : Nat, k ≤ n ∧ i = .int .i64 k ∧ InLoop base g xs x w k wr) (fun i _ => n - (intOf i).toNat)
  case atStart => exact ⟨0, Nat.zero_le _, rfl, by simpa [digits] using H.out, Below.refl _ _⟩
  case round =>
    obtain ⟨k, hk, rfl, hin⟩ := hrel
    have HI := Lib.hid hin
    clear hin
    by_cases hlt : k < n
    · go_wp2_with fail
      refine (bufByte base g (xs ++ digits x k) _ _ HI.out.1 hb (by have := HI.out.2.size; omega) (by have := HX.out; simp [digits_length]; omega)).mono ?_
      rintro e w2 ⟨rfl, hbuf, hbel⟩
      have HB := Lib.hid hbuf; have HL := Lib.hid (HI.out.2.trans hbel)
      clear hbuf hbel
      go_wp2_with fail
      go_roundw
      case rel =>
        refine ⟨k + 1, by omega, by go_num, ?_, HL.out⟩
        have := HB.out
        rw [List.append_assoc] at this
        exact this
      case measure => simp [intOf]; omega
    · go_wp2_with fail
      go_ret
      obtain rfl : k = n := by omega
      exact ⟨rfl, HI.out.1, HI.out.2⟩

theorem bufFour (base g : Nat) (xs : List Int) (x : Int) (w : World) (h : BufAt w base g xs) (hb : base ≤ g) (hs : base ≤ w.heap.size) (hx : xs.length + 4 ≤ 140737488355328) (x0 : 0 ≤ x) (x1 : x < 4294967296) :
    Calls Try.prog 39 #[.pointer (some ⟨g, 0, none⟩), .int .u32 x] w (BufOk base g (xs ++ digits x 4) w) := by
  have H := Lib.hid h
  clear h
  go_enter Try.func39, Try.ntmps39
  go_wp2_with fail
  refine (bufNumber base g xs _ 4 _ (by rfl) _ H.out hb hs hx (by omega) (by omega) (by omega)).mono ?_
  rintro e w2 ⟨rfl, hbuf, hbel⟩
  have HB := Lib.hid hbuf; have HL := Lib.hid hbel
  clear hbuf hbel
  go_wp2_with fail
  go_ret
  exact ⟨rfl, HB.out, HL.out⟩

theorem bufEight (base g : Nat) (xs : List Int) (x : Int) (w : World) (h : BufAt w base g xs) (hb : base ≤ g) (hs : base ≤ w.heap.size) (hx : xs.length + 8 ≤ 140737488355328) (x0 : 0 ≤ x) (x1 : x < 18446744073709551616) :
    Calls Try.prog 38 #[.pointer (some ⟨g, 0, none⟩), .int .u64 x] w (BufOk base g (xs ++ digits x 8) w) := by
  have H := Lib.hid h; have HX1 := Lib.hid x1
  clear h x1
  go_enter Try.func38, Try.ntmps38
  go_wp2_with fail
  refine (bufNumber base g xs _ 8 _ (by rfl) _ H.out hb hs hx (by omega) x0 HX1.out).mono ?_
  rintro e w2 ⟨rfl, hbuf, hbel⟩
  have HB := Lib.hid hbuf; have HL := Lib.hid hbel
  clear hbuf hbel
  go_wp2_with fail
  go_ret
  exact ⟨rfl, HB.out, HL.out⟩

/-- Bytes, as a text. -/
theorem textOf (q : Option Addr) (n c : Nat) (xs : List Int) (w : World) (hx : n = xs.length) (h : Bytes8 w q xs) : (convert 38 9 (.slice q n c)).run Try.prog w = .ok (.string (strOfNums xs)) w := by
  subst hx
  cases q with
  | none =>
    have h0 : xs.length = 0 := by
      rcases Nat.eq_zero_or_pos xs.length with h0 | h0
      · exact h0
      · obtain ⟨a, ha, _⟩ := h h0
        simp at ha
    obtain rfl : xs = [] := List.length_eq_zero_iff.1 h0
    exact run_convert_bytes_nil w _ 5 Try.underlying38 Try.underlying5 0 c _ Try.underlying9
  | some a =>
    have hl : (loadCells a xs.length).run Try.prog w = .ok (xs.map (Value.int .u8)).toArray w := by
      have := run_loadCells_list (P := Try.prog) w a (xs.map (Value.int .u8)) (fun j v hj => by
        have hjl : j < xs.length := by simpa using (List.getElem?_eq_some_iff.1 hj).1
        obtain ⟨a', ha', hc⟩ := h (by omega)
        obtain rfl := Option.some.inj ha'
        rw [hc j hjl]
        have e : (xs.map (Value.int .u8))[j]? = some (Value.int .u8 (xs.getD j 0)) := by simp [List.getElem?_eq_getElem hjl]
        rw [e] at hj
        exact hj)
      simpa using this
    rw [run_convert_bytes_string w _ _ 5 (some a) xs.length c Try.underlying38 Try.underlying5 Try.underlying9, run_bytesToString w _ xs.length c xs hl, foldl_push_bytes]
    simp [strOfNums, ByteArray.empty, ByteArray.emptyWithCapacity]
    rfl

theorem str_append (xs ys : List Int) : strOfNums xs ++ strOfNums ys = strOfNums (xs ++ ys) := by
  apply ByteArray.ext
  simp [strOfNums]

theorem str_size (xs : List Int) : (strOfNums xs).size = xs.length := by simp [strOfNums, ByteArray.size]

set_option maxHeartbeats 800000 in
theorem num_any (x : Int) (n : Nat) (z : Int) (hz : z = n) (hn : n ≤ 8) (x0 : 0 ≤ x) (x1 : x < 18446744073709551616) (w : World) :
    Calls Try.prog 46 #[.int .u64 x, .int .i64 z] w fun e w' => e = .returned (.string (strOfNums (digits x n))) ∧ Keeps NoBlock w w' := by
  subst hz
  have hcv : ∀ (v : Int) (w : World), (convert 38 9 (.slice (some ⟨w.heap.size, 0, none⟩) 1 1)).run Try.prog (w.alloc (.cells #[.int .u8 v] 5)) = .ok (.string (strOfNums [v])) (w.alloc (.cells #[.int .u8 v] 5)) := fun v w =>
    textOf _ 1 1 [v] _ rfl (Whole.bytes (Whole.new w _ _) [v] (fun i hi => by
      match i, hi with
      | 0, _ => rfl))
  have HX1 := Lib.hid x1
  clear x1
  go_enter Try.func46, Try.ntmps46
  go_wp2_with fail
  go_loopw [0, 5, 7] (fun v o i wr => ∃ k : Nat, k ≤ n ∧ i = .int .i64 k ∧ v = .int .u64 (x / 2 ^ (8 * k)) ∧ o = .string (strOfNums (digits x k)) ∧ Keeps NoBlock w wr) (fun _ _ i _ => n - (intOf i).toNat)
  case atStart => exact ⟨0, Nat.zero_le _, rfl, by simp, rfl, Keeps.refl _ _⟩
  case round =>
    obtain ⟨k, hk, rfl, rfl, rfl, hkw⟩ := hrel
    have HK := Lib.hid hkw
    clear hkw
    by_cases hlt : k < n
    · obtain ⟨y, hy⟩ : ∃ y, y = x / 2 ^ (8 * k) := ⟨_, rfl⟩
      rw [← hy]
      have y0 : 0 ≤ y := by rw [hy]; exact Int.ediv_nonneg x0 (by exact_mod_cast Nat.zero_le _)
      have HY := Lib.hid hy
      clear hy
      have hsz : ∀ v : Int, ¬ 9223372036854775807 < (strOfNums (digits x k)).size + (strOfNums [v]).size := fun v => by simp only [str_size, digits_length, List.length_cons, List.length_nil]; omega
      go_wp2_with fail
      go_roundw
      case rel =>
        refine ⟨k + 1, by omega, by go_num, ?_, ?_, HK.out.alloc _⟩
        · have e : IntKind.u64.wrap (y.tdiv 256) = x / 2 ^ (8 * (k + 1)) := by
            have hy1 : y < 18446744073709551616 := by
              have := HX1.out
              have hp : (1 : Int) ≤ 2 ^ (8 * k) := by have := Nat.one_le_two_pow (n := 8 * k); exact_mod_cast this
              rw [HY.out]
              exact Int.lt_of_le_of_lt (Int.ediv_le_self _ x0) this
            rw [Int.tdiv_eq_ediv_of_nonneg y0, IntKind.wrap_u64, show 8 * (k + 1) = 8 * k + 8 by omega, Int.pow_add, ← Int.ediv_ediv_of_nonneg (by exact_mod_cast Nat.zero_le _), ← HY.out]
            omega
          rw [e]
        · rw [str_append, show digits x (k + 1) = digits x k ++ [x / 2 ^ (8 * k) % 256] from rfl, HY.out]
      case measure => simp [intOf]; omega
    · go_wp2_with fail
      go_ret
      obtain rfl : k = n := by omega
      exact ⟨rfl, HK.out⟩
end Go.Proofs.Ytbchiccgkhnkaaa

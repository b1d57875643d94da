/-
  VarLen; RecOwn; RecBody; CobsUnNum; CobsUnstuff; CobsAll.
-/
import Derived.Lib.BitFns
import Derived.Lib.Walk
import Derived.Lib.Strings
import Derived.Lib.Slices
import Derived.Lib.Small
import Derived.Deep.RegionHeld3
import Derived.Test.YtlejobomjgccnaaGreatM01
import Derived.Test.YtlejobomjgccnaaGreatM02
import Derived.Test.YtlejobomjgccnaaGreatM25
import Derived.Test.YtlejobomjgccnaaGreatM27
namespace Go.Proofs.YtlejobomjgccnaaGreat
open Go.RowKit

end Go.Proofs.YtlejobomjgccnaaGreat

namespace Go.Proofs.YtlejobomjgccnaaGreat
open Go.RowKit

theorem str_none {xs : List Int} (h : xs.length = 0) : strOfNums xs = ⟨#[]⟩ := by
  obtain rfl : xs = [] := List.length_eq_zero_iff.1 h
  rfl
theorem str_some {xs : List Int} (h : 0 < xs.length) : (strOfNums xs).toList.isEmpty = false := by
  rw [ByteArray.toList_eq]
  cases xs with
  | nil => simp at h
  | cons a r => simp [strOfNums]

set_option maxHeartbeats 1600000 in
set_option maxRecDepth 10000 in
theorem check_own (r : Rec) (h1 : r.key.length ≤ 140737488355328) (h2 : r.val.length ≤ 140737488355328) (w : World) :
    Calls Tryz.prog 85 #[recV r] w fun e w' => e = .returned (.int .i64 (checkR r)) ∧ Keeps NoBlock w w' := by
  obtain ⟨del, seq, key, val⟩ := r
  simp only at h1 h2
  have hk := str_size key
  have hv := str_size val
  have hdef : checkR ⟨del, seq, key, val⟩ = if key.length = 0 then 4 else if 4096 < key.length then 3 else if del = true ∧ 0 < val.length then 4 else if 1048576 < val.length then 3 else 0 := rfl
  rw [hdef]
  have hv0 := fun h => str_none (xs := val) h
  have hv1 := fun h => str_some (xs := val) h
  unfold recV
  simp only
  clear hdef
  obtain ⟨K, hK⟩ : ∃ K, K = key.length := ⟨_, rfl⟩
  obtain ⟨V, hV⟩ : ∃ V, V = val.length := ⟨_, rfl⟩
  rw [← hK] at h1 hk ⊢
  rw [← hV] at h2 hv hv0 hv1 ⊢
  clear hK hV
  by_cases c1 : K = 0
  · rw [if_pos c1]
    subst c1
    clear hv0 hv1
    go_enter Tryz.func85, Tryz.ntmps85
    go_wp2_with fail
    go_ret
    exact ⟨rfl, (Keeps.refl _ _).alloc _⟩
  · rw [if_neg c1]
    have d1 : decide ((K : Int) < 1) = false := decide_eq_false (by omega)
    by_cases c2 : 4096 < K
    · rw [if_pos c2]
      have d2 : decide ((4096 : Int) < (K : Int)) = true := decide_eq_true (by omega)
      clear hv0 hv1
      go_enter Tryz.func85, Tryz.ntmps85
      go_wp2_with fail
      go_ret
      exact ⟨rfl, (Keeps.refl _ _).alloc _⟩
    · rw [if_neg c2]
      have d2 : decide ((4096 : Int) < (K : Int)) = false := decide_eq_false (by omega)
      cases del with
      | true =>
        by_cases c3 : 0 < V
        · rw [if_pos ⟨rfl, c3⟩]
          have e3 := hv1 c3
          clear hv0 hv1
          go_enter Tryz.func85, Tryz.ntmps85
          go_wp2_with fail
          go_ret
          exact ⟨rfl, (Keeps.refl _ _).alloc _⟩
        · obtain rfl : V = 0 := by omega
          rw [if_neg (by simp), if_neg (by decide)]
          rw [hv0 rfl]
          clear hv0 hv1 hv
          go_enter Tryz.func85, Tryz.ntmps85
          go_wp2_with fail
          go_ret
          exact ⟨rfl, (Keeps.refl _ _).alloc _⟩
      | false =>
        rw [if_neg (by simp)]
        clear hv0 hv1
        by_cases c4 : 1048576 < V
        · rw [if_pos c4]
          have d4 : decide ((1048576 : Int) < (V : Int)) = true := decide_eq_true (by omega)
          go_enter Tryz.func85, Tryz.ntmps85
          go_wp2_with fail
          go_ret
          exact ⟨rfl, (Keeps.refl _ _).alloc _⟩
        · rw [if_neg c4]
          have d4 : decide ((1048576 : Int) < (V : Int)) = false := decide_eq_false (by omega)
          go_enter Tryz.func85, Tryz.ntmps85
          go_wp2_with fail
          go_ret
          exact ⟨rfl, (Keeps.refl _ _).alloc _⟩

theorem kind_own (r : Rec) (w : World) :
    Calls Tryz.prog 86 #[recV r] w fun e w' => e = .returned (.int .u8 (if r.del then 3 else 2)) ∧ Keeps NoBlock w w' := by
  obtain ⟨del, seq, key, val⟩ := r
  unfold recV
  simp only
  cases del
  all_goals
    go_enter Tryz.func86, Tryz.ntmps86
    go_wp2_with fail
    go_ret
    exact ⟨rfl, (Keeps.refl _ _).alloc _⟩

/-- How gone ends: with what the first byte says, or given up. -/
def GonePost (k : Nat) (p : Option Addr) (N c : Nat) (w : World) : List Int → Ending → World → Prop
  | [], e, w' => e = .panicked (given k) ∧ CurB w' k p N c 0 true 2 ∧ Keeps (Just k) w w'
  | b :: _, e, w' => Keeps (Just k) w w' ∧ CurB w' k p N c 1 true (if b ≠ 2 ∧ b ≠ 3 then 4 else 0) ∧ e = if b ≠ 2 ∧ b ≠ 3 then .panicked (given k) else .returned (.bool (b == 3))

set_option maxHeartbeats 1600000 in
theorem gone_own (k : Nat) (p : Option Addr) (xs : List Int) (N c : Nat) (w : World) (hx : N = xs.length) (h : CurB w k p N c 0 true 0) (hb : Bytes8 w p xs) (ho : Octets xs) (hp : 0 < xs.length → ∀ q, p = some q → q.block ≠ k) (hN : N ≤ c) (hc : c ≤ 9223372036854775807) :
    Calls Tryz.prog 131 #[.pointer (some ⟨k, 0, none⟩)] w (GonePost k p N c w xs) := by
  cases xs with
  | nil =>
    have HS := Lib.hid (byte_short k p N c 0 w h (by omega) (by simp at hx; omega) (by omega))
    clear h hb ho hp hN hc hx
    go_enter Tryz.func131, Tryz.ntmps131
    go_wp2_with fail
    refine HS.out.mono ?_
    rintro e w' ⟨rfl, hcur, hk⟩
    exact ⟨rfl, rfl, hcur, hk⟩
  | cons b r =>
    have HB := Lib.hid (byte_at k p (b :: r) N c 0 w hx h hb ho hp (by simp at hx; omega) hN hc)
    rw [List.getD_cons_zero] at HB
    clear h hb ho hp hN hc hx
    by_cases h2 : b = 2
    · subst h2
      go_enter Tryz.func131, Tryz.ntmps131
      go_wp2_with fail
      refine HB.out.mono ?_
      rintro e w' ⟨rfl, hcur, hk⟩
      have HC := Lib.hid hcur; have HK := Lib.hid hk
      clear hcur hk HB
      go_wp2_with fail
      go_ret
      exact ⟨HK.out, HC.out, rfl⟩
    · by_cases h3 : b = 3
      · subst h3
        clear h2
        go_enter Tryz.func131, Tryz.ntmps131
        go_wp2_with fail
        refine HB.out.mono ?_
        rintro e w' ⟨rfl, hcur, hk⟩
        have HC := Lib.hid hcur; have HK := Lib.hid hk
        clear hcur hk HB
        go_wp2_with fail
        go_ret
        exact ⟨HK.out, HC.out, rfl⟩
      · have hc4 : b ≠ 2 ∧ b ≠ 3 := ⟨h2, h3⟩
        have e2 : (b != 2) = true := by simp [h2]
        have e3 : (b != 3) = true := by simp [h3]
        go_enter Tryz.func131, Tryz.ntmps131
        go_wp2_with fail
        refine HB.out.mono ?_
        rintro e w' ⟨rfl, hcur, hk⟩
        have HC := Lib.hid hcur; have HK := Lib.hid hk
        clear hcur hk HB
        go_wp2_with fail
        refine (fail_at k p N c (0 + 1) 4 _ HC.out (by decide)).mono ?_
        rintro e w2 ⟨rfl, hcur, hk⟩
        refine ⟨rfl, HK.out.trans hk, ?_, ?_⟩
        · rw [if_pos hc4]
          exact hcur
        · rw [if_pos hc4]
end Go.Proofs.YtlejobomjgccnaaGreat

namespace Go.Proofs.YtlejobomjgccnaaGreat
open Go.RowKit

theorem Keeps.ofBelowAt {B : Nat} {a b : World} (h : Below B a b) : Keeps (fun k => B ≤ k) a b := ⟨h.os, h.tape, h.output, h.size, fun k _ hn => h.block k (by omega)⟩
theorem Keeps.onBuf {B g : Nat} {a b : World} (h : Keeps (OnBuf B g) a b) (hB : B ≤ g) : Keeps (fun k => B ≤ k) a b := h.wider (fun k _ hk => by rcases hk with rfl | hk <;> omega)

theorem textB_len (t : List Int) (ht : t.length ≤ 2000000) : (textB t).length ≤ 2000010 := by
  unfold textB
  rw [List.length_append]
  have := vnum_ten (x := t.length) (by omega)
  omega

set_option maxHeartbeats 4000000 in
set_option maxRecDepth 10000 in
theorem body_own (r : Rec) (w : World) (hmod : r.Modest) : Calls Tryz.prog 54 #[recV r] w fun e w' => ∃ v, e = .returned (.tuple #[v, .int .i64 (checkR r)]) ∧ NewBytes w (bodyE r) v w' := by
  have hf := hmod.fine
  have h1 := hmod.key
  have h2 := hmod.val
  have HC := Lib.hid (fun w => check_own r (by omega) (by omega) w)
  have HKd := Lib.hid (fun w => kind_own r w)
  by_cases hc : checkR r = 0
  · have hbe : bodyE r = bodyR r := by unfold bodyE; rw [if_pos hc]
    rw [hbe, hc]
    rw [hc] at HC
    clear hbe hc hmod
    obtain ⟨del, seq, key, val⟩ := r
    have h64 := hf.seq
    have ok := hf.key
    have ov := hf.val
    simp only at h1 h2 h64 ok ov
    have lk := textB_len key h1
    have lv := textB_len val h2
    have ln := vnum_ten h64
    have hdef : bodyR ⟨del, seq, key, val⟩ = (((([] ++ [if del then 3 else 2]) ++ vnum seq) ++ textB key) ++ if del then [] else textB val) := by
      cases del <;> simp [bodyR]
    rw [hdef]
    clear hdef
    unfold recV at HC HKd ⊢
    simp only at HC HKd ⊢
    have HPn := Lib.hid (fun base g xs w h hs hx => put_any base g xs seq (seq : Int) rfl w h hs hx h64)
    have HPk := Lib.hid (fun base g xs w h hb hs hx => puttext_any base g xs key w h hb hs ok (by omega) hx)
    have HPv := Lib.hid (fun base g xs w h hb hs hx => puttext_any base g xs val w h hb hs ov (by omega) hx)
    have hlv : (vnum seq).length ≤ 10 := ln
    obtain ⟨V, hV⟩ : ∃ V, V = vnum seq := ⟨_, rfl⟩
    obtain ⟨K, hK⟩ : ∃ K, K = textB key := ⟨_, rfl⟩
    obtain ⟨X, hX⟩ : ∃ X, X = textB val := ⟨_, rfl⟩
    rw [← hV] at HPn hlv ⊢
    rw [← hK] at HPk lk ⊢
    rw [← hX] at HPv lv ⊢
    clear hV hK hX ln hf ok ov h64
    cases del
    · simp only [if_false, Bool.false_eq_true] at HKd ⊢
      go_enter Tryz.func54, Tryz.ntmps54
      go_wp2_with fail
      refine (HC.out _).mono ?_
      rintro e w1 ⟨rfl, hk⟩
      have HR : Hid (RecAt w1 w.heap.size _) := Lib.hid (RecAt.ofWhole (r := ⟨_, seq, key, val⟩) ((Whole.new w _ _).keep hk (fun h => h)))
      have HK := Lib.hid (((Keeps.refl NoBlock w).alloc _).trans hk)
      have hsz1 : w.heap.size + 1 ≤ w1.heap.size := by have := hk.size; simpa using this
      obtain ⟨c0, c1, c2, c3⟩ := HR.out
      have hwa : Keeps NoBlock w1 (w1.alloc (.cells #[.slice none 0 0] 102)) := (Keeps.refl NoBlock w1).alloc _
      have HRa : Hid (Whole (w1.alloc (.cells #[.slice none 0 0] 102)) w.heap.size 39 (recCells ⟨_, seq, key, val⟩)) := Lib.hid (((Whole.new w _ _).keep hk (fun h => h)).keep hwa (fun h => h))
      obtain ⟨b0, b1, b2, b3⟩ := RecAt.ofWhole HRa.out
      clear hk hwa
      go_wp2_with fail
      refine (HKd.out _).mono ?_
      rintro e w2 ⟨rfl, hk⟩
      have hb0 : BufAt w2 w1.heap.size w1.heap.size [] := (bufNewB w1 w1.heap.size).keepO hk (fun h => h) (fun _ _ _ _ h => h)
      have HQ2 := Lib.hid (((Keeps.refl (fun i => w1.heap.size ≤ i) w1).alloc (.cells #[.slice none 0 0] 102)).trans (hk.wider (S' := fun i => w1.heap.size ≤ i) (fun _ _ h => h.elim)))
      have HR2 : Hid (Whole w2 w.heap.size 39 (recCells ⟨_, seq, key, val⟩)) := Lib.hid (HRa.out.keep hk (fun h => h))
      have HB2 := Lib.hid hb0
      clear hk hb0
      go_wp2_with fail
      refine (bufByteK w1.heap.size w1.heap.size [] _ _ HB2.out (by have := HQ2.out.size; omega) (by simp)).mono ?_
      rintro e w3 ⟨rfl, hb3, hk⟩
      have hk3 := hk.onBuf (Nat.le_refl _)
      have HQ3 := Lib.hid (HQ2.out.trans hk3)
      have HR3 : Hid (Whole w3 w.heap.size 39 (recCells ⟨_, seq, key, val⟩)) := Lib.hid (HR2.out.keep hk3 (by omega))
      have HB3 := Lib.hid hb3
      obtain ⟨x0, x1, x2, x3⟩ := RecAt.ofWhole HR3.out
      clear hk hk3 hb3 HB2 HQ2 HR2
      go_wp2_with fail
      refine (HPn.out _ _ _ _ HB3.out (by have := HQ3.out.size; omega) (by simp)).mono ?_
      rintro e w4 ⟨rfl, hb4, hk⟩
      have hk4 := hk.onBuf (Nat.le_refl _)
      have HQ4 := Lib.hid (HQ3.out.trans hk4)
      have HR4 : Hid (Whole w4 w.heap.size 39 (recCells ⟨_, seq, key, val⟩)) := Lib.hid (HR3.out.keep hk4 (by omega))
      have HB4 := Lib.hid hb4
      obtain ⟨y0, y1, y2, y3⟩ := RecAt.ofWhole HR4.out
      clear hk hk4 hb4 HB3 HQ3 HR3
      go_wp2_with fail
      refine (HPk.out _ _ _ _ HB4.out (Nat.le_refl _) (by have := HQ4.out.size; omega) (by simp; omega)).mono ?_
      rintro e w5 ⟨rfl, hb5, hk⟩
      have hk5 := Keeps.ofBelowAt hk
      have HQ5 := Lib.hid (HQ4.out.trans hk5)
      have HR5 : Hid (Whole w5 w.heap.size 39 (recCells ⟨_, seq, key, val⟩)) := Lib.hid (HR4.out.keep hk5 (by omega))
      have HB5 := Lib.hid hb5
      obtain ⟨z0, z1, z2, z3⟩ := RecAt.ofWhole HR5.out
      clear hk hk5 hb5 HB4 HQ4 HR4
      go_wp2_with fail
      refine (HPv.out _ _ _ _ HB5.out (Nat.le_refl _) (by have := HQ5.out.size; omega) (by simp; omega)).mono ?_
      rintro e w6 ⟨rfl, hb6, hk⟩
      have hk6 := Keeps.ofBelowAt hk
      have HQ6 := Lib.hid (HQ5.out.trans hk6)
      have HB6 := Lib.hid hb6
      clear hk hk6 hb6 HB5 HQ5 HR5
      go_wp2_with fail
      refine (bufBytes w1.heap.size w1.heap.size _ _ HB6.out (by simp; omega)).mono ?_
      rintro e w9 ⟨v, rfl, q, d, rfl, hd, hd', hby, hq, hk⟩
      have HQ9 := Lib.hid (HQ6.out.trans (hk.wider (S' := fun i => w1.heap.size ≤ i) (fun _ _ h => h.elim)))
      have HBy := Lib.hid hby
      clear hk hby hq
      go_wp2_with fail
      refine bodyPost_ret (results_tmp2 rfl _ _ _) rfl ?_
      refine ⟨_, rfl, q, _, d, rfl, by simp; try omega, by simp at hd ⊢; omega, hd', fun h0 => ?_, HBy.out, HK.out.then HQ9.out (fun i hi h => by omega)⟩
      obtain ⟨a, ha, _⟩ := HBy.out (by simp)
      rw [h0] at ha
      simp at ha
    · simp only [if_true, List.append_nil] at HKd ⊢
      go_enter Tryz.func54, Tryz.ntmps54
      go_wp2_with fail
      refine (HC.out _).mono ?_
      rintro e w1 ⟨rfl, hk⟩
      have HR : Hid (RecAt w1 w.heap.size _) := Lib.hid (RecAt.ofWhole (r := ⟨_, seq, key, val⟩) ((Whole.new w _ _).keep hk (fun h => h)))
      have HK := Lib.hid (((Keeps.refl NoBlock w).alloc _).trans hk)
      have hsz1 : w.heap.size + 1 ≤ w1.heap.size := by have := hk.size; simpa using this
      obtain ⟨c0, c1, c2, c3⟩ := HR.out
      have hwa : Keeps NoBlock w1 (w1.alloc (.cells #[.slice none 0 0] 102)) := (Keeps.refl NoBlock w1).alloc _
      have HRa : Hid (Whole (w1.alloc (.cells #[.slice none 0 0] 102)) w.heap.size 39 (recCells ⟨_, seq, key, val⟩)) := Lib.hid (((Whole.new w _ _).keep hk (fun h => h)).keep hwa (fun h => h))
      obtain ⟨b0, b1, b2, b3⟩ := RecAt.ofWhole HRa.out
      clear hk hwa
      go_wp2_with fail
      refine (HKd.out _).mono ?_
      rintro e w2 ⟨rfl, hk⟩
      have hb0 : BufAt w2 w1.heap.size w1.heap.size [] := (bufNewB w1 w1.heap.size).keepO hk (fun h => h) (fun _ _ _ _ h => h)
      have HQ2 := Lib.hid (((Keeps.refl (fun i => w1.heap.size ≤ i) w1).alloc (.cells #[.slice none 0 0] 102)).trans (hk.wider (S' := fun i => w1.heap.size ≤ i) (fun _ _ h => h.elim)))
      have HR2 : Hid (Whole w2 w.heap.size 39 (recCells ⟨_, seq, key, val⟩)) := Lib.hid (HRa.out.keep hk (fun h => h))
      have HB2 := Lib.hid hb0
      clear hk hb0
      go_wp2_with fail
      refine (bufByteK w1.heap.size w1.heap.size [] _ _ HB2.out (by have := HQ2.out.size; omega) (by simp)).mono ?_
      rintro e w3 ⟨rfl, hb3, hk⟩
      have hk3 := hk.onBuf (Nat.le_refl _)
      have HQ3 := Lib.hid (HQ2.out.trans hk3)
      have HR3 : Hid (Whole w3 w.heap.size 39 (recCells ⟨_, seq, key, val⟩)) := Lib.hid (HR2.out.keep hk3 (by omega))
      have HB3 := Lib.hid hb3
      obtain ⟨x0, x1, x2, x3⟩ := RecAt.ofWhole HR3.out
      clear hk hk3 hb3 HB2 HQ2 HR2
      go_wp2_with fail
      refine (HPn.out _ _ _ _ HB3.out (by have := HQ3.out.size; omega) (by simp)).mono ?_
      rintro e w4 ⟨rfl, hb4, hk⟩
      have hk4 := hk.onBuf (Nat.le_refl _)
      have HQ4 := Lib.hid (HQ3.out.trans hk4)
      have HR4 : Hid (Whole w4 w.heap.size 39 (recCells ⟨_, seq, key, val⟩)) := Lib.hid (HR3.out.keep hk4 (by omega))
      have HB4 := Lib.hid hb4
      obtain ⟨y0, y1, y2, y3⟩ := RecAt.ofWhole HR4.out
      clear hk hk4 hb4 HB3 HQ3 HR3
      go_wp2_with fail
      refine (HPk.out _ _ _ _ HB4.out (Nat.le_refl _) (by have := HQ4.out.size; omega) (by simp; omega)).mono ?_
      rintro e w5 ⟨rfl, hb5, hk⟩
      have hk5 := Keeps.ofBelowAt hk
      have HQ5 := Lib.hid (HQ4.out.trans hk5)
      have HR5 : Hid (Whole w5 w.heap.size 39 (recCells ⟨_, seq, key, val⟩)) := Lib.hid (HR4.out.keep hk5 (by omega))
      have HB5 := Lib.hid hb5
      obtain ⟨z0, z1, z2, z3⟩ := RecAt.ofWhole HR5.out
      clear hk hk5 hb5 HB4 HQ4 HR4
      go_wp2_with fail
      refine (bufBytes w1.heap.size w1.heap.size _ _ HB5.out (by simp; omega)).mono ?_
      rintro e w9 ⟨v, rfl, q, d, rfl, hd, hd', hby, hq, hk⟩
      have HQ9 := Lib.hid (HQ5.out.trans (hk.wider (S' := fun i => w1.heap.size ≤ i) (fun _ _ h => h.elim)))
      have HBy := Lib.hid hby
      clear hk hby hq
      go_wp2_with fail
      refine bodyPost_ret (results_tmp2 rfl _ _ _) rfl ?_
      refine ⟨_, rfl, q, _, d, rfl, by simp; try omega, by simp at hd ⊢; omega, hd', fun h0 => ?_, HBy.out, HK.out.then HQ9.out (fun i hi h => by omega)⟩
      obtain ⟨a, ha, _⟩ := HBy.out (by simp)
      rw [h0] at ha
      simp at ha
  · have hbe : bodyE r = [] := by unfold bodyE; rw [if_neg hc]
    rw [hbe]
    obtain ⟨z, hz⟩ : ∃ z, z = checkR r := ⟨_, rfl⟩
    rw [← hz] at HC hc ⊢
    clear hbe hz hmod hf h1 h2 HKd
    obtain ⟨del, seq, key, val⟩ := r
    unfold recV at HC ⊢
    simp only at HC ⊢
    go_enter Tryz.func54, Tryz.ntmps54
    go_wp2_with fail
    refine (HC.out _).mono ?_
    rintro e w1 ⟨rfl, hk⟩
    have HR : Hid (RecAt w1 w.heap.size _) := Lib.hid (RecAt.ofWhole (r := ⟨del, seq, key, val⟩) ((Whole.new w _ _).keep hk (fun h => h)))
    have HK := Lib.hid (((Keeps.refl NoBlock w).alloc _).trans hk)
    obtain ⟨c0, c1, c2, c3⟩ := HR.out
    clear hk
    go_wp2_with fail
    refine bodyPost_ret (results_tmp2 rfl _ _ _) rfl ?_
    exact ⟨_, rfl, .ofNil _ _ HK.out⟩

end Go.Proofs.YtlejobomjgccnaaGreat

namespace Go.Proofs.YtlejobomjgccnaaGreat

/-- From group to group: what is left, what was told, how long the group ahead was. -/
def urun : List Int → List Int → Nat → Int × List Int
  | [], P, _ => (0, P)
  | n :: r, P, a =>
    if r.length + 1 < n.toNat then (2, [])
    else if r.drop (n.toNat - 1) = [] then (if n.toNat - 1 = 0 ∧ a = 254 then (4, []) else (0, P ++ r.take (n.toNat - 1)))
    else urun (r.drop (n.toNat - 1)) (P ++ r.take (n.toNat - 1) ++ (if n.toNat - 1 < 254 then [0] else [])) (n.toNat - 1)
termination_by xs => xs.length
decreasing_by simp; omega

/-- The last group isn't empty behind a full one. -/
def form : List Int → Nat → Bool
  | [], _ => true
  | n :: r, a => if r.drop (n.toNat - 1) = [] then !decide (n.toNat - 1 = 0 ∧ a = 254) else form (r.drop (n.toNat - 1)) (n.toNat - 1)
termination_by xs => xs.length
decreasing_by simp; omega

theorem urun_dec : ∀ (m : Nat) (R P : List Int) (a : Nat), R.length ≤ m → R ≠ [] → Solid R → urun R P a = match dec R with
    | none => (2, [])
    | some o => if form R a = true then (0, P ++ o) else (4, [])
  | 0, R, _, _, hm, hR, _ => absurd (List.length_eq_zero_iff.1 (by omega)) hR
  | m + 1, [], _, _, _, hR, _ => absurd rfl hR
  | m + 1, n :: r, P, a, hm, _, hs => by
    have hn := hs n List.mem_cons_self
    rw [urun, dec, form]
    by_cases h1 : r.length + 1 < n.toNat
    · rw [if_pos h1, if_pos h1]
    · rw [if_neg h1, if_neg h1]
      by_cases h2 : r.drop (n.toNat - 1) = []
      · rw [if_pos h2, if_pos h2, h2, dec]
        by_cases h3 : n.toNat - 1 = 0 ∧ a = 254
        · simp [h3]
        · have e : (!decide (n.toNat - 1 = 0 ∧ a = 254)) = true := by rw [decide_eq_false h3]; rfl
          rw [if_neg h3]
          simp only [e, Option.map_some, ne_eq, not_true_eq_false, and_false, if_false, List.append_nil, if_true]
      · rw [if_neg h2, if_neg h2, urun_dec m _ _ _ (by simp at hm ⊢; omega) h2 (fun b hb => hs b (List.mem_cons_of_mem _ (List.mem_of_mem_drop hb)))]
        have e : (if n < 255 ∧ r.drop (n.toNat - 1) ≠ [] then ([0] : List Int) else []) = if n.toNat - 1 < 254 then [0] else [] := by
          by_cases h4 : n < 255
          · rw [if_pos ⟨h4, h2⟩, if_pos (by omega)]
          · rw [if_neg (fun h => h4 h.1), if_neg (by omega)]
        rw [e]
        cases dec (r.drop (n.toNat - 1)) with
        | none => rfl
        | some o => simp

theorem stuffGo_short : ∀ (g now r : List Int) (f : Bool), (∀ b ∈ g, b ≠ 0) → g ≠ [] → now.length + g.length < 254 → stuffGo now f (g ++ r) = stuffGo (now ++ g) false r
  | [], _, _, _, _, hg, _ => absurd rfl hg
  | b :: g, now, r, f, h0, _, hl => by
    have hb := h0 b List.mem_cons_self
    rw [List.length_cons] at hl
    rw [List.cons_append, stuffGo, if_neg hb, if_neg (by omega)]
    by_cases hg : g = []
    · subst hg; rfl
    · rw [stuffGo_short g (now ++ [b]) r false (fun x hx => h0 x (List.mem_cons_of_mem _ hx)) hg (by simp; omega)]
      simp
theorem stuffGo_full : ∀ (g now r : List Int) (f : Bool), (∀ b ∈ g, b ≠ 0) → now.length + g.length = 254 → now.length < 254 → stuffGo now f (g ++ r) = 255 :: (now ++ g) ++ stuffGo [] true r
  | [], now, _, _, _, hl, hn => by simp at hl; omega
  | b :: g, now, r, f, h0, hl, hn => by
    have hb := h0 b List.mem_cons_self
    rw [List.length_cons] at hl
    rw [List.cons_append, stuffGo, if_neg hb]
    by_cases hg : now.length + 1 = 254
    · obtain rfl : g = [] := List.length_eq_zero_iff.1 (by omega)
      rw [if_pos hg]
      simp
    · rw [if_neg hg, stuffGo_full g (now ++ [b]) r false (fun x hx => h0 x (List.mem_cons_of_mem _ hx)) (by simp; omega) (by simp; omega)]
      simp

/-- Of what has a decoding: it is what is written of that, or a last empty group stands behind it. -/
theorem stuffGo_form : ∀ (m : Nat) (R : List Int) (a : Nat) (o : List Int), R.length ≤ m → R ≠ [] → Solid R → dec R = some o → stuffGo [] (decide (a = 254)) o ++ (if form R a = true then [] else [1]) = R
  | 0, R, _, _, hm, hR, _, _ => absurd (List.length_eq_zero_iff.1 (by omega)) hR
  | m + 1, [], _, _, _, hR, _, _ => absurd rfl hR
  | m + 1, n :: r, a, o, hm, _, hs, hd => by
    have hn := hs n List.mem_cons_self
    have h0 : ∀ b ∈ r.take (n.toNat - 1), b ≠ 0 := fun b hb => by
      have := hs b (List.mem_cons_of_mem _ (List.mem_of_mem_take hb))
      omega
    rw [dec] at hd
    rw [form]
    by_cases h1 : r.length + 1 < n.toNat
    · rw [if_pos h1] at hd; cases hd
    · rw [if_neg h1] at hd
      obtain ⟨k, hk⟩ : ∃ k, k = n.toNat - 1 := ⟨_, rfl⟩
      rw [← hk] at hd h0 ⊢
      have hkl : (r.take k).length = k := by rw [List.length_take]; omega
      have hnk : n = ((k + 1 : Nat) : Int) := by omega
      have hk254 : k ≤ 254 := by omega
      by_cases h2 : r.drop k = []
      · rw [h2, dec] at hd
        rw [if_pos h2]
        have hr : r = r.take k := by
          have := List.take_append_drop k r
          rw [h2, List.append_nil] at this
          exact this.symm
        have ho : o = r := by
          simp only [Option.map_some, ne_eq, not_true_eq_false, and_false, if_false, List.append_nil, Option.some.injEq] at hd
          rw [← hd, ← hr]
        subst ho
        rw [← hr] at h0 hkl
        by_cases hk0 : k = 0
        · obtain rfl : o = [] := List.length_eq_zero_iff.1 (by omega)
          subst hk0
          by_cases ha : a = 254
          · subst ha; rw [hnk]; rfl
          · simp [ha, stuffGo, hnk]
        · have hne : o ≠ [] := fun h => by rw [h] at hkl; simp at hkl; omega
          have e : (!decide (k = 0 ∧ a = 254)) = true := by simp [hk0]
          rw [e, if_pos rfl, List.append_nil]
          by_cases h254 : k = 254
          · have h := stuffGo_full o [] [] (decide (a = 254)) h0 (by simp; omega) (by decide)
            rw [List.append_nil] at h
            rw [h, hnk, h254]
            simp [stuffGo]
          · have h := stuffGo_short o [] [] (decide (a = 254)) h0 hne (by simp; omega)
            rw [List.append_nil] at h
            rw [h, hnk]
            simp [stuffGo, hkl]
      · rw [if_neg h2]
        cases hd' : dec (r.drop k) with
        | none => rw [hd'] at hd; cases hd
        | some o' =>
          have ih := stuffGo_form m (r.drop k) k o' (by simp at hm ⊢; omega) h2 (fun b hb => hs b (List.mem_cons_of_mem _ (List.mem_of_mem_drop hb))) hd'
          rw [hd'] at hd
          simp only [Option.map_some, Option.some.injEq] at hd
          have hrr : r = r.take k ++ r.drop k := (List.take_append_drop k r).symm
          by_cases h254 : k = 254
          · rw [if_neg (by omega), List.append_nil] at hd
            rw [h254, show decide ((254 : Nat) = 254) = true from rfl] at ih
            rw [← hd, stuffGo_full (r.take k) [] o' _ h0 (by simp; omega) (by decide), List.append_assoc, h254, ih, hnk, h254]
            simp only [List.nil_append, List.cons_append]
            rw [List.take_append_drop]
            rfl
          · rw [if_pos ⟨by omega, h2⟩] at hd
            rw [show decide (k = 254) = false from decide_eq_false h254] at ih
            rw [← hd, List.append_assoc]
            by_cases hk0 : k = 0
            · subst hk0
              rw [List.take_zero, List.nil_append, List.cons_append, List.nil_append, stuffGo, if_pos rfl, List.append_assoc, ih, hnk]
              simp
            · rw [stuffGo_short (r.take k) [] _ _ h0 (fun h => by rw [h] at hkl; simp at hkl; omega) (by simp; omega)]
              rw [List.nil_append, List.cons_append, List.nil_append, stuffGo, if_pos rfl, List.append_assoc, ih, hkl, hnk]
              rw [List.cons_append, List.take_append_drop]

theorem unst_urun {xs : List Int} (hs : Solid xs) (hx : xs ≠ []) : unst xs = urun xs [] 0 := by
  unfold unst
  rw [if_neg hs.noZero, if_neg hx, urun_dec xs.length xs [] 0 (Nat.le_refl _) hx hs]
  cases hd : dec xs with
  | none => rfl
  | some o =>
    have h := stuffGo_form xs.length xs 0 o (Nat.le_refl _) hx hs hd
    rw [show decide ((0 : Nat) = 254) = false from rfl] at h
    show (if stuff o = xs then ((0 : Int), o) else (4, [])) = (if form xs 0 = true then (0, [] ++ o) else (4, []))
    by_cases hf : form xs 0 = true
    · rw [if_pos hf, List.append_nil] at h
      rw [if_pos hf, List.nil_append]
      rw [if_pos (show stuff o = xs from h)]
    · rw [if_neg hf] at h
      rw [if_neg hf]
      rw [if_neg]
      intro e
      have e' : stuffGo [] false o = xs := e
      have := congrArg List.length h
      rw [e'] at this
      simp at this
end Go.Proofs.YtlejobomjgccnaaGreat

namespace Go.Proofs.YtlejobomjgccnaaGreat
open Go.RowKit

theorem Copied.fresh {w wx : World} {N : Nat} {xs : List Int} {v : Value} (h : Copied w N xs v wx) (hn : N = xs.length) : NewBytes w xs v wx := by
  have h' := h
  obtain ⟨q, d, rfl, h1, h2, h3⟩ := h.read hn
  refine ⟨q, N, d, rfl, hn, h1, h2, fun hq => ?_, h3, Keeps.ofBelow h'.2⟩
  rcases h'.1.2 with ⟨e, _⟩ | ⟨g, cap, cur, e, _⟩
  · cases e; exact ⟨rfl, rfl⟩
  · subst hq; cases e

theorem news_cells {w : World} {ad : Addr} {xs : List Int} {k : Nat} (hk : k ≤ xs.length) (h : 0 < k → Bytes8 w (some ad) xs) : ∀ j u, ((xs.take k).map (Value.int .u8))[j]? = some u → w.cell? (ad.add j) = some u := by
  intro j u hj
  have hjn : j < (xs.take k).length := by
    have := (List.getElem?_eq_some_iff.1 hj).1
    simpa using this
  rw [List.length_take] at hjn
  obtain ⟨a', ha', hcell⟩ := h (by omega) (by omega)
  obtain rfl := Option.some.inj ha'
  rw [hcell j (by omega)]
  have e : ((xs.take k).map (Value.int .u8))[j]? = some (Value.int .u8 (xs.getD j 0)) := by
    rw [List.getElem?_map, List.getElem?_take, if_pos (by omega), List.getElem?_eq_getElem (by omega)]
    simp [List.getD, List.getElem?_eq_getElem (show j < xs.length by omega)]
  rw [e] at hj
  exact hj
theorem bytes_one (xs : List Int) : ∀ u ∈ xs.map (Value.int .u8), u.oneCell' = true := fun u hu => by
  obtain ⟨x, _, rfl⟩ := List.mem_map.1 hu
  rfl
theorem Copied.more {w wr w3 : World} {N m : Nat} {xs ys : List Int} {v v' : Value} (h : Copied w N xs v wr) (hown : w3.ownsRow w.heap.size 5 1 v' (N + m) (xs.map (Value.int .u8) ++ ys.map (Value.int .u8))) (hgrow : wr.grownBy w3 v.ownBlock) : Copied w (N + m) (xs ++ ys) v' w3 :=
  ⟨by rw [List.map_append]; exact hown, h.2.grown hgrow h.2.size (fun k hk => own_base h.1 hk)⟩

/-- Between two groups. -/
structure UnwAt (w : World) (N : Nat) (xs : List Int) (q : Option Addr) (m d : Nat) (R P : List Int) (a : Nat) (v : Value) (wr : World) : Prop where
  len : m = R.length
  some : R ≠ []
  solid : Solid R
  bytes : Bytes8 w q R
  run : unst xs = urun R P a
  room : P.length + m ≤ N
  row : Copied w P.length P v wr

theorem unst_nought {xs : List Int} (h : 0 ∈ xs) : unst xs = (4, []) := by unfold unst; rw [if_pos h]
theorem unst_nil : unst [] = (2, []) := by decide
theorem nought_some {xs : List Int} (h : 0 ∈ xs) : 0 ≤ nought xs := by unfold nought; rw [if_pos h]; omega
theorem nought_none {xs : List Int} (h : 0 ∉ xs) : nought xs = -1 := by unfold nought; rw [if_neg h]

set_option maxRecDepth 100000 in
set_option maxHeartbeats 2000000 in
theorem unstuff_cobs (p : Option Addr) (N c : Nat) (xs : List Int) (w : World) (hx : N = xs.length) (hc : N ≤ c) (_hc' : c ≤ 9223372036854775807) (hn0 : p = none → N = 0 ∧ c = 0) (ho : Octets xs) (hN : N ≤ 1000000) (hb : Bytes8 w p xs) :
    Calls Tryz.prog 127 #[.slice p N c] w fun e w' => ∃ v, e = .returned (.tuple #[v, .int .i64 (unst xs).1]) ∧ NewBytes w (unst xs).2 v w' := by
  obtain ⟨i0, hi, hy0, hy1, hy2⟩ := info_parts infoByte
  have HI := Lib.hid (index_cobs p N c xs w hx ho hb (fun h => (hn0 h).1))
  by_cases h0 : 0 ∈ xs
  · have hz := nought_some h0
    have hd : decide (0 ≤ nought xs) = true := decide_eq_true hz
    rw [unst_nought h0]
    obtain ⟨z, hzz⟩ : ∃ z, z = nought xs := ⟨_, rfl⟩
    rw [← hzz] at HI hd hz
    clear hx ho hb hn0 hzz h0
    go_enter Tryz.func127, Tryz.ntmps127
    go_wp2_with fail
    refine HI.out.mono ?_
    rintro e w1 ⟨rfl, rfl⟩
    go_wp2_with fail
    refine bodyPost_ret (results_tmp2 rfl _ _ _) rfl ?_
    exact ⟨_, rfl, NewBytes.ofNil _ _ (Keeps.refl _ _)⟩
  · rw [nought_none h0] at HI
    have hd : decide (0 ≤ (-1 : Int)) = false := by decide
    by_cases hxs : xs = []
    · subst hxs
      obtain rfl : N = 0 := by simpa using hx
      rw [unst_nil]
      clear hx ho hb hn0
      go_enter Tryz.func127, Tryz.ntmps127
      go_wp2_with fail
      refine HI.out.mono ?_
      rintro e w1 ⟨rfl, rfl⟩
      go_wp2_with fail
      refine bodyPost_ret (results_tmp2 rfl _ _ _) rfl ?_
      exact ⟨_, rfl, NewBytes.ofNil _ _ (Keeps.refl _ _)⟩
    · have hN1 : 0 < N := by rw [hx]; exact List.length_pos_iff.2 hxs
      have hsol : Solid xs := fun b hb => by
        have := ho b hb
        have : b ≠ 0 := fun e => h0 (e ▸ hb)
        omega
      have HST : Hid (∀ v wr, Copied w 0 [] v wr → UnwAt w N xs p N c xs [] 0 v wr) := Lib.hid (fun v wr h => ⟨hx, hxs, hsol, hb, unst_urun hsol hxs, by simp, h⟩)
      have hdl : decide ((N : Int) = 0) = false := decide_eq_false (by omega)
      clear hx ho hb hn0 h0 hsol hxs
      go_enter Tryz.func127, Tryz.ntmps127
      go_wp2_with fail
      refine HI.out.mono ?_
      rintro e w1 ⟨rfl, rfl⟩
      go_wp2_with (at_make; refine wpList_make_own _ rfl _ _ 52 rfl w1.heap.size 5 i0 (.int .u8 0) 1 Tryz.underlying52 hi hy0 hy1 .i64 .i64 (N : Int) N rfl rfl rfl (by rw [hy2]; omega) (by unfold maxLen; omega) (Nat.le_refl _) ?_)
      intro w2 hrow hgrow
      have hB2 : Below w1.heap.size w1 w2 := (Below.refl _ w1).grown hgrow (Nat.le_refl _) (fun k hk => by cases hk)
      have HST := Lib.hid (HST.out _ _ ⟨hrow, hB2⟩)
      clear hrow hgrow hB2 HI hd hdl
      go_wp2_with fail
      go_loopw [0, 4, 5] (fun s0 s4 s5 wr => ∃ q m d R P a, s0 = .slice q m d ∧ s5 = .int .i64 ((a : Nat) : Int) ∧ m ≤ d ∧ d ≤ c ∧ UnwAt w1 N xs q m d R P a s4 wr) (fun s0 _ _ _ => sliceLen s0)
      case atStart => exact ⟨p, N, c, xs, [], 0, rfl, rfl, hc, Nat.le_refl _, HST.out⟩
      case round =>
        clear HST
        obtain ⟨q, m, d, R, P, a, rfl, rfl, hmd, hdc, hu⟩ := hrel
        obtain ⟨n0, r, rfl⟩ := List.exists_cons_of_ne_nil hu.some
        have hn0 := hu.solid n0 List.mem_cons_self
        obtain ⟨L, hL⟩ : ∃ L, L = r.length := ⟨_, rfl⟩
        obtain rfl : m = L + 1 := by rw [hL]; simpa using hu.len
        obtain ⟨ad, rfl, hcs⟩ := hu.bytes (by simp)
        have hbr : Bytes8 wr (some ad) (n0 :: r) := hu.bytes.below hu.row.2
        have hc0 : wr.cell? ad = some (.int .u8 n0) := by
          obtain ⟨a', ha', h3⟩ := hbr (by simp)
          obtain rfl := Option.some.inj ha'
          simpa [Addr.add] using h3 0 (by simp)
        have HB1 : Hid (∀ (ad1 : Addr) (k : Nat), k ≤ L → (0 < k → ad1 = ad.add 1) → 0 < k → Bytes8 wr (some ad1) r) := Lib.hid (fun ad1 k hkL h1 h2 => by
          have := tail_bytes (q' := some ad1) hbr rfl 1 (by simp) (fun _ => by rw [h1 h2]; rfl)
          simpa using this)
        obtain ⟨k, hk⟩ : ∃ k, k = n0.toNat - 1 := ⟨_, rfl⟩
        have hkn : n0 - 1 = (k : Int) := by omega
        have hk254 : k ≤ 254 := by omega
        have hrun : unst xs = if L + 1 < k + 1 then (2, []) else if r.drop k = [] then (if k = 0 ∧ a = 254 then (4, []) else (0, P ++ r.take k)) else urun (r.drop k) (P ++ r.take k ++ (if k < 254 then [0] else [])) k := by
          rw [hu.run, urun, ← hk, ← hL, show n0.toNat = k + 1 by omega]
        have HRUN := Lib.hid hrun
        have HROW := Lib.hid hu.row
        have hroom := hu.room
        have HR0 : Hid (Solid r) := Lib.hid (fun b hb => hu.solid b (List.mem_cons_of_mem _ hb))
        have HBW := Lib.hid hu.bytes
        have HK := Lib.hid hk
        have HL := Lib.hid hL
        have hd1 : 1 ≤ d := by omega
        have HD1 : Hid (d = 1 → L = 0) := Lib.hid (fun h => by omega)
        clear hu hk hcs hbr hrun hL
        by_cases hlong : L < k
        · have hdk : decide ((L : Int) < (k : Int)) = true := decide_eq_true (by omega)
          have e := HRUN.out
          rw [if_pos (by omega)] at e
          have HE := Lib.hid e
          clear e
          go_wp2_with fail
          all_goals
            refine bodyPost_ret (results_tmp2 rfl _ _ _) rfl ?_
            rw [HE.out]
            exact ⟨_, rfl, NewBytes.ofNil _ _ (Keeps.ofBelow HROW.out.2)⟩
        · have hdk : decide ((L : Int) < (k : Int)) = false := decide_eq_false (by omega)
          have hkd : (k : Int) ≤ ((d - 1 : Nat) : Int) := by omega
          have hkL : k ≤ L := by omega
          by_cases hd : d = 1
          · subst hd
            obtain rfl : L = 0 := by omega
            obtain rfl : k = 0 := by omega
            have e := HRUN.out
            have hr0 : r = [] := List.length_eq_zero_iff.1 HL.out.symm
            rw [if_neg (by omega), List.drop_zero, if_pos hr0, List.take_zero, List.append_nil] at e
            go_wp2_with (at_builtin; refine wpList_append_own _ rfl _ _ 52 rfl w1.heap.size 5 i0 (.int .u8 0) 1 1 Tryz.underlying52 hi hy0 hy1 hy2 rfl (by decide) _ _ _ rfl HROW.out.1 ad 0 _ [] rfl rfl (fun j u hj => by simp at hj) (fun u hu => by simp at hu) (by unfold maxLen; omega) (by omega) HROW.out.2.size ?_)
            intro v' w3 hown hgrow _
            have HC : Hid (Copied w1 P.length P v' w3) := Lib.hid (by have := HROW.out.more (m := 0) (ys := []) (by simpa using hown) hgrow; simpa using this)
            clear hown hgrow
            by_cases hF : a = 254
            · rw [if_pos ⟨by simp, hF⟩] at e
              have HE := Lib.hid e
              clear e
              subst hF
              go_wp2_with fail
              refine bodyPost_ret (results_tmp2 rfl _ _ _) rfl ?_
              rw [HE.out]
              exact ⟨_, rfl, NewBytes.ofNil _ _ (Keeps.ofBelow HC.out.2)⟩
            · rw [if_neg (fun h => hF h.2)] at e
              have HE := Lib.hid e
              have hda : decide ((a : Int) = 254) = false := decide_eq_false (by omega)
              clear e
              go_wp2_with fail
              refine bodyPost_ret (results_tmp2 rfl _ _ _) rfl ?_
              rw [HE.out]
              exact ⟨_, rfl, HC.out.fresh rfl⟩
          · by_cases hA : L = k
            · have hd0 : r.drop k = [] := List.drop_eq_nil_iff.2 (by have := HL.out; omega)
              have ht0 : r.take k = r := List.take_of_length_le (by have := HL.out; omega)
              have e := HRUN.out
              rw [if_neg (by omega), if_pos hd0, ht0] at e
              subst hA
              go_wp2_with (at_builtin; refine wpList_append_own _ rfl _ _ 52 rfl w1.heap.size 5 i0 (.int .u8 0) 1 1 Tryz.underlying52 hi hy0 hy1 hy2 rfl (by decide) _ _ _ rfl HROW.out.1 _ L _ ((r.take L).map (Value.int .u8)) rfl (by have := HL.out; simp; omega) (news_cells (by have := HL.out; omega) (HB1.out _ L (by omega) (by intro h; first | (exfalso; omega) | simp [Addr.add]))) (bytes_one _) (by unfold maxLen; omega) (by omega) HROW.out.2.size ?_)
              intro v' w3 hown hgrow _
              have HC := Lib.hid (HROW.out.more hown hgrow)
              clear hown hgrow
              by_cases hF : L = 0 ∧ a = 254
              · rw [if_pos hF] at e
                have HE := Lib.hid e
                clear e
                obtain ⟨hF1, rfl⟩ := hF
                go_wp2_with fail
                all_goals
                  refine bodyPost_ret (results_tmp2 rfl _ _ _) rfl ?_
                  rw [HE.out]
                  exact ⟨_, rfl, NewBytes.ofNil _ _ (Keeps.ofBelow HC.out.2)⟩
              · rw [if_neg hF] at e
                have HE := Lib.hid e
                clear e
                have hrl : P.length + L = (P ++ r).length := by rw [List.length_append, HL.out]
                by_cases hL0 : L = 0
                · have hda : decide ((a : Int) = 254) = false := decide_eq_false (by omega)
                  go_wp2_with fail
                  all_goals
                    refine bodyPost_ret (results_tmp2 rfl _ _ _) rfl ?_
                    rw [HE.out]
                    have h := HC.out
                    rw [hrl] at h
                    exact ⟨_, rfl, h.fresh rfl⟩
                · have hda : decide ((L : Int) = 0) = false := decide_eq_false (by omega)
                  go_wp2_with fail
                  all_goals
                    refine bodyPost_ret (results_tmp2 rfl _ _ _) rfl ?_
                    rw [HE.out]
                    have h := HC.out
                    rw [hrl] at h
                    exact ⟨_, rfl, h.fresh rfl⟩
            · have hlt : k < L := by omega
              have hd0 : r.drop k ≠ [] := fun h => by have := List.drop_eq_nil_iff.1 h; have := HL.out; omega
              have e := HRUN.out
              rw [if_neg (by omega), if_neg hd0] at e
              have HE := Lib.hid e
              have hdl : decide (((L - k : Nat) : Int) = 0) = false := decide_eq_false (by omega)
              have hdk1 : ¬ d - 1 = k := by omega
              have HTL : Hid (P.length + k = (P ++ r.take k).length) := Lib.hid (by rw [List.length_append, List.length_take]; have := HL.out; omega)
              have HNX : Hid (∀ (q : Option Addr) (P' : List Int) (v : Value) (wx : World), q = (some ad).map (·.add (1 + k)) → unst xs = urun (r.drop k) P' k → P'.length ≤ P.length + k + 1 → Copied w1 P'.length P' v wx → UnwAt w1 N xs q (L - k) (d - 1 - k) (r.drop k) P' k v wx) :=
                Lib.hid (fun q P' v wx hq hu hl hcp => ⟨by rw [List.length_drop, HL.out], hd0, fun b hb => HR0.out b (List.mem_of_mem_drop hb), by
                  have := tail_bytes (q' := q) HBW.out rfl (1 + k) (by rw [List.length_cons, ← HL.out]; omega) (fun _ => hq)
                  rw [show (1 + k) = k + 1 by omega, List.drop_succ_cons] at this
                  exact this, hu, by omega, hcp⟩)
              clear e hd0
              by_cases h254 : k < 254
              · have hdc4 : decide ((k : Int) < 254) = true := decide_eq_true (by omega)
                rw [if_pos h254] at HE
                go_wp2_with (at_builtin; refine wpList_append_own _ rfl _ _ 52 rfl w1.heap.size 5 i0 (.int .u8 0) 1 1 Tryz.underlying52 hi hy0 hy1 hy2 rfl (by decide) _ _ _ rfl HROW.out.1 _ k _ ((r.take k).map (Value.int .u8)) rfl (by have := HL.out; simp; omega) (news_cells (by have := HL.out; omega) (HB1.out _ k (by omega) (by intro h; first | (exfalso; omega) | simp [Addr.add]))) (bytes_one _) (by unfold maxLen; omega) (by omega) HROW.out.2.size ?_)
                intro v' w3 hown hgrow _
                have HC := Lib.hid (HROW.out.more (ys := r.take k) (by rw [List.map_take]; exact hown) hgrow)
                clear hown hgrow
                go_wp2_with (at_builtin; refine wpList_append_own _ rfl _ _ 52 rfl w1.heap.size 5 i0 (.int .u8 0) 1 1 Tryz.underlying52 hi hy0 hy1 hy2 rfl (by decide) _ _ _ rfl (HC.out.1.alloc _) ⟨w3.heap.size, 0, none⟩ 1 1 [.int .u8 0] rfl rfl (cell_one_new _ _ _) (by simp [Value.oneCell']) (by unfold maxLen; omega) (by omega) (by have := HC.out.2.size; simp; omega) ?_)
                intro v4 w4 hown4 hgrow4 _
                have hbel : Below w1.heap.size w1 w4 := (HC.out.2.alloc HC.out.2.size _).grown hgrow4 (by have := HC.out.2.size; simp; omega) (fun k hk => own_base HC.out.1 hk)
                have HC4 : Hid (Copied w1 (P ++ r.take k ++ [0]).length (P ++ r.take k ++ [0]) v4 w4) := Lib.hid ⟨by
                  rw [List.length_append, ← HTL.out, List.length_singleton, List.map_append, List.map_append, List.map_take]
                  simpa using hown4, hbel⟩
                clear hown4 hgrow4 hbel
                go_wp2_with fail
                exact ⟨⟨_, _, _, r.drop k, P ++ r.take k ++ [0], k, rfl, rfl, by omega, by omega, HNX.out _ _ _ _ (by simp [Addr.add, Nat.add_assoc]) HE.out (by rw [List.length_append, ← HTL.out, List.length_singleton]; omega) HC4.out⟩, by show L - k < L + 1; omega⟩
              · have hdc4 : decide ((k : Int) < 254) = false := decide_eq_false (by omega)
                rw [if_neg h254, List.append_nil] at HE
                go_wp2_with (at_builtin; refine wpList_append_own _ rfl _ _ 52 rfl w1.heap.size 5 i0 (.int .u8 0) 1 1 Tryz.underlying52 hi hy0 hy1 hy2 rfl (by decide) _ _ _ rfl HROW.out.1 _ k _ ((r.take k).map (Value.int .u8)) rfl (by have := HL.out; simp; omega) (news_cells (by have := HL.out; omega) (HB1.out _ k (by omega) (by intro h; first | (exfalso; omega) | simp [Addr.add]))) (bytes_one _) (by unfold maxLen; omega) (by omega) HROW.out.2.size ?_)
                intro v' w3 hown hgrow _
                have HC := Lib.hid (HROW.out.more (ys := r.take k) (by rw [List.map_take]; exact hown) hgrow)
                clear hown hgrow
                go_wp2_with fail
                exact ⟨⟨_, _, _, r.drop k, P ++ r.take k, k, rfl, rfl, by omega, by omega, HNX.out _ _ _ _ (by simp [Addr.add, Nat.add_assoc]) HE.out (by rw [← HTL.out]; omega) (by rw [← HTL.out]; exact HC.out)⟩, by show L - k < L + 1; omega⟩
end Go.Proofs.YtlejobomjgccnaaGreat

namespace Go.Proofs.YtlejobomjgccnaaGreat
open Go.RowKit

end Go.Proofs.YtlejobomjgccnaaGreat

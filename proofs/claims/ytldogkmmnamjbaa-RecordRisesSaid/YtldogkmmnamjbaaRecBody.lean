/-
  Package record's own Body and Size.
-/
import Derived.Test.YtldogkmmnamjbaaRecOwn
import Derived.Deep.RegionHeld3
namespace Go.Proofs.Ytldogkmmnamjbaa
open Go.RowKit

theorem Keeps.ofBelowAt {B : Nat} {a b : World} (h : Below B a b) : Keeps (fun k => B ≤ k) a b := ⟨h.os, h.tape, h.output, h.size, fun k _ hn => h.block k (by omega)⟩
theorem Keeps.onBuf {B g : Nat} {a b : World} (h : Keeps (OnBuf B g) a b) (hB : B ≤ g) : Keeps (fun k => B ≤ k) a b := h.wider (fun k _ hk => by rcases hk with rfl | hk <;> omega)

theorem textB_len (t : List Int) (ht : t.length ≤ 2000000) : (textB t).length ≤ 2000010 := by
  unfold textB
  rw [List.length_append]
  have := vnum_ten (x := t.length) (by omega)
  omega

set_option maxHeartbeats 4000000 in
set_option maxRecDepth 10000 in
theorem body_own (r : Rec) (w : World) (hmod : r.Modest) : Calls Try.prog 8 #[recV r] w fun e w' => ∃ v, e = .returned (.tuple #[v, .int .i64 (checkR r)]) ∧ NewBytes w (bodyE r) v w' := by
  have hf := hmod.fine
  have h1 := hmod.key
  have h2 := hmod.val
  have HC := Lib.hid (fun w => check_own r (by omega) (by omega) w)
  have HKd := Lib.hid (fun w => kind_own r w)
  by_cases hc : checkR r = 0
  · have hbe : bodyE r = bodyR r := by unfold bodyE; rw [if_pos hc]
    rw [hbe, hc]
    rw [hc] at HC
    clear hbe hc hmod
    obtain ⟨del, seq, key, val⟩ := r
    have h64 := hf.seq
    have ok := hf.key
    have ov := hf.val
    simp only at h1 h2 h64 ok ov
    have lk := textB_len key h1
    have lv := textB_len val h2
    have ln := vnum_ten h64
    have hdef : bodyR ⟨del, seq, key, val⟩ = (((([] ++ [if del then 3 else 2]) ++ vnum seq) ++ textB key) ++ if del then [] else textB val) := by
      cases del <;> simp [bodyR]
    rw [hdef]
    clear hdef
    unfold recV at HC HKd ⊢
    simp only at HC HKd ⊢
    have HPn := Lib.hid (fun base g xs w h hs hx => put_any base g xs seq (seq : Int) rfl w h hs hx h64)
    have HPk := Lib.hid (fun base g xs w h hb hs hx => puttext_any base g xs key w h hb hs ok (by omega) hx)
    have HPv := Lib.hid (fun base g xs w h hb hs hx => puttext_any base g xs val w h hb hs ov (by omega) hx)
    have hlv : (vnum seq).length ≤ 10 := ln
    obtain ⟨V, hV⟩ : ∃ V, V = vnum seq := ⟨_, rfl⟩
    obtain ⟨K, hK⟩ : ∃ K, K = textB key := ⟨_, rfl⟩
    obtain ⟨X, hX⟩ : ∃ X, X = textB val := ⟨_, rfl⟩
    rw [← hV] at HPn hlv ⊢
    rw [← hK] at HPk lk ⊢
    rw [← hX] at HPv lv ⊢
    clear hV hK hX ln hf ok ov h64
    cases del
    · simp only [if_false, Bool.false_eq_true] at HKd ⊢
      go_enter Try.func8, Try.ntmps8
      go_wp2_with fail
      refine (HC.out _).mono ?_
      rintro e w1 ⟨rfl, hk⟩
      have HR : Hid (RecAt w1 w.heap.size _) := Lib.hid (RecAt.ofWhole (r := ⟨_, seq, key, val⟩) ((Whole.new w _ _).keep hk (fun h => h)))
      have HK := Lib.hid (((Keeps.refl NoBlock w).alloc _).trans hk)
      have hsz1 : w.heap.size + 1 ≤ w1.heap.size := by have := hk.size; simpa using this
      obtain ⟨c0, c1, c2, c3⟩ := HR.out
      have hwa : Keeps NoBlock w1 (w1.alloc (.cells #[.slice none 0 0] 39)) := (Keeps.refl NoBlock w1).alloc _
      have HRa : Hid (Whole (w1.alloc (.cells #[.slice none 0 0] 39)) w.heap.size 31 (recCells ⟨_, seq, key, val⟩)) := Lib.hid (((Whole.new w _ _).keep hk (fun h => h)).keep hwa (fun h => h))
      obtain ⟨b0, b1, b2, b3⟩ := RecAt.ofWhole HRa.out
      clear hk hwa
      go_wp2_with fail
      refine (HKd.out _).mono ?_
      rintro e w2 ⟨rfl, hk⟩
      have hb0 : BufAt w2 w1.heap.size w1.heap.size [] := (bufNewB w1 w1.heap.size).keepO hk (fun h => h) (fun _ _ _ _ h => h)
      have HQ2 := Lib.hid (((Keeps.refl (fun i => w1.heap.size ≤ i) w1).alloc (.cells #[.slice none 0 0] 39)).trans (hk.wider (S' := fun i => w1.heap.size ≤ i) (fun _ _ h => h.elim)))
      have HR2 : Hid (Whole w2 w.heap.size 31 (recCells ⟨_, seq, key, val⟩)) := Lib.hid (HRa.out.keep hk (fun h => h))
      have HB2 := Lib.hid hb0
      clear hk hb0
      go_wp2_with fail
      refine (bufByteK w1.heap.size w1.heap.size [] _ _ HB2.out (by have := HQ2.out.size; omega) (by simp)).mono ?_
      rintro e w3 ⟨rfl, hb3, hk⟩
      have hk3 := hk.onBuf (Nat.le_refl _)
      have HQ3 := Lib.hid (HQ2.out.trans hk3)
      have HR3 : Hid (Whole w3 w.heap.size 31 (recCells ⟨_, seq, key, val⟩)) := Lib.hid (HR2.out.keep hk3 (by omega))
      have HB3 := Lib.hid hb3
      obtain ⟨x0, x1, x2, x3⟩ := RecAt.ofWhole HR3.out
      clear hk hk3 hb3 HB2 HQ2 HR2
      go_wp2_with fail
      refine (HPn.out _ _ _ _ HB3.out (by have := HQ3.out.size; omega) (by simp)).mono ?_
      rintro e w4 ⟨rfl, hb4, hk⟩
      have hk4 := hk.onBuf (Nat.le_refl _)
      have HQ4 := Lib.hid (HQ3.out.trans hk4)
      have HR4 : Hid (Whole w4 w.heap.size 31 (recCells ⟨_, seq, key, val⟩)) := Lib.hid (HR3.out.keep hk4 (by omega))
      have HB4 := Lib.hid hb4
      obtain ⟨y0, y1, y2, y3⟩ := RecAt.ofWhole HR4.out
      clear hk hk4 hb4 HB3 HQ3 HR3
      go_wp2_with fail
      refine (HPk.out _ _ _ _ HB4.out (Nat.le_refl _) (by have := HQ4.out.size; omega) (by simp; omega)).mono ?_
      rintro e w5 ⟨rfl, hb5, hk⟩
      have hk5 := Keeps.ofBelowAt hk
      have HQ5 := Lib.hid (HQ4.out.trans hk5)
      have HR5 : Hid (Whole w5 w.heap.size 31 (recCells ⟨_, seq, key, val⟩)) := Lib.hid (HR4.out.keep hk5 (by omega))
      have HB5 := Lib.hid hb5
      obtain ⟨z0, z1, z2, z3⟩ := RecAt.ofWhole HR5.out
      clear hk hk5 hb5 HB4 HQ4 HR4
      go_wp2_with fail
      refine (HPv.out _ _ _ _ HB5.out (Nat.le_refl _) (by have := HQ5.out.size; omega) (by simp; omega)).mono ?_
      rintro e w6 ⟨rfl, hb6, hk⟩
      have hk6 := Keeps.ofBelowAt hk
      have HQ6 := Lib.hid (HQ5.out.trans hk6)
      have HB6 := Lib.hid hb6
      clear hk hk6 hb6 HB5 HQ5 HR5
      go_wp2_with fail
      refine (bufBytes w1.heap.size w1.heap.size _ _ HB6.out (by simp; omega)).mono ?_
      rintro e w9 ⟨v, rfl, q, d, rfl, hd, hd', hby, hq, hk⟩
      have HQ9 := Lib.hid (HQ6.out.trans (hk.wider (S' := fun i => w1.heap.size ≤ i) (fun _ _ h => h.elim)))
      have HBy := Lib.hid hby
      clear hk hby hq
      go_wp2_with fail
      refine bodyPost_ret (results_tmp2 rfl _ _ _) rfl ?_
      refine ⟨_, rfl, q, _, d, rfl, by simp; try omega, by simp at hd ⊢; omega, hd', fun h0 => ?_, HBy.out, HK.out.then HQ9.out (fun i hi h => by omega)⟩
      obtain ⟨a, ha, _⟩ := HBy.out (by simp)
      rw [h0] at ha
      simp at ha
    · simp only [if_true, List.append_nil] at HKd ⊢
      go_enter Try.func8, Try.ntmps8
      go_wp2_with fail
      refine (HC.out _).mono ?_
      rintro e w1 ⟨rfl, hk⟩
      have HR : Hid (RecAt w1 w.heap.size _) := Lib.hid (RecAt.ofWhole (r := ⟨_, seq, key, val⟩) ((Whole.new w _ _).keep hk (fun h => h)))
      have HK := Lib.hid (((Keeps.refl NoBlock w).alloc _).trans hk)
      have hsz1 : w.heap.size + 1 ≤ w1.heap.size := by have := hk.size; simpa using this
      obtain ⟨c0, c1, c2, c3⟩ := HR.out
      have hwa : Keeps NoBlock w1 (w1.alloc (.cells #[.slice none 0 0] 39)) := (Keeps.refl NoBlock w1).alloc _
      have HRa : Hid (Whole (w1.alloc (.cells #[.slice none 0 0] 39)) w.heap.size 31 (recCells ⟨_, seq, key, val⟩)) := Lib.hid (((Whole.new w _ _).keep hk (fun h => h)).keep hwa (fun h => h))
      obtain ⟨b0, b1, b2, b3⟩ := RecAt.ofWhole HRa.out
      clear hk hwa
      go_wp2_with fail
      refine (HKd.out _).mono ?_
      rintro e w2 ⟨rfl, hk⟩
      have hb0 : BufAt w2 w1.heap.size w1.heap.size [] := (bufNewB w1 w1.heap.size).keepO hk (fun h => h) (fun _ _ _ _ h => h)
      have HQ2 := Lib.hid (((Keeps.refl (fun i => w1.heap.size ≤ i) w1).alloc (.cells #[.slice none 0 0] 39)).trans (hk.wider (S' := fun i => w1.heap.size ≤ i) (fun _ _ h => h.elim)))
      have HR2 : Hid (Whole w2 w.heap.size 31 (recCells ⟨_, seq, key, val⟩)) := Lib.hid (HRa.out.keep hk (fun h => h))
      have HB2 := Lib.hid hb0
      clear hk hb0
      go_wp2_with fail
      refine (bufByteK w1.heap.size w1.heap.size [] _ _ HB2.out (by have := HQ2.out.size; omega) (by simp)).mono ?_
      rintro e w3 ⟨rfl, hb3, hk⟩
      have hk3 := hk.onBuf (Nat.le_refl _)
      have HQ3 := Lib.hid (HQ2.out.trans hk3)
      have HR3 : Hid (Whole w3 w.heap.size 31 (recCells ⟨_, seq, key, val⟩)) := Lib.hid (HR2.out.keep hk3 (by omega))
      have HB3 := Lib.hid hb3
      obtain ⟨x0, x1, x2, x3⟩ := RecAt.ofWhole HR3.out
      clear hk hk3 hb3 HB2 HQ2 HR2
      go_wp2_with fail
      refine (HPn.out _ _ _ _ HB3.out (by have := HQ3.out.size; omega) (by simp)).mono ?_
      rintro e w4 ⟨rfl, hb4, hk⟩
      have hk4 := hk.onBuf (Nat.le_refl _)
      have HQ4 := Lib.hid (HQ3.out.trans hk4)
      have HR4 : Hid (Whole w4 w.heap.size 31 (recCells ⟨_, seq, key, val⟩)) := Lib.hid (HR3.out.keep hk4 (by omega))
      have HB4 := Lib.hid hb4
      obtain ⟨y0, y1, y2, y3⟩ := RecAt.ofWhole HR4.out
      clear hk hk4 hb4 HB3 HQ3 HR3
      go_wp2_with fail
      refine (HPk.out _ _ _ _ HB4.out (Nat.le_refl _) (by have := HQ4.out.size; omega) (by simp; omega)).mono ?_
      rintro e w5 ⟨rfl, hb5, hk⟩
      have hk5 := Keeps.ofBelowAt hk
      have HQ5 := Lib.hid (HQ4.out.trans hk5)
      have HR5 : Hid (Whole w5 w.heap.size 31 (recCells ⟨_, seq, key, val⟩)) := Lib.hid (HR4.out.keep hk5 (by omega))
      have HB5 := Lib.hid hb5
      obtain ⟨z0, z1, z2, z3⟩ := RecAt.ofWhole HR5.out
      clear hk hk5 hb5 HB4 HQ4 HR4
      go_wp2_with fail
      refine (bufBytes w1.heap.size w1.heap.size _ _ HB5.out (by simp; omega)).mono ?_
      rintro e w9 ⟨v, rfl, q, d, rfl, hd, hd', hby, hq, hk⟩
      have HQ9 := Lib.hid (HQ5.out.trans (hk.wider (S' := fun i => w1.heap.size ≤ i) (fun _ _ h => h.elim)))
      have HBy := Lib.hid hby
      clear hk hby hq
      go_wp2_with fail
      refine bodyPost_ret (results_tmp2 rfl _ _ _) rfl ?_
      refine ⟨_, rfl, q, _, d, rfl, by simp; try omega, by simp at hd ⊢; omega, hd', fun h0 => ?_, HBy.out, HK.out.then HQ9.out (fun i hi h => by omega)⟩
      obtain ⟨a, ha, _⟩ := HBy.out (by simp)
      rw [h0] at ha
      simp at ha
  · have hbe : bodyE r = [] := by unfold bodyE; rw [if_neg hc]
    rw [hbe]
    obtain ⟨z, hz⟩ : ∃ z, z = checkR r := ⟨_, rfl⟩
    rw [← hz] at HC hc ⊢
    clear hbe hz hmod hf h1 h2 HKd
    obtain ⟨del, seq, key, val⟩ := r
    unfold recV at HC ⊢
    simp only at HC ⊢
    go_enter Try.func8, Try.ntmps8
    go_wp2_with fail
    refine (HC.out _).mono ?_
    rintro e w1 ⟨rfl, hk⟩
    have HR : Hid (RecAt w1 w.heap.size _) := Lib.hid (RecAt.ofWhole (r := ⟨del, seq, key, val⟩) ((Whole.new w _ _).keep hk (fun h => h)))
    have HK := Lib.hid (((Keeps.refl NoBlock w).alloc _).trans hk)
    obtain ⟨c0, c1, c2, c3⟩ := HR.out
    clear hk
    go_wp2_with fail
    refine bodyPost_ret (results_tmp2 rfl _ _ _) rfl ?_
    exact ⟨_, rfl, .ofNil _ _ HK.out⟩

end Go.Proofs.Ytldogkmmnamjbaa

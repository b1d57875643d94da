/-
  The law RecordBodies: its walk.
-/
import Derived.Test.YtnfgmgonpecdmaaRecLaws
namespace Go.Proofs.Ytnfgmgonpecdmaa
open Go.RowKit

/-- A record in new memory is a row of one. -/
theorem RecsAt.one (w : World) (t : TypeId) (r : Rec) : RecsAt (w.alloc (.cells (recCells r) t)) (some ⟨w.heap.size, 0, none⟩) [r] := fun i hi => by
  have : i = 0 := by simp at hi; omega
  subst this
  have h := RecAt.ofWhole (r := r) (Whole.new w t (recCells r))
  exact ⟨_, rfl, h.1, h.2.1, h.2.2.1, h.2.2.2⟩

theorem fewR_one {r : Rec} {b : Nat} : fewR [r] 1 b = littleR b r := by
  unfold fewR
  simp
theorem little_modest {r : Rec} (hf : r.Fine) (h : littleR 5000 r = true) : r.Modest := by
  unfold littleR at h
  rw [Bool.and_eq_true, decide_eq_true_eq, decide_eq_true_eq] at h
  exact ⟨hf, by omega, by omega⟩

theorem recEq (r : Rec) (w : World) : (binOp .eql 24 (recV r) (recV r)).run Try.prog w = .ok (.bool true) w := by
  unfold recV
  simp [go_sem]

theorem bodyR_len {r : Rec} (h : r.Modest) : (bodyR r).length ≤ 5000000 := by
  have h1 := vnum_ten h.fine.seq
  have h2 := vnum_ten (x := r.key.length) (by have := h.key; omega)
  have h3 := vnum_ten (x := r.val.length) (by have := h.val; omega)
  have hk := h.key
  have hv := h.val
  unfold bodyR textB
  split
  · simp only [List.length_cons, List.length_append]
    omega
  · simp only [List.length_cons, List.length_append]
    omega

set_option maxHeartbeats 4000000 in
set_option maxRecDepth 10000 in
theorem bodies_walk (H : RecordOk) (r : Rec) (hf : r.Fine) (hb1 : r.key.length ≤ 9223372036854775807) (hb2 : r.val.length ≤ 9223372036854775807) (w : World) :
    Calls Try.prog 3 #[recV r] w fun e w' => e = .returned (.bool true) ∧ Keeps NoBlock w w' := by
  have HLv := Lib.hid (fun w => lives7_true H w)
  have HFw := Lib.hid (fun (w : World) (a : Addr) hl => few_any (some a) 1 1 [r] 1 5000 1 5000 rfl rfl rfl (by decide) (fun s hs => by rw [List.mem_singleton.1 hs]; exact ⟨hb1, hb2⟩) w hl)
  rw [fewR_one] at HFw
  by_cases hlt : littleR 5000 r = true
  · have hmod := little_modest hf hlt
    rw [hlt] at HFw
    have HC := Lib.hid (fun w => H.check r w hmod)
    have HC2 := Lib.hid (fun w => check7_ref r (by have := hmod.key; omega) (by have := hmod.val; omega) w)
    have HB := Lib.hid (fun w => H.body r w hmod)
    have HB2 := Lib.hid (fun w => body7_ref r hf (by have := hmod.key; omega) (by have := hmod.val; omega) w)
    have HSz := Lib.hid (fun w => H.size r w hmod)
    by_cases hc : checkR r = 0
    · have hbe : bodyE r = bodyR r := by unfold bodyE; rw [if_pos hc]
      have hlen := bodyR_len hmod
      have HRd := Lib.hid (fun p N c w hN hc1 hc2 hn0 hb8 => H.read p N c (bodyR r) w hN hc1 hc2 hn0 (bodyR_octets hf) (by rw [hN]; exact hlen) hb8)
      rw [readR_body hf hc] at HRd
      rw [hbe] at HB HSz
      rw [hc] at HC HC2 HB
      have HE := recEq r
      unfold recV at HC HC2 HB HB2 HSz HRd HE
      unfold recV
      obtain ⟨B, hB⟩ : ∃ B, B = bodyR r := ⟨_, rfl⟩
      rw [← hB] at HB HB2 HSz HRd hlen
      clear H hf hmod hbe hc hlt hb1 hb2 hB
      go_enter Try.func3, Try.ntmps3
      go_wp2_with fail
      refine (HLv.out _).mono ?_
      rintro e w1 ⟨rfl, hk⟩
      have HR : Hid (Whole w1 w.heap.size 24 (recCells r)) := Lib.hid ((Whole.new w _ _).keep hk (fun h => h))
      have HK := Lib.hid (((Keeps.refl NoBlock w).alloc _).trans hk)
      obtain ⟨c0, c1, c2, c3⟩ := RecAt.ofWhole HR.out
      clear hk
      go_wp2_with fail
      refine (HFw.out _ _ (RecsAt.one w1 _ r)).mono ?_
      rintro e w2 ⟨rfl, hk2⟩
      have hk : Keeps NoBlock w1 w2 := ((Keeps.refl NoBlock w1).alloc _).trans hk2
      clear hk2
      have HR := Lib.hid (HR.out.keep hk (fun h => h))
      have HK := Lib.hid (HK.out.trans hk)
      clear c0 c1 c2 c3
      obtain ⟨c0, c1, c2, c3⟩ := RecAt.ofWhole HR.out
      clear hk
      go_wp2_with fail
      refine (HB.out _).mono ?_
      rintro e w3 ⟨v, rfl, q, m, d, rfl, hm, hmd, hd, hq0, hb8, hk⟩
      have HBy := Lib.hid hb8
      have HM := Lib.hid hm
      have HQ := Lib.hid hq0
      clear hb8 hq0 hm
      have HR := Lib.hid (HR.out.keep hk (fun h => h))
      have HK := Lib.hid (HK.out.trans hk)
      clear c0 c1 c2 c3
      obtain ⟨c0, c1, c2, c3⟩ := RecAt.ofWhole HR.out
      clear hk
      go_wp2_with fail
      refine (HC2.out _).mono ?_
      rintro e w4 ⟨rfl, hk⟩
      have HBy := Lib.hid (HBy.out.keep hk (fun _ _ h => h))
      have HR := Lib.hid (HR.out.keep hk (fun h => h))
      have HK := Lib.hid (HK.out.trans hk)
      clear c0 c1 c2 c3
      obtain ⟨c0, c1, c2, c3⟩ := RecAt.ofWhole HR.out
      clear hk
      go_wp2_with fail
      refine (HC.out _).mono ?_
      rintro e w5 ⟨rfl, hk⟩
      have HBy := Lib.hid (HBy.out.keep hk (fun _ _ h => h))
      have HR := Lib.hid (HR.out.keep hk (fun h => h))
      have HK := Lib.hid (HK.out.trans hk)
      clear c0 c1 c2 c3
      obtain ⟨c0, c1, c2, c3⟩ := RecAt.ofWhole HR.out
      clear hk
      go_wp2_with fail
      refine (HRd.out q m d _ HM.out hmd hd HQ.out HBy.out).mono ?_
      rintro e w6 ⟨rfl, hk⟩
      have HBy := Lib.hid (HBy.out.keep hk (fun _ _ h => h))
      have HR := Lib.hid (HR.out.keep hk (fun h => h))
      have HK := Lib.hid (HK.out.trans hk)
      clear c0 c1 c2 c3
      obtain ⟨c0, c1, c2, c3⟩ := RecAt.ofWhole HR.out
      clear hk
      go_wp2_with fail
      rw [← HM.out] at HSz
      obtain ⟨W, hW⟩ : ∃ W, W = w6.alloc (.cells #[.bool r.del, .int .u64 (r.seq : Int), .string (strOfNums r.key), .string (strOfNums r.val)] 24) := ⟨_, rfl⟩
      have hk : Keeps NoBlock w6 W := by rw [hW]; exact (Keeps.refl _ _).alloc _
      have HX : Hid (Whole W w6.heap.size 24 (recCells r)) := Lib.hid (by rw [hW]; exact Whole.new w6 _ (recCells r))
      have HBy := Lib.hid (HBy.out.keep hk (fun _ _ h => h))
      have HR := Lib.hid (HR.out.keep hk (fun h => h))
      have HK := Lib.hid (HK.out.trans hk)
      rw [← hW]
      clear hW hk c0 c1 c2 c3
      have s0 := And.intro (textOf q m d B W.drew HM.out HBy.out) (And.intro (RecAt.ofWhole (w := W.drew) HR.out) (RecAt.ofWhole (w := W.drew) HX.out))
      have sN := And.intro (textOf q m d B W HM.out HBy.out) (And.intro (RecAt.ofWhole HR.out) (RecAt.ofWhole HX.out))
      unfold RecAt at s0 sN
      go_region_held3 (fun w' => (convert 28 9 (.slice q m d)).run Try.prog w' = .ok (.string (strOfNums B)) w' ∧ (w'.cell? ⟨w.heap.size, 0, none⟩ = some (.bool r.del) ∧ w'.cell? ⟨w.heap.size, 1, none⟩ = some (.int .u64 (r.seq : Int)) ∧ w'.cell? ⟨w.heap.size, 2, none⟩ = some (.string (strOfNums r.key)) ∧ w'.cell? ⟨w.heap.size, 3, none⟩ = some (.string (strOfNums r.val))) ∧ w'.cell? ⟨w6.heap.size, 0, none⟩ = some (.bool r.del) ∧ w'.cell? ⟨w6.heap.size, 1, none⟩ = some (.int .u64 (r.seq : Int)) ∧ w'.cell? ⟨w6.heap.size, 2, none⟩ = some (.string (strOfNums r.key)) ∧ w'.cell? ⟨w6.heap.size, 3, none⟩ = some (.string (strOfNums r.val)))
        (first | exact s5 | exact s0 | exact sN)
        (first | (go_at_call 13; refine (HB2.out _).mono ?_; rintro e w7 ⟨rfl, hk⟩; have HK := Lib.hid (HK.out.trans (c := w7) (by first | exact hk | exact hk.ofDrew | exact hk.ofDrewN)); have HR := Lib.hid (HR.out.keep (w' := w7) (S := NoBlock) (by first | exact hk | exact hk.ofDrew | exact hk.ofDrewN) (fun h => h)); have HX := Lib.hid (HX.out.keep (w' := w7) (S := NoBlock) (by first | exact hk | exact hk.ofDrew | exact hk.ofDrewN) (fun h => h)); have HBy := Lib.hid (HBy.out.keep (w' := w7) (S := NoBlock) (by first | exact hk | exact hk.ofDrew | exact hk.ofDrewN) (fun _ _ h => h)); have s5 := And.intro (textOf q m d B w7 HM.out HBy.out) (And.intro (RecAt.ofWhole HR.out) (RecAt.ofWhole HX.out)); unfold RecAt at s5; clear hk) | (go_at_call 11; refine (HSz.out _).mono ?_; rintro e w7 ⟨rfl, hk⟩; have HK := Lib.hid (HK.out.trans (c := w7) (by first | exact hk | exact hk.ofDrew | exact hk.ofDrewN)); have HR := Lib.hid (HR.out.keep (w' := w7) (S := NoBlock) (by first | exact hk | exact hk.ofDrew | exact hk.ofDrewN) (fun h => h)); have HX := Lib.hid (HX.out.keep (w' := w7) (S := NoBlock) (by first | exact hk | exact hk.ofDrew | exact hk.ofDrewN) (fun h => h)); have HBy := Lib.hid (HBy.out.keep (w' := w7) (S := NoBlock) (by first | exact hk | exact hk.ofDrew | exact hk.ofDrewN) (fun _ _ h => h)); have s5 := And.intro (textOf q m d B w7 HM.out HBy.out) (And.intro (RecAt.ofWhole HR.out) (RecAt.ofWhole HX.out)); unfold RecAt at s5; clear hk))
      all_goals
        go_wp2_with fail
        go_ret
        exact ⟨rfl, HK.out⟩
    · have hbe : bodyE r = [] := by unfold bodyE; rw [if_neg hc]
      rw [hbe] at HB HSz
      obtain ⟨z, hz⟩ : ∃ z, z = checkR r := ⟨_, rfl⟩
      rw [← hz] at HC HC2 HB hc
      have hzb : (z != 0) = true := by simpa using hc
      have hzd : decide (z = 0) = false := decide_eq_false hc
      have hzz : (z != z) = false := by simp
      unfold recV at HC HC2 HB HB2 HSz
      unfold recV
      clear H hf hmod hbe hz hlt hb1 hb2
      go_enter Try.func3, Try.ntmps3
      go_wp2_with fail
      refine (HLv.out _).mono ?_
      rintro e w1 ⟨rfl, hk⟩
      have HR : Hid (Whole w1 w.heap.size 24 (recCells r)) := Lib.hid ((Whole.new w _ _).keep hk (fun h => h))
      have HK := Lib.hid (((Keeps.refl NoBlock w).alloc _).trans hk)
      obtain ⟨c0, c1, c2, c3⟩ := RecAt.ofWhole HR.out
      clear hk
      go_wp2_with fail
      refine (HFw.out _ _ (RecsAt.one w1 _ r)).mono ?_
      rintro e w2 ⟨rfl, hk2⟩
      have hk : Keeps NoBlock w1 w2 := ((Keeps.refl NoBlock w1).alloc _).trans hk2
      clear hk2
      have HR := Lib.hid (HR.out.keep hk (fun h => h))
      have HK := Lib.hid (HK.out.trans hk)
      clear c0 c1 c2 c3
      obtain ⟨c0, c1, c2, c3⟩ := RecAt.ofWhole HR.out
      clear hk
      go_wp2_with fail
      refine (HB.out _).mono ?_
      rintro e w3 ⟨v, rfl, q, m, d, rfl, hm, hmd, hd, hq0, hb8, hk⟩
      have HBy := Lib.hid hb8
      have HM := Lib.hid hm
      have HQ := Lib.hid hq0
      clear hb8 hq0
      obtain rfl : m = 0 := by simpa using hm
      clear hm
      have HR := Lib.hid (HR.out.keep hk (fun h => h))
      have HK := Lib.hid (HK.out.trans hk)
      clear c0 c1 c2 c3
      obtain ⟨c0, c1, c2, c3⟩ := RecAt.ofWhole HR.out
      clear hk
      go_wp2_with fail
      refine (HC2.out _).mono ?_
      rintro e w4 ⟨rfl, hk⟩
      have HR := Lib.hid (HR.out.keep hk (fun h => h))
      have HK := Lib.hid (HK.out.trans hk)
      clear c0 c1 c2 c3
      obtain ⟨c0, c1, c2, c3⟩ := RecAt.ofWhole HR.out
      clear hk
      go_wp2_with fail
      refine (HC.out _).mono ?_
      rintro e w5 ⟨rfl, hk⟩
      have HR := Lib.hid (HR.out.keep hk (fun h => h))
      have HK := Lib.hid (HK.out.trans hk)
      clear c0 c1 c2 c3
      obtain ⟨c0, c1, c2, c3⟩ := RecAt.ofWhole HR.out
      clear hk
      go_wp2_with fail
      refine (HSz.out _).mono ?_
      rintro e w6 ⟨rfl, hk⟩
      have HR := Lib.hid (HR.out.keep hk (fun h => h))
      have HK := Lib.hid (HK.out.trans hk)
      clear c0 c1 c2 c3
      obtain ⟨c0, c1, c2, c3⟩ := RecAt.ofWhole HR.out
      clear hk
      go_wp2_with fail
      go_ret
      exact ⟨rfl, HK.out⟩
  · have hlf : littleR 5000 r = false := by simpa using hlt
    rw [hlf] at HFw
    unfold recV
    clear H hlt hlf hf hb1 hb2
    go_enter Try.func3, Try.ntmps3
    go_wp2_with fail
    refine (HLv.out _).mono ?_
    rintro e w1 ⟨rfl, hk⟩
    have HR : Hid (Whole w1 w.heap.size 24 (recCells r)) := Lib.hid ((Whole.new w _ _).keep hk (fun h => h))
    have HK := Lib.hid (((Keeps.refl NoBlock w).alloc _).trans hk)
    obtain ⟨c0, c1, c2, c3⟩ := RecAt.ofWhole HR.out
    clear hk
    go_wp2_with fail
    refine (HFw.out _ _ (RecsAt.one w1 _ r)).mono ?_
    rintro e w2 ⟨rfl, hk2⟩
    have hk : Keeps NoBlock w1 w2 := ((Keeps.refl NoBlock w1).alloc _).trans hk2
    clear hk2
    have HK := Lib.hid (HK.out.trans hk)
    clear c0 c1 c2 c3 hk
    go_wp2_with fail
    refine (HLv.out _).mono ?_
    rintro e w3 ⟨rfl, hk⟩
    have HK := Lib.hid (HK.out.trans hk)
    clear hk
    go_wp2_with fail
    go_ret
    exact ⟨rfl, HK.out⟩
end Go.Proofs.Ytnfgmgonpecdmaa

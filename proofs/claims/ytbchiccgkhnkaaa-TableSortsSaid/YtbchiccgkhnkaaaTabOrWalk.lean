/-
  The walk of the law TableOrder.
-/
import Derived.Test.YtbchiccgkhnkaaaTabLaws
namespace Go.Proofs.Ytbchiccgkhnkaaa
open Go.RowKit

theorem enNeL (a b : En) (w : World) : (binOp .neq 29 (.agg #[.int .u64 (a.hash : Int), .int .u32 (a.at_ : Int)]) (.agg #[.int .u64 (b.hash : Int), .int .u32 (b.at_ : Int)])).run Try.prog w = .ok (.bool (decide (a ≠ b))) w := by
  by_cases h1 : a.hash = b.hash
  · by_cases h2 : a.at_ = b.at_
    · have hd : decide (a ≠ b) = false := decide_eq_false (fun h => h (En.ext' h1 h2))
      rw [hd]
      simp [go_sem, h1, h2]
    · have hd : decide (a ≠ b) = true := decide_eq_true (fun h => h2 (by rw [h]))
      rw [hd]
      have e : ((a.at_ : Int) == (b.at_ : Int)) = false := by rw [beq_eq_false_iff_ne]; omega
      simp [go_sem, h1, e]
  · have hd : decide (a ≠ b) = true := decide_eq_true (fun h => h1 (by rw [h]))
    rw [hd]
    have e : ((a.hash : Int) == (b.hash : Int)) = false := by rw [beq_eq_false_iff_ne]; omega
    simp [go_sem, e]

set_option maxHeartbeats 16000000 in
set_option maxRecDepth 10000 in
theorem taborder_walk (H : SortOk) (HC : CmpOk) (a b c : En) (ha : a.Fine) (hb : b.Fine) (hc : c.Fine) (w : World) :
    Calls Try.prog 7 #[enV a, enV b, enV c] w fun e w' => e = .returned (.bool true) ∧ Keeps NoBlock w w' := by
  have HL := Lib.hid (fun w => lives11_true H w)
  have H1 := Lib.hid (fun w => HC.cmp a b w ha hb)
  have H2 := Lib.hid (fun w => HC.cmp b c w hb hc)
  have H3 := Lib.hid (fun w => HC.cmp b a w hb ha)
  have H4 := Lib.hid (fun w => HC.cmp a c w ha hc)
  rw [cmpE_turn a b] at H3
  have hon := cmpE_on (a := a) (b := b) (c := c)
  have hy := cmpE_near b c
  have hz := cmpE_near a c
  obtain ⟨Y, hY⟩ : ∃ Y, Y = cmpE b c := ⟨_, rfl⟩
  obtain ⟨Z, hZ⟩ : ∃ Z, Z = cmpE a c := ⟨_, rfl⟩
  rw [← hY] at H2 hon hy
  rw [← hZ] at H4 hon hz
  unfold enV at *
  have HA := Lib.hid (((Whole.new w 29 (enCells a)).alloc (.cells #[.int .u64 (b.hash : Int), .int .u32 (b.at_ : Int)] 29)).alloc (.cells #[.int .u64 (c.hash : Int), .int .u32 (c.at_ : Int)] 29))
  have HB := Lib.hid ((Whole.newAt (w.alloc (.cells #[.int .u64 (a.hash : Int), .int .u32 (a.at_ : Int)] 29)) 29 (enCells b) (w.heap.size + 1) (by simp)).alloc (.cells #[.int .u64 (c.hash : Int), .int .u32 (c.at_ : Int)] 29))
  have HCc := Lib.hid (Whole.newAt ((w.alloc (.cells #[.int .u64 (a.hash : Int), .int .u32 (a.at_ : Int)] 29)).alloc (.cells #[.int .u64 (b.hash : Int), .int .u32 (b.at_ : Int)] 29)) 29 (enCells c) (w.heap.size + 1 + 1) (by simp))
  have HK0 := Lib.hid ((((Keeps.refl NoBlock w).alloc (.cells #[.int .u64 (a.hash : Int), .int .u32 (a.at_ : Int)] 29)).alloc (.cells #[.int .u64 (b.hash : Int), .int .u32 (b.at_ : Int)] 29)).alloc (.cells #[.int .u64 (c.hash : Int), .int .u32 (c.at_ : Int)] 29))
  have heq := enNeL a b
  clear H HC ha hb hc hY hZ
  by_cases h1 : a.hash < b.hash
  · have hX : cmpE a b = -1 := by
      have : a ≠ b := fun h => by rw [h] at h1; omega
      unfold cmpE
      rw [if_neg this, if_pos (.inl h1)]
    rw [hX] at H1 H3 hon
    have d1 : decide ((a.hash : Int) < (b.hash : Int)) = true := decide_eq_true (by omega)
    have d2 : decide (a.hash < b.hash) = true := decide_eq_true h1
    clear hX heq h1
    go_enter Try.func7, Try.ntmps7
    go_wp2_with fail
    refine (HL.out _).mono ?_
    rintro e w1 ⟨rfl, hk⟩
    have HS := Lib.hid (show w1.cell? ⟨w.heap.size, 0, none⟩ = some (.int .u64 (a.hash : Int)) ∧ w1.cell? ⟨w.heap.size, 1, none⟩ = some (.int .u32 (a.at_ : Int)) ∧ w1.cell? ⟨w.heap.size + 1, 0, none⟩ = some (.int .u64 (b.hash : Int)) ∧ w1.cell? ⟨w.heap.size + 1, 1, none⟩ = some (.int .u32 (b.at_ : Int)) ∧ w1.cell? ⟨w.heap.size + 1 + 1, 0, none⟩ = some (.int .u64 (c.hash : Int)) ∧ w1.cell? ⟨w.heap.size + 1 + 1, 1, none⟩ = some (.int .u32 (c.at_ : Int)) from ⟨(HA.out.keep hk (fun h => h)).cell 0 rfl, (HA.out.keep hk (fun h => h)).cell 1 rfl, (HB.out.keep hk (fun h => h)).cell 0 rfl, (HB.out.keep hk (fun h => h)).cell 1 rfl, (HCc.out.keep hk (fun h => h)).cell 0 rfl, (HCc.out.keep hk (fun h => h)).cell 1 rfl⟩)
    have HK := Lib.hid (HK0.out.trans hk)
    obtain ⟨s1, s2, s3, s4, s5, s6⟩ := HS.out
    clear hk HA HB HCc HL
    obtain ⟨W, rfl⟩ : ∃ W, W = w1 := ⟨_, rfl⟩
    go_wp2_with fail
    have sN := HS.out
    have s0 : W.drew.cell? ⟨w.heap.size, 0, none⟩ = some (.int .u64 (a.hash : Int)) ∧ W.drew.cell? ⟨w.heap.size, 1, none⟩ = some (.int .u32 (a.at_ : Int)) ∧ W.drew.cell? ⟨w.heap.size + 1, 0, none⟩ = some (.int .u64 (b.hash : Int)) ∧ W.drew.cell? ⟨w.heap.size + 1, 1, none⟩ = some (.int .u32 (b.at_ : Int)) ∧ W.drew.cell? ⟨w.heap.size + 1 + 1, 0, none⟩ = some (.int .u64 (c.hash : Int)) ∧ W.drew.cell? ⟨w.heap.size + 1 + 1, 1, none⟩ = some (.int .u32 (c.at_ : Int)) := HS.out
    go_region_held3 (fun w' => w'.cell? ⟨w.heap.size, 0, none⟩ = some (.int .u64 (a.hash : Int)) ∧ w'.cell? ⟨w.heap.size, 1, none⟩ = some (.int .u32 (a.at_ : Int)) ∧ w'.cell? ⟨w.heap.size + 1, 0, none⟩ = some (.int .u64 (b.hash : Int)) ∧ w'.cell? ⟨w.heap.size + 1, 1, none⟩ = some (.int .u32 (b.at_ : Int)) ∧ w'.cell? ⟨w.heap.size + 1 + 1, 0, none⟩ = some (.int .u64 (c.hash : Int)) ∧ w'.cell? ⟨w.heap.size + 1 + 1, 1, none⟩ = some (.int .u32 (c.at_ : Int)))
      (first | exact s9 | exact s0 | exact sN)
      (first | (go_at_call 10; (first | (with_reducible refine (H1.out _).mono ?_) | (with_reducible refine (H2.out _).mono ?_) | (with_reducible refine (H3.out _).mono ?_) | (with_reducible refine (H4.out _).mono ?_)); rintro e w5 ⟨rfl, hk⟩; have hk' : Keeps NoBlock W w5 := (by first | exact hk | exact hk.ofDrew | exact hk.ofDrewN); have HK := Lib.hid (HK.out.trans hk'); have HS := Lib.hid (show w5.cell? ⟨w.heap.size, 0, none⟩ = some (.int .u64 (a.hash : Int)) ∧ w5.cell? ⟨w.heap.size, 1, none⟩ = some (.int .u32 (a.at_ : Int)) ∧ w5.cell? ⟨w.heap.size + 1, 0, none⟩ = some (.int .u64 (b.hash : Int)) ∧ w5.cell? ⟨w.heap.size + 1, 1, none⟩ = some (.int .u32 (b.at_ : Int)) ∧ w5.cell? ⟨w.heap.size + 1 + 1, 0, none⟩ = some (.int .u64 (c.hash : Int)) ∧ w5.cell? ⟨w.heap.size + 1 + 1, 1, none⟩ = some (.int .u32 (c.at_ : Int)) from ⟨hk'.cell HS.out.1 (fun h => h), hk'.cell HS.out.2.1 (fun h => h), hk'.cell HS.out.2.2.1 (fun h => h), hk'.cell HS.out.2.2.2.1 (fun h => h), hk'.cell HS.out.2.2.2.2.1 (fun h => h), hk'.cell HS.out.2.2.2.2.2 (fun h => h)⟩); have s9 := HS.out; clear hk hk'; obtain ⟨W, rfl⟩ : ∃ x, x = w5 := ⟨_, rfl⟩))
    obtain ⟨t1, t2, t3, t4, t5, t6⟩ := HS.out
    have HK := HK
    clear s0 sN s1 s2 s3 s4 s5 s6 s9
    by_cases hy0 : 0 < Y
    · have dy : decide ((0 : Int) < Y) = true := decide_eq_true hy0
      go_wp2_with fail
      refine (H3.out _).mono ?_
      rintro e w5 ⟨rfl, hk⟩
      have HK := Lib.hid (HK.out.trans hk)
      have HS := Lib.hid (show w5.cell? ⟨w.heap.size, 0, none⟩ = some (.int .u64 (a.hash : Int)) ∧ w5.cell? ⟨w.heap.size, 1, none⟩ = some (.int .u32 (a.at_ : Int)) ∧ w5.cell? ⟨w.heap.size + 1, 0, none⟩ = some (.int .u64 (b.hash : Int)) ∧ w5.cell? ⟨w.heap.size + 1, 1, none⟩ = some (.int .u32 (b.at_ : Int)) ∧ w5.cell? ⟨w.heap.size + 1 + 1, 0, none⟩ = some (.int .u64 (c.hash : Int)) ∧ w5.cell? ⟨w.heap.size + 1 + 1, 1, none⟩ = some (.int .u32 (c.at_ : Int)) from ⟨hk.cell HS.out.1 (fun h => h), hk.cell HS.out.2.1 (fun h => h), hk.cell HS.out.2.2.1 (fun h => h), hk.cell HS.out.2.2.2.1 (fun h => h), hk.cell HS.out.2.2.2.2.1 (fun h => h), hk.cell HS.out.2.2.2.2.2 (fun h => h)⟩)
      obtain ⟨t1, t2, t3, t4, t5, t6⟩ := HS.out
      clear hk
      go_wp2_with fail
      go_ret
      exact ⟨by first | rfl | simp, HK.out⟩
    · have dy : decide ((0 : Int) < Y) = false := decide_eq_false hy0
      have hZ0 : Z ≤ 0 := hon (by omega) (by omega)
      have dz : decide (Z ≤ 0) = true := decide_eq_true hZ0
      go_wp2_with fail
      refine (H3.out _).mono ?_
      rintro e w5 ⟨rfl, hk⟩
      have HK := Lib.hid (HK.out.trans hk)
      have HS := Lib.hid (show w5.cell? ⟨w.heap.size, 0, none⟩ = some (.int .u64 (a.hash : Int)) ∧ w5.cell? ⟨w.heap.size, 1, none⟩ = some (.int .u32 (a.at_ : Int)) ∧ w5.cell? ⟨w.heap.size + 1, 0, none⟩ = some (.int .u64 (b.hash : Int)) ∧ w5.cell? ⟨w.heap.size + 1, 1, none⟩ = some (.int .u32 (b.at_ : Int)) ∧ w5.cell? ⟨w.heap.size + 1 + 1, 0, none⟩ = some (.int .u64 (c.hash : Int)) ∧ w5.cell? ⟨w.heap.size + 1 + 1, 1, none⟩ = some (.int .u32 (c.at_ : Int)) from ⟨hk.cell HS.out.1 (fun h => h), hk.cell HS.out.2.1 (fun h => h), hk.cell HS.out.2.2.1 (fun h => h), hk.cell HS.out.2.2.2.1 (fun h => h), hk.cell HS.out.2.2.2.2.1 (fun h => h), hk.cell HS.out.2.2.2.2.2 (fun h => h)⟩)
      obtain ⟨t1, t2, t3, t4, t5, t6⟩ := HS.out
      clear hk
      go_wp2_with fail
      refine (H4.out _).mono ?_
      rintro e w5 ⟨rfl, hk⟩
      have HK := Lib.hid (HK.out.trans hk)
      have HS := Lib.hid (show w5.cell? ⟨w.heap.size, 0, none⟩ = some (.int .u64 (a.hash : Int)) ∧ w5.cell? ⟨w.heap.size, 1, none⟩ = some (.int .u32 (a.at_ : Int)) ∧ w5.cell? ⟨w.heap.size + 1, 0, none⟩ = some (.int .u64 (b.hash : Int)) ∧ w5.cell? ⟨w.heap.size + 1, 1, none⟩ = some (.int .u32 (b.at_ : Int)) ∧ w5.cell? ⟨w.heap.size + 1 + 1, 0, none⟩ = some (.int .u64 (c.hash : Int)) ∧ w5.cell? ⟨w.heap.size + 1 + 1, 1, none⟩ = some (.int .u32 (c.at_ : Int)) from ⟨hk.cell HS.out.1 (fun h => h), hk.cell HS.out.2.1 (fun h => h), hk.cell HS.out.2.2.1 (fun h => h), hk.cell HS.out.2.2.2.1 (fun h => h), hk.cell HS.out.2.2.2.2.1 (fun h => h), hk.cell HS.out.2.2.2.2.2 (fun h => h)⟩)
      obtain ⟨t1, t2, t3, t4, t5, t6⟩ := HS.out
      clear hk
      go_wp2_with fail
      go_ret
      exact ⟨by first | rfl | simp [dz], HK.out⟩
  · have d1 : decide ((a.hash : Int) < (b.hash : Int)) = false := decide_eq_false (by omega)
    have d2 : decide (a.hash < b.hash) = false := decide_eq_false h1
    by_cases h2 : a.hash = b.hash ∧ a.at_ < b.at_
    · have hX : cmpE a b = -1 := by
        have : a ≠ b := fun h => by rw [h] at h2; omega
        unfold cmpE
        rw [if_neg this, if_pos (.inr h2)]
      rw [hX] at H1 H3 hon
      have d3 : ((a.hash : Int) == (b.hash : Int)) = true := by rw [h2.1]; simp
      have d4 : decide ((a.at_ : Int) < (b.at_ : Int)) = true := decide_eq_true (by omega)
      have d5 : decide (a.at_ < b.at_) = true := decide_eq_true h2.2
      have d6 : decide ((a.hash : Int) = (b.hash : Int)) = true := decide_eq_true (by omega)
      have d7 : decide (a.hash = b.hash) = true := decide_eq_true h2.1
      clear hX heq h1 h2
      go_enter Try.func7, Try.ntmps7
      go_wp2_with fail
      refine (HL.out _).mono ?_
      rintro e w1 ⟨rfl, hk⟩
      have HS := Lib.hid (show w1.cell? ⟨w.heap.size, 0, none⟩ = some (.int .u64 (a.hash : Int)) ∧ w1.cell? ⟨w.heap.size, 1, none⟩ = some (.int .u32 (a.at_ : Int)) ∧ w1.cell? ⟨w.heap.size + 1, 0, none⟩ = some (.int .u64 (b.hash : Int)) ∧ w1.cell? ⟨w.heap.size + 1, 1, none⟩ = some (.int .u32 (b.at_ : Int)) ∧ w1.cell? ⟨w.heap.size + 1 + 1, 0, none⟩ = some (.int .u64 (c.hash : Int)) ∧ w1.cell? ⟨w.heap.size + 1 + 1, 1, none⟩ = some (.int .u32 (c.at_ : Int)) from ⟨(HA.out.keep hk (fun h => h)).cell 0 rfl, (HA.out.keep hk (fun h => h)).cell 1 rfl, (HB.out.keep hk (fun h => h)).cell 0 rfl, (HB.out.keep hk (fun h => h)).cell 1 rfl, (HCc.out.keep hk (fun h => h)).cell 0 rfl, (HCc.out.keep hk (fun h => h)).cell 1 rfl⟩)
      have HK := Lib.hid (HK0.out.trans hk)
      obtain ⟨s1, s2, s3, s4, s5, s6⟩ := HS.out
      clear hk HA HB HCc HL
      obtain ⟨W, rfl⟩ : ∃ W, W = w1 := ⟨_, rfl⟩
      go_wp2_with fail
      have sN := HS.out
      have s0 : W.drew.cell? ⟨w.heap.size, 0, none⟩ = some (.int .u64 (a.hash : Int)) ∧ W.drew.cell? ⟨w.heap.size, 1, none⟩ = some (.int .u32 (a.at_ : Int)) ∧ W.drew.cell? ⟨w.heap.size + 1, 0, none⟩ = some (.int .u64 (b.hash : Int)) ∧ W.drew.cell? ⟨w.heap.size + 1, 1, none⟩ = some (.int .u32 (b.at_ : Int)) ∧ W.drew.cell? ⟨w.heap.size + 1 + 1, 0, none⟩ = some (.int .u64 (c.hash : Int)) ∧ W.drew.cell? ⟨w.heap.size + 1 + 1, 1, none⟩ = some (.int .u32 (c.at_ : Int)) := HS.out
      go_region_held3 (fun w' => w'.cell? ⟨w.heap.size, 0, none⟩ = some (.int .u64 (a.hash : Int)) ∧ w'.cell? ⟨w.heap.size, 1, none⟩ = some (.int .u32 (a.at_ : Int)) ∧ w'.cell? ⟨w.heap.size + 1, 0, none⟩ = some (.int .u64 (b.hash : Int)) ∧ w'.cell? ⟨w.heap.size + 1, 1, none⟩ = some (.int .u32 (b.at_ : Int)) ∧ w'.cell? ⟨w.heap.size + 1 + 1, 0, none⟩ = some (.int .u64 (c.hash : Int)) ∧ w'.cell? ⟨w.heap.size + 1 + 1, 1, none⟩ = some (.int .u32 (c.at_ : Int)))
        (first | exact s9 | exact s0 | exact sN)
        (first | (go_at_call 10; (first | (with_reducible refine (H1.out _).mono ?_) | (with_reducible refine (H2.out _).mono ?_) | (with_reducible refine (H3.out _).mono ?_) | (with_reducible refine (H4.out _).mono ?_)); rintro e w5 ⟨rfl, hk⟩; have hk' : Keeps NoBlock W w5 := (by first | exact hk | exact hk.ofDrew | exact hk.ofDrewN); have HK := Lib.hid (HK.out.trans hk'); have HS := Lib.hid (show w5.cell? ⟨w.heap.size, 0, none⟩ = some (.int .u64 (a.hash : Int)) ∧ w5.cell? ⟨w.heap.size, 1, none⟩ = some (.int .u32 (a.at_ : Int)) ∧ w5.cell? ⟨w.heap.size + 1, 0, none⟩ = some (.int .u64 (b.hash : Int)) ∧ w5.cell? ⟨w.heap.size + 1, 1, none⟩ = some (.int .u32 (b.at_ : Int)) ∧ w5.cell? ⟨w.heap.size + 1 + 1, 0, none⟩ = some (.int .u64 (c.hash : Int)) ∧ w5.cell? ⟨w.heap.size + 1 + 1, 1, none⟩ = some (.int .u32 (c.at_ : Int)) from ⟨hk'.cell HS.out.1 (fun h => h), hk'.cell HS.out.2.1 (fun h => h), hk'.cell HS.out.2.2.1 (fun h => h), hk'.cell HS.out.2.2.2.1 (fun h => h), hk'.cell HS.out.2.2.2.2.1 (fun h => h), hk'.cell HS.out.2.2.2.2.2 (fun h => h)⟩); have s9 := HS.out; clear hk hk'; obtain ⟨W, rfl⟩ : ∃ x, x = w5 := ⟨_, rfl⟩))
      obtain ⟨t1, t2, t3, t4, t5, t6⟩ := HS.out
      have HK := HK
      clear s0 sN s1 s2 s3 s4 s5 s6 s9
      by_cases hy0 : 0 < Y
      · have dy : decide ((0 : Int) < Y) = true := decide_eq_true hy0
        go_wp2_with fail
        refine (H3.out _).mono ?_
        rintro e w5 ⟨rfl, hk⟩
        have HK := Lib.hid (HK.out.trans hk)
        have HS := Lib.hid (show w5.cell? ⟨w.heap.size, 0, none⟩ = some (.int .u64 (a.hash : Int)) ∧ w5.cell? ⟨w.heap.size, 1, none⟩ = some (.int .u32 (a.at_ : Int)) ∧ w5.cell? ⟨w.heap.size + 1, 0, none⟩ = some (.int .u64 (b.hash : Int)) ∧ w5.cell? ⟨w.heap.size + 1, 1, none⟩ = some (.int .u32 (b.at_ : Int)) ∧ w5.cell? ⟨w.heap.size + 1 + 1, 0, none⟩ = some (.int .u64 (c.hash : Int)) ∧ w5.cell? ⟨w.heap.size + 1 + 1, 1, none⟩ = some (.int .u32 (c.at_ : Int)) from ⟨hk.cell HS.out.1 (fun h => h), hk.cell HS.out.2.1 (fun h => h), hk.cell HS.out.2.2.1 (fun h => h), hk.cell HS.out.2.2.2.1 (fun h => h), hk.cell HS.out.2.2.2.2.1 (fun h => h), hk.cell HS.out.2.2.2.2.2 (fun h => h)⟩)
        obtain ⟨t1, t2, t3, t4, t5, t6⟩ := HS.out
        clear hk
        go_wp2_with fail
        go_ret
        exact ⟨by first | rfl | simp, HK.out⟩
      · have dy : decide ((0 : Int) < Y) = false := decide_eq_false hy0
        have hZ0 : Z ≤ 0 := hon (by omega) (by omega)
        have dz : decide (Z ≤ 0) = true := decide_eq_true hZ0
        go_wp2_with fail
        refine (H3.out _).mono ?_
        rintro e w5 ⟨rfl, hk⟩
        have HK := Lib.hid (HK.out.trans hk)
        have HS := Lib.hid (show w5.cell? ⟨w.heap.size, 0, none⟩ = some (.int .u64 (a.hash : Int)) ∧ w5.cell? ⟨w.heap.size, 1, none⟩ = some (.int .u32 (a.at_ : Int)) ∧ w5.cell? ⟨w.heap.size + 1, 0, none⟩ = some (.int .u64 (b.hash : Int)) ∧ w5.cell? ⟨w.heap.size + 1, 1, none⟩ = some (.int .u32 (b.at_ : Int)) ∧ w5.cell? ⟨w.heap.size + 1 + 1, 0, none⟩ = some (.int .u64 (c.hash : Int)) ∧ w5.cell? ⟨w.heap.size + 1 + 1, 1, none⟩ = some (.int .u32 (c.at_ : Int)) from ⟨hk.cell HS.out.1 (fun h => h), hk.cell HS.out.2.1 (fun h => h), hk.cell HS.out.2.2.1 (fun h => h), hk.cell HS.out.2.2.2.1 (fun h => h), hk.cell HS.out.2.2.2.2.1 (fun h => h), hk.cell HS.out.2.2.2.2.2 (fun h => h)⟩)
        obtain ⟨t1, t2, t3, t4, t5, t6⟩ := HS.out
        clear hk
        go_wp2_with fail
        refine (H4.out _).mono ?_
        rintro e w5 ⟨rfl, hk⟩
        have HK := Lib.hid (HK.out.trans hk)
        have HS := Lib.hid (show w5.cell? ⟨w.heap.size, 0, none⟩ = some (.int .u64 (a.hash : Int)) ∧ w5.cell? ⟨w.heap.size, 1, none⟩ = some (.int .u32 (a.at_ : Int)) ∧ w5.cell? ⟨w.heap.size + 1, 0, none⟩ = some (.int .u64 (b.hash : Int)) ∧ w5.cell? ⟨w.heap.size + 1, 1, none⟩ = some (.int .u32 (b.at_ : Int)) ∧ w5.cell? ⟨w.heap.size + 1 + 1, 0, none⟩ = some (.int .u64 (c.hash : Int)) ∧ w5.cell? ⟨w.heap.size + 1 + 1, 1, none⟩ = some (.int .u32 (c.at_ : Int)) from ⟨hk.cell HS.out.1 (fun h => h), hk.cell HS.out.2.1 (fun h => h), hk.cell HS.out.2.2.1 (fun h => h), hk.cell HS.out.2.2.2.1 (fun h => h), hk.cell HS.out.2.2.2.2.1 (fun h => h), hk.cell HS.out.2.2.2.2.2 (fun h => h)⟩)
        obtain ⟨t1, t2, t3, t4, t5, t6⟩ := HS.out
        clear hk
        go_wp2_with fail
        go_ret
        exact ⟨by first | rfl | simp [dz], HK.out⟩
    · have d3 : (((a.hash : Int) == (b.hash : Int)) && decide ((a.at_ : Int) < (b.at_ : Int))) = false := by
        by_cases e : a.hash = b.hash
        · have : ¬ a.at_ < b.at_ := fun h => h2 ⟨e, h⟩
          rw [decide_eq_false (by omega)]
          simp
        · rw [beq_eq_false_iff_ne.2 (by omega)]
          simp
      by_cases h3 : a = b
      · have hX : cmpE a b = 0 := by unfold cmpE; rw [if_pos h3]
        rw [hX] at H1 H3 hon
        have heq0 : ∀ w, (binOp .neq 29 (.agg #[.int .u64 (a.hash : Int), .int .u32 (a.at_ : Int)]) (.agg #[.int .u64 (b.hash : Int), .int .u32 (b.at_ : Int)])).run Try.prog w = .ok (.bool false) w := fun w => by rw [heq w, decide_eq_false (fun h => h h3)]
        have e1 : ((a.hash : Int) == (b.hash : Int)) = true := by rw [h3]; simp
        have e2 : decide ((a.at_ : Int) < (b.at_ : Int)) = false := decide_eq_false (by rw [h3]; omega)
        have e3 : decide (a.at_ < b.at_) = false := decide_eq_false (by rw [h3]; omega)
        have e4 : decide (a.hash = b.hash) = true := decide_eq_true (by rw [h3])
        clear hX heq h1 h2 h3 d3
        go_enter Try.func7, Try.ntmps7
        go_wp2_with fail
        refine (HL.out _).mono ?_
        rintro e w1 ⟨rfl, hk⟩
        have HS := Lib.hid (show w1.cell? ⟨w.heap.size, 0, none⟩ = some (.int .u64 (a.hash : Int)) ∧ w1.cell? ⟨w.heap.size, 1, none⟩ = some (.int .u32 (a.at_ : Int)) ∧ w1.cell? ⟨w.heap.size + 1, 0, none⟩ = some (.int .u64 (b.hash : Int)) ∧ w1.cell? ⟨w.heap.size + 1, 1, none⟩ = some (.int .u32 (b.at_ : Int)) ∧ w1.cell? ⟨w.heap.size + 1 + 1, 0, none⟩ = some (.int .u64 (c.hash : Int)) ∧ w1.cell? ⟨w.heap.size + 1 + 1, 1, none⟩ = some (.int .u32 (c.at_ : Int)) from ⟨(HA.out.keep hk (fun h => h)).cell 0 rfl, (HA.out.keep hk (fun h => h)).cell 1 rfl, (HB.out.keep hk (fun h => h)).cell 0 rfl, (HB.out.keep hk (fun h => h)).cell 1 rfl, (HCc.out.keep hk (fun h => h)).cell 0 rfl, (HCc.out.keep hk (fun h => h)).cell 1 rfl⟩)
        have HK := Lib.hid (HK0.out.trans hk)
        obtain ⟨s1, s2, s3, s4, s5, s6⟩ := HS.out
        clear hk HA HB HCc HL
        obtain ⟨W, rfl⟩ : ∃ W, W = w1 := ⟨_, rfl⟩
        go_wp2_with fail
        have sN := HS.out
        have s0 : W.drew.cell? ⟨w.heap.size, 0, none⟩ = some (.int .u64 (a.hash : Int)) ∧ W.drew.cell? ⟨w.heap.size, 1, none⟩ = some (.int .u32 (a.at_ : Int)) ∧ W.drew.cell? ⟨w.heap.size + 1, 0, none⟩ = some (.int .u64 (b.hash : Int)) ∧ W.drew.cell? ⟨w.heap.size + 1, 1, none⟩ = some (.int .u32 (b.at_ : Int)) ∧ W.drew.cell? ⟨w.heap.size + 1 + 1, 0, none⟩ = some (.int .u64 (c.hash : Int)) ∧ W.drew.cell? ⟨w.heap.size + 1 + 1, 1, none⟩ = some (.int .u32 (c.at_ : Int)) := HS.out
        go_region_held3 (fun w' => w'.cell? ⟨w.heap.size, 0, none⟩ = some (.int .u64 (a.hash : Int)) ∧ w'.cell? ⟨w.heap.size, 1, none⟩ = some (.int .u32 (a.at_ : Int)) ∧ w'.cell? ⟨w.heap.size + 1, 0, none⟩ = some (.int .u64 (b.hash : Int)) ∧ w'.cell? ⟨w.heap.size + 1, 1, none⟩ = some (.int .u32 (b.at_ : Int)) ∧ w'.cell? ⟨w.heap.size + 1 + 1, 0, none⟩ = some (.int .u64 (c.hash : Int)) ∧ w'.cell? ⟨w.heap.size + 1 + 1, 1, none⟩ = some (.int .u32 (c.at_ : Int)))
          (first | exact s9 | exact s0 | exact sN)
          (first | (go_at_call 10; (first | (with_reducible refine (H1.out _).mono ?_) | (with_reducible refine (H2.out _).mono ?_) | (with_reducible refine (H3.out _).mono ?_) | (with_reducible refine (H4.out _).mono ?_)); rintro e w5 ⟨rfl, hk⟩; have hk' : Keeps NoBlock W w5 := (by first | exact hk | exact hk.ofDrew | exact hk.ofDrewN); have HK := Lib.hid (HK.out.trans hk'); have HS := Lib.hid (show w5.cell? ⟨w.heap.size, 0, none⟩ = some (.int .u64 (a.hash : Int)) ∧ w5.cell? ⟨w.heap.size, 1, none⟩ = some (.int .u32 (a.at_ : Int)) ∧ w5.cell? ⟨w.heap.size + 1, 0, none⟩ = some (.int .u64 (b.hash : Int)) ∧ w5.cell? ⟨w.heap.size + 1, 1, none⟩ = some (.int .u32 (b.at_ : Int)) ∧ w5.cell? ⟨w.heap.size + 1 + 1, 0, none⟩ = some (.int .u64 (c.hash : Int)) ∧ w5.cell? ⟨w.heap.size + 1 + 1, 1, none⟩ = some (.int .u32 (c.at_ : Int)) from ⟨hk'.cell HS.out.1 (fun h => h), hk'.cell HS.out.2.1 (fun h => h), hk'.cell HS.out.2.2.1 (fun h => h), hk'.cell HS.out.2.2.2.1 (fun h => h), hk'.cell HS.out.2.2.2.2.1 (fun h => h), hk'.cell HS.out.2.2.2.2.2 (fun h => h)⟩); have s9 := HS.out; clear hk hk'; obtain ⟨W, rfl⟩ : ∃ x, x = w5 := ⟨_, rfl⟩))
        obtain ⟨t1, t2, t3, t4, t5, t6⟩ := HS.out
        have HK := HK
        clear s0 sN s1 s2 s3 s4 s5 s6 s9
        by_cases hy0 : 0 < Y
        · have dy : decide ((0 : Int) < Y) = true := decide_eq_true hy0
          go_wp2_with fail
          refine (H3.out _).mono ?_
          rintro e w5 ⟨rfl, hk⟩
          have HK := Lib.hid (HK.out.trans hk)
          have HS := Lib.hid (show w5.cell? ⟨w.heap.size, 0, none⟩ = some (.int .u64 (a.hash : Int)) ∧ w5.cell? ⟨w.heap.size, 1, none⟩ = some (.int .u32 (a.at_ : Int)) ∧ w5.cell? ⟨w.heap.size + 1, 0, none⟩ = some (.int .u64 (b.hash : Int)) ∧ w5.cell? ⟨w.heap.size + 1, 1, none⟩ = some (.int .u32 (b.at_ : Int)) ∧ w5.cell? ⟨w.heap.size + 1 + 1, 0, none⟩ = some (.int .u64 (c.hash : Int)) ∧ w5.cell? ⟨w.heap.size + 1 + 1, 1, none⟩ = some (.int .u32 (c.at_ : Int)) from ⟨hk.cell HS.out.1 (fun h => h), hk.cell HS.out.2.1 (fun h => h), hk.cell HS.out.2.2.1 (fun h => h), hk.cell HS.out.2.2.2.1 (fun h => h), hk.cell HS.out.2.2.2.2.1 (fun h => h), hk.cell HS.out.2.2.2.2.2 (fun h => h)⟩)
          obtain ⟨t1, t2, t3, t4, t5, t6⟩ := HS.out
          clear hk
          go_wp2_with fail
          go_ret
          exact ⟨by first | rfl | simp, HK.out⟩
        · have dy : decide ((0 : Int) < Y) = false := decide_eq_false hy0
          have hZ0 : Z ≤ 0 := hon (by omega) (by omega)
          have dz : decide (Z ≤ 0) = true := decide_eq_true hZ0
          go_wp2_with fail
          refine (H3.out _).mono ?_
          rintro e w5 ⟨rfl, hk⟩
          have HK := Lib.hid (HK.out.trans hk)
          have HS := Lib.hid (show w5.cell? ⟨w.heap.size, 0, none⟩ = some (.int .u64 (a.hash : Int)) ∧ w5.cell? ⟨w.heap.size, 1, none⟩ = some (.int .u32 (a.at_ : Int)) ∧ w5.cell? ⟨w.heap.size + 1, 0, none⟩ = some (.int .u64 (b.hash : Int)) ∧ w5.cell? ⟨w.heap.size + 1, 1, none⟩ = some (.int .u32 (b.at_ : Int)) ∧ w5.cell? ⟨w.heap.size + 1 + 1, 0, none⟩ = some (.int .u64 (c.hash : Int)) ∧ w5.cell? ⟨w.heap.size + 1 + 1, 1, none⟩ = some (.int .u32 (c.at_ : Int)) from ⟨hk.cell HS.out.1 (fun h => h), hk.cell HS.out.2.1 (fun h => h), hk.cell HS.out.2.2.1 (fun h => h), hk.cell HS.out.2.2.2.1 (fun h => h), hk.cell HS.out.2.2.2.2.1 (fun h => h), hk.cell HS.out.2.2.2.2.2 (fun h => h)⟩)
          obtain ⟨t1, t2, t3, t4, t5, t6⟩ := HS.out
          clear hk
          go_wp2_with fail
          refine (H4.out _).mono ?_
          rintro e w5 ⟨rfl, hk⟩
          have HK := Lib.hid (HK.out.trans hk)
          have HS := Lib.hid (show w5.cell? ⟨w.heap.size, 0, none⟩ = some (.int .u64 (a.hash : Int)) ∧ w5.cell? ⟨w.heap.size, 1, none⟩ = some (.int .u32 (a.at_ : Int)) ∧ w5.cell? ⟨w.heap.size + 1, 0, none⟩ = some (.int .u64 (b.hash : Int)) ∧ w5.cell? ⟨w.heap.size + 1, 1, none⟩ = some (.int .u32 (b.at_ : Int)) ∧ w5.cell? ⟨w.heap.size + 1 + 1, 0, none⟩ = some (.int .u64 (c.hash : Int)) ∧ w5.cell? ⟨w.heap.size + 1 + 1, 1, none⟩ = some (.int .u32 (c.at_ : Int)) from ⟨hk.cell HS.out.1 (fun h => h), hk.cell HS.out.2.1 (fun h => h), hk.cell HS.out.2.2.1 (fun h => h), hk.cell HS.out.2.2.2.1 (fun h => h), hk.cell HS.out.2.2.2.2.1 (fun h => h), hk.cell HS.out.2.2.2.2.2 (fun h => h)⟩)
          obtain ⟨t1, t2, t3, t4, t5, t6⟩ := HS.out
          clear hk
          go_wp2_with fail
          go_ret
          exact ⟨by first | rfl | simp [dz], HK.out⟩
      · have hX : cmpE a b = 1 := by
          unfold cmpE
          rw [if_neg h3, if_neg (by unfold LessE; omega)]
        rw [hX] at H1 H3 hon
        have heq0 : ∀ w, (binOp .neq 29 (.agg #[.int .u64 (a.hash : Int), .int .u32 (a.at_ : Int)]) (.agg #[.int .u64 (b.hash : Int), .int .u32 (b.at_ : Int)])).run Try.prog w = .ok (.bool true) w := fun w => by rw [heq w, decide_eq_true h3]
        clear hX heq h1
        by_cases e : a.hash = b.hash
        · have e1 : ((a.hash : Int) == (b.hash : Int)) = true := by rw [e]; simp
          have e2 : decide ((a.at_ : Int) < (b.at_ : Int)) = false := decide_eq_false (fun h => h2 ⟨e, by omega⟩)
          have e3 : decide (a.at_ < b.at_) = false := decide_eq_false (fun h => h2 ⟨e, h⟩)
          have e4 : decide (a.hash = b.hash) = true := decide_eq_true e
          clear h2 h3 d3 e
          go_enter Try.func7, Try.ntmps7
          go_wp2_with fail
          refine (HL.out _).mono ?_
          rintro e w1 ⟨rfl, hk⟩
          have HS := Lib.hid (show w1.cell? ⟨w.heap.size, 0, none⟩ = some (.int .u64 (a.hash : Int)) ∧ w1.cell? ⟨w.heap.size, 1, none⟩ = some (.int .u32 (a.at_ : Int)) ∧ w1.cell? ⟨w.heap.size + 1, 0, none⟩ = some (.int .u64 (b.hash : Int)) ∧ w1.cell? ⟨w.heap.size + 1, 1, none⟩ = some (.int .u32 (b.at_ : Int)) ∧ w1.cell? ⟨w.heap.size + 1 + 1, 0, none⟩ = some (.int .u64 (c.hash : Int)) ∧ w1.cell? ⟨w.heap.size + 1 + 1, 1, none⟩ = some (.int .u32 (c.at_ : Int)) from ⟨(HA.out.keep hk (fun h => h)).cell 0 rfl, (HA.out.keep hk (fun h => h)).cell 1 rfl, (HB.out.keep hk (fun h => h)).cell 0 rfl, (HB.out.keep hk (fun h => h)).cell 1 rfl, (HCc.out.keep hk (fun h => h)).cell 0 rfl, (HCc.out.keep hk (fun h => h)).cell 1 rfl⟩)
          have HK := Lib.hid (HK0.out.trans hk)
          obtain ⟨s1, s2, s3, s4, s5, s6⟩ := HS.out
          clear hk HA HB HCc HL
          obtain ⟨W, rfl⟩ : ∃ W, W = w1 := ⟨_, rfl⟩
          go_wp2_with fail
          have sN := HS.out
          have s0 : W.drew.cell? ⟨w.heap.size, 0, none⟩ = some (.int .u64 (a.hash : Int)) ∧ W.drew.cell? ⟨w.heap.size, 1, none⟩ = some (.int .u32 (a.at_ : Int)) ∧ W.drew.cell? ⟨w.heap.size + 1, 0, none⟩ = some (.int .u64 (b.hash : Int)) ∧ W.drew.cell? ⟨w.heap.size + 1, 1, none⟩ = some (.int .u32 (b.at_ : Int)) ∧ W.drew.cell? ⟨w.heap.size + 1 + 1, 0, none⟩ = some (.int .u64 (c.hash : Int)) ∧ W.drew.cell? ⟨w.heap.size + 1 + 1, 1, none⟩ = some (.int .u32 (c.at_ : Int)) := HS.out
          go_region_held3 (fun w' => w'.cell? ⟨w.heap.size, 0, none⟩ = some (.int .u64 (a.hash : Int)) ∧ w'.cell? ⟨w.heap.size, 1, none⟩ = some (.int .u32 (a.at_ : Int)) ∧ w'.cell? ⟨w.heap.size + 1, 0, none⟩ = some (.int .u64 (b.hash : Int)) ∧ w'.cell? ⟨w.heap.size + 1, 1, none⟩ = some (.int .u32 (b.at_ : Int)) ∧ w'.cell? ⟨w.heap.size + 1 + 1, 0, none⟩ = some (.int .u64 (c.hash : Int)) ∧ w'.cell? ⟨w.heap.size + 1 + 1, 1, none⟩ = some (.int .u32 (c.at_ : Int)))
            (first | exact s9 | exact s0 | exact sN)
            (first | (go_at_call 10; (first | (with_reducible refine (H1.out _).mono ?_) | (with_reducible refine (H2.out _).mono ?_) | (with_reducible refine (H3.out _).mono ?_) | (with_reducible refine (H4.out _).mono ?_)); rintro e w5 ⟨rfl, hk⟩; have hk' : Keeps NoBlock W w5 := (by first | exact hk | exact hk.ofDrew | exact hk.ofDrewN); have HK := Lib.hid (HK.out.trans hk'); have HS := Lib.hid (show w5.cell? ⟨w.heap.size, 0, none⟩ = some (.int .u64 (a.hash : Int)) ∧ w5.cell? ⟨w.heap.size, 1, none⟩ = some (.int .u32 (a.at_ : Int)) ∧ w5.cell? ⟨w.heap.size + 1, 0, none⟩ = some (.int .u64 (b.hash : Int)) ∧ w5.cell? ⟨w.heap.size + 1, 1, none⟩ = some (.int .u32 (b.at_ : Int)) ∧ w5.cell? ⟨w.heap.size + 1 + 1, 0, none⟩ = some (.int .u64 (c.hash : Int)) ∧ w5.cell? ⟨w.heap.size + 1 + 1, 1, none⟩ = some (.int .u32 (c.at_ : Int)) from ⟨hk'.cell HS.out.1 (fun h => h), hk'.cell HS.out.2.1 (fun h => h), hk'.cell HS.out.2.2.1 (fun h => h), hk'.cell HS.out.2.2.2.1 (fun h => h), hk'.cell HS.out.2.2.2.2.1 (fun h => h), hk'.cell HS.out.2.2.2.2.2 (fun h => h)⟩); have s9 := HS.out; clear hk hk'; obtain ⟨W, rfl⟩ : ∃ x, x = w5 := ⟨_, rfl⟩))
          obtain ⟨t1, t2, t3, t4, t5, t6⟩ := HS.out
          have HK := HK
          clear s0 sN s1 s2 s3 s4 s5 s6 s9
          go_wp2_with fail
          refine (H3.out _).mono ?_
          rintro e w5 ⟨rfl, hk⟩
          have HK := Lib.hid (HK.out.trans hk)
          have HS := Lib.hid (show w5.cell? ⟨w.heap.size, 0, none⟩ = some (.int .u64 (a.hash : Int)) ∧ w5.cell? ⟨w.heap.size, 1, none⟩ = some (.int .u32 (a.at_ : Int)) ∧ w5.cell? ⟨w.heap.size + 1, 0, none⟩ = some (.int .u64 (b.hash : Int)) ∧ w5.cell? ⟨w.heap.size + 1, 1, none⟩ = some (.int .u32 (b.at_ : Int)) ∧ w5.cell? ⟨w.heap.size + 1 + 1, 0, none⟩ = some (.int .u64 (c.hash : Int)) ∧ w5.cell? ⟨w.heap.size + 1 + 1, 1, none⟩ = some (.int .u32 (c.at_ : Int)) from ⟨hk.cell HS.out.1 (fun h => h), hk.cell HS.out.2.1 (fun h => h), hk.cell HS.out.2.2.1 (fun h => h), hk.cell HS.out.2.2.2.1 (fun h => h), hk.cell HS.out.2.2.2.2.1 (fun h => h), hk.cell HS.out.2.2.2.2.2 (fun h => h)⟩)
          obtain ⟨t1, t2, t3, t4, t5, t6⟩ := HS.out
          clear hk
          go_wp2_with fail
          go_ret
          exact ⟨by first | rfl | simp, HK.out⟩
        · have e1 : ((a.hash : Int) == (b.hash : Int)) = false := beq_eq_false_iff_ne.2 (by omega)
          have e4 : decide (a.hash = b.hash) = false := decide_eq_false e
          clear h2 h3 d3 e
          go_enter Try.func7, Try.ntmps7
          go_wp2_with fail
          refine (HL.out _).mono ?_
          rintro e w1 ⟨rfl, hk⟩
          have HS := Lib.hid (show w1.cell? ⟨w.heap.size, 0, none⟩ = some (.int .u64 (a.hash : Int)) ∧ w1.cell? ⟨w.heap.size, 1, none⟩ = some (.int .u32 (a.at_ : Int)) ∧ w1.cell? ⟨w.heap.size + 1, 0, none⟩ = some (.int .u64 (b.hash : Int)) ∧ w1.cell? ⟨w.heap.size + 1, 1, none⟩ = some (.int .u32 (b.at_ : Int)) ∧ w1.cell? ⟨w.heap.size + 1 + 1, 0, none⟩ = some (.int .u64 (c.hash : Int)) ∧ w1.cell? ⟨w.heap.size + 1 + 1, 1, none⟩ = some (.int .u32 (c.at_ : Int)) from ⟨(HA.out.keep hk (fun h => h)).cell 0 rfl, (HA.out.keep hk (fun h => h)).cell 1 rfl, (HB.out.keep hk (fun h => h)).cell 0 rfl, (HB.out.keep hk (fun h => h)).cell 1 rfl, (HCc.out.keep hk (fun h => h)).cell 0 rfl, (HCc.out.keep hk (fun h => h)).cell 1 rfl⟩)
          have HK := Lib.hid (HK0.out.trans hk)
          obtain ⟨s1, s2, s3, s4, s5, s6⟩ := HS.out
          clear hk HA HB HCc HL
          obtain ⟨W, rfl⟩ : ∃ W, W = w1 := ⟨_, rfl⟩
          go_wp2_with fail
          have sN := HS.out
          have s0 : W.drew.cell? ⟨w.heap.size, 0, none⟩ = some (.int .u64 (a.hash : Int)) ∧ W.drew.cell? ⟨w.heap.size, 1, none⟩ = some (.int .u32 (a.at_ : Int)) ∧ W.drew.cell? ⟨w.heap.size + 1, 0, none⟩ = some (.int .u64 (b.hash : Int)) ∧ W.drew.cell? ⟨w.heap.size + 1, 1, none⟩ = some (.int .u32 (b.at_ : Int)) ∧ W.drew.cell? ⟨w.heap.size + 1 + 1, 0, none⟩ = some (.int .u64 (c.hash : Int)) ∧ W.drew.cell? ⟨w.heap.size + 1 + 1, 1, none⟩ = some (.int .u32 (c.at_ : Int)) := HS.out
          go_region_held3 (fun w' => w'.cell? ⟨w.heap.size, 0, none⟩ = some (.int .u64 (a.hash : Int)) ∧ w'.cell? ⟨w.heap.size, 1, none⟩ = some (.int .u32 (a.at_ : Int)) ∧ w'.cell? ⟨w.heap.size + 1, 0, none⟩ = some (.int .u64 (b.hash : Int)) ∧ w'.cell? ⟨w.heap.size + 1, 1, none⟩ = some (.int .u32 (b.at_ : Int)) ∧ w'.cell? ⟨w.heap.size + 1 + 1, 0, none⟩ = some (.int .u64 (c.hash : Int)) ∧ w'.cell? ⟨w.heap.size + 1 + 1, 1, none⟩ = some (.int .u32 (c.at_ : Int)))
            (first | exact s9 | exact s0 | exact sN)
            (first | (go_at_call 10; (first | (with_reducible refine (H1.out _).mono ?_) | (with_reducible refine (H2.out _).mono ?_) | (with_reducible refine (H3.out _).mono ?_) | (with_reducible refine (H4.out _).mono ?_)); rintro e w5 ⟨rfl, hk⟩; have hk' : Keeps NoBlock W w5 := (by first | exact hk | exact hk.ofDrew | exact hk.ofDrewN); have HK := Lib.hid (HK.out.trans hk'); have HS := Lib.hid (show w5.cell? ⟨w.heap.size, 0, none⟩ = some (.int .u64 (a.hash : Int)) ∧ w5.cell? ⟨w.heap.size, 1, none⟩ = some (.int .u32 (a.at_ : Int)) ∧ w5.cell? ⟨w.heap.size + 1, 0, none⟩ = some (.int .u64 (b.hash : Int)) ∧ w5.cell? ⟨w.heap.size + 1, 1, none⟩ = some (.int .u32 (b.at_ : Int)) ∧ w5.cell? ⟨w.heap.size + 1 + 1, 0, none⟩ = some (.int .u64 (c.hash : Int)) ∧ w5.cell? ⟨w.heap.size + 1 + 1, 1, none⟩ = some (.int .u32 (c.at_ : Int)) from ⟨hk'.cell HS.out.1 (fun h => h), hk'.cell HS.out.2.1 (fun h => h), hk'.cell HS.out.2.2.1 (fun h => h), hk'.cell HS.out.2.2.2.1 (fun h => h), hk'.cell HS.out.2.2.2.2.1 (fun h => h), hk'.cell HS.out.2.2.2.2.2 (fun h => h)⟩); have s9 := HS.out; clear hk hk'; obtain ⟨W, rfl⟩ : ∃ x, x = w5 := ⟨_, rfl⟩))
          obtain ⟨t1, t2, t3, t4, t5, t6⟩ := HS.out
          have HK := HK
          clear s0 sN s1 s2 s3 s4 s5 s6 s9
          go_wp2_with fail
          refine (H3.out _).mono ?_
          rintro e w5 ⟨rfl, hk⟩
          have HK := Lib.hid (HK.out.trans hk)
          have HS := Lib.hid (show w5.cell? ⟨w.heap.size, 0, none⟩ = some (.int .u64 (a.hash : Int)) ∧ w5.cell? ⟨w.heap.size, 1, none⟩ = some (.int .u32 (a.at_ : Int)) ∧ w5.cell? ⟨w.heap.size + 1, 0, none⟩ = some (.int .u64 (b.hash : Int)) ∧ w5.cell? ⟨w.heap.size + 1, 1, none⟩ = some (.int .u32 (b.at_ : Int)) ∧ w5.cell? ⟨w.heap.size + 1 + 1, 0, none⟩ = some (.int .u64 (c.hash : Int)) ∧ w5.cell? ⟨w.heap.size + 1 + 1, 1, none⟩ = some (.int .u32 (c.at_ : Int)) from ⟨hk.cell HS.out.1 (fun h => h), hk.cell HS.out.2.1 (fun h => h), hk.cell HS.out.2.2.1 (fun h => h), hk.cell HS.out.2.2.2.1 (fun h => h), hk.cell HS.out.2.2.2.2.1 (fun h => h), hk.cell HS.out.2.2.2.2.2 (fun h => h)⟩)
          obtain ⟨t1, t2, t3, t4, t5, t6⟩ := HS.out
          clear hk
          go_wp2_with fail
          go_ret
          exact ⟨by first | rfl | simp, HK.out⟩
end Go.Proofs.Ytbchiccgkhnkaaa

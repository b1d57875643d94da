/-
  Package table's own Compare: what it answers, what it does to the world.
-/
import Derived.Test.YtbchiccgkhnkaaaTabCmp
import Derived.Shelf.SlSortCmp.InsertionK
namespace Go.Proofs.Ytbchiccgkhnkaaa
open Go.RowKit Go.Sort

theorem cmpE_of (a b : En) : (if cmpN a.hash b.hash = 0 then cmpN a.at_ b.at_ else cmpN a.hash b.hash) = cmpE a b := by
  unfold cmpN cmpE
  have L1 : LessE a b ↔ (a.hash < b.hash ∨ a.hash = b.hash ∧ a.at_ < b.at_) := Iff.rfl
  by_cases h1 : a.hash < b.hash
  · have hne : ¬ a = b := fun e => by rw [e] at h1; omega
    rw [if_pos h1, if_neg (by omega), if_neg hne, if_pos (L1.2 (.inl h1))]
  · by_cases h2 : b.hash < a.hash
    · have hne : ¬ a = b := fun e => by rw [e] at h2; omega
      rw [if_neg h1, if_pos h2, if_neg (by omega), if_neg hne, if_neg (fun h => by have := L1.1 h; omega)]
    · have he : a.hash = b.hash := by omega
      rw [if_neg h1, if_neg h2, if_pos rfl]
      by_cases h3 : a.at_ < b.at_
      · have hne : ¬ a = b := fun e => by rw [e] at h3; omega
        rw [if_pos h3, if_neg hne, if_pos (L1.2 (.inr ⟨he, h3⟩))]
      · by_cases h4 : b.at_ < a.at_
        · have hne : ¬ a = b := fun e => by rw [e] at h4; omega
          rw [if_neg h3, if_pos h4, if_neg hne, if_neg (fun h => by have := L1.1 h; omega)]
        · rw [if_neg h3, if_neg h4, if_pos (En.ext' he (by omega))]

set_option maxHeartbeats 4000000 in
set_option maxRecDepth 10000 in
/-- Compare, whatever the numbers are: nothing but draws and new blocks. -/
theorem compare_grown (a b : En) (w : World) : Calls Try.prog 10 #[enV a, enV b] w fun e w' => e = .returned (.int .i64 (cmpE a b)) ∧ Grown w w' := by
  have H64 := Lib.hid (fun w => cmp64_own a.hash b.hash w)
  have H32 := Lib.hid (fun w => cmp32_own a.at_ b.at_ w)
  obtain ⟨R, hR⟩ : ∃ R, R = cmpE a b := ⟨_, rfl⟩
  have HO : Hid ((if cmpN a.hash b.hash = 0 then cmpN a.at_ b.at_ else cmpN a.hash b.hash) = R) := Lib.hid ((cmpE_of a b).trans hR.symm)
  rw [← hR]
  clear hR
  obtain ⟨X, hX⟩ : ∃ X, X = cmpN a.hash b.hash := ⟨_, rfl⟩
  obtain ⟨Y, hY⟩ : ∃ Y, Y = cmpN a.at_ b.at_ := ⟨_, rfl⟩
  rw [← hX] at H64 HO
  rw [← hY] at H32 HO
  clear hX hY
  have HWa := Lib.hid ((Whole.new w 29 (enCells a)).alloc (.cells (enCells b) 29))
  have HWb := Lib.hid (Whole.newAt (w.alloc (.cells (enCells a) 29)) 29 (enCells b) (w.heap.size + 1) (by simp))
  have HGw := Lib.hid (((Grown.refl w).alloc (.cells (enCells a) 29)).alloc (.cells (enCells b) 29))
  unfold enV
  go_enter Try.func10, Try.ntmps10
  go_wp2_with fail
  obtain ⟨W0, hW⟩ : ∃ W0, W0 = (w.alloc (.cells #[.int .u64 (a.hash : Int), .int .u32 (a.at_ : Int)] 29)).alloc (.cells #[.int .u64 (b.hash : Int), .int .u32 (b.at_ : Int)] 29) := ⟨_, rfl⟩
  have HA : Hid (Whole W0.drew w.heap.size 29 (enCells a)) := Lib.hid (by rw [hW]; exact HWa.out)
  have HB : Hid (Whole W0.drew (w.heap.size + 1) 29 (enCells b)) := Lib.hid (by rw [hW]; exact HWb.out)
  have HG : Hid (Grown w W0.drew) := Lib.hid (by rw [hW]; exact HGw.out.drew)
  rw [← hW]
  clear hW HWa HWb HGw
  obtain ⟨W, hWd⟩ : ∃ W, W = W0.drew := ⟨_, rfl⟩
  rw [← hWd] at HA HB HG
  have s0 := And.intro (And.intro (HA.out.cell 0 rfl) (HA.out.cell 1 rfl)) (And.intro (HB.out.cell 0 rfl) (HB.out.cell 1 rfl))
  simp only [enCells, List.getElem_toArray, List.getElem_cons_zero, List.getElem_cons_succ] at s0
  refine wp_region_held_drew (S := fun w' => ((w'.cell? ⟨w.heap.size, 0, none⟩ = some (.int .u64 (a.hash : Int)) ∧ w'.cell? ⟨w.heap.size, 1, none⟩ = some (.int .u32 (a.at_ : Int))) ∧ (w'.cell? ⟨w.heap.size + 1, 0, none⟩ = some (.int .u64 (b.hash : Int)) ∧ w'.cell? ⟨w.heap.size + 1, 1, none⟩ = some (.int .u32 (b.at_ : Int))))) (by kernel_rfl) (by rw [← hWd]; exact s0) (fun hHeld => ?_)
  rw [← hWd]
  rw [← hWd] at hHeld
  clear hWd
  refine wpAnyH_take (i := 0) (v := ?vT1) rfl ?aT1 ?bT1 ?cT1 ?dT1 (Or.inl ⟨?eT1, ?fT1⟩) hHeld ?gT1
  case fT1 => intro w hSw; (try dsimp only at hSw); go_simp; (try with_reducible rfl)
  case aT1 => kernel_rfl
  case bT1 => kernel_rfl
  case cT1 => kernel_rfl
  case dT1 => exact fun _ _ _ h => h
  case eT1 => rfl
  simp only [Act.put, List.getElem_toArray, List.getElem_cons_zero, List.setIfInBounds_toArray, List.set_cons_zero, List.set_cons_succ]
  refine wpAnyH_take (i := 1) (v := ?vT2) rfl ?aT2 ?bT2 ?cT2 ?dT2 (Or.inl ⟨?eT2, ?fT2⟩) hHeld ?gT2
  case fT2 => intro w hSw; (try dsimp only at hSw); go_simp; (try with_reducible rfl)
  case aT2 => kernel_rfl
  case bT2 => kernel_rfl
  case cT2 => kernel_rfl
  case dT2 => exact fun _ _ _ h => h
  case eT2 => rfl
  simp only [Act.put, List.getElem_toArray, List.getElem_cons_zero, List.getElem_cons_succ, List.setIfInBounds_toArray, List.set_cons_zero, List.set_cons_succ]
  refine wpAnyH_take (i := 2) (v := ?vT3) rfl ?aT3 ?bT3 ?cT3 ?dT3 (Or.inl ⟨?eT3, ?fT3⟩) hHeld ?gT3
  case fT3 => intro w hSw; (try dsimp only at hSw); go_simp; (try with_reducible rfl)
  case aT3 => kernel_rfl
  case bT3 => kernel_rfl
  case cT3 => kernel_rfl
  case dT3 => exact fun _ _ _ h => h
  case eT3 => rfl
  simp only [Act.put, List.getElem_toArray, List.getElem_cons_zero, List.getElem_cons_succ, List.setIfInBounds_toArray, List.set_cons_zero, List.set_cons_succ]
  refine wpAnyH_take (i := 3) (v := ?vT4) rfl ?aT4 ?bT4 ?cT4 ?dT4 (Or.inl ⟨?eT4, ?fT4⟩) hHeld ?gT4
  case fT4 => intro w hSw; (try dsimp only at hSw); go_simp; (try with_reducible rfl)
  case aT4 => kernel_rfl
  case bT4 => kernel_rfl
  case cT4 => kernel_rfl
  case dT4 => exact fun _ _ _ h => h
  case eT4 => rfl
  simp only [Act.put, List.getElem_toArray, List.getElem_cons_zero, List.getElem_cons_succ, List.setIfInBounds_toArray, List.set_cons_zero, List.set_cons_succ]
  refine wpAnyH_take (i := 5) (v := ?vT5) rfl ?aT5 ?bT5 ?cT5 ?dT5 (Or.inl ⟨?eT5, ?fT5⟩) hHeld ?gT5
  case fT5 => intro w hSw; (try dsimp only at hSw); go_simp; (try with_reducible rfl)
  case aT5 => kernel_rfl
  case bT5 => kernel_rfl
  case cT5 => kernel_rfl
  case dT5 => exact fun _ _ _ h => h
  case eT5 => rfl
  simp only [Act.put, List.getElem_toArray, List.getElem_cons_zero, List.getElem_cons_succ, List.setIfInBounds_toArray, List.set_cons_zero, List.set_cons_succ]
  refine wpAnyH_take (i := 6) (v := ?vT6) rfl ?aT6 ?bT6 ?cT6 ?dT6 (Or.inl ⟨?eT6, ?fT6⟩) hHeld ?gT6
  case fT6 => intro w hSw; (try dsimp only at hSw); go_simp; (try with_reducible rfl)
  case aT6 => kernel_rfl
  case bT6 => kernel_rfl
  case cT6 => kernel_rfl
  case dT6 => exact fun _ _ _ h => h
  case eT6 => rfl
  simp only [Act.put, List.getElem_toArray, List.getElem_cons_zero, List.getElem_cons_succ, List.setIfInBounds_toArray, List.set_cons_zero, List.set_cons_succ]
  refine wpAnyH_take (i := 7) (v := ?vT7) rfl ?aT7 ?bT7 ?cT7 ?dT7 (Or.inl ⟨?eT7, ?fT7⟩) hHeld ?gT7
  case fT7 => intro w hSw; (try dsimp only at hSw); go_simp; (try with_reducible rfl)
  case aT7 => kernel_rfl
  case bT7 => kernel_rfl
  case cT7 => kernel_rfl
  case dT7 => exact fun _ _ _ h => h
  case eT7 => rfl
  simp only [Act.put, List.getElem_toArray, List.getElem_cons_zero, List.getElem_cons_succ, List.setIfInBounds_toArray, List.set_cons_zero, List.set_cons_succ]
  refine wpAnyH_take (i := 8) (v := ?vT8) rfl ?aT8 ?bT8 ?cT8 ?dT8 (Or.inl ⟨?eT8, ?fT8⟩) hHeld ?gT8
  case fT8 => intro w hSw; (try dsimp only at hSw); go_simp; (try with_reducible rfl)
  case aT8 => kernel_rfl
  case bT8 => kernel_rfl
  case cT8 => kernel_rfl
  case dT8 => exact fun _ _ _ h => h
  case eT8 => rfl
  simp only [Act.put, List.getElem_toArray, List.getElem_cons_zero, List.getElem_cons_succ, List.setIfInBounds_toArray, List.set_cons_zero, List.set_cons_succ]
  refine wpAnyH_ready (rs := [4]) (by kernel_rfl) (by simp) ?_
  refine (AllReadyH.cons (o := _) rfl (fun K hK => ?_) AllReadyH.nil)
  go_simp
  refine (H64.out _).mono ?_
  rintro e9 w9 ⟨rfl, hw9⟩
  have hw9' : W = w9 := hw9.symm
  subst hw9'
  clear hw9
  go_wp2_with fail
  refine hK.out _ _ s0 (fun _ => ?_)
  clear hK K
  refine wpAnyH_ready (rs := [9]) (by kernel_rfl) (by simp) ?_
  refine (AllReadyH.cons (o := _) rfl (fun K hK => ?_) AllReadyH.nil)
  go_simp
  refine (H32.out _).mono ?_
  rintro e9 w9 ⟨rfl, hw9⟩
  have hw9' : W = w9 := hw9.symm
  subst hw9'
  clear hw9
  go_wp2_with fail
  refine hK.out _ _ s0 (fun _ => ?_)
  clear hK K
  refine wpAnyH_ready (rs := [10]) (by kernel_rfl) (by simp) ?_
  refine (AllReadyH.cons (o := _) rfl (fun K hK => ?_) AllReadyH.nil)
  go_simp
  have s1 : (fun w' => ((w'.cell? ⟨w.heap.size, 0, none⟩ = some (.int .u64 (a.hash : Int)) ∧ w'.cell? ⟨w.heap.size, 1, none⟩ = some (.int .u32 (a.at_ : Int))) ∧ (w'.cell? ⟨w.heap.size + 1, 0, none⟩ = some (.int .u64 (b.hash : Int)) ∧ w'.cell? ⟨w.heap.size + 1, 1, none⟩ = some (.int .u32 (b.at_ : Int))))) (W.alloc (.cells #[.int .i64 X, .int .i64 Y] 3)) := And.intro (And.intro ((HA.out.alloc _).cell 0 rfl) ((HA.out.alloc _).cell 1 rfl)) (And.intro ((HB.out.alloc _).cell 0 rfl) ((HB.out.alloc _).cell 1 rfl))
  have HR := (or_own W.heap.size X Y (W.alloc (.cells #[.int .i64 X, .int .i64 Y] 3)) (Whole.cell (Whole.new W 3 #[.int .i64 X, .int .i64 Y]) 0 rfl) (Whole.cell (Whole.new W 3 #[.int .i64 X, .int .i64 Y]) 1 rfl))
  rw [HO.out] at HR
  have HR := Lib.hid HR
  have HG := Lib.hid (HG.out.alloc (.cells #[.int .i64 X, .int .i64 Y] 3))
  refine hK.out _ _ s1 (fun _ => ?_)
  clear hK K
  refine wpAnyH_ready (rs := [11]) (by kernel_rfl) (by simp) ?_
  refine (AllReadyH.cons (o := _) rfl (fun K hK => ?_) AllReadyH.nil)
  go_simp
  refine HR.out.mono ?_
  rintro e9 w9 ⟨rfl, hw9⟩
  subst hw9
  go_wp2_with fail
  refine hK.out _ _ s1 (fun _ => ?_)
  clear hK K
  refine wpAnyH_take (i := 12) (v := ?vT9) rfl ?aT9 ?bT9 ?cT9 ?dT9 (Or.inl ⟨?eT9, ?fT9⟩) s1 ?gT9
  case fT9 => intro w hSw; (try dsimp only at hSw); go_simp; (try with_reducible rfl)
  case aT9 => kernel_rfl
  case bT9 => kernel_rfl
  case cT9 => kernel_rfl
  case dT9 => exact fun _ _ _ h => h
  case eT9 => rfl
  simp only [Act.put, List.getElem_toArray, List.getElem_cons_zero, List.getElem_cons_succ, List.setIfInBounds_toArray, List.set_cons_zero, List.set_cons_succ]
  refine wpAnyH_done (by kernel_rfl) ?_ _
  go_wp2_with fail
  go_ret
  exact ⟨rfl, by first | exact HG.out | exact HG.out.drew⟩
theorem compare_own (a b : En) (w : World) : Calls Try.prog 10 #[enV a, enV b] w fun e w' => e = .returned (.int .i64 (cmpE a b)) ∧ Keeps NoBlock w w' :=
  (compare_grown a b w).mono fun _ _ ⟨h, g⟩ => ⟨h, g.keeps⟩
theorem cmp_ok : CmpOk := ⟨fun a b w _ _ => compare_own a b w⟩
end Go.Proofs.Ytbchiccgkhnkaaa

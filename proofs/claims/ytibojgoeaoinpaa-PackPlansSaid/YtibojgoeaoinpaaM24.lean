/-
  PkPlanOwn; PkAll; OpenCf; OpenZ; Open16; Open9.
-/
import Derived.Lib.SmallJoins
import Derived.Test.YtibojgoeaoinpaaM08
import Derived.Test.YtibojgoeaoinpaaM09
import Derived.Test.YtibojgoeaoinpaaM14
import Derived.Test.YtibojgoeaoinpaaM21
import Derived.Test.YtibojgoeaoinpaaM23
namespace Go.Proofs.Ytibojgoeaoinpaa
open Go.RowKit

def u32P (x : Nat) : Value := .int .u32 (x : Int)
theorem infoU32P : (Try.prog.info? 22).map (fun i => (i.zero, i.size, i.bytes)) = some (some (.int .u32 0), 1, 4) := by kernel_rfl
theorem ones_apart {w0 wr : World} {l : List Nat} {v : Value} {g : Nat} {t : TypeId} {cs : Array Value} (h : OnesSoFar u32P 22 w0 l v wr) (hw : Whole wr g t cs) (ht : t ≠ 22) : v.ownBlock ≠ some g := fun e => by
  rcases h.1.2 with ⟨rfl, _⟩ | ⟨g', cap, cur, rfl, _, hg, _⟩
  · simp [Value.ownBlock] at e
  · simp only [Value.ownBlock, Option.some.injEq] at e
    subst e
    have := (show wr.heap[g']? = _ from hw).symm.trans hg
    simp at this
    exact ht this.2
theorem ones_set5 {w0 wr : World} {l : List Nat} {v : Value} (h : OnesSoFar u32P 22 w0 l v wr) {g : Nat} (hp : v.ownBlock ≠ some g) (hb : w0.heap.size ≤ g) (a b c d e : Value) :
    OnesSoFar u32P 22 w0 l v (((((wr.setCell ⟨g, 0, none⟩ a).setCell ⟨g, 1, none⟩ b).setCell ⟨g, 2, none⟩ c).setCell ⟨g, 3, none⟩ d).setCell ⟨g, 4, none⟩ e) :=
  ((((h.setOther (p := ⟨g, 0, none⟩) hp hb a).setOther (p := ⟨g, 1, none⟩) hp hb b).setOther (p := ⟨g, 2, none⟩) hp hb c).setOther (p := ⟨g, 3, none⟩) hp hb d).setOther (p := ⟨g, 4, none⟩) hp hb e
theorem addP_either (r : Rm) (z : Int) : (addP r z).1 = 0 ∨ (addP r z).1 = 7 := by
  unfold addP
  split
  · exact .inl rfl
  · split
    · exact .inr rfl
    · exact .inl rfl
theorem step_add {e s : Nat} {r : Rm} {O : List Nat} {z : Int} (he : r.e = e) (hs : r.s = s) (hf : fitsP (emptyP e s (s - 1)) z = true) :
    stepP e s ⟨0, r, O⟩ z = if (addP r z).1 = 0 then ⟨0, (addP r z).2, O ++ [(addP r z).2.num]⟩ else ⟨7, Rm.none, []⟩ := by
  subst he
  subst hs
  unfold stepP addP
  rw [if_neg (by simp), if_pos hf]
  by_cases h1 : fitsP r z = true
  · rw [if_pos h1, if_pos h1]
    rfl
  · rw [if_neg h1, if_neg h1]
    by_cases h2 : r.s ≤ r.num + 1
    · rw [if_pos h2, if_pos h2]
      rfl
    · rw [if_neg h2, if_neg h2]
      rfl
theorem NewRow32.none {w w' : World} (hk : Keeps NoBlock w w') : NewRow32 w [] (.slice none 0 0) w' :=
  ⟨Option.none, 0, 0, rfl, rfl, Nat.le_refl _, by decide, fun _ => ⟨rfl, rfl⟩, fun i hi => by simp at hi, hk⟩

set_option maxHeartbeats 4000000 in
set_option maxRecDepth 10000 in
theorem plan_not (e s : Nat) (p : Option Addr) (n c : Nat) (zs : List Int) (he : e < 256) (hs : s < 4294967296) (hm : mayC e s ≠ true) (w : World) :
    Calls Try.prog 16 #[confV e s, .slice p n c] w fun r w' => ∃ v, r = .returned (.tuple #[v, .int .i64 (planP e s zs).1]) ∧ NewRow32 w (planP e s zs).2 v w' := by
  have HE := Lib.hid (fun w => empty_own e s 0 w he hs (by decide))
  simp only [if_neg (not_head hm 0)] at HE
  rw [show planP e s zs = (1, []) from by unfold planP; rw [if_neg hm]]
  have HW := Lib.hid (Whole.new w 24 (confCells e s))
  have HK := Lib.hid ((Keeps.refl NoBlock w).alloc (.cells (confCells e s) 24))
  obtain ⟨c0, c1⟩ := And.intro (HW.out.cell 0 rfl) (HW.out.cell 1 rfl)
  simp only [confCells, List.getElem_toArray, List.getElem_cons_zero, List.getElem_cons_succ] at c0 c1
  clear hm he hs
  unfold confV roomV Rm.none at *
  unfold confCells at HW HK
  go_enter Try.func16, Try.ntmps16
  go_wp2_with fail
  refine (HE.out _).mono ?_
  rintro r w1 ⟨rfl, hk⟩
  have HK := Lib.hid ((HK.out.trans hk).alloc (.cells #[.int .u8 0, .int .u32 0, .int .u32 0, .int .i64 0, .int .i64 0] 28))
  clear hk c0 c1
  go_wp2_with fail
  exact bodyPost_ret (results_tmp2 rfl _ _ _) rfl ⟨_, rfl, NewRow32.none HK.out⟩

set_option maxHeartbeats 16000000 in
set_option maxRecDepth 10000 in
theorem plan_may (e s : Nat) (p : Option Addr) (n c : Nat) (zs : List Int) (he : e < 256) (hs : s < 4294967296) (hm : mayC e s = true) (hn9 : n ≤ 10000) (w : World) (hz : InZ w p n c zs) :
    Calls Try.prog 16 #[confV e s, .slice p n c] w fun r w' => ∃ v, r = .returned (.tuple #[v, .int .i64 (planP e s zs).1]) ∧ NewRow32 w (planP e s zs).2 v w' := by
  obtain ⟨m1, m2, m3, m4⟩ := mayC_true.1 hm
  have hzero : mayHead e s 0 = true := mayHead_true.2 ⟨m1, m2, m3, m4, by omega⟩
  have HE := Lib.hid (fun w => empty_own e s 0 w he hs (by decide))
  simp only [if_pos hzero] at HE
  have HN := Lib.hid (fun w => narrow_own e s w he hs)
  have HF := Lib.hid (fun z w => fitsN_own e s z w)
  have HA := Lib.hid (fun r z w (hr : r.Real) (h1 : r.count < 10000) hf => add_own r z w hr h1 hf)
  have HStep := Lib.hid (fun j (h : j < zs.length) => runP_step (e := e) (s := s) h)
  have HReal := Lib.hid (fun j (hj : j ≤ 10000) => runP_real hm (zs.take j) (by rw [List.length_take]; omega))
  have HGone := Lib.hid (fun j y (hy : (y : Int) ≠ 0) h => planP_gone (e := e) (s := s) (zs := zs) (j := j) hm hy h)
  have HAll := Lib.hid (show planP e s zs = ((runP e s zs).y, (runP e s zs).out) from by unfold planP; rw [if_pos hm])
  have HZ0 := Lib.hid (runP_zero e s zs)
  have HNar := Lib.hid (fun z (h : fitsN e s z = true) => (Bool.and_eq_true _ _ ▸ h : mayC e s = true ∧ fitsP (emptyP e s (s - 1)) z = true).2)
  have HNot := Lib.hid (fun z (h : fitsN e s z ≠ true) => (show fitsP (emptyP e s (s - 1)) z ≠ true from fun h2 => h (by unfold fitsN; rw [hm, h2]; rfl)))
  have HLn := Lib.hid hz.len
  have HFi := Lib.hid hz.fine
  have HAt := Lib.hid hz.at_
  have HC0 := Lib.hid (Whole.new w 24 (confCells e s))
  have HK0 := Lib.hid ((Keeps.refl NoBlock w).alloc (.cells (confCells e s) 24))
  clear hm hz hzero
  obtain ⟨PL, hPL⟩ : ∃ P, P = planP e s zs := ⟨_, rfl⟩
  rw [← hPL] at HGone HAll ⊢
  obtain ⟨RM, hRM⟩ : ∃ R, R = narrowP e s := ⟨_, rfl⟩
  rw [← hRM] at HN HF
  obtain ⟨R0, hR0⟩ : ∃ R, R = emptyP e s 0 := ⟨_, rfl⟩
  rw [← hR0] at HE HZ0
  obtain ⟨i0, hi, hz0, hz1, hz2⟩ := info_parts infoU32P
  clear hPL hRM hR0 m1 m2 m3 m4 he
  unfold confV at HE HN ⊢
  unfold roomV at HE HN HF HA
  go_enter Try.func16, Try.ntmps16
  obtain ⟨c0, c1⟩ := And.intro (HC0.out.cell 0 rfl) (HC0.out.cell 1 rfl)
  simp only [confCells, List.getElem_toArray, List.getElem_cons_zero, List.getElem_cons_succ] at c0 c1
  go_wp2_with fail
  refine (HE.out _).mono ?_
  rintro r w1 ⟨rfl, hk⟩
  have HC := Lib.hid ((HC0.out.keep hk (fun h => h)).alloc (.cells (roomCells R0) 28))
  have HR := Lib.hid (Whole.new w1 28 (roomCells R0))
  have HK := Lib.hid ((HK0.out.trans hk).alloc (.cells (roomCells R0) 28))
  have HB := Lib.hid (show w.heap.size < w1.heap.size by have := hk.size; simp at this; omega)
  clear hk c0 c1 HE HC0 HK0
  obtain ⟨c0, c1⟩ := And.intro (HC.out.cell 0 rfl) (HC.out.cell 1 rfl)
  simp only [confCells, List.getElem_toArray, List.getElem_cons_zero, List.getElem_cons_succ] at c0 c1
  unfold roomCells at c0 c1
  go_wp2_with fail
  refine (HN.out _).mono ?_
  rintro r w2 ⟨rfl, hk⟩
  have HR := Lib.hid ((HR.out.keep hk (fun h => h)).alloc (.cells (roomCells RM) 28))
  have HX := Lib.hid (Whole.new w2 28 (roomCells RM))
  have HK := Lib.hid ((HK.out.trans hk).alloc (.cells (roomCells RM) 28))
  have HG := Lib.hid (show w1.heap.size < w2.heap.size by have := hk.size; simp at this; omega)
  clear hk c0 c1 HN HC
  obtain ⟨W0, hW0⟩ : ∃ W, W = w2.alloc (.cells (roomCells RM) 28) := ⟨_, rfl⟩
  rw [← hW0] at HK HR HX
  unfold roomCells at hW0
  go_upto_region 5 with (fail)
  rw [← hW0]
  clear hW0
  go_wp2_with (at_make; refine wpList_make_own _ rfl _ _ 43 rfl w.heap.size 22 i0 (.int .u32 0) 1 Try.underlying43 hi hz0 hz1 .i64 .i64 (n : Int) n rfl rfl rfl (by rw [hz2]; omega) (by unfold maxLen; omega) (by have := HK.out.size; omega) ?_)
  intro w3 hrow hgrow
  have hkg : Keeps NoBlock W0 w3 := Keeps.ofBelow ((Below.refl _ W0).grown hgrow (Nat.le_refl _) (fun k hk => by cases hk))
  have HS0 : Hid (OnesSoFar u32P 22 w [] (.slice (some ⟨W0.heap.size, 0, none⟩) 0 n) w3) := Lib.hid ⟨hrow, (HK.out.trans hkg).below (Nat.le_refl _) (fun _ _ h => h)⟩
  have HR := Lib.hid (HR.out.keep hkg (fun h => h))
  have HX := Lib.hid (HX.out.keep hkg (fun h => h))
  clear hrow hgrow hkg HK
  go_wp2_with fail
  go_loopw [9, 27] (fun v i wr => ∃ j : Nat, j ≤ n ∧ i = .int .i64 (j : Int) ∧ Hid ((runP e s (zs.take j)).y = 0) ∧ Hid (OnesSoFar u32P 22 w (runP e s (zs.take j)).out v wr) ∧ Hid (Whole wr w1.heap.size 28 (roomCells (runP e s (zs.take j)).r)) ∧ Hid (Whole wr w2.heap.size 28 (roomCells RM))) (fun _ i _ => n - (intOf i).toNat)
  case atStart =>
    refine ⟨0, Nat.zero_le _, rfl, Lib.hid (by rw [HZ0.out]), Lib.hid ?_, ?_, HX⟩
    · rw [HZ0.out]
      exact HS0.out
    · rw [HZ0.out]
      exact HR
  case round =>
    clear HS0 HR HX HZ0
    obtain ⟨j, hj, rfl, HY, HS, HR, HX⟩ := hrel
    by_cases hlt : j < n
    rotate_left
    · have hdj : decide ((j : Int) < (n : Int)) = false := decide_eq_false (by omega)
      have hdj2 : decide (j < n) = false := decide_eq_false hlt
      have hT : zs.take j = zs := List.take_of_length_le (by have := HLn.out; omega)
      rw [hT] at HY HS
      go_wp2_with fail
      refine bodyPost_ret (results_tmp2 rfl _ _ _) rfl ?_
      obtain ⟨qw, mw, dw, rfl, hmw, hmwd, hdw, hqw, hatw, hkw⟩ := HS.out.new (dd := 0)
      refine ⟨_, by rw [HAll.out, HY.out]; rfl, ?_⟩
      rw [HAll.out]
      exact ⟨qw, mw, dw, rfl, hmw, hmwd, hdw, hqw, hatw, hkw⟩
    have hdj : decide ((j : Int) < (n : Int)) = true := decide_eq_true (by omega)
    have hdj2 : decide (j < n) = true := decide_eq_true hlt
    have hjl : j < zs.length := by rw [← HLn.out]; exact hlt
    obtain ⟨a, rfl, a0⟩ := (HAt.out.keep HS.out.keeps (fun _ _ h => h)) j hjl
    have hzr := HFi.out _ (getI_mem hjl)
    have hstep := HStep.out j hjl
    obtain ⟨hreal, hre, hrs, hrc⟩ := HReal.out j (by omega) HY.out
    have hol := runP_out (e := e) (s := s) (zs.take j) HY.out
    obtain ⟨z, hz⟩ : ∃ z, z = zs.getD j 0 := ⟨_, rfl⟩
    rw [← hz] at a0 hzr hstep
    obtain ⟨st, hst⟩ : ∃ st, st = runP e s (zs.take j) := ⟨_, rfl⟩
    rw [← hst] at hstep hreal hre hrs hrc HY HS HR hol
    obtain ⟨y, r, O⟩ := st
    obtain rfl : y = 0 := HY.out
    simp only at hreal hre hrs hrc HS HR hol
    unfold intV at a0
    have hO9 : O.length ≤ 1000000 := by rw [hol, List.length_take]; omega
    have hrc9 : r.count < 10000 := by rw [List.length_take] at hrc; omega
    obtain ⟨c0, c1, c2, c3, c4⟩ := room_at5 HX.out
    clear hz hst hjl hol hrc
    have HJ := Lib.hid (And.intro hj hlt)
    have HFz := Lib.hid (HF.out z)
    by_cases hfm : fitsN e s z = true
    rotate_left
    · have HG6 := Lib.hid (HGone.out (j + 1) 6 (by decide) (by rw [hstep]; unfold stepP; rw [if_neg (by simp), if_neg (HNot.out z hfm)]))
      have hfm0 : fitsN e s z = false := by simpa using hfm
      rw [hfm0] at HFz
      clear hstep hfm hfm0 hreal HY hre hrs hzr hrc9 hO9
      go_wp2_with fail
      refine (HFz.out _).mono ?_
      rintro x w5 ⟨rfl, hk⟩
      have HK := Lib.hid (OnesSoFar.keeps (HS.out.keep hk))
      clear hk
      go_wp2_with fail
      exact bodyPost_ret (results_tmp2 rfl _ _ _) rfl ⟨_, by rw [HG6.out]; rfl, by rw [HG6.out]; exact NewRow32.none HK.out⟩
    have hfz := HNar.out z hfm
    rw [hfm] at HFz
    have HAr := Lib.hid (fun w => HA.out r z w hreal hrc9 (by rw [hre, hrs]; exact hfz))
    rw [step_add hre hrs hfz] at hstep
    have hei := addP_either r z
    obtain ⟨⟨y, R2⟩, hAd⟩ : ∃ A, A = addP r z := ⟨_, rfl⟩
    rw [← hAd] at HAr hstep hei
    simp only at HAr hstep hei
    have HSt := Lib.hid hstep
    clear hstep hfm hfz hreal HY hre hrs hzr hrc9 hAd
    go_wp2_with fail
    refine (HFz.out _).mono ?_
    rintro x w5 ⟨rfl, hk⟩
    have HR := Lib.hid (HR.out.keep hk (fun h => h))
    have HX := Lib.hid (HX.out.keep hk (fun h => h))
    have HS := Lib.hid (HS.out.keep hk)
    clear hk c0 c1 c2 c3 c4
    obtain ⟨c0, c1, c2, c3, c4⟩ := room_at5 HR.out
    go_wp2_with fail
    refine (HAr.out _).mono ?_
    rintro x wq ⟨rfl, hk⟩
    have HR := Lib.hid (HR.out.keep hk (fun h => h))
    have HX := Lib.hid (HX.out.keep hk (fun h => h))
    have HS := Lib.hid (HS.out.keep hk)
    clear hk c0 c1 c2 c3 c4
    obtain ⟨d0, d1, d2, d3, d4⟩ := room_at5 HR.out
    obtain ⟨q0, q1, q2, q3, q4⟩ := room_free HR.out
    have hap := ones_apart HS.out HR.out (show 28 ≠ 22 by decide)
    have HS := Lib.hid (ones_set5 HS.out hap (Nat.le_of_lt HB.out) (.int .u8 (R2.e : Int)) (.int .u32 (R2.s : Int)) (.int .u32 (R2.num : Int)) (.int .i64 (R2.used : Int)) (.int .i64 (R2.count : Int)))
    have HX := Lib.hid (HX.out.far5 (k := w1.heap.size) (by have := HG.out; omega) (.int .u8 (R2.e : Int)) (.int .u32 (R2.s : Int)) (.int .u32 (R2.num : Int)) (.int .i64 (R2.used : Int)) (.int .i64 (R2.count : Int)))
    have HR := Lib.hid (show Whole _ w1.heap.size 28 (roomCells R2) from Whole.set5 HR.out (.int .u8 (R2.e : Int)) (.int .u32 (R2.s : Int)) (.int .u32 (R2.num : Int)) (.int .i64 (R2.used : Int)) (.int .i64 (R2.count : Int)))
    by_cases hy : y = 0
    rotate_left
    · obtain rfl : y = 7 := by omega
      have HG7 := Lib.hid (HGone.out (j + 1) 7 (by decide) (by rw [HSt.out, if_neg hy]))
      have HK := Lib.hid HS.out.keeps
      clear HSt HS HX HR hap hei
      go_wp2_with fail
      exact bodyPost_ret (results_tmp2 rfl _ _ _) rfl ⟨_, by rw [HG7.out]; rfl, by rw [HG7.out]; exact NewRow32.none HK.out⟩
    subst hy
    have HSu := Lib.hid (show runP e s (zs.take (j + 1)) = ⟨0, R2, O ++ [R2.num]⟩ from by rw [HSt.out, if_pos rfl])
    clear HSt
    obtain ⟨k0, k1, k2, k3, k4⟩ := room_at5 HR.out
    obtain ⟨W9, hW9⟩ : ∃ W, W = (((((wq.setCell ⟨w1.heap.size, 0, none⟩ (.int .u8 (R2.e : Int))).setCell ⟨w1.heap.size, 1, none⟩ (.int .u32 (R2.s : Int))).setCell ⟨w1.heap.size, 2, none⟩ (.int .u32 (R2.num : Int))).setCell ⟨w1.heap.size, 3, none⟩ (.int .i64 (R2.used : Int))).setCell ⟨w1.heap.size, 4, none⟩ (.int .i64 (R2.count : Int))) := ⟨_, rfl⟩
    rw [← hW9] at HS HX HR k0 k1 k2 k3 k4
    have HS2 := Lib.hid (HS.out.alloc (.cells #[.int .u32 (R2.num : Int)] 22))
    have HNw : Hid (Whole (W9.alloc (.cells #[.int .u32 (R2.num : Int)] 22)) W9.heap.size 22 #[.int .u32 (R2.num : Int)]) := Lib.hid (Whole.new _ _ _)
    have HX := Lib.hid (HX.out.alloc (.cells #[.int .u32 (R2.num : Int)] 22))
    have HR := Lib.hid (HR.out.alloc (.cells #[.int .u32 (R2.num : Int)] 22))
    have hp1 := ones_apart HS2.out HR.out (show 28 ≠ 22 by decide)
    have hp2 := ones_apart HS2.out HX.out (show 28 ≠ 22 by decide)
    clear hap hei HS
    go_upto_region 14 with (fail)
    rw [← hW9]
    clear hW9
    go_wp2_with (at_builtin; refine wpList_append_oneG (v0 := u32P) rfl _ _ 43 rfl 22 i0 (.int .u32 0) 4 Try.underlying43 hi hz0 hz1 hz2 rfl _ O rfl HS2.out W9.heap.size R2.num rfl (HNw.out.cell 0 rfl) rfl (by omega) (by omega) ?_)
    intro v' w10 h10 hg10
    have HR := Lib.hid (HR.out.grown hg10 hp1)
    have HX := Lib.hid (HX.out.grown hg10 hp2)
    have HS := Lib.hid h10
    clear h10 hg10 hp1 hp2 k0 k1 k2 k3 k4
    have hJ := HJ.out
    go_wp2_with fail
    exact ⟨⟨j + 1, by omega, by go_num, Lib.hid (by rw [HSu.out]), Lib.hid (by rw [HSu.out]; exact HS.out), by rw [HSu.out]; exact HR, HX⟩, by simp [intOf]; omega⟩
theorem plan_own (e s : Nat) (p : Option Addr) (n c : Nat) (zs : List Int) (w : World) (he : e < 256) (hs : s < 4294967296) (hz : InZ w p n c zs) (hn9 : n ≤ 10000) :
    Calls Try.prog 16 #[confV e s, .slice p n c] w fun r w' => ∃ v, r = .returned (.tuple #[v, .int .i64 (planP e s zs).1]) ∧ NewRow32 w (planP e s zs).2 v w' := by
  by_cases hm : mayC e s = true
  · exact plan_may e s p n c zs he hs hm hn9 w hz
  · exact plan_not e s p n c zs he hs hm w
end Go.Proofs.Ytibojgoeaoinpaa

namespace Go.Proofs.Ytibojgoeaoinpaa
open Go.RowKit

theorem pkplan_ok : PkPlanOk := ⟨fun e s p n c zs w he hs hz hn => plan_own e s p n c zs w he hs hz (by omega)⟩
theorem pklarge_ok : PkLargeOk := ⟨fun e s z w he hs _ _ => large_own e s z w he hs⟩
theorem pkempty_ok : PkEmptyOk := ⟨fun e s n w he hs hn => empty_own e s n w he hs hn⟩
theorem pkfits_ok : PkFitsOk := ⟨fun r z w hr _ _ => fits_own r z w hr⟩
theorem pkleft_ok : PkLeftOk := ⟨fun r w hr => left_own r w hr⟩
theorem pktake_ok : PkTakeOk := ⟨fun r z w hr hc _ _ => take_own r z w hr hc⟩
end Go.Proofs.Ytibojgoeaoinpaa

namespace Go.Proofs.Ytibojgoeaoinpaa
open Go.Joins Go.ChangeShapes Go.WideShapes Go.ChangeAt Go.RowKit Go.Deep

theorem num_u64 {n : Int} (h : (Lit.int .u64 n).wf = true) : ∃ x : Nat, n = (x : Int) ∧ x < 18446744073709551616 := by
  have : 0 ≤ n ∧ n ≤ 18446744073709551615 := by simpa [Lit.wf, IntKind.min, IntKind.max, IntKind.signed, IntKind.bits] using h
  exact ⟨n.toNat, by omega, by omega⟩

set_option maxRecDepth 100000 in
theorem open_conf {H : Type} {enc : TypeId × Value → H} {W : World} {base : Nat} {v : Value} {d : DataW H} {ps : List MemPlace} (hv : Value.okWide Try.prog W .any base 24 v) (h : DataW.Trod enc Try.prog W 0 (fun _ => true) true 24 v d ps) :
    ∃ e s : Nat, v = confV e s ∧ e < 256 ∧ s < 4294967296 := by
  obtain ⟨v0, v1, y0, y1, n, rfl, _, _, t0, t1⟩ := open_agg2 Try.underlying24 (by kernel_rfl) (by kernel_rfl) hv h
  obtain ⟨a, e0, _, w0⟩ := DataW.trod_int Try.underlying5 t0
  obtain ⟨b, e1, _, w1⟩ := DataW.trod_int Try.underlying22 t1
  have ha : 0 ≤ a ∧ a ≤ 255 := by simpa [Lit.wf, IntKind.min, IntKind.max, IntKind.signed, IntKind.bits] using w0
  have hb : 0 ≤ b ∧ b ≤ 4294967295 := by simpa [Lit.wf, IntKind.min, IntKind.max, IntKind.signed, IntKind.bits] using w1
  obtain rfl : v0 = .int .u8 a := by simpa using e0
  obtain rfl : v1 = .int .u32 b := by simpa using e1
  obtain ⟨x, rfl⟩ : ∃ x : Nat, a = (x : Int) := ⟨a.toNat, by omega⟩
  obtain ⟨y, rfl⟩ : ∃ y : Nat, b = (y : Int) := ⟨b.toNat, by omega⟩
  exact ⟨x, y, rfl, by omega, by omega⟩
end Go.Proofs.Ytibojgoeaoinpaa

namespace Go.Proofs.Ytibojgoeaoinpaa
open Go.ChangeShapes Go.WideShapes Go.ChangeAt Go.RowKit

theorem i64_wf {n : Int} (h : (Lit.int .i64 n).wf = true) : -9223372036854775808 ≤ n ∧ n ≤ 9223372036854775807 := by
  simpa [Lit.wf, IntKind.min, IntKind.max, IntKind.signed, IntKind.bits] using h

set_option maxRecDepth 100000 in
/-- An argument that is a row of ints. -/
theorem open_ints64 {H : Type} {enc : TypeId × Value → H} {W : World} {base : Nat} {v : Value} {d : DataW H} {ps : List MemPlace} (hv : Value.okWide Try.prog W .any base 25 v) (h : DataW.Trod enc Try.prog W 0 (fun _ => true) true 25 v d ps) :
    ∃ (p : Option Addr) (n c : Nat) (zs : List Int), v = .slice p n c ∧ InZ W p n c zs := by
  obtain ⟨a0, len, cap, rfl⟩ := okWide_slice Try.underlying25 hv
  obtain ⟨fuel, hf⟩ := h
  rcases open_ints Try.underlying25 Try.underlying3 (by kernel_rfl) hf with ⟨hcs, hx⟩ | ⟨a, len', cap', zs, hcs, _, hl, hm, hz, hx, hcell, hwz⟩
  · simp [Value.cells] at hcs
    obtain ⟨rfl, rfl, rfl⟩ := hcs
    exact ⟨none, 0, 0, [], rfl, rfl, Nat.le_refl _, by decide, fun _ => ⟨rfl, rfl⟩, fun b hb => by simp at hb, fun i hi => by simp at hi⟩
  · simp [Value.cells] at hcs
    obtain ⟨rfl, rfl, rfl⟩ := hcs
    simp only [if_true] at hz
    have hxl : (zs.take len).length = len := by simp; omega
    refine ⟨some a, len, cap, zs.take len, rfl, hxl.symm, hl, by unfold maxLen at hm; omega, fun h => by simp at h, fun b hb => i64_wf (hwz b (List.mem_of_mem_take hb)), fun i hi => ⟨a, rfl, ?_⟩⟩
    rw [hxl] at hi
    rw [hcell i (by omega)]
    have e : (zs.take len).getD i 0 = zs.getD i 0 := by
      rw [List.getD_eq_getElem?_getD, List.getD_eq_getElem?_getD, List.getElem?_take, if_pos hi]
    rw [e]
    rfl
end Go.Proofs.Ytibojgoeaoinpaa

namespace Go.Proofs.Ytibojgoeaoinpaa

theorem u16_in {n : Int} (h : (Lit.int .u16 n).wf = true) : 0 ≤ n ∧ n < 65536 := by
  have : 0 ≤ n ∧ n ≤ 65535 := by simpa [Lit.wf, IntKind.min, IntKind.max, IntKind.signed, IntKind.bits] using h
  omega
end Go.Proofs.Ytibojgoeaoinpaa

namespace Go.Proofs.Ytibojgoeaoinpaa
open Go.RowKit

theorem u8_in {n : Int} (h : (Lit.int .u8 n).wf = true) : 0 ≤ n ∧ n < 256 := by
  simp [Lit.wf, IntKind.min, IntKind.max, IntKind.signed, IntKind.bits] at h
  omega
theorem nat_u8 {z : Int} (h : (Lit.int .u8 z).wf = true) : ∃ k : Nat, z = (k : Int) ∧ k < 256 := by
  obtain ⟨h1, h2⟩ := u8_in h
  exact ⟨z.toNat, by omega, by omega⟩
theorem nat_u32 {z : Int} (h : (Lit.int .u32 z).wf = true) : ∃ k : Nat, z = (k : Int) ∧ k < 4294967296 := by
  simp [Lit.wf, IntKind.min, IntKind.max, IntKind.signed, IntKind.bits] at h
  exact ⟨z.toNat, by omega, by omega⟩
theorem nat_u16 {z : Int} (h : (Lit.int .u16 z).wf = true) : ∃ k : Nat, z = (k : Int) ∧ k < 65536 := by
  obtain ⟨h1, h2⟩ := u16_in h
  exact ⟨z.toNat, by omega, by omega⟩
end Go.Proofs.Ytibojgoeaoinpaa

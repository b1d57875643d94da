/-
  PkRoWalk; FenByIn; BufK; FenOwn; RecRow; RecRise.
-/
import Derived.Test.YtibojgoeaoinpaaM02
import Derived.Test.YtibojgoeaoinpaaM03
import Derived.Test.YtibojgoeaoinpaaM05
import Derived.Test.YtibojgoeaoinpaaM06
import Derived.Test.YtibojgoeaoinpaaM07
import Derived.Test.YtibojgoeaoinpaaM09
import Derived.Test.YtibojgoeaoinpaaM10
import Derived.Test.YtibojgoeaoinpaaM12
import Derived.Test.YtibojgoeaoinpaaM15
namespace Go.Proofs.Ytibojgoeaoinpaa
open Go.RowKit

def roomStep (r : Rm) (z : Int) : Rm := if fitsP r z = true then takeP r z else r
def roomsP (r : Rm) (zs : List Int) : Rm := zs.foldl roomStep r
theorem roomsP_step {r : Rm} {zs : List Int} {j : Nat} (h : j < zs.length) : roomsP r (zs.take (j + 1)) = roomStep (roomsP r (zs.take j)) (zs.getD j 0) := by
  unfold roomsP
  rw [getI_take h, List.foldl_append]
  rfl
theorem roomsP_real {r : Rm} (h : r.Real) (h0 : r.count = 0) (zs : List Int) : ∀ j, j ≤ 1000 → j ≤ zs.length → (roomsP r (zs.take j)).Real ∧ (roomsP r (zs.take j)).count ≤ j ∧ (roomsP r (zs.take j)).e = r.e ∧ (roomsP r (zs.take j)).s = r.s ∧ (roomsP r (zs.take j)).num = r.num := by
  intro j
  induction j with
  | zero => intro _ _; exact ⟨h, Nat.le_of_eq h0, rfl, rfl, rfl⟩
  | succ j ih =>
    intro h1 h2
    obtain ⟨a, b, c, d, e⟩ := ih (by omega) (by omega)
    rw [roomsP_step (by omega)]
    obtain ⟨q, hq⟩ : ∃ q, q = roomsP r (zs.take j) := ⟨_, rfl⟩
    rw [← hq] at a b c d e ⊢
    unfold roomStep
    by_cases hf : fitsP q (zs.getD j 0) = true
    · rw [if_pos hf]
      exact ⟨real_take a hf (by omega), by show q.count + 1 ≤ _; omega, c, d, e⟩
    · rw [if_neg hf]
      exact ⟨a, by omega, c, d, e⟩
theorem conf_at {w : World} {g : Nat} {t : TypeId} {e s : Nat} (h : Whole w g t (confCells e s)) : w.cell? ⟨g, 0, none⟩ = some (.int .u8 (e : Int)) ∧ w.cell? ⟨g, 1, none⟩ = some (.int .u32 (s : Int)) := ⟨h.cell 0 rfl, h.cell 1 rfl⟩
theorem roomEq (x y : Value) (w : World) (hx : x = roomV Rm.none) (hy : y = roomV Rm.none) : (binOp .eql 28 x y).run Try.prog w = .ok (.bool true) w := by
  subst hx; subst hy
  unfold roomV Rm.none
  simp [go_sem]
theorem roomNe (x y : Value) (w : World) (hx : x = roomV Rm.none) (hy : y = roomV Rm.none) : (binOp .neq 28 x y).run Try.prog w = .ok (.bool false) w := by
  subst hx; subst hy
  unfold roomV Rm.none
  simp [go_sem]
theorem confNe (e s : Nat) (w : World) : (binOp .neq 24 (.agg #[.int .u8 (e : Int), .int .u32 (s : Int)]) (.agg #[.int .u8 (e : Int), .int .u32 (s : Int)])).run Try.prog w = .ok (.bool false) w := by
  simp [go_sem]

set_option maxHeartbeats 4000000 in
set_option maxRecDepth 10000 in
theorem pkrooms_big (H : PkPlanOk) (e s num : Nat) (p : Option Addr) (n c : Nat) (w : World) (hg : 200 < n) :
    Calls Try.prog 3 #[confV e s, .int .u32 (num : Int), .slice p n c] w fun e w' => e = .returned (.bool true) ∧ Keeps NoBlock w w' := by
  have HLv := Lib.hid (fun w => lives14_true H w)
  have HK0 := Lib.hid ((Keeps.refl NoBlock w).alloc (.cells (confCells e s) 24))
  have hgd : decide ((200 : Int) < (n : Int)) = true := decide_eq_true (by omega)
  have hgd2 : decide (200 < n) = true := decide_eq_true (by omega)
  clear H
  unfold confV
  go_enter Try.func3, Try.ntmps3
  go_wp2_with fail
  refine (HLv.out _).mono ?_
  rintro e9 w1 ⟨rfl, hk⟩
  have HK := Lib.hid (HK0.out.trans hk)
  clear hk
  go_wp2_with fail
  refine (HLv.out _).mono ?_
  rintro e9 w2 ⟨rfl, hk⟩
  have HK := Lib.hid (HK.out.trans hk)
  clear hk
  go_wp2_with fail
  go_ret
  exact ⟨rfl, HK.out⟩

set_option maxHeartbeats 4000000 in
set_option maxRecDepth 10000 in
theorem pkrooms_not (H : PkPlanOk) (HE : PkEmptyOk) (e s num : Nat) (p : Option Addr) (n c : Nat) (w : World) (he : e < 256) (hs : s < 4294967296) (hnum : num < 4294967296) (hg : n ≤ 200) (hm : mayHead e s num = false) :
    Calls Try.prog 3 #[confV e s, .int .u32 (num : Int), .slice p n c] w fun e w' => e = .returned (.bool true) ∧ Keeps NoBlock w w' := by
  have HLv := Lib.hid (fun w => lives14_true H w)
  have HC0 := Lib.hid (Whole.new w 24 (confCells e s))
  have HK0 := Lib.hid ((Keeps.refl NoBlock w).alloc (.cells (confCells e s) 24))
  have hgd : decide ((200 : Int) < (n : Int)) = false := decide_eq_false (by omega)
  have hgd2 : decide (200 < n) = false := decide_eq_false (by omega)
  have HEm := Lib.hid (fun w => HE.empty e s num w he hs hnum)
  have HM := Lib.hid (fun w => may9_ref e s num hs w)
  rw [hm] at HEm HM
  simp only [if_neg (show ¬ (false = true) by decide)] at HEm
  have wn : IntKind.u64.wrap (num : Int) = (num : Int) := by rw [IntKind.wrap_u64]; omega
  have hEq := fun w => roomEq (.agg #[.int .u8 0, .int .u32 0, .int .u32 0, .int .i64 0, .int .i64 0]) (.agg #[.int .u8 0, .int .u32 0, .int .u32 0, .int .i64 0, .int .i64 0]) w rfl rfl
  clear H HE hm he hs hnum
  unfold confV roomV Rm.none at HEm
  unfold confV at HM ⊢
  go_enter Try.func3, Try.ntmps3
  go_wp2_with fail
  refine (HLv.out _).mono ?_
  rintro e9 w1 ⟨rfl, hk⟩
  have HK := Lib.hid (HK0.out.trans hk)
  have HC := Lib.hid (HC0.out.keep hk (fun h => h))
  have c0 := HC.out.cell 0 rfl
  have c1 := HC.out.cell 1 rfl
  simp only [confCells, List.getElem_toArray, List.getElem_cons_zero, List.getElem_cons_succ] at c0 c1
  clear hk
  go_wp2_with fail
  refine (HEm.out _).mono ?_
  rintro e9 w2 ⟨rfl, hk⟩
  have hka : Keeps NoBlock w2 (w2.alloc (.cells #[.int .u8 0, .int .u32 0, .int .u32 0, .int .i64 0, .int .i64 0] 28)) := (Keeps.refl NoBlock w2).alloc _
  have HK := Lib.hid ((HK.out.trans hk).trans hka)
  have HC := Lib.hid ((HC.out.keep hk (fun h => h)).keep hka (fun h => h))
  have HR := Lib.hid (Whole.new w2 28 #[.int .u8 0, .int .u32 0, .int .u32 0, .int .i64 0, .int .i64 0])
  clear c0 c1 hk hka
  have c0 := HC.out.cell 0 rfl
  have c1 := HC.out.cell 1 rfl
  simp only [confCells, List.getElem_toArray, List.getElem_cons_zero, List.getElem_cons_succ] at c0 c1
  go_wp2_with fail
  refine (HM.out _).mono ?_
  rintro e9 w3 ⟨rfl, hk⟩
  have HK := Lib.hid (HK.out.trans hk)
  have HR := Lib.hid (HR.out.keep hk (fun h => h))
  obtain ⟨r0, r1, r2, r3, r4⟩ := And.intro (HR.out.cell 0 rfl) (And.intro (HR.out.cell 1 rfl) (And.intro (HR.out.cell 2 rfl) (And.intro (HR.out.cell 3 rfl) (HR.out.cell 4 rfl))))
  simp only [List.getElem_toArray, List.getElem_cons_zero, List.getElem_cons_succ] at r0 r1 r2 r3 r4
  clear c0 c1 hk
  go_wp2_with fail
  go_ret
  exact ⟨rfl, HK.out⟩

set_option maxHeartbeats 4000000 in
set_option maxRecDepth 10000 in
theorem pkrooms_may (H : PkPlanOk) (HE : PkEmptyOk) (HF : PkFitsOk) (HLf : PkLeftOk) (HT : PkTakeOk) (e s num : Nat) (p : Option Addr) (n c : Nat) (zs : List Int) (w : World) (he : e < 256) (hs : s < 4294967296) (hnum : num < 4294967296) (hz : InZ w p n c zs) (hg : n ≤ 200) (hm : mayHead e s num = true) :
    Calls Try.prog 3 #[confV e s, .int .u32 (num : Int), .slice p n c] w fun e w' => e = .returned (.bool true) ∧ Keeps NoBlock w w' := by
  have HLv := Lib.hid (fun w => lives14_true H w)
  have HC0 := Lib.hid (Whole.new w 24 (confCells e s))
  have HK0 := Lib.hid ((Keeps.refl NoBlock w).alloc (.cells (confCells e s) 24))
  have hgd : decide ((200 : Int) < (n : Int)) = false := decide_eq_false (by omega)
  have hgd2 : decide (200 < n) = false := decide_eq_false (by omega)
  have HEm := Lib.hid (fun w => HE.empty e s num w he hs hnum)
  have HM := Lib.hid (fun w => may9_ref e s num hs w)
  have HE2 := Lib.hid (fun w => empty14_ref e s num he hs (by omega) w)
  rw [hm] at HEm HM
  simp only [if_true] at HEm
  have wn : IntKind.u64.wrap (num : Int) = (num : Int) := by rw [IntKind.wrap_u64]; omega
  have HNe := Lib.hid (fun w => roomNe (.agg #[.int .u8 0, .int .u32 0, .int .u32 0, .int .i64 0, .int .i64 0]) (.agg #[.int .u8 0, .int .u32 0, .int .u32 0, .int .i64 0, .int .i64 0]) w rfl rfl)
  have hcn := fun w => confNe e s w
  have HFc := Lib.hid (fun r z w (hr : r.Real) (h1 : -9223372036854775808 ≤ z ∧ z ≤ 9223372036854775807) => HF.fits r z w hr h1.1 h1.2)
  have HF2 := Lib.hid (fun r z w (hr : r.Real) (h1 : -9223372036854775808 ≤ z ∧ z ≤ 9223372036854775807) => fits14_ref r z hr h1.1 h1.2 w)
  have HLc := Lib.hid (fun r w (hr : r.Real) => HLf.left r w hr)
  have HTc := Lib.hid (fun r z w (hr : r.Real) (hc : r.count < 10000) (h1 : -9223372036854775808 ≤ z ∧ z ≤ 9223372036854775807) => HT.take r z w hr hc h1.1 h1.2)
  have HT2 := Lib.hid (fun r z w (hr : r.Real) (h1 : 1 ≤ z) (h2 : z ≤ 16777216) => take14_ref r z hr h1 h2 w)
  have hre := real_empty hm
  have HStep := Lib.hid (fun j (h : j < zs.length) => roomsP_step (r := emptyP e s num) h)
  have HReal := Lib.hid (roomsP_real hre rfl zs)
  have hz0 : roomsP (emptyP e s num) (zs.take 0) = emptyP e s num := rfl
  have HEe := Lib.hid (And.intro (show (emptyP e s num).e = e from rfl) (And.intro (show (emptyP e s num).s = s from rfl) (show (emptyP e s num).num = num from rfl)))
  obtain ⟨R0, hR0⟩ : ∃ R, R = emptyP e s num := ⟨_, rfl⟩
  rw [← hR0] at HEm HE2 HStep HReal hz0 HEe hre
  have HZ0 := Lib.hid hz0
  have HLn := Lib.hid hz.len
  have HFi := Lib.hid hz.fine
  have HAt := Lib.hid hz.at_
  clear H HE HF HLf HT hm he hs hR0 hz0 hz hre
  unfold confV roomV at HEm
  unfold confV room14V at HE2
  unfold confV at HM ⊢
  unfold roomV at HFc HLc
  unfold room14V at HF2 HT2
  go_enter Try.func3, Try.ntmps3
  go_wp2_with fail
  refine (HLv.out _).mono ?_
  rintro e9 w1 ⟨rfl, hk⟩
  have HK := Lib.hid (HK0.out.trans hk)
  have HC := Lib.hid (HC0.out.keep hk (fun h => h))
  have c0 := HC.out.cell 0 rfl
  have c1 := HC.out.cell 1 rfl
  simp only [confCells, List.getElem_toArray, List.getElem_cons_zero, List.getElem_cons_succ] at c0 c1
  clear hk HC0 HK0 HLv
  go_wp2_with fail
  refine (HEm.out _).mono ?_
  rintro e9 w2 ⟨rfl, hk⟩
  have hka : Keeps NoBlock w2 (w2.alloc (.cells (roomCells R0) 28)) := (Keeps.refl NoBlock w2).alloc _
  have HB2 := Lib.hid (show w.heap.size < w2.heap.size from (HC.out.keep hk (fun h => h)).lt)
  have HK := Lib.hid ((HK.out.trans hk).trans hka)
  have HC := Lib.hid ((HC.out.keep hk (fun h => h)).keep hka (fun h => h))
  have HR := Lib.hid (Whole.new w2 28 (roomCells R0))
  clear c0 c1 hk hka HEm
  have c0 := HC.out.cell 0 rfl
  have c1 := HC.out.cell 1 rfl
  simp only [confCells, List.getElem_toArray, List.getElem_cons_zero, List.getElem_cons_succ] at c0 c1
  unfold roomCells at c0 c1
  go_wp2_with fail
  refine (HM.out _).mono ?_
  rintro e9 w3 ⟨rfl, hk⟩
  have HK := Lib.hid (HK.out.trans hk)
  have HC := Lib.hid (HC.out.keep hk (fun h => h))
  have HR := Lib.hid (HR.out.keep hk (fun h => h))
  clear c0 c1 hk HM
  have c0 := HC.out.cell 0 rfl
  have c1 := HC.out.cell 1 rfl
  simp only [confCells, List.getElem_toArray, List.getElem_cons_zero, List.getElem_cons_succ] at c0 c1
  go_wp2_with fail
  refine (HE2.out _).mono ?_
  rintro e9 w4 ⟨rfl, hk⟩
  have hka : Keeps NoBlock w4 (w4.alloc (.cells (room14Cells R0) 35)) := (Keeps.refl NoBlock w4).alloc _
  have HB4 := Lib.hid (show w2.heap.size < w4.heap.size from (HR.out.keep hk (fun h => h)).lt)
  have HK := Lib.hid ((HK.out.trans hk).trans hka)
  have HC := Lib.hid ((HC.out.keep hk (fun h => h)).keep hka (fun h => h))
  have HR := Lib.hid ((HR.out.keep hk (fun h => h)).keep hka (fun h => h))
  have HX := Lib.hid (Whole.new w4 35 (room14Cells R0))
  clear c0 c1 hk hka HE2
  obtain ⟨W0, hW0⟩ : ∃ W, W = w4.alloc (.cells (room14Cells R0) 35) := ⟨_, rfl⟩
  rw [← hW0] at HK HC HR HX
  unfold room14Cells at hW0
  go_wp2_with fail
  rw [← hW0]
  clear hW0
  go_loopw [8, 47] (fun v i wr => v = .int .i64 0 ∧ ∃ j : Nat, j ≤ n ∧ i = .int .i64 (j : Int) ∧ Hid (Whole wr w2.heap.size 28 (roomCells (roomsP R0 (zs.take j)))) ∧ Hid (Whole wr w4.heap.size 35 (room14Cells (roomsP R0 (zs.take j)))) ∧ Hid (Whole wr w.heap.size 24 (confCells e s)) ∧ Hid (Keeps NoBlock w wr)) (fun _ i _ => n - (intOf i).toNat)
  case atStart =>
    refine ⟨rfl, 0, Nat.zero_le _, rfl, ?_, ?_, HC, HK⟩
    · rw [HZ0.out]; exact HR
    · rw [HZ0.out]; exact HX
  case round =>
    clear HK HC HR HX HZ0
    obtain ⟨rfl, j, hj, rfl, HR, HX, HC, HK⟩ := hrel
    by_cases hlt : j < n
    rotate_left
    · have hdj : decide ((j : Int) < (n : Int)) = false := decide_eq_false (by omega)
      have hdj2 : decide (j < n) = false := decide_eq_false hlt
      go_wp2_with fail
      go_ret
      exact ⟨rfl, HK.out⟩
    have hdj : decide ((j : Int) < (n : Int)) = true := decide_eq_true (by omega)
    have hdj2 : decide (j < n) = true := decide_eq_true hlt
    have hjl : j < zs.length := by rw [← HLn.out]; exact hlt
    obtain ⟨a, rfl, a0⟩ := (HAt.out.keep HK.out (fun _ _ h => h)) j hjl
    have hzr := HFi.out _ (getI_mem hjl)
    have hstep := HStep.out j hjl
    obtain ⟨hreal, hrc, hr1, hr2, hr3⟩ := HReal.out j (by omega) (by omega)
    obtain ⟨z, hz⟩ : ∃ z, z = zs.getD j 0 := ⟨_, rfl⟩
    rw [← hz] at a0 hzr hstep
    obtain ⟨r, hr⟩ : ∃ r, r = roomsP R0 (zs.take j) := ⟨_, rfl⟩
    rw [← hr] at hstep hreal hrc hr1 hr2 hr3 HR HX
    unfold intV at a0
    unfold roomStep at hstep
    have hrc9 : r.count < 10000 := by omega
    have e1 := hr1.trans HEe.out.1
    have e2 := hr2.trans HEe.out.2.1
    have e3 := hr3.trans HEe.out.2.2
    have HFz := Lib.hid (fun w => HFc.out r z w hreal hzr)
    have HFy := Lib.hid (fun w => HF2.out r z w hreal hzr)
    have HLr := Lib.hid (fun w => HLc.out r w hreal)
    have HTz := Lib.hid (fun w => HTc.out r z w hreal hrc9 hzr)
    have HJ := Lib.hid (And.intro hj hlt)
    have hrn : r.num < 65536 := by have := hreal.small; omega
    have hcr : ∀ w, (binOp .neq 24 (.agg #[.int .u8 (r.e : Int), .int .u32 (r.s : Int)]) (.agg #[.int .u8 (e : Int), .int .u32 (s : Int)])).run Try.prog w = .ok (.bool false) w := fun w => by rw [e1, e2]; exact confNe e s w
    have wr1 : IntKind.u64.wrap (r.num : Int) = (r.num : Int) := by rw [IntKind.wrap_u64]; omega
    have x1 : ((r.num : Int) != (r.num : Int)) = false := by simp
    have x2 : ((r.used : Int) != (r.used : Int)) = false := by simp
    have x3 : ((r.count : Int) != (r.count : Int)) = false := by simp
    have x4 : (fitsP r z != fitsP r z) = false := by simp
    obtain ⟨L, hL⟩ : ∃ L, L = leftP r := ⟨_, rfl⟩
    rw [← hL] at HLr
    have hL9 : L ≤ 16777216 := by
      rw [hL]
      unfold leftP
      have := (two_e hreal.small.1).2
      omega
    have HLz := Lib.hid (show leftP r ≤ 16777216 by rw [← hL]; exact hL9)
    have HFl := Lib.hid (fun w => HF2.out r (L : Int) w hreal (by omega))
    have HFm := Lib.hid (fun w => HF2.out r ((L : Int) + 1) w hreal (by omega))
    have hfm : fitsP r ((L : Int) + 1) = false := by
      rw [Bool.eq_false_iff]
      intro h
      have := (fitsP_left r _).1 h
      omega
    have hfl : L ≠ 0 → fitsP r (L : Int) = true := fun h => (fitsP_left r _).2 ⟨by omega, by omega⟩
    rw [hfm] at HFm
    have HFl1 := Lib.hid hfl
    have HSt := Lib.hid hstep
    have HRe := Lib.hid hreal
    clear hz hr hjl hrc hr1 hr2 hr3 e1 e2 e3 hcn hL hfm hfl hstep hreal
    go_upto_region 10 with (fail)
    have s0 := And.intro (conf_at (Whole.drewN HC.out 1)) (And.intro (room_at (Whole.drewN HR.out 1)) (room14_at (Whole.drewN HX.out 1)))
    have sN := And.intro (conf_at (HC.out)) (And.intro (room_at (HR.out)) (room14_at (HX.out)))
    clear a0
    go_wp2_with fail
    go_region_held3 (fun w' => (w'.cell? ⟨w.heap.size, 0, none⟩ = some (.int .u8 (e : Int)) ∧ w'.cell? ⟨w.heap.size, 1, none⟩ = some (.int .u32 (s : Int))) ∧ (w'.cell? ⟨w2.heap.size, 0, none⟩ = some (.int .u8 (r.e : Int)) ∧ w'.cell? ⟨w2.heap.size, 1, none⟩ = some (.int .u32 (r.s : Int)) ∧ w'.cell? ⟨w2.heap.size, 2, none⟩ = some (.int .u32 (r.num : Int)) ∧ w'.cell? ⟨w2.heap.size, 3, none⟩ = some (.int .i64 (r.used : Int)) ∧ w'.cell? ⟨w2.heap.size, 4, none⟩ = some (.int .i64 (r.count : Int))) ∧ (w'.cell? ⟨w4.heap.size, 0, none⟩ = some (.int .u8 (r.e : Int)) ∧ w'.cell? ⟨w4.heap.size, 1, none⟩ = some (.int .u32 (r.s : Int)) ∧ w'.cell? ⟨w4.heap.size, 2, none⟩ = some (.int .u64 (r.num : Int)) ∧ w'.cell? ⟨w4.heap.size, 3, none⟩ = some (.int .i64 (r.used : Int)) ∧ w'.cell? ⟨w4.heap.size, 4, none⟩ = some (.int .i64 (r.count : Int))))
      (first | exact s5 | exact s0 | exact sN)
      (first | (go_at_call 11; refine (HFz.out _).mono ?_; rintro e9 w5 ⟨rfl, hk⟩; have hk' : Keeps NoBlock wr w5 := (by first | exact hk | exact hk.ofDrew | exact hk.ofDrewN); have HK := Lib.hid (HK.out.trans hk'); have HC := Lib.hid (HC.out.keep hk' (fun h => h)); have HR := Lib.hid (HR.out.keep hk' (fun h => h)); have HX := Lib.hid (HX.out.keep hk' (fun h => h)); have s5 := And.intro (conf_at (HC.out)) (And.intro (room_at (HR.out)) (room14_at (HX.out))); clear hk hk'; obtain ⟨wr, rfl⟩ : ∃ x, x = w5 := ⟨_, rfl⟩) | (go_at_call 12; refine (HFy.out _).mono ?_; rintro e9 w5 ⟨rfl, hk⟩; have hk' : Keeps NoBlock wr w5 := (by first | exact hk | exact hk.ofDrew | exact hk.ofDrewN); have HK := Lib.hid (HK.out.trans hk'); have HC := Lib.hid (HC.out.keep hk' (fun h => h)); have HR := Lib.hid (HR.out.keep hk' (fun h => h)); have HX := Lib.hid (HX.out.keep hk' (fun h => h)); have s5 := And.intro (conf_at (HC.out)) (And.intro (room_at (HR.out)) (room14_at (HX.out))); clear hk hk'; obtain ⟨wr, rfl⟩ : ∃ x, x = w5 := ⟨_, rfl⟩))
    obtain ⟨d0, d1, d2, d3, d4⟩ := room_at HR.out
    clear s0 sN s5
    go_wp2_with fail
    refine (HLr.out _).mono ?_
    rintro e9 w6 ⟨rfl, hk⟩
    have hk' := hk
    have HK := Lib.hid (HK.out.trans hk')
    have HC := Lib.hid (HC.out.keep hk' (fun h => h))
    have HR := Lib.hid (HR.out.keep hk' (fun h => h))
    have HX := Lib.hid (HX.out.keep hk' (fun h => h))
    clear d0 d1 d2 d3 d4 hk hk'
    go_upto_region 13 with (fail)
    go_cut [109] (fun u wx => u = .bool false ∧ Hid (Keeps NoBlock w6 wx))
    case first =>
      obtain ⟨y0, y1, y2, y3, y4⟩ := room14_at HX.out
      have t0 : decide ((L : Int) < 0) = false := decide_eq_false (by omega)
      have wl : IntKind.i64.wrap ((L : Int) + 1) = (L : Int) + 1 := IntWalk.i64_in _ (by omega)
      by_cases hL0 : L = 0
      · have t1 : decide ((0 : Int) < (L : Int)) = false := decide_eq_false (by omega)
        have t2 : decide (0 < L) = false := decide_eq_false (by omega)
        clear hL0
        go_wp2_with fail
        refine (HFm.out _).mono ?_
        rintro e9 w7 ⟨rfl, hk⟩
        have hk7 := Lib.hid hk
        clear hk
        go_wp2_with fail
        go_meet
        case rel => exact ⟨rfl, hk7⟩
      · have t1 : decide ((0 : Int) < (L : Int)) = true := decide_eq_true (by omega)
        have t2 : decide (0 < L) = true := decide_eq_true (by omega)
        have hfl := HFl1.out hL0
        rw [hfl] at HFl
        clear hL0 hfl
        go_wp2_with fail
        refine (HFl.out _).mono ?_
        rintro e9 w7 ⟨rfl, hk⟩
        have hk7 := Lib.hid hk
        have HX := Lib.hid (HX.out.keep hk (fun h => h))
        clear y0 y1 y2 y3 y4 hk
        obtain ⟨y0, y1, y2, y3, y4⟩ := room14_at HX.out
        go_wp2_with fail
        refine (HFm.out _).mono ?_
        rintro e9 w8 ⟨rfl, hk⟩
        have hk8 := Lib.hid (hk7.out.trans hk)
        clear hk
        go_wp2_with fail
        go_meet
        case rel => exact ⟨rfl, hk8⟩
    case rest =>
      obtain ⟨rfl, hkc⟩ := hcut
      have hk' := hkc.out
      have HK := Lib.hid (HK.out.trans hk')
      have HC := Lib.hid (HC.out.keep hk' (fun h => h))
      have HR := Lib.hid (HR.out.keep hk' (fun h => h))
      have HX := Lib.hid (HX.out.keep hk' (fun h => h))
      obtain ⟨d0, d1, d2, d3, d4⟩ := room_at HR.out
      clear hkc hk' HFl HFm HLr HFl1 HFy
      have hn0 : roomV Rm.none = .agg #[.int .u8 0, .int .u32 0, .int .u32 0, .int .i64 0, .int .i64 0] := rfl
      by_cases hf : fitsP r z = true
      · have hz1 := (fitsP_left r z).1 hf
        have HTy := Lib.hid (fun w => HT2.out r z w HRe.out hz1.1 (by have := HLz.out; omega))
        have HSu := Lib.hid (HSt.out.trans (if_pos hf))
        simp only [if_pos hf] at HTz
        rw [hf] at HFz
        obtain ⟨R2, hR2⟩ : ∃ R2, R2 = takeP r z := ⟨_, rfl⟩
        rw [← hR2] at HTz HTy HSu
        unfold roomV at HTz
        clear hf hz1 hR2 hn0 HSt HRe hrn hrc9
        go_wp2_with fail
        refine (HTz.out _).mono ?_
        rintro e9 w7 ⟨rfl, hk⟩
        have hk' : Keeps NoBlock wc (w7.alloc (.cells (roomCells R2) 28)) := hk.alloc _
        have HN := Lib.hid (Whole.new w7 28 (roomCells R2))
        have HK := Lib.hid (HK.out.trans hk')
        have HC := Lib.hid (HC.out.keep hk' (fun h => h))
        have HR := Lib.hid (HR.out.keep hk' (fun h => h))
        have HX := Lib.hid (HX.out.keep hk' (fun h => h))
        clear d0 d1 d2 d3 d4 hk hk'
        obtain ⟨d0, d1, d2, d3, d4⟩ := room_at HR.out
        unfold roomCells at HN
        unfold roomCells at d0 d1 d2 d3 d4
        go_wp2_with fail
        refine (HFz.out _).mono ?_
        rintro e9 w8 ⟨rfl, hk⟩
        have hk' := hk
        have HK := Lib.hid (HK.out.trans hk')
        have HC := Lib.hid (HC.out.keep hk' (fun h => h))
        have HR := Lib.hid (HR.out.keep hk' (fun h => h))
        have HX := Lib.hid (HX.out.keep hk' (fun h => h))
        have HN := Lib.hid (HN.out.keep hk' (fun h => h))
        clear d0 d1 d2 d3 d4 hk hk'
        obtain ⟨d0, d1, d2, d3, d4⟩ := room_at HR.out
        obtain ⟨f0, f1, f2, f3, f4⟩ := room_free HR.out
        obtain ⟨n0, n1, n2, n3, n4⟩ := room_at (r := R2) HN.out
        have HX := Lib.hid (HX.out.far5 (k := w2.heap.size) (by have := HB4.out; omega) (.int .u8 (R2.e : Int)) (.int .u32 (R2.s : Int)) (.int .u32 (R2.num : Int)) (.int .i64 (R2.used : Int)) (.int .i64 (R2.count : Int)))
        have HC := Lib.hid (HC.out.far5 (k := w2.heap.size) (by have := HB2.out; omega) (.int .u8 (R2.e : Int)) (.int .u32 (R2.s : Int)) (.int .u32 (R2.num : Int)) (.int .i64 (R2.used : Int)) (.int .i64 (R2.count : Int)))
        have HK := Lib.hid (HK.out.new5 (k := w2.heap.size) (Nat.le_of_lt HB2.out) (.int .u8 (R2.e : Int)) (.int .u32 (R2.s : Int)) (.int .u32 (R2.num : Int)) (.int .i64 (R2.used : Int)) (.int .i64 (R2.count : Int)))
        have HR := Lib.hid (show Whole _ w2.heap.size 28 (roomCells R2) from Whole.set5 HR.out (.int .u8 (R2.e : Int)) (.int .u32 (R2.s : Int)) (.int .u32 (R2.num : Int)) (.int .i64 (R2.used : Int)) (.int .i64 (R2.count : Int)))
        obtain ⟨y0, y1, y2, y3, y4⟩ := room14_at HX.out
        clear HN
        go_wp2_with fail
        refine (HTy.out _).mono ?_
        rintro e9 w9 ⟨rfl, hk⟩
        have hk' := hk
        clear d0 d1 d2 d3 d4 f0 f1 f2 f3 f4 n0 n1 n2 n3 n4 y0 y1 y2 y3 y4
        have HK := Lib.hid (HK.out.trans hk')
        have HC := Lib.hid (HC.out.keep hk' (fun h => h))
        have HR := Lib.hid (HR.out.keep hk' (fun h => h))
        have HX := Lib.hid (HX.out.keep hk' (fun h => h))
        clear hk hk'
        obtain ⟨y0, y1, y2, y3, y4⟩ := room14_at HX.out
        obtain ⟨f0, f1, f2, f3, f4⟩ := room_free HX.out
        have HR := Lib.hid (HR.out.far5 (k := w4.heap.size) (by have := HB4.out; omega) (.int .u8 (R2.e : Int)) (.int .u32 (R2.s : Int)) (.int .u64 (R2.num : Int)) (.int .i64 (R2.used : Int)) (.int .i64 (R2.count : Int)))
        have HC := Lib.hid (HC.out.far5 (k := w4.heap.size) (by have := HB2.out; have := HB4.out; omega) (.int .u8 (R2.e : Int)) (.int .u32 (R2.s : Int)) (.int .u64 (R2.num : Int)) (.int .i64 (R2.used : Int)) (.int .i64 (R2.count : Int)))
        have HK := Lib.hid (HK.out.new5 (k := w4.heap.size) (by have := HB2.out; have := HB4.out; omega) (.int .u8 (R2.e : Int)) (.int .u32 (R2.s : Int)) (.int .u64 (R2.num : Int)) (.int .i64 (R2.used : Int)) (.int .i64 (R2.count : Int)))
        have HX := Lib.hid (show Whole _ w4.heap.size 35 (room14Cells R2) from Whole.set5 HX.out (.int .u8 (R2.e : Int)) (.int .u32 (R2.s : Int)) (.int .u64 (R2.num : Int)) (.int .i64 (R2.used : Int)) (.int .i64 (R2.count : Int)))
        have hJ := HJ.out
        go_wp2_with fail
        exact ⟨⟨rfl, j + 1, by omega, by go_num, by rw [HSu.out]; exact HR, by rw [HSu.out]; exact HX, HC, HK⟩, by simp [intOf]; omega⟩
      · have HSu := Lib.hid (HSt.out.trans (if_neg hf))
        have hf0 : fitsP r z = false := by simpa using hf
        simp only [if_neg hf] at HTz
        rw [hf0] at HFz
        rw [hn0] at HTz
        unfold roomV at HTz
        have hne := fun w => HNe.out w
        clear hf hf0 hn0 HSt HRe hrn hrc9
        go_wp2_with fail
        refine (HTz.out _).mono ?_
        rintro e9 w7 ⟨rfl, hk⟩
        have hk' : Keeps NoBlock wc (w7.alloc (.cells #[.int .u8 0, .int .u32 0, .int .u32 0, .int .i64 0, .int .i64 0] 28)) := hk.alloc _
        have HN := Lib.hid (Whole.new w7 28 #[.int .u8 0, .int .u32 0, .int .u32 0, .int .i64 0, .int .i64 0])
        have HK := Lib.hid (HK.out.trans hk')
        have HC := Lib.hid (HC.out.keep hk' (fun h => h))
        have HR := Lib.hid (HR.out.keep hk' (fun h => h))
        have HX := Lib.hid (HX.out.keep hk' (fun h => h))
        clear d0 d1 d2 d3 d4 hk hk'
        obtain ⟨d0, d1, d2, d3, d4⟩ := room_at HR.out
        go_wp2_with fail
        refine (HFz.out _).mono ?_
        rintro e9 w8 ⟨rfl, hk⟩
        have hk' := hk
        have HK := Lib.hid (HK.out.trans hk')
        have HC := Lib.hid (HC.out.keep hk' (fun h => h))
        have HR := Lib.hid (HR.out.keep hk' (fun h => h))
        have HX := Lib.hid (HX.out.keep hk' (fun h => h))
        have HN := Lib.hid (HN.out.keep hk' (fun h => h))
        clear d0 d1 d2 d3 d4 hk hk'
        obtain ⟨n0, n1, n2, n3, n4⟩ := And.intro (HN.out.cell 0 rfl) (And.intro (HN.out.cell 1 rfl) (And.intro (HN.out.cell 2 rfl) (And.intro (HN.out.cell 3 rfl) (HN.out.cell 4 rfl))))
        simp only [List.getElem_toArray, List.getElem_cons_zero, List.getElem_cons_succ] at n0 n1 n2 n3 n4
        have hJ := HJ.out
        go_wp2_with fail
        exact ⟨⟨rfl, j + 1, by omega, by go_num, by rw [HSu.out]; exact HR, by rw [HSu.out]; exact HX, HC, HK⟩, by simp [intOf]; omega⟩

theorem pkrooms_walk (H : PkPlanOk) (HE : PkEmptyOk) (HF : PkFitsOk) (HLf : PkLeftOk) (HT : PkTakeOk) (e s num : Nat) (p : Option Addr) (n c : Nat) (zs : List Int) (w : World) (he : e < 256) (hs : s < 4294967296) (hnum : num < 4294967296) (hz : InZ w p n c zs) :
    Calls Try.prog 3 #[confV e s, .int .u32 (num : Int), .slice p n c] w fun e w' => e = .returned (.bool true) ∧ Keeps NoBlock w w' := by
  by_cases hg : n ≤ 200
  · cases hm : mayHead e s num with
    | true => exact pkrooms_may H HE HF HLf HT e s num p n c zs w he hs hnum hz hg hm
    | false => exact pkrooms_not H HE e s num p n c w he hs hnum hg hm
  · exact pkrooms_big H e s num p n c w (by omega)
end Go.Proofs.Ytibojgoeaoinpaa

namespace Go.Proofs.Ytibojgoeaoinpaa
open Go.RowKit

/-- A row that was got: new memory. -/
def GotRowF (w : World) (l : List Nat) (v : Value) (w' : World) : Prop :=
  ∃ (q : Option Addr) (m d : Nat), v = .slice q m d ∧ m = l.length ∧ m ≤ d ∧ d ≤ 9223372036854775807 ∧ (q = none → m = 0 ∧ d = 0) ∧ RowN w' q l ∧ (0 < m → ∀ a, q = some a → w.heap.size ≤ a.block)
/-- A row of numbers that comes in. -/
structure InN (w : World) (p : Option Addr) (n c : Nat) (l : List Nat) : Prop where
  len : n = l.length
  cap : n ≤ c
  room : c ≤ 9223372036854775807
  bare : p = none → n = 0 ∧ c = 0
  fine : ∀ x ∈ l, x < 18446744073709551616
  at_ : RowN w p l
/-- What a reading of fences leaves in block D. -/
def LeftF (w0 : World) (D : Nat) (t : GF) (w2 : World) : Prop :=
  Keeps (Just D) w0 w2 ∧ (t.y = 0 → ∃ (q : Option Addr) (m d : Nat), Whole w2 D 46 #[.slice q m d] ∧ m = t.l.length ∧ m ≤ d ∧ d ≤ 9223372036854775807 ∧ (q = none → m = 0 ∧ d = 0) ∧ RowN w2 q t.l ∧ (0 < m → ∀ a, q = some a → w0.heap.size + 1 + 1 + 1 + 1 ≤ a.block))

end Go.Proofs.Ytibojgoeaoinpaa

namespace Go.Proofs.Ytibojgoeaoinpaa
open Go.RowKit

def InLoopK (base g : Nat) (xs : List Int) (x : Int) (w : World) (k : Nat) (wr : World) : Prop := BufAt wr base g (xs ++ digits x k) ∧ Keeps (OnBuf base g) w wr

set_option maxHeartbeats 800000 in
theorem bufNumberK (base g : Nat) (xs : List Int) (x : Int) (n : Nat) (z : Int) (hz : z = n) (w : World) (h : BufAt w base g xs) (hs : base ≤ w.heap.size) (hx : xs.length + n ≤ 140737488355328) (hn : n ≤ 8) (_x0 : 0 ≤ x) (x1 : x < 18446744073709551616) :
    Calls Try.prog 52 #[.pointer (some ⟨g, 0, none⟩), .int .u64 x, .int .i64 z] w (BufOkK base g (xs ++ digits x n) w) := by
  subst hz
  have H := Lib.hid h; have HX := Lib.hid hx; have HX1 := Lib.hid x1
  clear h hx x1
  go_enter Try.func52, Try.ntmps52
  go_wp2_with fail
  go_loopw [9] (fun i wr => ∃ k : Nat, k ≤ n ∧ i = .int .i64 k ∧ InLoopK base g xs x w k wr) (fun i _ => n - (intOf i).toNat)
  case atStart => exact ⟨0, Nat.zero_le _, rfl, by simpa [digits] using H.out, Keeps.refl _ _⟩
  case round =>
    obtain ⟨k, hk, rfl, hin⟩ := hrel
    have HI := Lib.hid hin
    clear hin
    by_cases hlt : k < n
    · go_wp2_with fail
      refine (bufByteK base g (xs ++ digits x k) _ _ HI.out.1 (by have := HI.out.2.size; omega) (by have := HX.out; simp [digits_length]; omega)).mono ?_
      rintro e w2 ⟨rfl, hbuf, hbel⟩
      have HB := Lib.hid hbuf; have HL := Lib.hid (HI.out.2.trans hbel)
      clear hbuf hbel
      go_wp2_with fail
      go_roundw
      case rel =>
        refine ⟨k + 1, by omega, by go_num, ?_, HL.out⟩
        have := HB.out
        rw [List.append_assoc] at this
        exact this
      case measure => simp [intOf]; omega
    · go_wp2_with fail
      go_ret
      obtain rfl : k = n := by omega
      exact ⟨rfl, HI.out.1, HI.out.2⟩

theorem bufEightK (base g : Nat) (xs : List Int) (x : Int) (w : World) (h : BufAt w base g xs) (hs : base ≤ w.heap.size) (hx : xs.length + 8 ≤ 140737488355328) (x0 : 0 ≤ x) (x1 : x < 18446744073709551616) :
    Calls Try.prog 43 #[.pointer (some ⟨g, 0, none⟩), .int .u64 x] w (BufOkK base g (xs ++ digits x 8) w) := by
  have H := Lib.hid h; have HX1 := Lib.hid x1
  clear h x1
  go_enter Try.func43, Try.ntmps43
  go_wp2_with fail
  refine (bufNumberK base g xs _ 8 _ (by rfl) _ H.out hs hx (by omega) x0 HX1.out).mono ?_
  rintro e w2 ⟨rfl, hbuf, hbel⟩
  have HB := Lib.hid hbuf; have HL := Lib.hid hbel
  clear hbuf hbel
  go_wp2_with fail
  go_ret
  exact ⟨rfl, HB.out, HL.out⟩
end Go.Proofs.Ytibojgoeaoinpaa

namespace Go.Proofs.Ytibojgoeaoinpaa
open Go.RowKit

set_option maxHeartbeats 1000000 in
theorem fcount_own (n : Int) (w : World) (h0 : -1000000000 ≤ n) (h1 : n ≤ 1000000000) :
    Calls Try.prog 32 #[.int .i64 n] w fun e w' => e = .returned (.int .i64 (countF n : Int)) ∧ Keeps NoBlock w w' := by
  by_cases hz : n ≤ 0
  · have hd : decide (n ≤ 0) = true := decide_eq_true hz
    have e : countF n = 0 := by unfold countF; omega
    rw [e]
    clear e
    go_enter Try.func32, Try.ntmps32
    go_wp2_with fail
    go_ret
    exact ⟨rfl, Keeps.refl _ _⟩
  · obtain ⟨m, rfl⟩ : ∃ m : Nat, n = (m : Int) + 1 := ⟨n.toNat - 1, by omega⟩
    have hd : decide ((m : Int) + 1 ≤ 0) = false := decide_eq_false hz
    have e : countF ((m : Int) + 1) = m / 16 + 1 := by unfold countF; omega
    have hq : ((m : Int)).tdiv 16 = ((m / 16 : Nat) : Int) := by rw [Int.tdiv_eq_ediv_of_nonneg (by omega)]; omega
    have hq2 : (m : Int) / 16 = ((m / 16 : Nat) : Int) := by omega
    obtain ⟨k, hk⟩ : ∃ k, k = m / 16 := ⟨_, rfl⟩
    rw [← hk] at hq hq2 e
    have hk9 : k ≤ 1000000000 := by omega
    rw [e]
    have hs : (m : Int) + 1 - 1 = (m : Int) := by omega
    clear hk e
    go_enter Try.func32, Try.ntmps32
    go_wp2_with fail
    go_ret
    exact ⟨by go_num, Keeps.refl _ _⟩

theorem textF_takeO {l : List Nat} {j : Nat} (hj : j < l.length) : textF (l.take (j + 1)) = textF (l.take j) ++ digits ((l.getD j 0 : Nat) : Int) 8 := by
  have e : l.take (j + 1) = l.take j ++ [l.getD j 0] := by rw [List.take_succ_eq_append_getElem hj]; simp [hj]
  rw [e, textF_snoc]

end Go.Proofs.Ytibojgoeaoinpaa

namespace Go.Proofs.Ytibojgoeaoinpaa
open Go.RowKit

/-- A row of records that can be read. -/
def RecsAt (w : World) (p : Option Addr) (l : List Rec) : Prop :=
  ∀ i, i < l.length → ∃ a : Addr, p = some a ∧ w.cell? (a.add (i * 4)) = some (.bool (l.getD i Rec.none).del) ∧ w.cell? ⟨(a.add (i * 4)).block, (a.add (i * 4)).off + 1, none⟩ = some (.int .u64 ((l.getD i Rec.none).seq : Int)) ∧
    w.cell? ⟨(a.add (i * 4)).block, (a.add (i * 4)).off + 2, none⟩ = some (.string (strOfNums (l.getD i Rec.none).key)) ∧ w.cell? ⟨(a.add (i * 4)).block, (a.add (i * 4)).off + 3, none⟩ = some (.string (strOfNums (l.getD i Rec.none).val))
theorem RecsAt.keep {w w' : World} {p : Option Addr} {l : List Rec} (h : RecsAt w p l) {S : Nat → Prop} (hk : Keeps S w w') (hs : ∀ k, k < w.heap.size → ¬ S k) : RecsAt w' p l := fun i hi => by
  obtain ⟨a, rfl, c0, c1, c2, c3⟩ := h i hi
  exact ⟨a, rfl, hk.cell c0 (hs _ (ltOfCell c0)), hk.cell c1 (hs _ (ltOfCell c1)), hk.cell c2 (hs _ (ltOfCell c2)), hk.cell c3 (hs _ (ltOfCell c3))⟩

def littleR (bytes : Nat) (r : Rec) : Bool := decide (r.key.length ≤ bytes) && decide (r.val.length ≤ bytes)
def fewR (l : List Rec) (most bytes : Nat) : Bool := l.all (littleR bytes) && decide (l.length ≤ most)

theorem all_take_succ {l : List Rec} {b j : Nat} (hj : j < l.length) : (l.take (j + 1)).all (littleR b) = ((l.take j).all (littleR b) && littleR b (l.getD j Rec.none)) := by
  rw [List.take_succ_eq_append_getElem hj, List.all_append]
  simp [hj]

end Go.Proofs.Ytibojgoeaoinpaa

namespace Go.Proofs.Ytibojgoeaoinpaa
open Go.RowKit

theorem firstBad_append : ∀ (a b : List Rec), firstBad (a ++ b) = if firstBad a = 0 then firstBad b else firstBad a
  | [], b => by simp [firstBad]
  | r :: a, b => by
    rw [List.cons_append, firstBad, firstBad]
    by_cases h : checkR r = 0
    · rw [if_pos h, if_pos h, firstBad_append a b]
    · rw [if_neg h, if_neg h, if_neg h]
theorem firstBad_take {l : List Rec} {j : Nat} (hj : j < l.length) (h : firstBad (l.take j) = 0) : firstBad (l.take (j + 1)) = checkR (l.getD j Rec.none) := by
  rw [List.take_succ_eq_append_getElem hj, firstBad_append, if_pos h]
  unfold firstBad
  have e : l.getD j Rec.none = l[j] := by simp [hj]
  rw [e]
  by_cases hc : checkR l[j] = 0
  · rw [if_pos hc, hc]
    rfl
  · rw [if_neg hc]
theorem firstBad_stop {l : List Rec} {j : Nat} (h : firstBad (l.take j) ≠ 0) : firstBad l = firstBad (l.take j) := by
  conv => lhs; rw [← List.take_append_drop j l]
  rw [firstBad_append, if_neg h]

theorem rises_adj : ∀ {l : List Rec}, risesR l = true ↔ ∀ i, i + 1 < l.length → (l.getD i Rec.none).seq < (l.getD (i + 1) Rec.none).seq
  | [] => by simp [risesR]
  | [a] => by simp [risesR]
  | a :: b :: l => by
    unfold risesR
    rw [Bool.and_eq_true, rises_adj, decide_eq_true_eq]
    constructor
    · rintro ⟨h1, h2⟩ i hi
      cases i with
      | zero => exact h1
      | succ i => exact h2 i (by simpa using hi)
    · intro h
      exact ⟨h 0 (by simp), fun i hi => h (i + 1) (by simpa using hi)⟩

end Go.Proofs.Ytibojgoeaoinpaa

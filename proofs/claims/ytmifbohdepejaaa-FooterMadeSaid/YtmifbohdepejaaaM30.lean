/-
  FtMaWalk.
-/
import Derived.StillTailTactics
import Derived.Test.YtmifbohdepejaaaM21
import Derived.Test.YtmifbohdepejaaaM25
namespace Go.Proofs.Ytmifbohdepejaaa
open Go.RowKit

def cutEn (e : En) : En := ⟨e.hash, e.at_ % 16777216⟩
def cutRow (j : Nat) (l : List En) : List En := (l.take j).map cutEn ++ l.drop j
def cutUsed (j : Nat) (l : List En) : Nat := (l.take j).foldl (fun u e => max u (e.at_ % 16777216 + 1)) 0
theorem cutRow_length (j : Nat) (l : List En) : (cutRow j l).length = l.length := by
  unfold cutRow
  rw [List.length_append, List.length_map, List.length_take, List.length_drop]
  omega
theorem cutRow_zero (l : List En) : cutRow 0 l = l := rfl
theorem cutRow_all {j : Nat} {l : List En} (h : l.length ≤ j) : cutRow j l = l.map cutEn := by
  unfold cutRow
  rw [List.take_of_length_le h, List.drop_of_length_le h, List.append_nil]
theorem cutRow_at {j : Nat} {l : List En} (h : j < l.length) : (cutRow j l).getD j En.none = l.getD j En.none := by
  unfold cutRow
  rw [List.getD_eq_getElem?_getD, List.getElem?_append_right (by rw [List.length_map, List.length_take]; omega), List.length_map, List.length_take, List.getElem?_drop, List.getD_eq_getElem?_getD]
  rw [show j + (j - min j l.length) = j by omega]
theorem cutRow_step {j : Nat} {l : List En} (h : j < l.length) : (cutRow j l).set j (cutEn (l.getD j En.none)) = cutRow (j + 1) l := by
  have hl : ((l.take j).map cutEn).length = j := by rw [List.length_map, List.length_take]; omega
  have hd : l.drop j = l.getD j En.none :: l.drop (j + 1) := by rw [List.drop_eq_getElem_cons h]; simp [h]
  unfold cutRow
  rw [hd, take_getD h, List.map_append, List.set_append_right _ _ (by omega), hl, Nat.sub_self, List.set_cons_zero, List.append_assoc]
  rfl
theorem cutUsed_step {j : Nat} {l : List En} (h : j < l.length) : cutUsed (j + 1) l = max (cutUsed j l) ((l.getD j En.none).at_ % 16777216 + 1) := by
  unfold cutUsed
  rw [take_getD h, List.foldl_append]
  rfl
theorem foldl_max_le (l : List En) : ∀ u : Nat, u ≤ 16777216 → l.foldl (fun u e => max u (e.at_ % 16777216 + 1)) u ≤ 16777216 := by
  induction l with
  | nil => intro u h; exact h
  | cons e l ih => intro u h; rw [List.foldl_cons]; exact ih _ (by omega)
theorem foldl_max_ge (l : List En) : ∀ u : Nat, u ≤ l.foldl (fun u e => max u (e.at_ % 16777216 + 1)) u ∧ ∀ e ∈ l, e.at_ % 16777216 < l.foldl (fun u e => max u (e.at_ % 16777216 + 1)) u := by
  induction l with
  | nil => intro u; exact ⟨Nat.le_refl _, fun e he => by simp at he⟩
  | cons e l ih =>
    intro u
    obtain ⟨h1, h2⟩ := ih (max u (e.at_ % 16777216 + 1))
    rw [List.foldl_cons]
    refine ⟨by omega, fun x hx => ?_⟩
    rcases List.mem_cons.1 hx with rfl | hx
    · omega
    · exact h2 x hx
theorem cutUsed_le (j : Nat) (l : List En) : cutUsed j l ≤ 16777216 := foldl_max_le _ 0 (by decide)
theorem cutUsed_zero (l : List En) : cutUsed 0 l = 0 := rfl
theorem cutRow_fine {j : Nat} {l : List En} (h : ∀ e ∈ l, e.Fine) : ∀ e ∈ cutRow j l, e.Fine := fun e he => by
  rcases List.mem_append.1 he with he | he
  · obtain ⟨x, hx, rfl⟩ := List.mem_map.1 he
    have hf := h x (List.mem_of_mem_take hx)
    exact ⟨hf.hash, by show x.at_ % 16777216 < _; omega⟩
  · exact h e (List.mem_of_mem_drop he)
/-- Whatever entries there are, cut, sorted, with their end behind them, make a footer that may be. -/
theorem cut_check (l : List En) (h9 : l.length ≤ 100) : checkFt ⟨cutUsed l.length l, sortE (l.map cutEn)⟩ = if l.length = 0 then 4 else 0 := by
  by_cases h0 : l.length = 0
  · obtain rfl := List.length_eq_zero_iff.1 h0
    rfl
  · rw [if_neg h0]
    have hl := sortE_len (l.map cutEn)
    rw [List.length_map] at hl
    refine checkFt_ok.2 ⟨?_, by show (sortE _).length ≤ _; omega, sortE_rises _, ?_⟩
    · show 1 ≤ (sortE (l.map cutEn)).length
      have : cutEn (l.getD 0 En.none) ∈ sortE (l.map cutEn) := sortE_mem.2 (List.mem_map.2 ⟨l.getD 0 En.none, by
        rw [List.getD_eq_getElem?_getD, List.getElem?_eq_getElem (show 0 < l.length by omega)]
        simp, rfl⟩)
      exact List.length_pos_of_mem this
    · unfold belowFt
      rw [List.all_eq_true]
      intro e he
      obtain ⟨x, hx, rfl⟩ := List.mem_map.1 (sortE_mem.1 he)
      have := (foldl_max_ge l 0).2 x hx
      simp only [decide_eq_true_eq]
      show x.at_ % 16777216 < cutUsed l.length l
      unfold cutUsed
      rw [List.take_length]
      exact this
theorem sortE_none (l : List En) : (sortE l).length = 0 ↔ l.length = 0 := by
  constructor
  · intro h
    rcases Nat.eq_zero_or_pos l.length with h0 | h0
    · exact h0
    · have : l.getD 0 En.none ∈ sortE l := sortE_mem.2 (by
        rw [List.getD_eq_getElem?_getD, List.getElem?_eq_getElem h0]
        simp)
      have := List.length_pos_of_mem this
      omega
  · intro h
    have := sortE_len l
    omega

set_option maxHeartbeats 8000000 in
set_option maxRecDepth 10000 in
theorem ftmade_walk (HM : FtMostOk) (HS : MergeOk) (HP : FtPutOk) (p : Option Addr) (n c : Nat) (l : List En) (w : World) (h : InE w p n c l) :
    Calls Try.prog 7 #[.slice p n c] w fun e w' => e = .returned (.bool true) ∧ Keeps NoBlock w w' := by
  have HLv := Lib.hid (fun w => lives13_true HM w)
  by_cases hg : n ≤ 100
  rotate_left
  · have hgd : decide ((100 : Int) < (n : Int)) = true := decide_eq_true (by omega)
    have hgd2 : decide (100 < n) = true := decide_eq_true (by omega)
    clear HM HS HP h
    go_enter Try.func7, Try.ntmps7
    go_wp2_with fail
    refine (HLv.out _).mono ?_
    rintro e w1 ⟨rfl, hk⟩
    have HK := Lib.hid hk
    clear hk
    go_wp2_with fail
    refine (HLv.out _).mono ?_
    rintro e w2 ⟨rfl, hk⟩
    have HK := Lib.hid (HK.out.trans hk)
    clear hk
    go_wp2_with fail
    go_ret
    exact ⟨rfl, HK.out⟩
  have hgd : decide ((100 : Int) < (n : Int)) = false := decide_eq_false (by omega)
  have hgd2 : decide (100 < n) = false := decide_eq_false (by omega)
  have HIn := Lib.hid (fun w2 (hk : Keeps NoBlock w w2) => (show InE w2 p n c l from ⟨h.len, h.cap, h.room, h.bare, h.fine, EnsAt.keep h.at_ hk⟩))
  have HSo := Lib.hid (fun w h => HS.sorted p n c l w h (by omega))
  have HLn := Lib.hid h.len
  have hsl := sortE_len l
  rw [← h.len] at hsl
  have HFs := Lib.hid (sortE_fine h.fine)
  have HNo := Lib.hid (sortE_none l)
  obtain ⟨S, hS⟩ : ∃ S, S = sortE l := ⟨_, rfl⟩
  rw [← hS] at HSo hsl HFs HNo
  obtain ⟨M, hM⟩ : ∃ M, M = S.length := ⟨_, rfl⟩
  rw [← hM] at hsl HNo
  have HMl := Lib.hid hM
  have hm100 : M ≤ 100 := by omega
  have hck := cut_check S (by omega)
  have htl : (sortE (S.map cutEn)).length ≤ M := by have := sortE_len (S.map cutEn); rw [List.length_map] at this; omega
  have HS2 := Lib.hid (fun q d w hi => HS.sorted q M d (S.map cutEn) w hi (by omega))
  have HFc : Hid (∀ e ∈ S.map cutEn, e.Fine) := Lib.hid (fun e he => by
    have := cutRow_fine (j := S.length) HFs.out
    rw [cutRow_all (Nat.le_refl _)] at this
    exact this e he)
  have HFt := Lib.hid (sortE_fine HFc.out)
  have HPu := Lib.hid (fun q m d w hi (hm : m ≤ 100) => HP.put (cutUsed S.length S) q m d (sortE (S.map cutEn)) w (by have := cutUsed_le S.length S; omega) hi (by omega))
  rw [hck] at HPu
  obtain ⟨T, hT⟩ : ∃ T, T = sortE (S.map cutEn) := ⟨_, rfl⟩
  rw [← hT] at HS2 HPu htl HFt
  obtain ⟨UM, hUM⟩ : ∃ UM, UM = cutUsed S.length S := ⟨_, rfl⟩
  rw [← hUM] at HPu
  rw [← hM] at HPu hUM
  have HUM := Lib.hid hUM
  have HMt := Lib.hid htl
  obtain ⟨PF, hPF⟩ : ∃ PF, PF = putFt ⟨UM, T⟩ := ⟨_, rfl⟩
  rw [← hPF] at HPu
  have hU9 : UM ≤ 16777216 := by rw [hUM]; exact cutUsed_le _ _
  clear HM HS HP h hM hS hsl hck htl hT hUM hPF
  go_enter Try.func7, Try.ntmps7
  go_wp2_with fail
  refine (HLv.out _).mono ?_
  rintro e w1 ⟨rfl, hk⟩
  have HK := Lib.hid hk
  have HK1 := Lib.hid hk.size
  clear hk HLv
  go_wp2_with fail
  refine (HSo.out _ (HIn.out _ HK.out)).mono ?_
  rintro e w2 ⟨v, rfl, hts⟩
  have HK := Lib.hid (HK.out.trans hts.keeps)
  obtain ⟨q, m, d, rfl, hm, hmd, hdd, hq, _, _⟩ := hts.new (dd := En.none)
  have hme : M = m := by rw [hm, ← HMl.out]
  subst hme
  have HR := Lib.hid (hts.alloc (.cells (ftCells 0 q M d) 25))
  have HF := Lib.hid (Whole.new w2 25 (ftCells 0 q M d))
  have HG : Hid (∀ g, q = some ⟨g, 0, none⟩ → g < w2.heap.size) := Lib.hid (fun g hg => by
    subst hg
    exact (hts.1.lt g rfl).2)
  have HB : Hid (w1.heap.size ≤ w2.heap.size) := Lib.hid hts.2.size
  have HK := Lib.hid (HK.out.alloc (.cells (ftCells 0 q M d) 25))
  obtain ⟨f0, f1⟩ := ftcells _ _ _ _ _ _ _ HF.out
  clear hts hm
  go_wp2_with fail
  clear f0 f1
  have HR0 : Hid (TwosSoFar enH enA 49 w1 (cutRow 0 S) (.slice q M d) (w2.alloc (.cells (ftCells 0 q M d) 25))) := HR
  go_loopw [21] (fun i wr => ∃ j : Nat, j ≤ M ∧ i = .int .i64 (j : Int) ∧ Hid (Whole wr w2.heap.size 25 (ftCells (cutUsed j S) q M d)) ∧ Hid (TwosSoFar enH enA 49 w1 (cutRow j S) (.slice q M d) wr) ∧ Hid (Keeps NoBlock w wr)) (fun i _ => M - (intOf i).toNat)
  case atStart => exact ⟨0, Nat.zero_le _, rfl, HF, HR0, HK⟩
  case round =>
    clear HR0 HF HR HK
    obtain ⟨j, hj, rfl, HF, HR, HK⟩ := hrel
    by_cases hlt : j < M
    · have hdj : decide ((j : Int) < (M : Int)) = true := decide_eq_true (by omega)
      have hdj2 : decide (j < M) = true := decide_eq_true hlt
      have hjl : j < S.length := by rw [← HMl.out]; exact hlt
      obtain ⟨g, rfl⟩ : ∃ g, q = some ⟨g, 0, none⟩ := by
        rcases HR.out.1.2 with ⟨hv, _⟩ | ⟨g, cap, cur, hv, _⟩
        · simp only [Value.slice.injEq] at hv; omega
        · simp only [Value.slice.injEq] at hv; exact ⟨g, hv.1⟩
      have hgl := HG.out g rfl
      have hcl : j < (cutRow j S).length := by rw [cutRow_length]; exact hjl
      obtain ⟨c0, c1, cf⟩ := HR.out.cells2 (dd := En.none) hcl
      rw [cutRow_at hjl] at c0 c1
      have hHR2 := HR.out.setTwo (dd := En.none) hcl (cutEn (S.getD j En.none)) (by rw [cutRow_at hjl]; rfl)
      rw [cutRow_step hjl] at hHR2
      have HUs := Lib.hid (cutUsed_step hjl)
      obtain ⟨r, hr⟩ : ∃ r, r = S.getD j En.none := ⟨_, rfl⟩
      rw [← hr] at c0 c1 hHR2 HUs
      have hrf : r.at_ < 4294967296 := by
        have := HFs.out r (by rw [hr]; rw [List.getD_eq_getElem?_getD, List.getElem?_eq_getElem hjl]; simp)
        exact this.at_
      obtain ⟨A, hA⟩ : ∃ A, A = r.at_ % 16777216 := ⟨_, rfl⟩
      have a1 : (r.at_ : Int).tmod 16777216 = (A : Int) := by rw [Int.tmod_eq_emod_of_nonneg (by omega)]; omega
      have a2 : (r.at_ : Int) % 16777216 = (A : Int) := by omega
      have hA9 : A < 16777216 := by omega
      have HR2 : Hid (TwosSoFar enH enA 49 w1 (cutRow (j + 1) S) (.slice (some ⟨g, 0, none⟩) M d) (wr.setCell ⟨g, j * 2 + 1, none⟩ (.int .u32 (A : Int)))) := Lib.hid (by
        have e : enA (cutEn r) = .int .u32 (A : Int) := by rw [hA]; rfl
        rw [← e]
        exact hHR2)
      clear hHR2
      unfold enA at c1
      rw [← hA] at HUs
      unfold enH at c0
      have HFa := Lib.hid (HF.out.setOther (p := ⟨g, j * 2 + 1, none⟩) (by show w2.heap.size ≠ g; omega) (.int .u32 (A : Int)))
      obtain ⟨UJ, hUJ⟩ : ∃ U, U = cutUsed j S := ⟨_, rfl⟩
      have hUJ9 : UJ ≤ 16777216 := by rw [hUJ]; exact cutUsed_le _ _
      rw [← hUJ] at HF HFa HUs
      obtain ⟨f0, f1⟩ := ftcells _ _ _ _ _ _ _ HF.out
      obtain ⟨f2, f3⟩ := ftcells _ _ _ _ _ _ _ HFa.out
      have f4 := HFa.out.free 0
      have HJ := Lib.hid (And.intro hj hlt)
      have hb1 := HB.out
      have HKa := Lib.hid (HK.out.set (p := ⟨g, j * 2 + 1, none⟩) (.inr (by
        obtain ⟨_, _, _, h4, _⟩ := HR.out.whole
        exact Nat.le_trans HK1.out h4)) (.int .u32 (A : Int)))
      obtain ⟨_, c2, _⟩ := HR2.out.cells2 (dd := En.none) (i := j) (by rw [cutRow_length]; exact hjl)
      have hc2 : (cutRow (j + 1) S).getD j En.none = ⟨r.hash, A⟩ := by
        rw [← cutRow_step hjl, ← hr, List.getD_eq_getElem?_getD, List.getElem?_set_self (by rw [cutRow_length]; exact hjl)]
        unfold cutEn
        rw [← hA]
        rfl
      rw [hc2] at c2
      unfold enA at c2
      simp only at c2
      clear hr hjl hcl hA hUJ hrf hc2
      go_wp2_with fail
      obtain ⟨W1, hW1⟩ : ∃ W1, W1 = wr.setCell ⟨g, j * 2 + 1, none⟩ (.int .u32 (A : Int)) := ⟨_, rfl⟩
      rw [← hW1] at HFa
      rw [← hW1] at HR2
      rw [← hW1] at HKa
      rw [← hW1] at f2 f3
      rw [← hW1] at f4
      rw [← hW1] at c2
      rw [← hW1]
      clear hW1 f0 f1 c0 c1 cf HF HR HK
      have wA : IntKind.u32.wrap ((A : Int) + 1) = (A : Int) + 1 := by rw [IntKind.wrap_u32]; omega
      have HFb : ∀ V, V = cutUsed (j + 1) S → Hid (Whole (W1.setCell ⟨w2.heap.size, 0, none⟩ (.int .u32 (V : Int))).drew w2.heap.size 25 (ftCells (cutUsed (j + 1) S) (some ⟨g, 0, none⟩) M d)) := fun V hV => Lib.hid (by rw [← hV]; exact Whole.drewN (HFa.out.set 0 (.int .u32 (V : Int))) 1)
      have HRb : ∀ v, Hid (TwosSoFar enH enA 49 w1 (cutRow (j + 1) S) (.slice (some ⟨g, 0, none⟩) M d) (W1.setCell ⟨w2.heap.size, 0, none⟩ v).drew) := fun v => Lib.hid ((TwosSoFar.setFar HR2.out (by show g ≠ w2.heap.size; omega) hb1 v).keep ((Keeps.refl NoBlock _).drew))
      have HKb : ∀ v, Hid (Keeps NoBlock w (W1.setCell ⟨w2.heap.size, 0, none⟩ v).drew) := fun v => Lib.hid ((HKa.out.set (.inr (Nat.le_trans HK1.out hb1)) v).drew)
      have hJ := HJ.out
      by_cases hm : UJ < A + 1
      · have g1 : (UJ : Int) < (A : Int) + 1 := by omega
        have g3 : max (UJ : Int) ((A : Int) + 1) = (A : Int) + 1 := Int.max_eq_right (by omega)
        have HF3 := HFb (A + 1) (by rw [HUs.out]; omega)
        have HR3 := HRb (.int .u32 ((A : Int) + 1))
        have HK3 := HKb (.int .u32 ((A : Int) + 1))
        clear HFb HRb HKb
        go_region
        go_wp2_with fail
        exact ⟨⟨j + 1, by omega, by go_num, HF3, HR3, HK3⟩, by simp [intOf]; omega⟩
      · have g1 : ¬ (UJ : Int) < (A : Int) + 1 := by omega
        have g3 : max (UJ : Int) ((A : Int) + 1) = (UJ : Int) := Int.max_eq_left (by omega)
        have g2 : (A : Int) + 1 ≤ (UJ : Int) := by omega
        have HF3 := HFb UJ (by rw [HUs.out]; omega)
        have HR3 := HRb (.int .u32 (UJ : Int))
        have HK3 := HKb (.int .u32 (UJ : Int))
        clear HFb HRb HKb
        go_region
        go_wp2_with fail
        exact ⟨⟨j + 1, by omega, by go_num, HF3, HR3, HK3⟩, by simp [intOf]; omega⟩
    · have hdj : decide ((j : Int) < (M : Int)) = false := decide_eq_false (by omega)
      have hdj2 : decide (j < M) = false := decide_eq_false hlt
      obtain rfl : j = M := by omega
      rw [cutRow_all (by have := HMl.out; omega)] at HR
      rw [← HUM.out] at HF
      have hkr := Keeps.refl NoBlock wr
      obtain ⟨f0, f1⟩ := ftcells _ _ _ _ _ _ _ HF.out
      obtain ⟨qs, ms, ds, hvs, hms, hmds, hdds, hqs, hats, _⟩ := HR.out.new (dd := En.none)
      simp only [Value.slice.injEq] at hvs
      obtain ⟨rfl, rfl, rfl⟩ := hvs
      have HI := Lib.hid (show InE wr q j d (S.map cutEn) from ⟨hms, hmds, hdds, hqs, HFc.out, hats⟩)
      have HJ1 := Lib.hid (Nat.le_trans HK1.out HB.out)
      have HF9 := Lib.hid HF.out.lt
      clear hms hmds hdds hqs hats hkr hlt hj hq HR
      obtain ⟨w9, rfl⟩ : ∃ x, x = wr := ⟨_, rfl⟩
      go_wp2_with fail
      refine (HS2.out q d _ HI.out).mono ?_
      rintro e w4 ⟨v, rfl, hts⟩
      have hk := hts.keeps
      obtain ⟨q4, m4, d4, rfl, hm4, hmd4, hdd4, hq4, hat4, _⟩ := hts.new (dd := En.none)
      have HK := Lib.hid (HK.out.trans hk)
      have HF := Lib.hid (HF.out.keep hk (fun h => h))
      have hlt9 : w2.heap.size < w4.heap.size := HF.out.lt
      have HF5 := Lib.hid (HF.out.set 1 (.slice q4 m4 d4))
      have HK5 := Lib.hid (HK.out.set (p := ⟨w2.heap.size, 1, none⟩) (.inr HJ1.out) (.slice q4 m4 d4))
      have HI5 := Lib.hid (show InE (w4.setCell ⟨w2.heap.size, 1, none⟩ (.slice q4 m4 d4)) q4 m4 d4 T from ⟨hm4, hmd4, hdd4, hq4, HFt.out, EnsAt.keepFar (show EnsAt w4 q4 T from hat4) ((Keeps.refl (Just w2.heap.size) w4).setIn (Just.self _) 1 _) (fun h0 a ha => by
        subst ha
        have hlt := (HF.out.lt)
        have hb := own_from hts.1 rfl
        have := HF9.out
        unfold Just
        omega)⟩)
      obtain ⟨f2, f3⟩ := ftcells _ _ _ _ _ _ _ HF.out
      have f4 := HF.out.free 1
      have hm9 : m4 ≤ 100 := by rw [hm4]; have := HMt.out; omega
      clear f0 f1 hk hts hm4 hmd4 hdd4 hq4 hat4
      go_wp2_with fail
      refine (HPu.out q4 m4 d4 _ HI5.out hm9).mono ?_
      rintro e w6 ⟨v, rfl, q6, m6, d6, rfl, _, _, _, _, _, hk⟩
      have HK6 := Lib.hid (HK5.out.trans hk)
      clear hk f2 f3 f4
      by_cases h0 : j = 0
      · have hn0 : n = 0 := by rw [HLn.out]; exact HNo.out.1 h0
        have e1 : (if j = 0 then (4 : Int) else 0) = 4 := if_pos h0
        rw [e1] at *
        have g3 : decide ((0 : Int) < (n : Int)) = false := decide_eq_false (by omega)
        have g4 : decide (0 < n) = false := decide_eq_false (by omega)
        clear h0 hn0 e1
        go_wp2_with fail
        go_ret
        exact ⟨by first | rfl | simp, HK6.out⟩
      · have hn0 : 0 < n := by
          rcases Nat.eq_zero_or_pos n with h1 | h1
          · exact absurd (HNo.out.2 (by rw [← HLn.out]; exact h1)) h0
          · exact h1
        have g3 : decide ((0 : Int) < (n : Int)) = true := decide_eq_true (by omega)
        have g4 : decide (0 < n) = true := decide_eq_true hn0
        simp only [if_neg h0]
        clear h0
        go_wp2_with fail
        go_ret
        exact ⟨by first | rfl | simp, HK6.out⟩
end Go.Proofs.Ytmifbohdepejaaa

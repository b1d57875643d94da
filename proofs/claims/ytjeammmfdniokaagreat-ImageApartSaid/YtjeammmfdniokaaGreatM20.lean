/-
  RecSame; ImSame; ImLaws; RecNone; ImEnWalk; ImOwnNum.
-/
import Derived.Deep.QuietTactic
import Derived.Test.YtjeammmfdniokaaGreatM01
import Derived.Test.YtjeammmfdniokaaGreatM07
import Derived.Test.YtjeammmfdniokaaGreatM16
import Derived.Test.YtjeammmfdniokaaGreatM17
import Derived.Test.YtjeammmfdniokaaGreatM19
namespace Go.Proofs.YtjeammmfdniokaaGreat
open Go.RowKit

instance recDec16 : DecidableEq Rec := fun a b =>
  if h : a.del = b.del ∧ a.seq = b.seq ∧ a.key = b.key ∧ a.val = b.val then isTrue (by
    cases a
    cases b
    simp only at h
    obtain ⟨h1, h2, h3, h4⟩ := h
    rw [h1, h2, h3, h4])
  else isFalse (fun e => h (by subst e; exact ⟨rfl, rfl, rfl, rfl⟩))
theorem recDiff {a b : Rec} (ha : a.Fine) (hb : b.Fine) (w : World) : (binOp .neq 46 (recV a) (recV b)).run Tryz.prog w = .ok (.bool (decide (a ≠ b))) w := by
  by_cases hab : a = b
  · subst hab
    unfold recV
    simp [go_sem]
  rw [decide_eq_true (show a ≠ b from hab)]
  by_cases h1 : a.del = b.del
  · by_cases h2 : a.seq = b.seq
    · by_cases h3 : (strOfNums a.key).toList = (strOfNums b.key).toList
      · by_cases h4 : (strOfNums a.val).toList = (strOfNums b.val).toList
        · exfalso
          have e3 := text_beq (strOfNums a.key) (strOfNums b.key)
          have e4 := text_beq (strOfNums a.val) (strOfNums b.val)
          rw [h3, beq_self_eq_true] at e3
          rw [h4, beq_self_eq_true] at e4
          have k3 := strOf_inj ha.key hb.key (of_decide_eq_true e3.symm)
          have k4 := strOf_inj ha.val hb.val (of_decide_eq_true e4.symm)
          apply hab
          cases a
          cases b
          simp only at h1 h2 k3 k4
          rw [h1, h2, k3, k4]
        · unfold recV
          simp [go_sem, h1, h2, h3, h4]
      · unfold recV
        simp [go_sem, h1, h2, h3]
    · have : ¬ (a.seq : Int) = (b.seq : Int) := by omega
      unfold recV
      simp [go_sem, h1, this]
  · unfold recV
    simp [go_sem, h1]

theorem take_more16 {l k : List Rec} {j : Nat} (hl : j < l.length) (hk : j < k.length) (h : l.take j = k.take j) (h2 : l.getD j Rec.none = k.getD j Rec.none) : l.take (j + 1) = k.take (j + 1) := by
  rw [List.take_succ_eq_append_getElem hl, List.take_succ_eq_append_getElem hk, h]
  simp [hl, hk] at h2
  rw [h2]

set_option maxHeartbeats 4000000 in
set_option maxRecDepth 10000 in
theorem same16_ref (p : Option Addr) (n c : Nat) (l : List Rec) (q : Option Addr) (m d : Nat) (k : List Rec) (hn : n = l.length) (hm : m = k.length) (hn9 : n ≤ 1000000) (hf : ∀ r ∈ l, r.Fine) (hg : ∀ r ∈ k, r.Fine) (w : World) (hl : RecsAt w p l) (hk : RecsAt w q k) :
    Calls Tryz.prog 17 #[.slice p n c, .slice q m d] w fun e w' => e = .returned (.bool (decide (l = k))) ∧ Keeps NoBlock w w' := by
  by_cases hnm : n = m
  rotate_left
  · have h0 : decide (l = k) = false := decide_eq_false (fun h => hnm (by rw [hn, hm, h]))
    have hz : ((n : Int) == (m : Int)) = false := by rw [beq_eq_false_iff_ne]; omega
    have hz2 : (n == m) = false := by rw [beq_eq_false_iff_ne]; exact hnm
    rw [h0]
    clear hl hk hf hg hn hm h0
    go_enter Tryz.func17, Tryz.ntmps17
    go_wp2_with fail
    go_ret
    exact ⟨rfl, Keeps.refl _ _⟩
  subst hnm
  have HL := Lib.hid hl
  have HKk := Lib.hid hk
  have HN := Lib.hid (And.intro hn hm)
  have HFn := Lib.hid (And.intro hf hg)
  clear hl hk hn hm hf hg
  go_enter Tryz.func17, Tryz.ntmps17
  go_wp2_with fail
  go_loopw [13] (fun i wr => ∃ j : Nat, j ≤ n ∧ i = .int .i64 (j : Int) ∧ Hid (l.take j = k.take j) ∧ Hid (Keeps NoBlock w wr)) (fun i _ => n - (intOf i).toNat)
  case atStart => exact ⟨0, Nat.zero_le _, rfl, Lib.hid rfl, Lib.hid (Keeps.refl _ _)⟩
  case round =>
    obtain ⟨j, hj, rfl, HT, HK⟩ := hrel
    by_cases hlt : j < n
    · have hdj : decide ((j : Int) < (n : Int)) = true := decide_eq_true (by omega)
      have hdj2 : decide (j < n) = true := decide_eq_true hlt
      have hjl : j < l.length := by rw [← HN.out.1]; exact hlt
      have hjk : j < k.length := by rw [← HN.out.2]; exact hlt
      obtain ⟨a, rfl, x0, x1, x2, x3⟩ := (HL.out.keep HK.out (fun _ _ h => h)) j hjl
      obtain ⟨b, rfl, y0, y1, y2, y3⟩ := (HKk.out.keep HK.out (fun _ _ h => h)) j hjk
      have hcmp := recDiff (HFn.out.1 _ (show l.getD j Rec.none ∈ l by simp [hjl])) (HFn.out.2 _ (show k.getD j Rec.none ∈ k by simp [hjk]))
      have HMr := Lib.hid (take_more16 hjl hjk HT.out)
      have HLs := Lib.hid (show l.getD j Rec.none ≠ k.getD j Rec.none → l ≠ k from fun h1 h2 => h1 (by rw [h2]))
      obtain ⟨r1, hr1⟩ : ∃ r, r = l.getD j Rec.none := ⟨_, rfl⟩
      obtain ⟨r2, hr2⟩ : ∃ r, r = k.getD j Rec.none := ⟨_, rfl⟩
      rw [← hr1] at x0 x1 x2 x3 hcmp HMr HLs
      rw [← hr2] at y0 y1 y2 y3 hcmp HMr HLs
      unfold recV at hcmp
      have hjL : (j : Int) < (n : Int) := by omega
      clear hr1 hr2 hjl hjk
      by_cases hne : r1 = r2
      · rw [decide_eq_false (show ¬ r1 ≠ r2 from fun h => h hne)] at hcmp
        have HE := Lib.hid (HMr.out hne)
        clear hne
        go_wp2_with fail
        go_quiet (fail)
        go_wp2_with fail
        go_roundw
        case rel => exact ⟨j + 1, by omega, by go_num, HE, Lib.hid (by first | exact HK.out.drewN _ | exact HK.out)⟩
        case measure => simp [intOf]; omega
      · rw [decide_eq_true (show r1 ≠ r2 from hne)] at hcmp
        have HE := Lib.hid (show decide (l = k) = false from decide_eq_false (HLs.out hne))
        clear hne
        go_wp2_with fail
        go_quiet (fail)
        go_wp2_with fail
        go_ret
        rw [HE.out]
        exact ⟨rfl, by first | exact HK.out.drewN _ | exact HK.out⟩
    · have hdj : decide ((j : Int) < (n : Int)) = false := decide_eq_false (by omega)
      have hdj2 : decide (j < n) = false := decide_eq_false hlt
      have HE : Hid (decide (l = k) = true) := Lib.hid (decide_eq_true (by
        have h1 := HT.out
        rw [List.take_of_length_le (by have := HN.out.1; omega), List.take_of_length_le (by have := HN.out.2; omega)] at h1
        exact h1))
      go_wp2_with fail
      go_ret
      rw [HE.out]
      exact ⟨rfl, HK.out⟩
end Go.Proofs.YtjeammmfdniokaaGreat

namespace Go.Proofs.YtjeammmfdniokaaGreat
end Go.Proofs.YtjeammmfdniokaaGreat

namespace Go.Proofs.YtjeammmfdniokaaGreat
open Go.RowKit

/-- The contract of Encode. -/
structure ImEncOk : Prop where
  enc : ∀ (e s : Nat) (p : Option Addr) (n c : Nat) (l : List Rec) (w : World), e < 256 → s < 4294967296 → n ≤ 10000 → (n < 1000 ∨ e ≤ 13) → InR w p n c l →
    Calls Tryz.prog 10 #[confV e s, .slice p n c] w fun r w' => ∃ u, r = .returned (.tuple #[u, .int .i64 (encI e s l).1]) ∧ OwnB w (encI e s l).2 u w' ∧ Keeps NoBlock w w'

def recA : Rec := ⟨false, 0, [97], []⟩
theorem recA_fine : recA.Fine := by
  refine ⟨?_, ?_, ?_⟩ <;> simp [recA, Octets]
theorem plan_none : planI 12 1 [] = (0, []) := by decide +kernel
theorem enc_none : encI 12 1 [] = (0, []) := by
  unfold encI
  rw [plan_none]
  rfl
theorem plan_a : (planI 12 1 [recA]).1 = 0 := by decide +kernel
theorem parts_a : (partsGo [] [recA] (planI 12 1 [recA]).2).length = 1 := by decide +kernel
theorem enc_a : (encI 12 1 [recA]).1 = 0 ∧ (encI 12 1 [recA]).2.length = 4096 := by
  constructor
  · unfold encI
    rw [if_neg (by rw [plan_a]; simp)]
  · rw [image_length (by decide) plan_a, parts_a]

set_option maxHeartbeats 2000000 in
set_option maxRecDepth 10000 in
theorem lives16_true {At : BAt} (HB : SgBuild At) (HNw : SgNewOk At) (HOp : SgOpenOk At) (H : ImEncOk) (w : World) : Calls Tryz.prog 7 #[] w fun e w' => e = .returned (.bool true) ∧ Keeps NoBlock w w' := by
  have HL := Lib.hid (fun w => lives15_true HB HNw HOp w)
  have HE1 := Lib.hid (fun w => H.enc 12 1 none 0 0 [] w (by decide) (by decide) (by decide) (.inl (by decide)) ⟨rfl, by decide, by decide, fun r hr => by simp at hr, fun r hr => by simp at hr, fun r hr => by simp at hr, RecsAt.nil _ _⟩)
  have HE2 := Lib.hid (fun w b (h : RecsAt w (some ⟨b, 0, none⟩) [recA]) => H.enc 12 1 (some ⟨b, 0, none⟩) 1 1 [recA] w (by decide) (by decide) (by decide) (.inl (by decide)) ⟨rfl, by decide, by decide, fun r hr => by rw [List.mem_singleton.1 hr]; exact recA_fine, fun r hr => by rw [List.mem_singleton.1 hr]; simp [recA], fun r hr => by rw [List.mem_singleton.1 hr]; simp [recA], h⟩)
  rw [enc_none] at HE1
  rw [enc_a.1] at HE2
  have hlen := enc_a.2
  obtain ⟨X, hX⟩ : ∃ X, X = (encI 12 1 [recA]).2 := ⟨_, rfl⟩
  rw [← hX] at HE2 hlen
  have HLn := Lib.hid hlen
  clear hX hlen HB HNw HOp H
  have HK := Lib.hid ((Keeps.refl NoBlock w).alloc (.cells (confCells 12 1) 27))
  have HC := Lib.hid (Whole.new w 27 (confCells 12 1))
  unfold confV at HE1 HE2
  go_enter Tryz.func7, Tryz.ntmps7
  go_wp2_with fail
  refine (HE1.out _).mono ?_
  rintro e1 w1 ⟨u1, rfl, ho1, hk⟩
  obtain ⟨q1, d1, rfl, _⟩ := ho1.read
  have HK := Lib.hid (HK.out.trans hk)
  have HC := Lib.hid (HC.out.keep hk (fun h => h))
  clear hk ho1
  have g0 := HC.out.cell 0 rfl
  have g1 := HC.out.cell 1 rfl
  simp only [confCells, List.getElem_toArray, List.getElem_cons_zero, List.getElem_cons_succ] at g0 g1
  obtain ⟨W, hW⟩ : ∃ W, W = w1.alloc (.cells #[.bool false, .int .u64 0, .string ⟨#[97]⟩, .string ⟨#[]⟩] 46) := ⟨_, rfl⟩
  have HR : Hid (RecsAt W (some ⟨w1.heap.size, 0, none⟩) [recA]) := Lib.hid (by
    have hw : Whole W w1.heap.size 46 #[.bool false, .int .u64 0, .string ⟨#[97]⟩, .string ⟨#[]⟩] := by rw [hW]; exact Whole.new _ _ _
    intro i hi
    obtain rfl : i = 0 := by simp at hi; omega
    exact ⟨_, rfl, hw.cell 0 rfl, hw.cell 1 rfl, hw.cell 2 rfl, hw.cell 3 rfl⟩)
  have HKW : Hid (Keeps NoBlock w W) := Lib.hid (by rw [hW]; exact HK.out.alloc _)
  go_wp2_with fail
  rw [← hW]
  clear hW
  refine (HE2.out _ _ HR.out).mono ?_
  rintro e2 w2 ⟨u2, rfl, ho2, hk⟩
  obtain ⟨q2, d2, rfl, _⟩ := ho2.read
  rw [HLn.out]
  have HK := Lib.hid (HKW.out.trans hk)
  clear hk ho2
  go_wp2_with fail
  refine (HL.out _).mono ?_
  rintro e3 w3 ⟨rfl, hk⟩
  have HK := Lib.hid (HK.out.trans hk)
  clear hk
  go_wp2_with fail
  go_ret
  exact ⟨rfl, HK.out⟩
end Go.Proofs.YtjeammmfdniokaaGreat

namespace Go.Proofs.YtjeammmfdniokaaGreat

end Go.Proofs.YtjeammmfdniokaaGreat

namespace Go.Proofs.YtjeammmfdniokaaGreat
open Go.RowKit

set_option maxHeartbeats 4000000 in
set_option maxRecDepth 10000 in
theorem imencodes_walk {At : BAt} (HB : SgBuild At) (HNw : SgNewOk At) (HOp : SgOpenOk At) (H : ImEncOk) (k : Nat) (p : Option Addr) (n c : Nat) (l : List Rec) (w : World) (hk : k < 256) (hn : n = l.length) (hc : n ≤ c) (hc' : c ≤ 9223372036854775807) (hf : ∀ r ∈ l, r.Fine) (hb : ∀ r ∈ l, r.key.length ≤ 9223372036854775807 ∧ r.val.length ≤ 9223372036854775807) (hl : RecsAt w p l) :
    Calls Tryz.prog 3 #[.int .u8 (k : Int), .slice p n c] w fun e w' => e = .returned (.bool true) ∧ Keeps NoBlock w w' := by
  have HL := Lib.hid (fun w => lives16_true HB HNw HOp H w)
  have HFw := Lib.hid (fun (w : World) hl => few_any p n c l 40 2000 40 2000 rfl rfl hn (by omega) hb w hl)
  have HR := Lib.hid hl
  by_cases hlt : fewR l 40 2000 = true
  rotate_left
  · rw [Bool.not_eq_true] at hlt
    rw [hlt] at HFw
    clear hl hb hf HB HNw HOp H hn hlt
    go_enter Tryz.func3, Tryz.ntmps3
    go_wp2_with fail
    refine (HL.out _).mono ?_
    rintro e w1 ⟨rfl, hk1⟩
    have HK := Lib.hid hk1
    have HR := Lib.hid (HR.out.keep hk1 (fun _ _ h => h))
    clear hk1
    go_wp2_with fail
    refine (HFw.out _ HR.out).mono ?_
    rintro e w2 ⟨rfl, hk1⟩
    have HK := Lib.hid (HK.out.trans hk1)
    clear hk1
    go_wp2_with fail
    refine (HL.out _).mono ?_
    rintro e w3 ⟨rfl, hk1⟩
    have HK := Lib.hid (HK.out.trans hk1)
    clear hk1
    go_wp2_with fail
    go_ret
    exact ⟨rfl, HK.out⟩
  rw [hlt] at HFw
  unfold fewR at hlt
  rw [Bool.and_eq_true, decide_eq_true_eq] at hlt
  obtain ⟨hlt1, hlt2⟩ := hlt
  have hlit : ∀ r ∈ l, r.key.length ≤ 2000 ∧ r.val.length ≤ 2000 := fun r hr => by
    have := List.all_eq_true.1 hlt1 r hr
    unfold littleR at this
    rw [Bool.and_eq_true, decide_eq_true_eq, decide_eq_true_eq] at this
    exact this
  have HI := Lib.hid (show InR w p n c l from ⟨hn, hc, hc', hf, fun r hr => by have := (hlit r hr).1; omega, fun r hr => by have := (hlit r hr).2; omega, hl⟩)
  obtain ⟨he1, he2, hs1, hs2⟩ := small_room k
  have HSm := Lib.hid (fun w => small15_go k hk w)
  have HEn := Lib.hid (fun w h => H.enc (smallE k) (smallS k) p n c l w (by omega) (by omega) (by omega) (by omega) h)
  have HRf := Lib.hid (fun w h => enc16_ref (smallE k) (smallS k) p n c l (by omega) w h)
  obtain ⟨e, hed⟩ : ∃ e, e = smallE k := ⟨_, rfl⟩
  obtain ⟨s, hsd⟩ : ∃ s, s = smallS k := ⟨_, rfl⟩
  rw [← hed, ← hsd] at HSm HEn HRf
  obtain ⟨X, hX⟩ : ∃ X, X = (encI e s l).2 := ⟨_, rfl⟩
  obtain ⟨y, hy⟩ : ∃ y, y = (encI e s l).1 := ⟨_, rfl⟩
  rw [← hX, ← hy] at HEn HRf
  clear hX hy hed hsd hlit hlt1 hlt2 hl hb hf HB HNw HOp H hn he1 he2 hs1 hs2
  unfold confV at HSm HEn HRf
  go_enter Tryz.func3, Tryz.ntmps3
  go_wp2_with fail
  refine (HL.out _).mono ?_
  rintro e1 w1 ⟨rfl, hk1⟩
  have HK := Lib.hid hk1
  clear hk1
  go_wp2_with fail
  refine (HFw.out _ (HR.out.keep HK.out (fun _ _ h => h))).mono ?_
  rintro e2 w2 ⟨rfl, hk1⟩
  have HK := Lib.hid (HK.out.trans hk1)
  clear hk1
  go_wp2_with fail
  refine (HSm.out _).mono ?_
  rintro e3 w3 ⟨rfl, hk1⟩
  have HK := Lib.hid (HK.out.trans hk1)
  clear hk1
  go_wp2_with fail
  obtain ⟨wC, hwC⟩ : ∃ wC, wC = w3.alloc (.cells #[.int .u8 (e : Int), .int .u32 (s : Int)] 27) := ⟨_, rfl⟩
  have HK : Hid (Keeps NoBlock w wC) := Lib.hid (by rw [hwC]; exact HK.out.alloc _)
  have HC : Hid (Whole wC w3.heap.size 27 (confCells e s)) := Lib.hid (by rw [hwC]; exact Whole.new w3 _ _)
  rw [← hwC]
  clear hwC
  refine (HEn.out _ (HI.out.keep HK.out)).mono ?_
  rintro e4 w4 ⟨u, rfl, ho, hk1⟩
  obtain ⟨q, d, rfl, _, _, h8, _, _⟩ := ho.read
  have HK := Lib.hid (HK.out.trans hk1)
  have HC := Lib.hid (HC.out.keep hk1 (fun h => h))
  have H8 := Lib.hid h8
  clear hk1 ho h8
  have g0 := HC.out.cell 0 rfl
  have g1 := HC.out.cell 1 rfl
  simp only [confCells, List.getElem_toArray, List.getElem_cons_zero, List.getElem_cons_succ] at g0 g1
  go_wp2_with fail
  refine (HRf.out _ (HI.out.keep HK.out)).mono ?_
  rintro e5 w5 ⟨rfl, hk1⟩
  have HK := Lib.hid (HK.out.trans hk1)
  have hc := textOf q X.length d X w5 rfl (H8.out.keep hk1 (fun _ _ h => h))
  clear hk1 g0 g1
  go_wp2_with fail
  go_ret
  exact ⟨rfl, HK.out⟩
end Go.Proofs.YtjeammmfdniokaaGreat

namespace Go.Proofs.YtjeammmfdniokaaGreat

def segL (l : List Rec) (x : Nat × Nat) : List Rec := (l.drop x.1).take x.2
theorem segL_one {l : List Rec} {j : Nat} (h : j < l.length) : segL l (j, 1) = [l.getD j Rec.none] := by
  unfold segL
  show (l.drop j).take 1 = _
  rw [List.drop_eq_getElem_cons h, List.take_succ_cons, List.take_zero]
  simp [h]
theorem segL_more {l : List Rec} {f j : Nat} (hf : f ≤ j) (h : j < l.length) : segL l (f, j + 1 - f) = segL l (f, j - f) ++ [l.getD j Rec.none] := by
  unfold segL
  show (l.drop f).take (j + 1 - f) = (l.drop f).take (j - f) ++ _
  rw [show j + 1 - f = (j - f) + 1 by omega, List.take_succ_eq_append_getElem (by rw [List.length_drop]; omega), List.getElem_drop]
  simp [show f + (j - f) = j by omega, h]
theorem segL_length {l : List Rec} {x : Nat × Nat} (h : x.1 + x.2 ≤ l.length) : (segL l x).length = x.2 := by
  unfold segL
  rw [List.length_take, List.length_drop]
  omega
theorem segL_at {l : List Rec} {x : Nat × Nat} {i : Nat} (hi : i < x.2) : (segL l x).getD i Rec.none = l.getD (x.1 + i) Rec.none := by
  unfold segL
  rw [List.getD_eq_getElem?_getD, List.getElem?_take, if_pos hi, List.getElem?_drop, ← List.getD_eq_getElem?_getD]
theorem segL_mem {l : List Rec} {x : Nat × Nat} {r : Rec} (h : r ∈ segL l x) : r ∈ l := List.mem_of_mem_drop (List.mem_of_mem_take h)
/-- How far the records have been cut: j of them, the last cut's beginning, the cuts. -/
structure Spans (l : List Rec) (ks : List Nat) (j f : Nat) (sp : List (Nat × Nat)) : Prop where
  le : f ≤ j
  most : j ≤ l.length
  parts : partsTo l ks j = sp.map (segL l) ++ (if f = j then [] else [segL l (f, j - f)])
  inn : ∀ x ∈ sp, x.1 + x.2 ≤ l.length
  few : sp.length ≤ j
  next : j < l.length → ks.getD j 0 = sp.length
  last : j = l.length → f = j
theorem spans_start {l : List Rec} {ks : List Nat} (h : l.length = ks.length) (hst : Steps 0 ks) : Spans l ks 0 0 [] where
  le := Nat.le_refl _
  most := Nat.zero_le _
  parts := by simp [partsTo, partsGo]
  inn := fun x hx => by simp at hx
  few := Nat.le_refl _
  next := fun hl => by
    have := steps_at ks l [] 0 hst h (by omega)
    simp [partsGo] at this
    simpa using this
  last := fun _ => rfl
theorem Spans.grown {l : List Rec} {ks : List Nat} {j f : Nat} {sp : List (Nat × Nat)} (h : Spans l ks j f sp) (hl : l.length = ks.length) (hj : j < l.length) : partsTo l ks (j + 1) = sp.map (segL l) ++ [segL l (f, j + 1 - f)] := by
  rw [partsTo_step hl hj, h.parts, h.next hj]
  have hle := h.le
  by_cases hf : f = j
  · subst hf
    rw [if_pos rfl, List.append_nil, show f + 1 - f = 1 by omega, segL_one hj]
    have := putPart_next (sp.map (segL l)) (l.getD f Rec.none)
    rw [List.length_map] at this
    exact this
  · rw [if_neg hf, segL_more h.le hj]
    have := putPart_last (sp.map (segL l)) (segL l (f, j - f)) (l.getD j Rec.none)
    rw [List.length_map] at this
    exact this
theorem Spans.flush {l : List Rec} {ks : List Nat} {j f : Nat} {sp : List (Nat × Nat)} (h : Spans l ks j f sp) (hl : l.length = ks.length) (hst : Steps 0 ks) (hj : j < l.length) (hx : j + 1 = l.length ∨ ks.getD (j + 1) 0 ≠ ks.getD j 0) : Spans l ks (j + 1) (j + 1) (sp ++ [(f, j + 1 - f)]) where
  le := Nat.le_refl _
  most := hj
  parts := by rw [h.grown hl hj, if_pos rfl, List.append_nil, List.map_append]; rfl
  inn := fun x hm => by
    rcases List.mem_append.1 hm with hm | hm
    · exact h.inn x hm
    · rw [List.mem_singleton.1 hm]
      have := h.le
      show f + (j + 1 - f) ≤ _
      omega
  few := by
    have := h.few
    rw [List.length_append, List.length_singleton]
    omega
  next := fun hj1 => by
    have h1 := steps_at ks l [] (j + 1) hst hl (by omega)
    change ks.getD (j + 1) 0 = (partsTo l ks (j + 1)).length ∨ ks.getD (j + 1) 0 + 1 = (partsTo l ks (j + 1)).length at h1
    rw [h.grown hl hj, List.length_append, List.length_map, List.length_singleton] at h1
    have h2 := h.next hj
    rw [List.length_append, List.length_singleton]
    rcases hx with hx | hx
    · omega
    · omega
  last := fun _ => rfl
theorem Spans.go {l : List Rec} {ks : List Nat} {j f : Nat} {sp : List (Nat × Nat)} (h : Spans l ks j f sp) (hl : l.length = ks.length) (hj : j + 1 < l.length) (hx : ks.getD (j + 1) 0 = ks.getD j 0) : Spans l ks (j + 1) f sp where
  le := by have := h.le; omega
  most := by omega
  parts := by rw [h.grown hl (by omega), if_neg (by have := h.le; omega)]
  inn := h.inn
  few := by have := h.few; omega
  next := fun _ => by rw [hx]; exact h.next (by omega)
  last := fun e => by omega
theorem Spans.all {l : List Rec} {ks : List Nat} {f : Nat} {sp : List (Nat × Nat)} (h : Spans l ks l.length f sp) (hl : l.length = ks.length) : partsGo [] l ks = sp.map (segL l) := by
  have := h.parts
  rw [if_pos (h.last rfl), List.append_nil] at this
  unfold partsTo at this
  rwa [List.take_of_length_le (Nat.le_refl _), List.take_of_length_le (by omega)] at this

theorem outS_take_le (e s n : Nat) (l : List Rec) (k : Nat) : (outS e s n (l.take k)).length ≤ (outS e s n l).length := by
  have h : outS e s n l = outS e s n (l.take k) ++ recsB (l.drop k) := by
    unfold outS
    rw [List.append_assoc]
    congr 1
    unfold recsB
    rw [← List.flatMap_append, List.take_append_drop]
  rw [h, List.length_append]
  omega
theorem room_is {r : Rm} {l : List Rec} (h : InRoom r l) : r = sgRoom r.e r.s r.num l := by
  obtain ⟨e, s, n, u, c⟩ := r
  have h1 := h.used
  have h2 := h.count
  simp only at h1 h2
  unfold sgRoom
  rw [h1, h2]
/-- A record of a part fits behind those ahead of it. -/
theorem PartIn.fits {e s i : Nat} {p : List Rec} (h : PartIn e s i p) {k : Nat} (hk : k < p.length) : fitsP (sgRoom e s i (p.take k)) ((recB (p.getD k Rec.none)).length : Int) = true := by
  obtain ⟨r, h1, rfl, rfl, rfl⟩ := h.room
  refine fitsP_true.2 ⟨by have := recB_pos (p.getD k Rec.none); omega, ?_⟩
  have h2 := h1.real.room (by rw [h1.count]; omega)
  have h3 := outS_take_le r.e r.s r.num p (k + 1)
  rw [List.take_succ_eq_append_getElem hk, outS_snoc, List.length_append] at h3
  have h4 : p[k] = p.getD k Rec.none := by simp [hk]
  rw [h4, ← h1.used] at h3
  have h5 : mostFt ((p.take k).length + 1) ≤ mostFt r.count := mostFt_le (by rw [List.length_take, h1.count]; omega)
  show (((outS r.e r.s r.num (p.take k)).length : Nat) : Int) + _ + (mostFt ((p.take k).length + 1) : Int) ≤ ((2 ^ r.e : Nat) : Int)
  obtain ⟨q, hq⟩ : ∃ q, q = 2 ^ r.e := ⟨_, rfl⟩
  rw [← hq] at h2 ⊢
  omega
theorem PartIn.rooms {e s i : Nat} {p : List Rec} (h : PartIn e s i p) (hf : p.length ≤ 10000) : ∀ k, k ≤ p.length → InRoom (sgRoom e s i (p.take k)) (p.take k)
  | 0, _ => by
    obtain ⟨r, h1, rfl, rfl, rfl⟩ := h.room
    rw [List.take_zero]
    exact sgRoom_empty h1.real.may
  | k + 1, hk => by
    have h1 := inRoom_take (h.rooms hf k (by omega)) (h.fits (k := k) (by omega)) (by show (p.take k).length < 10000; rw [List.length_take]; omega)
    have h2 : p.take (k + 1) = p.take k ++ [p.getD k Rec.none] := by
      rw [List.take_succ_eq_append_getElem (by omega)]
      simp [show k < p.length by omega]
    rw [h2]
    have h3 := room_is h1
    have h4 : sgRoom e s i (p.take k ++ [p.getD k Rec.none]) = takeP (sgRoom e s i (p.take k)) ((recB (p.getD k Rec.none)).length : Int) := h3.symm
    rw [h4]
    exact h1
theorem foldP_fits {e s : Nat} : ∀ (zs : List Int) (st : PSt), (zs.foldl (stepP e s) st).y = 0 → ∀ z ∈ zs, fitsP (emptyP e s (s - 1)) z = true
  | [], _, _, z, hz => by simp at hz
  | a :: zs, st, h, z, hz => by
    rw [List.foldl_cons] at h
    rcases List.mem_cons.1 hz with rfl | hz
    · have hy : (stepP e s st z).y = 0 := by
        by_cases hq : (stepP e s st z).y = 0
        · exact hq
        · rw [foldP_gone _ hq] at h; exact h
      unfold stepP at hy
      split at hy
      · rename_i h1; exact absurd hy h1
      · split at hy
        · rename_i h2; exact h2
        · exact absurd hy (by decide)
    · exact foldP_fits zs _ h z hz
/-- What planning tells of each record. -/
theorem plan_tells {e s : Nat} {l : List Rec} (h : (planI e s l).1 = 0) : ∀ r ∈ l, checkR r = 0 ∧ fitsP (emptyP e s (s - 1)) ((recB r).length : Int) = true := by
  unfold planI at h
  split at h
  · rename_i hm
    split at h
    · rename_i hr; exact absurd h hr
    · rename_i hr
      have hy : (runP e s (sizesR l)).y = 0 := by
        unfold planP at h
        rw [if_pos hm] at h
        exact h
      intro r hr'
      refine ⟨?_, foldP_fits _ _ hy _ (List.mem_map_of_mem hr')⟩
      have h0 : risingR l = 0 := by omega
      unfold risingR at h0
      by_cases hb : firstBad l = 0
      · exact firstBad_zero.1 hb r hr'
      · simp [hb] at h0
  · exact absurd h (by decide)
theorem part_add {e s i : Nat} {p : List Rec} (h : PartIn e s i p) (hc : ∀ r ∈ p, checkR r = 0 ∧ fitsP (emptyP e s (s - 1)) ((recB r).length : Int) = true) {k : Nat} (hk : k < p.length) : addE e s i (p.take k) (p.getD k Rec.none) = 0 := by
  obtain ⟨h1, h2⟩ := hc (p.getD k Rec.none) (by simp [hk])
  unfold addE
  rw [if_neg (by rw [h1]; simp), if_neg (by rw [h2]; simp), if_neg (by rw [h.fits hk]; simp)]
end Go.Proofs.YtjeammmfdniokaaGreat

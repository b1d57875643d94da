/-
  SgFrames; SgErased; SgText; SgScan; SgParse; SgLaws.
-/
import Derived.OwnWalk
import Derived.Deep.AppendLies
import Derived.Test.YtjeammmfdniokaaGreatM02
import Derived.Test.YtjeammmfdniokaaGreatM04
import Derived.Test.YtjeammmfdniokaaGreatM07
import Derived.Test.YtjeammmfdniokaaGreatM11
import Derived.Test.YtjeammmfdniokaaGreatM13
import Derived.Test.YtjeammmfdniokaaGreatM14
import Derived.Test.YtjeammmfdniokaaGreatM15
import Derived.Test.YtjeammmfdniokaaGreatM16
namespace Go.Proofs.YtjeammmfdniokaaGreat
open Go.RowKit

theorem entsGo_snoc : ∀ (l : List Rec) (k : Nat) (r : Rec), entsGo k (l ++ [r]) = entsGo k l ++ [⟨(wxxh 0 r.key).toNat, k + (recsB l).length⟩]
  | [], k, r => by simp [entsGo, recsB]
  | x :: l, k, r => by
    rw [List.cons_append, entsGo, entsGo_snoc l _ r, entsGo]
    have e : recsB (x :: l) = recB x ++ recsB l := by unfold recsB; rw [List.flatMap_cons]
    rw [e, List.length_append, Nat.add_assoc]
    rfl
theorem entsS_snoc (e s n : Nat) (l : List Rec) (r : Rec) : entsS e s n (l ++ [r]) = entsS e s n l ++ [⟨(wxxh 0 r.key).toNat, (outS e s n l).length⟩] := by
  unfold entsS
  rw [entsGo_snoc]
  unfold outS headLen
  rw [List.length_append]
theorem outS_le (e s n : Nat) (l m : List Rec) : (outS e s n l).length ≤ (outS e s n (l ++ m)).length := by
  unfold outS recsB
  rw [List.flatMap_append, ← List.append_assoc]
  simp only [List.length_append]
  omega

/-- Records that the document's functions can be asked for, as bytes of a segment. -/
structure SegIn (e s n : Nat) (l : List Rec) : Prop where
  e8 : e < 256
  s32 : s < 4294967296
  n64 : n < 18446744073709551616
  fine : ∀ r ∈ l, r.Fine
  key : ∀ r ∈ l, r.key.length ≤ 2000000
  val : ∀ r ∈ l, r.val.length ≤ 2000000
  few : l.length ≤ 100000
  long : (outS e s n l).length ≤ 100000000
theorem SegIn.take {e s n : Nat} {l : List Rec} (h : SegIn e s n l) (j : Nat) : SegIn e s n (l.take j) :=
  ⟨h.e8, h.s32, h.n64, fun r hr => h.fine r (List.mem_of_mem_take hr), fun r hr => h.key r (List.mem_of_mem_take hr), fun r hr => h.val r (List.mem_of_mem_take hr), by have := h.few; rw [List.length_take]; omega, by
    have h1 := outS_le e s n (l.take j) (l.drop j)
    rw [List.take_append_drop] at h1
    have := h.long
    omega⟩
theorem sizeN_bound (n : Nat) : sizeN n ≤ 2 * n + 20 := by
  unfold sizeN mostOf
  split <;> omega

set_option maxHeartbeats 4000000 in
set_option maxRecDepth 10000 in
theorem frames15_ref (e s n : Nat) (p : Option Addr) (m c : Nat) (l : List Rec) (hi : SegIn e s n l) (hm : m = l.length) (w : World) (hl : RecsAt w p l) :
    Calls Tryz.prog 37 #[confV e s, .int .u64 (n : Int), .slice p m c] w fun r w' => ∃ v, r = .returned (.tuple #[.string (strOfNums (outS e s n l)), v]) ∧ NewEns w (sortE (entsS e s n l)) v w' := by
  obtain ⟨i0, hi0, hz0, hz1, hz2⟩ := info_parts infoEnR
  have HHd := Lib.hid (fun w => head9_ref e s n hi.e8 hi.s32 hi.n64 w)
  have HSo := Lib.hid (fun q d w h => sorted11_ref q (entsS e s n l).length d (entsS e s n l) rfl (by unfold entsS; rw [entsGo_length]; have := hi.few; omega) w h)
  have HI := Lib.hid hi
  have HL := Lib.hid hl
  have HM := Lib.hid hm
  have HW0 := Lib.hid (Whole.new w 27 (confCells e s))
  have hm9 : m ≤ 100000 := by have := hi.few; omega
  rw [← outS_nil e s n] at HHd
  clear hi hl hm
  unfold confV at *
  go_enter Tryz.func37, Tryz.ntmps37
  go_wp2_with fail
  refine (HHd.out _).mono ?_
  rintro e1 w1 ⟨rfl, hk⟩
  have HK := Lib.hid (((Keeps.refl NoBlock w).alloc (.cells #[.int .u8 (e : Int), .int .u32 (s : Int)] 27)).trans hk)
  clear hk HHd HW0
  go_wp2_with fail
  go_loopw [8, 9, 17] (fun o t i wr => ∃ j : Nat, j ≤ m ∧ i = .int .i64 (j : Int) ∧ o = .string (strOfNums (outS e s n (l.take j))) ∧ Hid (TwosSoFar enH enA 113 w (entsS e s n (l.take j)) t wr)) (fun _ _ i _ => m - (intOf i).toNat)
  case atStart => exact ⟨0, Nat.zero_le _, rfl, by simp, Lib.hid (by
    have h := TwosSoFar.start (v0 := enH) (v1 := enA) (t := 113) w
    exact h.keep HK.out)⟩
  case round =>
    obtain ⟨j, hj, rfl, rfl, HS⟩ := hrel
    by_cases hlt : j < m
    · have hdj : decide ((j : Int) < (m : Int)) = true := decide_eq_true (by omega)
      have hjl : j < l.length := by rw [← HM.out]; exact hlt
      obtain ⟨a, rfl, c0, c1, c2, c3⟩ := (HL.out.keep HS.out.keeps (fun _ _ h => h)) j hjl
      have hmem : l.getD j Rec.none ∈ l := by simp [hjl]
      have HT : Hid (l.take (j + 1) = l.take j ++ [l.getD j Rec.none]) := Lib.hid (by rw [List.take_succ_eq_append_getElem hjl]; simp [hjl])
      have HIj := Lib.hid (HI.out.take j)
      have HFi := Lib.hid (HI.out.fine _ hmem)
      have HKy := Lib.hid (HI.out.key _ hmem)
      have HVa := Lib.hid (HI.out.val _ hmem)
      obtain ⟨r, hr⟩ : ∃ r, r = l.getD j Rec.none := ⟨_, rfl⟩
      rw [← hr] at c0 c1 c2 c3 HT HFi HKy HVa
      clear hr hmem hjl
      have HRec := Lib.hid (fun w => record9_ref r HFi.out HKy.out HVa.out w)
      have HSum := Lib.hid (fun w => wsum_ref 0 r.key (by unfold U64; omega) HFi.out.key (by have := HKy.out; omega) w)
      have HO2 : Hid (outS e s n (l.take j) ++ sealN (bodyR r) = outS e s n (l.take (j + 1))) := Lib.hid (by rw [HT.out, outS_snoc]; rfl)
      have HE2 : Hid (entsS e s n (l.take j) ++ [⟨(wxxh 0 r.key).toNat, (outS e s n (l.take j)).length⟩] = entsS e s n (l.take (j + 1))) := Lib.hid (by rw [HT.out, entsS_snoc])
      have hlong := HIj.out.long
      have hfew : (entsS e s n (l.take j)).length ≤ 100000 := by unfold entsS; rw [entsGo_length, List.length_take]; omega
      obtain ⟨H, hH⟩ : ∃ H, H = (wxxh 0 r.key).toNat := ⟨_, rfl⟩
      have hHi : wxxh 0 r.key = (H : Int) := by have := wxxh_u64 0 r.key; unfold U64 at this; omega
      rw [hHi] at HSum
      rw [← hH] at HE2
      clear hH hHi
      obtain ⟨O, hO⟩ : ∃ O, O = outS e s n (l.take j) := ⟨_, rfl⟩
      obtain ⟨E, hE⟩ : ∃ E, E = entsS e s n (l.take j) := ⟨_, rfl⟩
      rw [← hO] at HO2 HE2 hlong ⊢
      rw [← hE] at HE2 HS hfew
      clear hO hE
      obtain ⟨R, hR⟩ : ∃ R, R = sealN (bodyR r) := ⟨_, rfl⟩
      have hRl : R.length ≤ 100000000 := by
        have h1 := bodyR_length HFi.out HKy.out HVa.out
        have h2 := HI.out.take (j + 1)
        have h3 := h2.long
        rw [← HO2.out, List.length_append] at h3
        rw [hR]
        have h4 := (seal_length (bodyR r)).2
        have h5 := sizeN_bound (bodyR r).length
        have h6 := HKy.out
        have h7 := HVa.out
        omega
      rw [← hR] at HRec HO2
      clear hR
      obtain ⟨O2, hO2⟩ : ∃ O2, O2 = outS e s n (l.take (j + 1)) := ⟨_, rfl⟩
      obtain ⟨E2, hE2⟩ : ∃ E2, E2 = entsS e s n (l.take (j + 1)) := ⟨_, rfl⟩
      rw [← hO2] at HO2
      rw [← hE2] at HE2
      have HO3 := Lib.hid hO2
      have HE3 := Lib.hid hE2
      clear hO2 hE2 HT HIj HFi HKy HVa
      have z1 := str_size O
      have z2 := str_size R
      have hap := str_append O R
      rw [HO2.out] at hap
      have hu : IntKind.u32.wrap ((O.length : Nat) : Int) = ((O.length : Nat) : Int) := by rw [IntKind.wrap_u32]; omega
      have r1 : ¬ 9223372036854775807 < O.length + R.length := by omega
      obtain ⟨N, hN⟩ : ∃ N, N = O.length := ⟨_, rfl⟩
      rw [← hN] at z1 hu r1 HE2
      have HLg := Lib.hid hlong
      clear hN hlong hRl
      have HBox := Lib.hid (Whole.new wr 46 (recCells r))
      have HS1 := Lib.hid (HS.out.alloc (.cells (recCells r) 46))
      unfold recV at HRec
      clear HS
      go_wp2_with fail
      refine (HSum.out _).mono ?_
      rintro e2 w2 ⟨rfl, hk⟩
      have HS2 := Lib.hid (HS1.out.keep hk)
      have HBox2 := Lib.hid (HBox.out.keep hk (fun h => h))
      clear hk HS1 HBox
      have HEn := Lib.hid (Whole.new w2 113 (enCells ⟨H, N⟩))
      have HS3 := Lib.hid (HS2.out.alloc (.cells (enCells ⟨H, N⟩) 113))
      have HBox3 := Lib.hid (HBox2.out.alloc (.cells (enCells ⟨H, N⟩) 113))
      have HAp := Lib.hid (own_apart (by decide) HS3.out.1 HBox3.out)
      clear HS2 HBox2
      go_wp2_with (at_builtin; refine wpList_append_twoG rfl _ _ 77 rfl 113 i0 (.agg #[.int .u64 0, .int .u32 0]) 16 Tryz.underlying77 hi0 hz0 hz1 hz2 rfl _ _ rfl HS3.out w2.heap.size ⟨H, N⟩ rfl (HEn.out.cell 0 rfl) (HEn.out.cell 1 rfl) rfl rfl (by omega) (by omega) ?_)
      intro v5 w5 h5 g5
      have HBox5 := Lib.hid (HBox3.out.grown g5 HAp.out)
      rw [HE2.out] at h5
      have HS5 := Lib.hid h5
      obtain ⟨b0, b1, b2, b3⟩ := RecAt.ofWhole HBox5.out
      clear h5 g5 HS3 HBox3 HAp HEn
      go_wp2_with fail
      refine (HRec.out _).mono ?_
      rintro e6 w6 ⟨rfl, hk⟩
      have HS6 := Lib.hid (HS5.out.keep hk)
      clear hk
      go_wp2_with fail
      exact ⟨⟨j + 1, by omega, by go_num, by rw [HO3.out], Lib.hid (by rw [← HE3.out]; exact HS6.out)⟩, by simp [intOf]; omega⟩
    · have hdj : decide ((j : Int) < (m : Int)) = false := decide_eq_false (by omega)
      have hjl : l.take j = l := List.take_of_length_le (by rw [← HM.out]; omega)
      rw [hjl] at HS ⊢
      obtain ⟨q, k, d, rfl, hk1, hk2, hk3, hq, hat, hkk⟩ := HS.out.new (dd := En.none)
      subst hk1
      have HSd := Lib.hid (HSo.out q d wr hat)
      have HK2 := Lib.hid hkk
      clear hat hkk hq hk2 hk3 HS
      obtain ⟨M, hM⟩ : ∃ M, M = (entsS e s n l).length := ⟨_, rfl⟩
      rw [← hM] at HSd ⊢
      obtain ⟨S, hS⟩ : ∃ S, S = sortE (entsS e s n l) := ⟨_, rfl⟩
      rw [← hS] at HSd
      have HSe := Lib.hid hS
      clear hM hS
      obtain ⟨O, hO⟩ : ∃ O, O = outS e s n l := ⟨_, rfl⟩
      have HOe := Lib.hid hO
      rw [← hO]
      clear hO
      go_wp2_with fail
      refine HSd.out.mono ?_
      rintro e7 w7 ⟨v, rfl, q2, k2, d2, rfl, h1, h2, h3, h4, h5, h6⟩
      have HKf := Lib.hid (HK2.out.trans h6)
      have HAt := Lib.hid h5
      have HC := Lib.hid (And.intro h1 (And.intro h2 (And.intro h3 h4)))
      clear h1 h2 h3 h4 h5 h6
      go_wp2_with fail
      refine bodyPost_ret (results_tmp2 rfl _ _ _) rfl ?_
      obtain ⟨h1, h2, h3, h4⟩ := HC.out
      refine ⟨_, by rw [← HOe.out]; rfl, _, _, _, rfl, ?_, h2, h3, h4, ?_, HKf.out⟩
      · rw [← HSe.out]; exact h1
      · rw [← HSe.out]; exact HAt.out
end Go.Proofs.YtjeammmfdniokaaGreat

namespace Go.Proofs.YtjeammmfdniokaaGreat
open Go.RowKit

/-- Bytes of which the first j are 255. -/
def ErasedTo (wr : World) (g n j : Nat) : Prop := ∃ cur, Whole wr g 5 cur ∧ cur.size = n ∧ ∀ i, i < j → cur[i]? = some (.int .u8 255)
theorem ErasedTo.cell {wr : World} {g n j : Nat} (h : ErasedTo wr g n j) (i : Nat) (hi : i < n) : ∃ v, wr.cell? ⟨g, i, none⟩ = some v := by
  obtain ⟨cur, hw, hs, _⟩ := h
  exact ⟨cur[i]'(by omega), hw.cell i (by rw [Array.getElem?_eq_getElem])⟩
theorem ErasedTo.free {wr : World} {g n j : Nat} (h : ErasedTo wr g n j) (i : Nat) : wr.frozen? ⟨g, i, none⟩ = false := by
  obtain ⟨cur, hw, _⟩ := h
  exact hw.free i
theorem ErasedTo.step {wr : World} {g n j : Nat} (h : ErasedTo wr g n j) (hj : j < n) : ErasedTo (wr.setCell ⟨g, j, none⟩ (.int .u8 255)) g n (j + 1) := by
  obtain ⟨cur, hw, hs, hc⟩ := h
  refine ⟨_, hw.set j _, by simpa using hs, fun i hi => ?_⟩
  by_cases e : i = j
  · subst e
    rw [Array.getElem?_setIfInBounds_self_of_lt (by omega)]
  · rw [Array.getElem?_setIfInBounds_ne (by omega)]
    exact hc i (by omega)
theorem ErasedTo.bytes {wr : World} {g n : Nat} (h : ErasedTo wr g n n) : Bytes8 wr (some ⟨g, 0, none⟩) (List.replicate n 255) := by
  obtain ⟨cur, hw, hs, hc⟩ := h
  intro hx
  refine ⟨_, rfl, fun i hi => ?_⟩
  rw [List.length_replicate] at hi
  rw [Addr.add_lit, Nat.zero_add, hw.cell i (hc i hi)]
  simp [hi]

set_option maxHeartbeats 2000000 in
set_option maxRecDepth 10000 in
theorem erased15_ref (z : Int) (h1 : -9223372036854775808 ≤ z) (h2 : z ≤ 20000000) (w : World) :
    Calls Tryz.prog 39 #[.int .i64 z] w fun e w' => e = .returned (.string (strOfNums (List.replicate z.toNat 255))) ∧ Keeps NoBlock w w' := by
  obtain ⟨i0, hi, hz0, hz1, hz2⟩ := info_parts infoByte
  by_cases hz : z ≤ 0
  · rw [show z.toNat = 0 by omega]
    have d1 : decide (z ≤ 0) = true := decide_eq_true hz
    have d2 : decide (0 < z) = false := decide_eq_false (by omega)
    have d3 : ¬ 0 < z := by omega
    have HT := Lib.hid (fun (g : Nat) (w : World) h => textOf (some ⟨g, 0, none⟩) 0 0 [] w rfl h)
    go_enter Tryz.func39, Tryz.ntmps39
    go_wp2_with (at_make; refine wpList_make_full _ rfl _ _ 29 rfl w.heap.size 5 i0 (.int .u8 0) 1 Tryz.underlying29 hi hz0 hz1 .i64 .i64 (0 : Int) (0 : Int) 0 rfl rfl rfl rfl (by rw [hz2]; omega) (by unfold maxLen; omega) (Nat.le_refl _) ?_)
    intro w2 hown hgrow
    have hkk : Keeps NoBlock w w2 := (Keeps.refl NoBlock w).grown hgrow (fun k hk => by simp at hk)
    have hE : ErasedTo w2 w.heap.size 0 0 := by
      rcases hown with ⟨_, ⟨h0, _⟩ | ⟨g', cap, cur, hv, hb, hg, h1, h2, h3, h4⟩⟩
      · simp at h0
      · simp only [Value.slice.injEq, Option.some.injEq, Addr.mk.injEq, and_true, true_and] at hv
        obtain ⟨rfl, rfl⟩ := hv
        exact ⟨cur, hg, by omega, fun i hi => by omega⟩
    obtain ⟨g, hg⟩ : ∃ g, g = w.heap.size := ⟨_, rfl⟩
    rw [← hg] at hE ⊢
    have HG := Lib.hid (show w.heap.size ≤ g by omega)
    have HE := Lib.hid hE
    have HK := Lib.hid hkk
    clear hown hgrow hkk hE hg
    go_wp2_with fail
    refine wp_loop_rounds 1 ?_
    rw [rounds_succ]
    have ht := HT.out g w2 (Bytes8.nil _ _)
    go_wp2_with fail
    go_ret
    exact ⟨rfl, HK.out⟩
  · obtain ⟨n, rfl⟩ : ∃ n : Nat, z = (n : Int) := ⟨z.toNat, by omega⟩
    rw [Int.toNat_natCast]
    have hn9 : n ≤ 20000000 := by omega
    have d2 : decide (0 < (n : Int)) = true := decide_eq_true (by omega)
    have d3 : (0 : Int) < (n : Int) := by omega
    have d4 : 0 < n := by omega
    have HT := Lib.hid (fun (g : Nat) (w : World) h => textOf (some ⟨g, 0, none⟩) n n (List.replicate n 255) w (by simp) h)
    go_enter Tryz.func39, Tryz.ntmps39
    go_wp2_with (at_make; refine wpList_make_full _ rfl _ _ 29 rfl w.heap.size 5 i0 (.int .u8 0) 1 Tryz.underlying29 hi hz0 hz1 .i64 .i64 (n : Int) (n : Int) n rfl rfl rfl rfl (by rw [hz2]; omega) (by unfold maxLen; omega) (Nat.le_refl _) ?_)
    intro w2 hown hgrow
    have hkk : Keeps NoBlock w w2 := (Keeps.refl NoBlock w).grown hgrow (fun k hk => by simp at hk)
    have hE : ErasedTo w2 w.heap.size n 0 := by
      rcases hown with ⟨_, ⟨h0, _⟩ | ⟨g', cap, cur, hv, hb, hg, h1, h2, h3, h4⟩⟩
      · simp at h0
      · simp only [Value.slice.injEq, Option.some.injEq, Addr.mk.injEq, and_true, true_and] at hv
        obtain ⟨rfl, rfl⟩ := hv
        exact ⟨cur, hg, by omega, fun i hi => by omega⟩
    obtain ⟨g, hg⟩ : ∃ g, g = w.heap.size := ⟨_, rfl⟩
    rw [← hg] at hE ⊢
    have HG := Lib.hid (show w.heap.size ≤ g by omega)
    have HE := Lib.hid hE
    have HK := Lib.hid hkk
    clear hown hgrow hkk hE hg
    go_wp2_with fail
    go_loopw [10] (fun i wr => ∃ j : Nat, j ≤ n ∧ i = .int .i64 (j : Int) ∧ Hid (ErasedTo wr g n j) ∧ Hid (Keeps NoBlock w wr)) (fun i _ => n - (intOf i).toNat)
    case atStart => exact ⟨0, Nat.zero_le _, rfl, HE, HK⟩
    case round =>
      obtain ⟨j, hj, rfl, HE2, HK2⟩ := hrel
      by_cases hlt : j < n
      · have hdj : decide ((j : Int) < (n : Int)) = true := decide_eq_true (by omega)
        obtain ⟨v, c0⟩ := HE2.out.cell j hlt
        have f0 := HE2.out.free j
        have HEn := Lib.hid (HE2.out.step hlt)
        have HKn := Lib.hid (HK2.out.set (p := ⟨g, j, none⟩) (.inr HG.out) (.int .u8 255))
        go_wp2_with fail
        exact ⟨⟨j + 1, by omega, by go_num, HEn, HKn⟩, by simp [intOf]; omega⟩
      · have hdj : decide ((j : Int) < (n : Int)) = false := decide_eq_false (by omega)
        obtain rfl : j = n := by omega
        have ht := HT.out g wr HE2.out.bytes
        go_wp2_with fail
        go_ret
        exact ⟨rfl, HK2.out⟩
end Go.Proofs.YtjeammmfdniokaaGreat

namespace Go.Proofs.YtjeammmfdniokaaGreat
open Go.RowKit

theorem entsGo_fine : ∀ (l : List Rec) (k : Nat), k + (recsB l).length ≤ 4000000000 → ∀ x ∈ entsGo k l, x.Fine
  | [], _, _, x, hx => by simp [entsGo] at hx
  | r :: l, k, h, x, hx => by
    have e : recsB (r :: l) = recB r ++ recsB l := by unfold recsB; rw [List.flatMap_cons]
    rw [e, List.length_append] at h
    rw [entsGo, List.mem_cons] at hx
    rcases hx with rfl | hx
    · refine ⟨?_, by show k < 4294967296; omega⟩
      have hu := wxxh_u64 0 r.key
      unfold U64 at hu
      show (wxxh 0 r.key).toNat < 18446744073709551616
      omega
    · exact entsGo_fine l _ (by omega) x hx
theorem ents_fine {e s n : Nat} {l : List Rec} (h : (outS e s n l).length ≤ 100000000) : ∀ x ∈ entsS e s n l, x.Fine := by
  unfold entsS
  refine entsGo_fine l _ ?_
  unfold outS at h
  rw [List.length_append] at h
  unfold headLen
  omega

set_option maxHeartbeats 4000000 in
set_option maxRecDepth 10000 in
theorem text15_ref (e s n : Nat) (he : e ≤ 24) (p : Option Addr) (m c : Nat) (l : List Rec) (b : Bool) (hi : SegIn e s n l) (hm : m = l.length) (w : World) (hl : RecsAt w p l) :
    Calls Tryz.prog 24 #[confV e s, .int .u64 (n : Int), .slice p m c, .bool b] w fun r w' => r = .returned (.string (strOfNums (textS e s n l b))) ∧ Keeps NoBlock w w' := by
  have HW0 := Lib.hid (Whole.new w 27 (confCells e s))
  have HFr := Lib.hid (fun w hl => frames15_ref e s n p m c l hi hm w hl)
  have HL := Lib.hid hl
  have HSz := Lib.hid (fun w => size8_ref e s he w)
  have HEr := Lib.hid (fun z h1 h2 w => erased15_ref z h1 h2 w)
  have hlong := hi.long
  have hfew := hi.few
  have h2e := two_e he
  have hsl := sortE_len (entsS e s n l)
  have hel : (entsS e s n l).length = l.length := entsGo_length l _
  have hfn := sortE_fine (ents_fine hlong)
  have HTx := Lib.hid (fun q d w h => text13_ref (outS e s n l).length (by omega) q (sortE (entsS e s n l)).length d (sortE (entsS e s n l)) rfl (by omega) hfn w h)
  have hfl : (footS e s n l).length ≤ 10000000 := by
    have h1 := foot_most e s n l
    have h2 : mostFt l.length ≤ 10000000 := by
      unfold mostFt
      have h3 := sizeN_bound (bodyLen l.length)
      have h4 := bodyLen_le l.length
      omega
    omega
  have hdef : textS e s n l b = framesS e s n l b ++ List.replicate (((2 ^ e : Nat) : Int) - ((framesS e s n l b).length : Int)).toNat 255 := by
    unfold textS
    congr 2
    omega
  rw [hdef]
  clear hdef hi hm hl hfn hsl hel
  have hF : footS e s n l = sealN (bodyFt ⟨(outS e s n l).length, sortE (entsS e s n l)⟩) := rfl
  rw [← hF] at HTx
  clear hF
  obtain ⟨F, hF⟩ : ∃ F, F = footS e s n l := ⟨_, rfl⟩
  obtain ⟨O, hO⟩ : ∃ O, O = outS e s n l := ⟨_, rfl⟩
  obtain ⟨Sr, hS⟩ : ∃ Sr, Sr = sortE (entsS e s n l) := ⟨_, rfl⟩
  have hfr : framesS e s n l b = O ++ (if b = true then F else []) := by rw [hO, hF]; rfl
  rw [hfr]
  rw [← hF] at hfl HTx
  rw [← hO] at hlong HTx HFr
  rw [← hS] at HTx HFr
  clear hF hO hS hfr
  obtain ⟨Z, hZ⟩ : ∃ Z : Nat, Z = 2 ^ e := ⟨_, rfl⟩
  rw [← hZ] at HSz h2e ⊢
  clear hZ
  have z1 := str_size O
  have z2 := str_size F
  have hap := str_append O F
  have r1 : ¬ 9223372036854775807 < O.length + F.length := by omega
  have hu : IntKind.u32.wrap ((O.length : Nat) : Int) = ((O.length : Nat) : Int) := by rw [IntKind.wrap_u32]; omega
  have hz : IntKind.i64.wrap ((Z : Nat) : Int) = ((Z : Nat) : Int) := by rw [IntKind.wrap_i64]; omega
  unfold confV at *
  cases b with
  | true =>
    rw [if_pos rfl]
    obtain ⟨G, hG⟩ : ∃ G, G = O ++ F := ⟨_, rfl⟩
    have hGl : G.length ≤ 110000000 := by rw [hG, List.length_append]; omega
    rw [← hG] at hap ⊢
    have z3 := str_size G
    clear hG
    have HEz := Lib.hid (fun w => HEr.out ((Z : Int) - (G.length : Int)) (by omega) (by omega) w)
    obtain ⟨D, hD⟩ : ∃ D, D = List.replicate ((Z : Int) - (G.length : Int)).toNat (255 : Int) := ⟨_, rfl⟩
    have hDl : D.length ≤ 20000000 := by rw [hD, List.length_replicate]; omega
    rw [← hD] at HEz ⊢
    have z4 := str_size D
    have hap2 := str_append G D
    have r2 : ¬ 9223372036854775807 < G.length + D.length := by omega
    clear hD
    go_enter Tryz.func24, Tryz.ntmps24
    go_wp2_with fail
    refine (HFr.out _ (HL.out.keep ((Keeps.refl NoBlock w).alloc _) (fun _ _ h => h))).mono ?_
    rintro e1 w1 ⟨v, rfl, q, k, d, rfl, hk1, hk2, hk3, hq, hat, hkk⟩
    subst hk1
    have HK := Lib.hid (((Keeps.refl NoBlock w).alloc (.cells #[.int .u8 (e : Int), .int .u32 (s : Int)] 27)).trans hkk)
    have HW1 := Lib.hid (HW0.out.keep hkk (fun h => h))
    have HTq := Lib.hid (HTx.out q d w1 hat)
    clear hkk hat HW0 HFr HTx hq hk2 hk3
    unfold ftV at HTq
    go_wp2_with fail
    refine HTq.out.mono ?_
    rintro e2 w2 ⟨rfl, hk⟩
    have HK2 := Lib.hid (HK.out.trans hk)
    have HW2 := Lib.hid (HW1.out.keep hk (fun h => h))
    have g0 := HW2.out.cell 0 rfl
    have g1 := HW2.out.cell 1 rfl
    simp only [confCells, List.getElem_toArray, List.getElem_cons_zero, List.getElem_cons_succ] at g0 g1
    clear hk HTq HW1 HK
    go_wp2_with fail
    refine (HSz.out _).mono ?_
    rintro e3 w3 ⟨rfl, hk⟩
    have HK3 := Lib.hid (HK2.out.trans hk)
    clear hk HK2 HW2 g0 g1
    go_wp2_with fail
    refine (HEz.out _).mono ?_
    rintro e4 w4 ⟨rfl, hk⟩
    have HK4 := Lib.hid (HK3.out.trans hk)
    clear hk
    go_wp2_with fail
    go_ret
    exact ⟨rfl, HK4.out⟩
  | false =>
    rw [if_neg (by simp), List.append_nil]
    have HEz := Lib.hid (fun w => HEr.out ((Z : Int) - (O.length : Int)) (by omega) (by omega) w)
    obtain ⟨D, hD⟩ : ∃ D, D = List.replicate ((Z : Int) - (O.length : Int)).toNat (255 : Int) := ⟨_, rfl⟩
    have hDl : D.length ≤ 20000000 := by rw [hD, List.length_replicate]; omega
    rw [← hD] at HEz ⊢
    have z4 := str_size D
    have hap2 := str_append O D
    have r2 : ¬ 9223372036854775807 < O.length + D.length := by omega
    clear hD
    go_enter Tryz.func24, Tryz.ntmps24
    go_wp2_with fail
    refine (HFr.out _ (HL.out.keep ((Keeps.refl NoBlock w).alloc _) (fun _ _ h => h))).mono ?_
    rintro e1 w1 ⟨v, rfl, q, k, d, rfl, hk1, hk2, hk3, hq, hat, hkk⟩
    subst hk1
    have HK := Lib.hid (((Keeps.refl NoBlock w).alloc (.cells #[.int .u8 (e : Int), .int .u32 (s : Int)] 27)).trans hkk)
    have HW1 := Lib.hid (HW0.out.keep hkk (fun h => h))
    clear hkk hat HW0 HFr HTx hq hk2 hk3
    have g0 := HW1.out.cell 0 rfl
    have g1 := HW1.out.cell 1 rfl
    simp only [confCells, List.getElem_toArray, List.getElem_cons_zero, List.getElem_cons_succ] at g0 g1
    go_wp2_with fail
    refine (HSz.out _).mono ?_
    rintro e3 w3 ⟨rfl, hk⟩
    have HK3 := Lib.hid (HK.out.trans hk)
    clear hk HK HW1 g0 g1
    go_wp2_with fail
    refine (HEz.out _).mono ?_
    rintro e4 w4 ⟨rfl, hk⟩
    have HK4 := Lib.hid (HK3.out.trans hk)
    clear hk
    go_wp2_with fail
    go_ret
    exact ⟨rfl, HK4.out⟩
end Go.Proofs.YtjeammmfdniokaaGreat

namespace Go.Proofs.YtjeammmfdniokaaGreat

structure ScanSt (ys : List Int) (i : Nat) (z : Int) (l : List Rec) : Prop where
  le : i ≤ ys.length
  at_ : (z = -1 ∧ l = [] ∧ scanS ys = recsTake ((chunksGo (ys.take i) (ys.drop i)).drop 1)) ∨ ∃ f : Nat, z = (f : Int) ∧ f ≤ i ∧ (recsB l).length ≤ f ∧ scanS ys = l ++ recsTake (chunksGo ((ys.take i).drop f) (ys.drop i))
  fine : ∀ r ∈ l, r.Fine ∧ checkR r = 0

theorem ScanSt.start (ys : List Int) : ScanSt ys 0 (-1) [] := ⟨Nat.zero_le _, .inl ⟨rfl, rfl, by simp [scanS]⟩, fun r hr => by simp at hr⟩
theorem drop_all (ys : List Int) (i : Nat) : (ys.take (i + 1)).drop (i + 1) = [] := List.drop_eq_nil_of_le (by rw [List.length_take]; omega)
theorem take_one {ys : List Int} {i : Nat} (hi : i < ys.length) : ys.take (i + 1) = ys.take i ++ [ys.getD i 0] := by
  rw [List.take_succ_eq_append_getElem hi]
  simp [hi]
theorem ScanSt.other {ys : List Int} {i : Nat} {z : Int} {l : List Rec} (h : ScanSt ys i z l) (hi : i < ys.length) (hb : ys.getD i 0 ≠ 0) : ScanSt ys (i + 1) z l := by
  have hd := drop_cons_getD ys i hi
  refine ⟨by omega, ?_, h.fine⟩
  rcases h.at_ with ⟨h1, h2, h3⟩ | ⟨f, h1, h2, h3, h4⟩
  · refine .inl ⟨h1, h2, ?_⟩
    rw [h3, hd, chunksGo, if_neg hb, take_one hi]
  · refine .inr ⟨f, h1, by omega, h3, ?_⟩
    rw [h4, hd, chunksGo, if_neg hb, take_one hi, List.drop_append_of_le_length (by rw [List.length_take]; omega)]
theorem ScanSt.first {ys : List Int} {i : Nat} {l : List Rec} (h : ScanSt ys i (-1) l) (hi : i < ys.length) (hb : ys.getD i 0 = 0) : ScanSt ys (i + 1) ((i + 1 : Nat) : Int) l := by
  have hd := drop_cons_getD ys i hi
  refine ⟨by omega, .inr ⟨i + 1, rfl, Nat.le_refl _, ?_, ?_⟩, h.fine⟩
  · rcases h.at_ with ⟨_, h2, _⟩ | ⟨f, h1, _⟩
    · rw [h2]; simp [recsB]
    · omega
  · rcases h.at_ with ⟨_, h2, h3⟩ | ⟨f, h1, _⟩
    · rw [h3, hd, chunksGo, if_pos hb, h2, drop_all ys i]
      simp
    · omega
theorem ScanSt.chunk {ys : List Int} {i f : Nat} {l : List Rec} (h : ScanSt ys i (f : Int) l) (hi : i < ys.length) (hb : ys.getD i 0 = 0) :
    f ≤ i ∧ (recsB l).length ≤ f ∧ scanS ys = l ++ recsTake (((ys.take i).drop f) :: chunksGo [] (ys.drop (i + 1))) := by
  have hd := drop_cons_getD ys i hi
  rcases h.at_ with ⟨h1, _⟩ | ⟨f', h1, h2, h3, h4⟩
  · omega
  · obtain rfl : f' = f := by omega
    refine ⟨h2, h3, ?_⟩
    rw [h4, hd, chunksGo, if_pos hb]
theorem ScanSt.done {ys : List Int} {i : Nat} {z : Int} {l : List Rec} (h : ScanSt ys i z l) (hi : ¬ i < ys.length) : scanS ys = l ∧ (recsB l).length ≤ ys.length := by
  have hd : ys.drop i = [] := List.drop_eq_nil_of_le (by omega)
  have hle := h.le
  rcases h.at_ with ⟨_, h2, h3⟩ | ⟨f, h1, h2, h3, h4⟩
  · rw [h3, h2, hd]
    simp [chunksGo, recsTake, recsB]
  · rw [h4, hd]
    exact ⟨by simp [chunksGo, recsTake], by omega⟩
theorem ScanSt.place {ys : List Int} {i : Nat} {z : Int} {l : List Rec} (h : ScanSt ys i z l) : z = -1 ∨ ∃ f : Nat, z = (f : Int) ∧ f ≤ i := by
  rcases h.at_ with ⟨h1, _⟩ | ⟨f, h1, h2, _⟩
  · exact .inl h1
  · exact .inr ⟨f, h1, h2⟩
end Go.Proofs.YtjeammmfdniokaaGreat

namespace Go.Proofs.YtjeammmfdniokaaGreat
open Go.RowKit

theorem recsB_octets {l : List Rec} (h : ∀ r ∈ l, r.Fine) : Octets (recsB l) := fun b hb => by
  unfold recsB at hb
  obtain ⟨r, hr, hb⟩ := List.mem_flatMap.1 hb
  exact seal_octets (bodyR_octets (h r hr)) b hb
theorem outS_octets {e s n : Nat} (he : e < 256) {l : List Rec} (h : ∀ r ∈ l, r.Fine) : Octets (outS e s n l) := (seal_octets (headB_octets he)).app (recsB_octets h)
theorem textS_octets {e s n : Nat} (he : e < 256) {l : List Rec} (h : ∀ r ∈ l, r.Fine) (b : Bool) : Octets (textS e s n l b) := by
  unfold textS framesS
  refine ((outS_octets he h).app ?_).app (fun x hx => ?_)
  · cases b with
    | false => rw [if_neg (by simp)]; exact fun x hx => by simp at hx
    | true => rw [if_pos rfl]; unfold footS; exact seal_octets bodyFt_octets
  · rw [(List.mem_replicate.1 hx).2]
    decide
theorem str_same {a b : List Int} (ha : Octets a) (hb : Octets b) : ((strOfNums a).toList == (strOfNums b).toList) = decide (a = b) := by
  rw [text_beq]
  congr 1
  exact propext ⟨fun h => strOf_inj ha hb h, fun h => by rw [h]⟩
end Go.Proofs.YtjeammmfdniokaaGreat

namespace Go.Proofs.YtjeammmfdniokaaGreat
open Go.RowKit

/-- Bytes of one's own, whose block may go on behind what they may grow to. -/
def OwnP (w : World) (base : Nat) (u : Value) (n : Nat) (xs : List Value) : Prop :=
  xs.length = n ∧ ((u = .slice none 0 0 ∧ n = 0) ∨ ∃ g cap cur, u = .slice (some ⟨g, 0, none⟩) n cap ∧ base ≤ g ∧ w.heap[g]? = some (.cells cur 5 (0, 0)) ∧ n ≤ cap ∧ cap ≤ maxLen ∧ cap ≤ cur.size ∧ cur.toList.take n = xs)
theorem OwnP.ofRow {w : World} {base n : Nat} {u : Value} {xs : List Value} (h : w.ownsRow base 5 1 u n xs) : OwnP w base u n xs := by
  obtain ⟨hl, hn | ⟨g, cap, cur, rfl, hg, hh, hc1, hc2, hc3, hc4⟩⟩ := h
  · exact ⟨by omega, .inl hn⟩
  · exact ⟨by omega, .inr ⟨g, cap, cur, rfl, hg, hh, hc1, hc2, by omega, by rw [Nat.mul_one] at hc4; exact hc4⟩⟩
theorem OwnP.kept {w w' : World} {base n : Nat} {u : Value} {xs : List Value} (h : OwnP w base u n xs) (hb : ∀ k, u.ownBlock = some k → w'.heap[k]? = w.heap[k]?) : OwnP w' base u n xs := by
  refine ⟨h.1, ?_⟩
  rcases h.2 with hn | ⟨g, cap, cur, rfl, hg, hh, rest⟩
  · exact .inl hn
  · exact .inr ⟨g, cap, cur, rfl, hg, (hb g rfl).trans hh, rest⟩
theorem OwnP.base {w : World} {b1 b2 n : Nat} {u : Value} {xs : List Value} (h : OwnP w b1 u n xs) (hb : b2 ≤ b1) : OwnP w b2 u n xs := by
  refine ⟨h.1, ?_⟩
  rcases h.2 with hn | ⟨g, cap, cur, rfl, hg, rest⟩
  · exact .inl hn
  · exact .inr ⟨g, cap, cur, rfl, Nat.le_trans hb hg, rest⟩
theorem OwnP.lt {w : World} {base n : Nat} {u : Value} {xs : List Value} (h : OwnP w base u n xs) (k : Nat) (hk : u.ownBlock = some k) : base ≤ k ∧ k < w.heap.size := by
  rcases h.2 with ⟨rfl, _⟩ | ⟨g, cap, cur, rfl, hg, hh, rest⟩
  · simp [Value.ownBlock] at hk
  · have : g = k := by simpa [Value.ownBlock] using hk
    subst this
    exact ⟨hg, lt_of_block hh⟩
/-- .. their block seen. -/
theorem OwnP.whole {w : World} {base N : Nat} {u : Value} {ys : List Int} (h : OwnP w base u N (ys.map (Value.int .u8))) (hN : N = ys.length) (h0 : 0 < N) :
    ∃ g d cur, u = .slice (some ⟨g, 0, none⟩) N d ∧ N ≤ d ∧ d ≤ 9223372036854775807 ∧ base ≤ g ∧ Whole w g 5 cur ∧ ∀ i, i < N → cur[i]? = some (.int .u8 (ys.getD i 0)) := by
  obtain ⟨_, ⟨rfl, h1⟩ | ⟨g, cap, cur, rfl, hg, hh, hc1, hc2, hc3, hc4⟩⟩ := h
  · omega
  · unfold maxLen at hc2
    refine ⟨g, cap, cur, rfl, hc1, by omega, hg, hh, fun i hi => ?_⟩
    have e : (cur.toList.take N)[i]? = (ys.map (Value.int .u8))[i]? := by rw [hc4]
    rw [List.getElem?_take, if_pos (by omega)] at e
    rw [← Array.getElem?_toList, e]
    have : i < ys.length := by omega
    simp [this]
/-- New bytes of one's own. -/
def OwnB (w : World) (ys : List Int) (u : Value) (w' : World) : Prop := OwnP w' w.heap.size u ys.length (ys.map (Value.int .u8))
theorem OwnB.read {w w' : World} {ys : List Int} {u : Value} (h : OwnB w ys u w') : ∃ q d, u = .slice q ys.length d ∧ ys.length ≤ d ∧ d ≤ 9223372036854775807 ∧ Bytes8 w' q ys ∧ (q = none → ys.length = 0 ∧ d = 0) ∧ (∀ a, q = some a → u.ownBlock = some a.block ∧ a = ⟨a.block, 0, none⟩) := by
  obtain ⟨_, ⟨rfl, h0⟩ | ⟨g, cap, cur, rfl, hg, hh, hc1, hc2, hc3, hc4⟩⟩ := h
  · exact ⟨none, 0, by rw [h0], by omega, by decide, fun hx => by omega, fun _ => ⟨h0, rfl⟩, fun a ha => by simp at ha⟩
  · unfold maxLen at hc2
    refine ⟨_, cap, rfl, hc1, by omega, fun hx => ⟨_, rfl, fun i hi => ?_⟩, fun h => by simp at h, fun a ha => by obtain rfl := Option.some.inj ha; exact ⟨rfl, rfl⟩⟩
    have hw : Whole w' g 5 cur := hh
    have hcell : cur[i]? = some (.int .u8 (ys.getD i 0)) := by
      have e : (cur.toList.take ys.length)[i]? = (ys.map (Value.int .u8))[i]? := by rw [hc4]
      rw [List.getElem?_take, if_pos (by omega)] at e
      rw [← Array.getElem?_toList, e]
      simp [hi]
    rw [addZero]
    exact hw.cell i hcell

/-- A builder in memory: which blocks are its own, its config's Exp and Segments, its number, its records. -/
abbrev BAt := World → (Nat → Prop) → Value → Nat → Nat → Nat → List Rec → Prop
structure SgBuild (At : BAt) : Prop where
  keep : ∀ {w w' : World} {F S : Nat → Prop} {v : Value} {e s n : Nat} {l : List Rec}, At w F v e s n l → Keeps S w w' → (∀ k, F k → ¬ S k) → At w' F v e s n l
  old : ∀ {w : World} {F : Nat → Prop} {v : Value} {e s n : Nat} {l : List Rec}, At w F v e s n l → ∀ k, F k → k < w.heap.size
  ptr : ∀ {w : World} {F : Nat → Prop} {v : Value} {e s n : Nat} {l : List Rec}, At w F v e s n l → ∃ g, v = .pointer (some ⟨g, 0, none⟩)
/-- Behind a call the builder is there, in what was its own and in new memory. -/
def SgSame (At : BAt) (F : Nat → Prop) (w : World) (v : Value) (e s n : Nat) (l : List Rec) (w' : World) : Prop :=
  Keeps F w w' ∧ ∃ F' : Nat → Prop, (∀ k, F' k → F k ∨ w.heap.size ≤ k) ∧ At w' F' v e s n l
/-- .. and new bytes that are none of its own. -/
def SgGives (At : BAt) (F : Nat → Prop) (w : World) (v : Value) (e s n : Nat) (l : List Rec) (ys : List Int) (u : Value) (w' : World) : Prop :=
  Keeps F w w' ∧ OwnB w ys u w' ∧ ∃ F' : Nat → Prop, (∀ k, F' k → F k ∨ w.heap.size ≤ k) ∧ At w' F' v e s n l ∧ ∀ k, F' k → u.ownBlock ≠ some k
def sgRoom (e s n : Nat) (l : List Rec) : Rm := ⟨e, s, n, (outS e s n l).length, l.length⟩
/-- What Add answers. -/
def addE (e s n : Nat) (l : List Rec) (r : Rec) : Int :=
  if checkR r ≠ 0 then checkR r else if fitsP (emptyP e s (s - 1)) ((recB r).length : Int) = false then 6 else if fitsP (sgRoom e s n l) ((recB r).length : Int) = false then 7 else 0
def addL (e s n : Nat) (l : List Rec) (r : Rec) : List Rec := if addE e s n l r = 0 then l ++ [r] else l
def addAt (e s n : Nat) (l : List Rec) (r : Rec) : Nat := if addE e s n l r = 0 then (outS e s n l).length else 0

structure SgNewOk (At : BAt) : Prop where
  may : ∀ (e s n : Nat) (w : World), e < 256 → s < 4294967296 → n < 4294967296 → mayHead e s n = true →
    Calls Tryz.prog 31 #[confV e s, .int .u32 (n : Int)] w fun r w' => Keeps NoBlock w w' ∧ ∃ F v, r = .returned (.tuple #[v, .int .i64 0]) ∧ At w' F v e s n [] ∧ ∀ k, F k → w.heap.size ≤ k
  not : ∀ (e s n : Nat) (w : World), e < 256 → s < 4294967296 → n < 4294967296 → mayHead e s n = false →
    Calls Tryz.prog 31 #[confV e s, .int .u32 (n : Int)] w fun r w' => r = .returned (.tuple #[.pointer none, .int .i64 1]) ∧ Keeps NoBlock w w'
structure SgAddOk (At : BAt) : Prop where
  add : ∀ (F : Nat → Prop) (v : Value) (e s n : Nat) (l : List Rec) (r : Rec) (w : World), At w F v e s n l → InRoom (sgRoom e s n l) l → l.length < 1000 → (∀ x ∈ l, x.Fine ∧ checkR x = 0) → r.Fine → r.key.length ≤ 100000 → r.val.length ≤ 100000 →
    Calls Tryz.prog 35 #[v, recV r] w fun x w' => x = .returned (.tuple #[.int .u32 (addAt e s n l r : Int), .int .i64 (addE e s n l r)]) ∧ SgSame At F w v e s n (addL e s n l r) w'
structure SgOpenOk (At : BAt) : Prop where
  open_ : ∀ (F : Nat → Prop) (v : Value) (e s n : Nat) (l : List Rec) (w : World), At w F v e s n l → InRoom (sgRoom e s n l) l → l.length < 1000 → (∀ x ∈ l, x.Fine ∧ checkR x = 0) →
    Calls Tryz.prog 32 #[v] w fun x w' => ∃ u, x = .returned u ∧ SgGives At F w v e s n l (textS e s n l false) u w'
structure SgSealOk (At : BAt) : Prop where
  seals : ∀ (F : Nat → Prop) (v : Value) (e s n : Nat) (l : List Rec) (w : World), At w F v e s n l → InRoom (sgRoom e s n l) l → l.length < 1000 → (∀ x ∈ l, x.Fine ∧ checkR x = 0) → 0 < l.length →
    Calls Tryz.prog 36 #[v] w fun x w' => ∃ u, x = .returned (.tuple #[u, .int .i64 0]) ∧ SgGives At F w v e s n l (textS e s n l true) u w'
  none : ∀ (F : Nat → Prop) (v : Value) (e s n : Nat) (w : World), At w F v e s n [] → InRoom (sgRoom e s n []) [] →
    Calls Tryz.prog 36 #[v] w fun x w' => ∃ q d, x = .returned (.tuple #[.slice q 0 d, .int .i64 10]) ∧ SgSame At F w v e s n [] w'

def placesS (e s n : Nat) (l : List Rec) : List Nat := (entsS e s n l).map En.at_
/-- A small config out of a number. -/
def smallE (k : Nat) : Nat := 12 + k % 2
def smallS (k : Nat) : Nat := 1 + k / 2 % 8
set_option maxHeartbeats 1000000 in
theorem small15_go (k : Nat) (hk : k < 256) (w : World) : Calls Tryz.prog 9 #[.int .u8 (k : Int)] w fun r w' => r = .returned (confV (smallE k) (smallS k)) ∧ Keeps NoBlock w w' := by
  have e1 : (12 : Int) + (k : Int) % 2 = ((12 + k % 2 : Nat) : Int) := by omega
  have e2 : (1 : Int) + (k : Int) / 2 % 8 = ((1 + k / 2 % 8 : Nat) : Int) := by omega
  have E1 := Lib.hid e1
  have E2 := Lib.hid e2
  clear e1 e2
  have HK := Lib.hid ((Keeps.refl NoBlock w).alloc (.cells #[.int .u8 (smallE k : Int), .int .u32 (smallS k : Int)] 27))
  unfold smallE smallS confV at *
  go_enter Tryz.func9, Tryz.ntmps9
  go_wp2_with fail
  rw [E1.out, E2.out]
  exact bodyPost_ret (v := .agg #[.int .u8 ((12 + k % 2 : Nat) : Int), .int .u32 ((1 + k / 2 % 8 : Nat) : Int)]) (by simp only [results, Tryz.results9]; simp [go_sem]) rfl ⟨rfl, HK.out⟩

theorem sgRoom_nil (e s n : Nat) : sgRoom e s n [] = emptyP e s n := by
  unfold sgRoom
  rw [outS_nil]
  rfl
theorem sgRoom_empty {e s n : Nat} (h : mayHead e s n = true) : InRoom (sgRoom e s n []) [] := by
  rw [sgRoom_nil]
  exact inRoom_empty h
theorem small_room (k : Nat) : 12 ≤ smallE k ∧ smallE k ≤ 13 ∧ 1 ≤ smallS k ∧ smallS k ≤ 8 := by
  unfold smallE smallS
  omega

theorem lives_text : (textS 12 1 0 [] false).length = 4096 ∧ (textS 12 1 0 [] false).getD 14 0 = 0 ∧ (textS 12 1 0 [] false).getD 15 0 = 255 ∧ (textS 12 1 0 [] false).getD 4095 0 = 255 := by
  have hm : mayHead 12 1 0 = true := by decide
  have hr := inRoom_empty hm
  have h1 : (textS 12 1 0 [] false).length = 4096 := text_length hr false (fun h => by simp at h)
  have hh : (sealN (headB 12 1 0)).length = 15 := by
    have := headLen_eq 12 1 0 (by decide) (by decide)
    unfold headLen at this
    rw [this]
    decide +kernel
  have hd : textS 12 1 0 [] false = sealN (headB 12 1 0) ++ List.replicate (4096 - 15) 255 := by
    unfold textS framesS
    rw [if_neg (by simp), List.append_nil, outS_nil, hh]
  refine ⟨h1, ?_, ?_, ?_⟩
  · rw [hd, List.getD_eq_getElem?_getD, List.getElem?_append_left (by omega)]
    have := (seal_nought (headB_octets (e := 12) (s := 1) (n := 0) (by decide)) (i := 14) (by omega)).1
    rw [hh] at this
    rw [← List.getD_eq_getElem?_getD]
    simpa using this
  · rw [hd, List.getD_eq_getElem?_getD, List.getElem?_append_right (by omega), hh]
    rfl
  · rw [hd, List.getD_eq_getElem?_getD, List.getElem?_append_right (by omega), hh]
    rw [List.getElem?_replicate]
    rfl

set_option maxHeartbeats 2000000 in
set_option maxRecDepth 10000 in
theorem lives15_true {At : BAt} (HB : SgBuild At) (HNw : SgNewOk At) (HOp : SgOpenOk At) (w : World) : Calls Tryz.prog 18 #[] w fun e w' => e = .returned (.bool true) ∧ Keeps NoBlock w w' := by
  have hm : mayHead 12 1 0 = true := by decide
  have HN := Lib.hid (fun w => HNw.may 12 1 0 w (by decide) (by decide) (by decide) hm)
  have HO := Lib.hid (fun F v w h => HOp.open_ F v 12 1 0 [] w h (sgRoom_empty hm) (by decide) (fun x hx => by simp at hx))
  have HPt := Lib.hid (fun F v w h => HB.ptr (w := w) (F := F) (v := v) (e := 12) (s := 1) (n := 0) (l := []) h)
  obtain ⟨t1, t2, t3, t4⟩ := lives_text
  obtain ⟨T, hT⟩ : ∃ T, T = textS 12 1 0 [] false := ⟨_, rfl⟩
  rw [← hT] at HO t1 t2 t3 t4
  clear hT HB HNw HOp hm
  unfold confV at HN
  go_enter Tryz.func18, Tryz.ntmps18
  go_wp2_with fail
  refine (HN.out _).mono ?_
  rintro e1 w1 ⟨hk, F, v, rfl, hat, hF⟩
  have HK := Lib.hid hk
  have HA := Lib.hid hat
  have HF := Lib.hid hF
  obtain ⟨g, rfl⟩ := HPt.out _ _ _ hat
  clear hk hat hF
  go_wp2_with fail
  refine (HO.out _ _ _ HA.out).mono ?_
  rintro e2 w2 ⟨u, rfl, hk, hown, _⟩
  obtain ⟨q, d, rfl, h1, h2, h8, _, hq⟩ := hown.read
  have HK2 := Lib.hid (HK.out.then hk (fun k hk9 hf => by have := HF.out k hf; omega))
  obtain ⟨a, rfl, hc⟩ := h8 (by omega)
  have c14 := hc 14 (by omega)
  have c15 := hc 15 (by omega)
  have c95 := hc 4095 (by omega)
  rw [t2] at c14
  rw [t3] at c15
  rw [t4] at c95
  obtain ⟨_, ha⟩ := hq a rfl
  rw [ha] at c14 c15 c95 ⊢
  simp only [Addr.add_lit, Nat.zero_add] at c14 c15 c95
  rw [t1]
  rw [t1] at h1
  clear hk hown h8 hc hq ha HO t1 t2 t3 t4
  go_wp2_with fail
  go_ret
  exact ⟨rfl, HK2.out⟩
end Go.Proofs.YtjeammmfdniokaaGreat

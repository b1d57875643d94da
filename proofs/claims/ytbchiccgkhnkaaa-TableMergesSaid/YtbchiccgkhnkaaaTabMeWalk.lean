/-
  The walk of the law TableMerges. Written by wip/tools/gen_tabmerges.py.
-/
import Derived.Test.YtbchiccgkhnkaaaTabKey
import Derived.Test.YtbchiccgkhnkaaaTabMeOk
import Derived.Test.YtbchiccgkhnkaaaTabOrWalk
import Derived.Test.YtbchiccgkhnkaaaTabSoWalk
import Derived.Test.YtbchiccgkhnkaaaSwap
import Derived.Carry
namespace Go.Proofs.Ytbchiccgkhnkaaa
open Go.RowKit Go.ChangeShapes Go.WideShapes Go.Maps

theorem take_snoc_mem {l : List En} {j : Nat} (hj : j < l.length) : (fun x => decide (x ∈ l.take j) || decide (x = l.getD j En.none)) = fun x => decide (x ∈ l.take (j + 1)) := by
  funext x
  rw [take_getD hj]
  by_cases h1 : x ∈ l.take j <;> by_cases h2 : x = l.getD j En.none <;> simp [h1, h2]
theorem pair_fresh {l : List En} (h : l.Pairwise LessE) {j : Nat} (hj : j < l.length) : l.getD j En.none ∉ l.take j := fun hm => by
  have e : l.getD j En.none = l[j] := by simp [hj]
  rw [e] at hm
  obtain ⟨i, hi, he⟩ := List.getElem_of_mem hm
  rw [List.length_take] at hi
  have hl := List.pairwise_iff_getElem.1 h i j (by omega) hj (by omega)
  rw [List.getElem_take] at he
  rw [he] at hl
  exact LessE.irrefl _ hl
theorem pair_adj {l : List En} (h : l.Pairwise LessE) {k : Nat} (hk : k + 1 < l.length) : LessE (l.getD k En.none) (l.getD (k + 1) En.none) := by
  have e1 : l.getD k En.none = l[k] := by simp [show k < l.length by omega]
  have e2 : l.getD (k + 1) En.none = l[k + 1] := by simp [hk]
  rw [e1, e2]
  exact List.pairwise_iff_getElem.1 h k (k + 1) (by omega) hk (by omega)
theorem cmpE_of_less {a b : En} (h : LessE a b) : cmpE a b = -1 := by
  unfold cmpE
  rw [if_neg (fun e => LessE.irrefl _ (e ▸ h)), if_pos h]
theorem Keeps.ofBelowM {B : Nat} {a b : World} (h : Below B a b) : Keeps (fun k => B ≤ k) a b := ⟨h.os, h.tape, h.output, h.size, fun k _ hn => h.block k (by omega)⟩
theorem del_put_same {f : En → Bool} {e : En} (h : f e = true) : (fun x => (f x && decide (x ≠ e)) || decide (x = e)) = f := by
  funext x
  by_cases hx : x = e
  · rw [hx]; simp [h]
  · simp [hx]
theorem SeenAt.congr {w : World} {b n N : Nat} {f g : En → Bool} (h : SeenAt w b n f N) (e : f = g) : SeenAt w b n g N := e ▸ h

set_option maxHeartbeats 16000000 in
set_option maxRecDepth 10000 in
theorem tabmerges_walk (H : SortOk) (HM : MergeOk) (HC : CmpOk) (p p2 : Option Addr) (n c n2 c2 : Nat) (l m : List En) (w : World) (h : InE w p n c l) (h2 : InE w p2 n2 c2 m) :
    Calls Try.prog 3 #[.slice p n c, .slice p2 n2 c2] w fun e w' => e = .returned (.bool true) ∧ Keeps NoBlock w w' := by
  have HL := Lib.hid (fun w => lives11_true H w)
  by_cases hn : n ≤ 30 ∧ n2 ≤ 30
  rotate_left
  · by_cases hn1 : n ≤ 30
    · have hd : decide ((30 : Int) < (n : Int)) = false := decide_eq_false (by omega)
      have hd2 : decide (30 < n) = false := decide_eq_false (by omega)
      have hd3 : decide ((30 : Int) < (n2 : Int)) = true := decide_eq_true (by omega)
      have hd4 : decide (30 < n2) = true := decide_eq_true (by omega)
      have hn2 : ¬ 30 < n := by omega
      have hn3 : 30 < n2 := by omega
      clear h h2 H HM HC hn hn1
      go_enter Try.func3, Try.ntmps3
      go_wp2_with fail
      refine (HL.out _).mono ?_
      rintro e w1 ⟨rfl, hk⟩
      have HK := Lib.hid hk
      clear hk
      go_wp2_with fail
      refine (HL.out _).mono ?_
      rintro e w2 ⟨rfl, hk⟩
      have HK := Lib.hid (HK.out.trans hk)
      clear hk
      go_wp2_with fail
      go_ret
      exact ⟨rfl, HK.out⟩
    · have hd : decide ((30 : Int) < (n : Int)) = true := decide_eq_true (by omega)
      have hd2 : decide (30 < n) = true := decide_eq_true (by omega)
      have hn2 : 30 < n := by omega
      clear h h2 H HM HC hn hn1
      go_enter Try.func3, Try.ntmps3
      go_wp2_with fail
      refine (HL.out _).mono ?_
      rintro e w1 ⟨rfl, hk⟩
      have HK := Lib.hid hk
      clear hk
      go_wp2_with fail
      refine (HL.out _).mono ?_
      rintro e w2 ⟨rfl, hk⟩
      have HK := Lib.hid (HK.out.trans hk)
      clear hk
      go_wp2_with fail
      go_ret
      exact ⟨rfl, HK.out⟩
  obtain ⟨hn, hn2⟩ := hn
  have hd : decide ((30 : Int) < (n : Int)) = false := decide_eq_false (by omega)
  have hd2 : decide (30 < n) = false := decide_eq_false (by omega)
  have hd3 : decide ((30 : Int) < (n2 : Int)) = false := decide_eq_false (by omega)
  have hd4 : decide (30 < n2) = false := decide_eq_false (by omega)
  have hn4 : ¬ 30 < n := by omega
  have hn5 : ¬ 30 < n2 := by omega
  obtain ⟨i0, hi, hz0, hz1, hz2⟩ := info_parts infoEnL
  have HLn := Lib.hid h.len
  have HLm := Lib.hid h2.len
  have HFl := Lib.hid h.fine
  have HFm := Lib.hid h2.fine
  have HBl := Lib.hid h.bare
  have HBm := Lib.hid h2.bare
  have HAt := Lib.hid h.at_
  have HAm := Lib.hid h2.at_
  have HIl := Lib.hid (fun w (ha : EnsAt w p l) => (show InE w p n c l from ⟨h.len, h.cap, h.room, h.bare, h.fine, ha⟩))
  have HIm := Lib.hid (fun w (ha : EnsAt w p2 m) => (show InE w p2 n2 c2 m from ⟨h2.len, h2.cap, h2.room, h2.bare, h2.fine, ha⟩))
  have HSl := Lib.hid (fun w ha => HM.sorted p n c l w (HIl.out w ha) (by omega))
  have HSm := Lib.hid (fun w ha => HM.sorted p2 n2 c2 m w (HIm.out w ha) (by omega))
  have HSo := Lib.hid (fun q k d (l : List En) w (hh : InE w q k d l) (hk : k ≤ 100000) => H.sorted q k d l w hh hk)
  have hFb : ∀ e ∈ l ++ m, e.Fine := fun e he => (List.mem_append.1 he).elim (h.fine e) (h2.fine e)
  have HFb := Lib.hid hFb
  have hFs := sortE_fine hFb
  have HFs := Lib.hid hFs
  have hPair := sortE_pair (l ++ m)
  have hMem : ∀ x, x ∈ sortE (l ++ m) ↔ x ∈ l ++ m := fun x => sortE_mem
  have HMg := Lib.hid (sortE_merge l m)
  have HFg : Hid (∀ e ∈ sortE m ++ sortE l, e.Fine) := Lib.hid (fun e he => (List.mem_append.1 he).elim (fun h' => sortE_fine h2.fine e h') (fun h' => sortE_fine h.fine e h'))
  have hsl := sortE_len (l ++ m)
  have hlml := sortE_len l
  have hlmm := sortE_len m
  rw [← h.len] at hlml
  rw [← h2.len] at hlmm
  rw [List.length_append, ← h.len, ← h2.len] at hsl
  obtain ⟨B, hB⟩ : ∃ B, B = l ++ m := ⟨_, rfl⟩
  have hBl : n + n2 = B.length := by rw [hB, List.length_append, ← h.len, ← h2.len]
  rw [← hB] at HFb hFb hFs HFs hPair hMem HMg hsl
  obtain ⟨S, hS⟩ : ∃ S, S = sortE B := ⟨_, rfl⟩
  rw [← hS] at hFs HFs hPair hMem HMg hsl
  obtain ⟨Mx, hMx⟩ : ∃ Mx, Mx = S.length := ⟨_, rfl⟩
  rw [← hMx] at hsl
  obtain ⟨nb, hnb⟩ : ∃ nb, nb = n + n2 := ⟨_, rfl⟩
  rw [← hnb] at hBl hsl
  have hnb60 : nb ≤ 60 := by omega
  have HBd := Lib.hid hB
  have HSd := Lib.hid hS
  have HMx := Lib.hid hMx
  have HBl2 := Lib.hid hBl
  have HPr := Lib.hid hPair
  have HMem := Lib.hid hMem
  have HCm := Lib.hid (fun a b (ha : a ∈ S) (hb : b ∈ S) w => HC.cmp a b w (HFs.out a ha) (HFs.out b hb))
  unfold enV at HCm
  have HLml := Lib.hid hlml
  have HLmm := Lib.hid hlmm
  have HNb := Lib.hid hnb
  clear h h2 H HM HC hFb hFs hPair hMem hB hS hMx hBl hlml hlmm hnb
  have hmm := @run_makeMap Try.prog
  go_enter Try.func3, Try.ntmps3
  go_wp2_with fail
  refine (HL.out _).mono ?_
  rintro e w1 ⟨rfl, hk⟩
  have HAt := Lib.hid (EnsAt.keep HAt.out hk)
  have HAm := Lib.hid (EnsAt.keep HAm.out hk)
  have HK := Lib.hid hk
  clear hk HL
  go_wp2_with (at_builtin; refine wpList_append_twos (v0 := enH) (v1 := enA) (dd := En.none) rfl _ _ 22 rfl 29 i0 (.agg #[.int .u64 0, .int .u32 0]) 16 Try.underlying22 hi hz0 hz1 hz2 rfl _ _ rfl (TwosSoFar.made w1) p n c l rfl HBl.out HLn.out (EnsAt.keep HAt.out ((Keeps.refl NoBlock w1).alloc _)) (fun _ => rfl) (fun _ => rfl) (by first | omega | (simp; omega)) (by first | omega | (simp; omega)) ?_)
  intro v2 w2 h2
  have HO2 : Hid (TwosSoFar enH enA 29 w1 l v2 w2) := Lib.hid h2
  have HAm2 := Lib.hid (EnsAt.keep HAm.out h2.keeps)
  clear h2
  go_wp2_with (at_builtin; refine wpList_append_twos (v0 := enH) (v1 := enA) (dd := En.none) rfl _ _ 22 rfl 29 i0 (.agg #[.int .u64 0, .int .u32 0]) 16 Try.underlying22 hi hz0 hz1 hz2 rfl _ _ rfl HO2.out p2 n2 c2 m rfl HBm.out HLm.out HAm2.out (fun _ => rfl) (fun _ => rfl) (by have := HLn.out; first | omega | (simp; omega)) (by have := HLn.out; first | omega | (simp; omega)) ?_)
  intro v3 w3 h3
  have h3 : TwosSoFar enH enA 29 w1 B v3 w3 := by rw [HBd.out]; exact h3
  obtain ⟨q1, m1, d1, rfl, hm, hmd, hd1, hq, hat, hk⟩ := TwosSoFar.new (dd := En.none) h3
  have hme : nb = m1 := by rw [hm, HBl2.out]
  subst hme
  have HBt := Lib.hid (show EnsAt w3 q1 B from hat)
  have HBt2 := Lib.hid (show nb ≤ d1 ∧ d1 ≤ 9223372036854775807 ∧ (q1 = none → nb = 0 ∧ d1 = 0) from ⟨hmd, hd1, hq⟩)
  have HAt := Lib.hid (EnsAt.keep HAt.out hk)
  have HAm := Lib.hid (EnsAt.keep HAm.out hk)
  have HK := Lib.hid (HK.out.trans hk)
  clear h3 hm hmd hd1 hq hat hk HO2 HAm2
  go_wp2_with fail
  refine (HSo.out q1 nb d1 B _ ⟨HBl2.out, HBt2.out.1, HBt2.out.2.1, HBt2.out.2.2, HFb.out, HBt.out⟩ (by omega)).mono ?_
  rintro e w4 ⟨v, rfl, q2, m2, d2, rfl, hm, hmd, hdd, hq, hat, hk⟩
  have hme : Mx = m2 := by rw [hm, HMx.out, HSd.out]
  subst hme
  have HBt := Lib.hid (EnsAt.keep HBt.out hk)
  have HAt := Lib.hid (EnsAt.keep HAt.out hk)
  have HAm := Lib.hid (EnsAt.keep HAm.out hk)
  have HSt := Lib.hid (show EnsAt w4 q2 S by rw [HSd.out]; exact hat)
  have HK := Lib.hid (HK.out.trans hk)
  clear hm hmd hdd hq hat hk
  have HM0 := Lib.hid (SeenAt.made w4)
  go_wp2_with fail
  have HW4 := Lib.hid ((Keeps.refl NoBlock w4).alloc (.map #[] 0))
  have HSt4 := Lib.hid (fun wr (hk : Keeps (Just w4.heap.size) (w4.alloc (.map #[] 0)) wr) => EnsAt.keepNew HSt.out HW4.out (Nat.le_refl _) hk)
  have HBt4 := Lib.hid (fun wr (hk : Keeps (Just w4.heap.size) (w4.alloc (.map #[] 0)) wr) => EnsAt.keepNew HBt.out HW4.out (Nat.le_refl _) hk)
  have HAt4 := Lib.hid (fun wr (hk : Keeps (Just w4.heap.size) (w4.alloc (.map #[] 0)) wr) => EnsAt.keepNew HAt.out HW4.out (Nat.le_refl _) hk)
  have HAm4 := Lib.hid (fun wr (hk : Keeps (Just w4.heap.size) (w4.alloc (.map #[] 0)) wr) => EnsAt.keepNew HAm.out HW4.out (Nat.le_refl _) hk)
  have HK4 := Lib.hid (HK.out.trans HW4.out)
  obtain ⟨b, hb⟩ : ∃ b, b = w4.heap.size := ⟨_, rfl⟩
  obtain ⟨W4, hW4⟩ : ∃ W4, W4 = w4.alloc (.map #[] 0) := ⟨_, rfl⟩
  rw [← hb, ← hW4] at HM0 HSt4 HBt4 HAt4 HAm4
  rw [← hW4] at HK4
  rw [← hb, ← hW4]
  have HBb : Hid (w.heap.size ≤ b) := Lib.hid (by rw [hb]; exact HK.out.size)
  clear hb hW4 HW4 HSt HBt HAt HAm HK hmm
  go_loopw [37] (fun i wr => ∃ j : Nat, j ≤ Mx ∧ i = .int .i64 (j : Int) ∧ Hid (SeenAt wr b j (fun x => decide (x ∈ S.take j)) j) ∧ Hid (Keeps (Just b) W4 wr)) (fun i _ => Mx - (intOf i).toNat)
  case atStart => exact ⟨0, Nat.zero_le _, rfl, Lib.hid (HM0.out.congr (by funext x; simp)), Lib.hid (Keeps.refl _ _)⟩
  case round =>
    obtain ⟨j, hj, rfl, HSe, HKr⟩ := hrel
    by_cases hlt : j < Mx
    · have hdj : decide (j < Mx) = true := decide_eq_true hlt
      have hdj2 : decide ((j : Int) < (Mx : Int)) = true := decide_eq_true (by omega)
      have hjl : j < S.length := by rw [← HMx.out]; exact hlt
      obtain ⟨a, rfl, c0, c1⟩ := (HSt4.out wr HKr.out).at_ j hjl
      have hfr := pair_fresh HPr.out hjl
      have hts := take_snoc_mem hjl
      have hrm : S.getD j En.none ∈ S := by simp [hjl]
      have hrf := HFs.out _ hrm
      have hin : S.getD j En.none ∈ S.take (j + 1) := by rw [take_getD hjl]; simp
      obtain ⟨r, hr⟩ : ∃ r, r = S.getD j En.none := ⟨_, rfl⟩
      rw [← hr] at c0 c1 hfr hts hrm hrf hin
      have HIn := Lib.hid hin
      clear hin
      have HRr := Lib.hid hr
      have HBlt : Hid (b < wr.heap.size) := Lib.hid HSe.out.lt
      have HSe5 := Lib.hid (HSe.out.keep ((Keeps.refl NoBlock wr).alloc (.cells #[.int .u64 (r.hash : Int), .int .u32 (r.at_ : Int)] 29)) (fun h => h))
      have HKr5 := Lib.hid (HKr.out.alloc (.cells #[.int .u64 (r.hash : Int), .int .u32 (r.at_ : Int)] 29))
      have HX5 := Lib.hid (Whole.new wr 29 (enCells r))
      clear hr hjl
      go_wp2_with fail
      obtain ⟨W, hW⟩ : ∃ W, W = wr.alloc (.cells #[.int .u64 (r.hash : Int), .int .u32 (r.at_ : Int)] 29) := ⟨_, rfl⟩
      rw [← hW] at HSe5 HKr5 ⊢
      have HX : Hid (Whole W wr.heap.size 29 (enCells r)) := Lib.hid (by rw [hW]; exact HX5.out)
      clear hW HX5
      have hlook := (HSe5.out.keep (w' := W.drew) (Keeps.refl NoBlock W).drew (fun h => h)).look hrf
      rw [if_neg (by simp [hfr])] at hlook
      obtain ⟨v0, st, w6, w7, hme, hes, hlk6, hk6, hs7, hk7⟩ := (HSe5.out.keep (w' := W.drew) (Keeps.refl NoBlock W).drew (fun h => h)).bump (by unfold maxLen; omega) hrf (by simp [hfr])
      unfold enV at hlook hme hlk6
      have hxb : ¬ Just b wr.heap.size := by unfold Just; have := HBlt.out; omega
      have sN : W.drew.cell? ⟨wr.heap.size, 0, none⟩ = some (.int .u64 (r.hash : Int)) ∧ W.drew.cell? ⟨wr.heap.size, 1, none⟩ = some (.int .u32 (r.at_ : Int)) := ⟨HX.out.cell 0 rfl, HX.out.cell 1 rfl⟩
      have s6 : w6.cell? ⟨wr.heap.size, 0, none⟩ = some (.int .u64 (r.hash : Int)) ∧ w6.cell? ⟨wr.heap.size, 1, none⟩ = some (.int .u32 (r.at_ : Int)) := ⟨(HX.out.keep hk6.ofDrew hxb).cell 0 rfl, (HX.out.keep hk6.ofDrew hxb).cell 1 rfl⟩
      have s7 : w7.cell? ⟨wr.heap.size, 0, none⟩ = some (.int .u64 (r.hash : Int)) ∧ w7.cell? ⟨wr.heap.size, 1, none⟩ = some (.int .u32 (r.at_ : Int)) := ⟨(HX.out.keep hk7.ofDrew hxb).cell 0 rfl, (HX.out.keep hk7.ofDrew hxb).cell 1 rfl⟩
      have HS7 := Lib.hid (hs7.congr (g := fun x => decide (x ∈ S.take (j + 1))) hts)
      have HK7 := Lib.hid (HKr5.out.trans hk7.ofDrew)
      have HX7 := Lib.hid (HX.out.keep hk7.ofDrew hxb)
      have HBz := Lib.hid hxb
      have hwr : IntKind.i64.wrap 1 = 1 := by decide
      clear hs7 hk7 hk6 hts hxb
      refine wp_region_held_drew (S := fun w' => w'.cell? ⟨wr.heap.size, 0, none⟩ = some (.int .u64 (r.hash : Int)) ∧ w'.cell? ⟨wr.heap.size, 1, none⟩ = some (.int .u32 (r.at_ : Int))) (by kernel_rfl) sN (fun hHeld => ?_)
      refine wpAnyH_take (i := 0) (v := ?vT1) rfl ?aT1 ?bT1 ?cT1 ?dT1 (Or.inl ⟨?eT1, ?fT1⟩) hHeld ?gT1
      case fT1 => intro w hSw; (try dsimp only at hSw); go_simp; (try with_reducible rfl)
      case aT1 => kernel_rfl
      case bT1 => kernel_rfl
      case cT1 => kernel_rfl
      case dT1 => exact fun _ _ _ h => h
      case eT1 => rfl
      simp only [Act.put, List.getElem_toArray, List.getElem_cons_zero, List.setIfInBounds_toArray, List.set_cons_zero, List.set_cons_succ]
      refine wpAnyH_take (i := 1) (v := ?vT2) rfl ?aT2 ?bT2 ?cT2 ?dT2 (Or.inl ⟨?eT2, ?fT2⟩) hHeld ?gT2
      case fT2 => intro w hSw; (try dsimp only at hSw); go_simp; (try with_reducible rfl)
      case aT2 => kernel_rfl
      case bT2 => kernel_rfl
      case cT2 => kernel_rfl
      case dT2 => exact fun _ _ _ h => h
      case eT2 => rfl
      simp only [Act.put, List.getElem_toArray, List.getElem_cons_zero, List.getElem_cons_succ, List.setIfInBounds_toArray, List.set_cons_zero, List.set_cons_succ]
      refine wpAnyH_ready (rs := [2, 4]) (by kernel_rfl) (by simp) ?_
      refine (AllReadyH.cons (o := _) rfl (fun K hK => ?_) (AllReadyH.cons (o := _) rfl (fun K hK => ?_) AllReadyH.nil))
      · go_simp
        refine hK.out _ _ sN (fun _ => ?_)
        clear hK K
        refine wpAnyH_take (i := 3) (v := ?vT3) rfl ?aT3 ?bT3 ?cT3 ?dT3 (Or.inl ⟨?eT3, ?fT3⟩) sN ?gT3
        case fT3 => intro w hSw; (try dsimp only at hSw); go_simp; (try with_reducible rfl)
        case aT3 => kernel_rfl
        case bT3 => kernel_rfl
        case cT3 => kernel_rfl
        case dT3 => exact fun _ _ _ h => h
        case eT3 => rfl
        simp only [Act.put, List.getElem_toArray, List.getElem_cons_zero, List.getElem_cons_succ, List.setIfInBounds_toArray, List.set_cons_zero, List.set_cons_succ]
        refine wpAnyH_ready (rs := [4]) (by kernel_rfl) (by simp) ?_
        refine (AllReadyH.cons (o := _) rfl (fun K hK => ?_) AllReadyH.nil)
        go_simp
        refine hK.out _ _ s6 (fun _ => ?_)
        clear hK K
        refine wpAnyH_take (i := 5) (v := ?vT4) rfl ?aT4 ?bT4 ?cT4 ?dT4 (Or.inl ⟨?eT4, ?fT4⟩) s6 ?gT4
        case fT4 => intro w hSw; (try dsimp only at hSw); go_simp; (try with_reducible rfl)
        case aT4 => kernel_rfl
        case bT4 => kernel_rfl
        case cT4 => kernel_rfl
        case dT4 => exact fun _ _ _ h => h
        case eT4 => rfl
        simp only [Act.put, List.getElem_toArray, List.getElem_cons_zero, List.getElem_cons_succ, List.setIfInBounds_toArray, List.set_cons_zero, List.set_cons_succ]
        refine wpAnyH_ready (rs := [6]) (by kernel_rfl) (by simp) ?_
        refine (AllReadyH.cons (o := _) rfl (fun K hK => ?_) AllReadyH.nil)
        go_simp
        refine hK.out _ _ s7 (fun _ => ?_)
        clear hK K
        refine wpAnyH_done (by kernel_rfl) ?_ _
        clear hlook hme hes hlk6 sN s6 s7 hwr
        obtain ⟨W7, rfl⟩ : ∃ W7, W7 = w7 := ⟨_, rfl⟩
        have hlA := HS7.out.look hrf
        have hlB := (HS7.out.keep (w' := W7.drew) (Keeps.refl NoBlock W7).drew (fun h => h)).look hrf
        rw [if_pos (by simp [HIn.out])] at hlA hlB
        unfold enV at hlA hlB
        by_cases hj0 : j = 0
        · have hjp : decide ((0 : Int) < (j : Int)) = false := decide_eq_false (by omega)
          have hjp2 : decide (0 < j) = false := decide_eq_false (by omega)
          obtain ⟨x0, x1⟩ : W7.cell? ⟨wr.heap.size, 0, none⟩ = some (.int .u64 (r.hash : Int)) ∧ W7.cell? ⟨wr.heap.size, 1, none⟩ = some (.int .u32 (r.at_ : Int)) := ⟨HX7.out.cell 0 rfl, HX7.out.cell 1 rfl⟩
          obtain ⟨y0, y1⟩ : W7.drew.cell? ⟨wr.heap.size, 0, none⟩ = some (.int .u64 (r.hash : Int)) ∧ W7.drew.cell? ⟨wr.heap.size, 1, none⟩ = some (.int .u32 (r.at_ : Int)) := ⟨HX7.out.cell 0 rfl, HX7.out.cell 1 rfl⟩
          clear hj0
          go_wp2_with fail
          go_region
          clear x0 x1 y0 y1 hlA hlB
          go_wp2_with fail
          exact ⟨⟨j + 1, by omega, by go_num, Lib.hid (HS7.out.keep (by first | exact Keeps.refl NoBlock _ | exact (Keeps.refl NoBlock _).drew | exact (Keeps.refl NoBlock _).drewN _) (fun h => h)), Lib.hid (by first | exact HK7.out | exact HK7.out.drew | exact HK7.out.drewN _)⟩, by simp [intOf]; omega⟩
        · obtain ⟨k, rfl⟩ : ∃ k, j = k + 1 := ⟨j - 1, by omega⟩
          have hjp : decide ((0 : Int) < ((k + 1 : Nat) : Int)) = true := decide_eq_true (by omega)
          have hjp2 : decide ((0 : Int) < (k : Int) + 1) = true := decide_eq_true (by omega)
          have hkn : (k : Int) < (Mx : Int) := by omega
          have hkn2 : k < Mx := by omega
          have hk0 : (0 : Int) ≤ (k : Int) := by omega
          have wk : IntKind.i64.wrap (k : Int) = (k : Int) := by rw [IntKind.wrap_i64]; omega
          obtain ⟨a', ha', d0, d1⟩ := (HSt4.out W7 HK7.out).at_ k (by rw [← HMx.out]; exact hkn2)
          obtain rfl := Option.some.inj ha'
          have hadj := pair_adj HPr.out (show k + 1 < S.length by rw [← HMx.out]; exact hlt)
          have htm : S.getD k En.none ∈ S := by have : k < S.length := (by rw [← HMx.out]; exact hkn2); simp [this]
          rw [← HRr.out] at hadj
          obtain ⟨t, ht⟩ : ∃ t, t = S.getD k En.none := ⟨_, rfl⟩
          rw [← ht] at d0 d1 hadj htm
          have HCt := Lib.hid (fun w => HCm.out t r htm hrm w)
          rw [cmpE_of_less hadj] at HCt
          have tN : ((W7.cell? ⟨wr.heap.size, 0, none⟩ = some (.int .u64 (r.hash : Int)) ∧ W7.cell? ⟨wr.heap.size, 1, none⟩ = some (.int .u32 (r.at_ : Int))) ∧ (Instr.lookup 25 (.map (some b)) (.agg #[.int .u64 (r.hash : Int), .int .u32 (r.at_ : Int)]) false).run Try.prog W7 = .ok (.int .i64 1) W7) ∧ W7.cell? (a.add (k * 2)) = some (.int .u64 (t.hash : Int)) ∧ W7.cell? ⟨(a.add (k * 2)).block, (a.add (k * 2)).off + 1, none⟩ = some (.int .u32 (t.at_ : Int)) := ⟨⟨⟨HX7.out.cell 0 rfl, HX7.out.cell 1 rfl⟩, hlA⟩, d0, d1⟩
          have t0 : ((W7.drew.cell? ⟨wr.heap.size, 0, none⟩ = some (.int .u64 (r.hash : Int)) ∧ W7.drew.cell? ⟨wr.heap.size, 1, none⟩ = some (.int .u32 (r.at_ : Int))) ∧ (Instr.lookup 25 (.map (some b)) (.agg #[.int .u64 (r.hash : Int), .int .u32 (r.at_ : Int)]) false).run Try.prog W7.drew = .ok (.int .i64 1) W7.drew) ∧ W7.drew.cell? (a.add (k * 2)) = some (.int .u64 (t.hash : Int)) ∧ W7.drew.cell? ⟨(a.add (k * 2)).block, (a.add (k * 2)).off + 1, none⟩ = some (.int .u32 (t.at_ : Int)) := ⟨⟨⟨HX7.out.cell 0 rfl, HX7.out.cell 1 rfl⟩, hlB⟩, d0, d1⟩
          have HD := Lib.hid (And.intro d0 d1)
          clear hj0 hlA hlB ht hadj htm d0 d1 ha'
          go_wp2_with fail
          go_region_held3 (fun w' => ((w'.cell? ⟨wr.heap.size, 0, none⟩ = some (.int .u64 (r.hash : Int)) ∧ w'.cell? ⟨wr.heap.size, 1, none⟩ = some (.int .u32 (r.at_ : Int))) ∧ (Instr.lookup 25 (.map (some b)) (.agg #[.int .u64 (r.hash : Int), .int .u32 (r.at_ : Int)]) false).run Try.prog w' = .ok (.int .i64 1) w') ∧ w'.cell? (a.add (k * 2)) = some (.int .u64 (t.hash : Int)) ∧ w'.cell? ⟨(a.add (k * 2)).block, (a.add (k * 2)).off + 1, none⟩ = some (.int .u32 (t.at_ : Int)))
            (first | exact t9 | exact t0 | exact tN)
            (first | (go_at_call 10; refine (HCt.out _).mono ?_; rintro e w9 ⟨rfl, hk⟩; have hk' : Keeps NoBlock W7 w9 := (by first | exact hk | exact hk.ofDrew | exact hk.ofDrewN); have HK7 := Lib.hid (HK7.out.trans (hk'.wider (fun _ _ h => h.elim))); have HX7 := Lib.hid (HX7.out.keep hk' (fun h => h)); have HS7 := Lib.hid (HS7.out.keep hk' (fun h => h)); have hl9 := HS7.out.look hrf; rw [if_pos (by simp [HIn.out])] at hl9; unfold enV at hl9; have t9 : ((w9.cell? ⟨wr.heap.size, 0, none⟩ = some (.int .u64 (r.hash : Int)) ∧ w9.cell? ⟨wr.heap.size, 1, none⟩ = some (.int .u32 (r.at_ : Int))) ∧ (Instr.lookup 25 (.map (some b)) (.agg #[.int .u64 (r.hash : Int), .int .u32 (r.at_ : Int)]) false).run Try.prog w9 = .ok (.int .i64 1) w9) ∧ w9.cell? (a.add (k * 2)) = some (.int .u64 (t.hash : Int)) ∧ w9.cell? ⟨(a.add (k * 2)).block, (a.add (k * 2)).off + 1, none⟩ = some (.int .u32 (t.at_ : Int)) := ⟨⟨⟨HX7.out.cell 0 rfl, HX7.out.cell 1 rfl⟩, hl9⟩, hk'.cell HD.out.1 (fun h => h), hk'.cell HD.out.2 (fun h => h)⟩; clear hk hk' hl9; obtain ⟨W7, rfl⟩ : ∃ x, x = w9 := ⟨_, rfl⟩))
          clear t0 tN t9
          go_wp2_with fail
          exact ⟨⟨k + 1 + 1, by omega, by go_num, HS7, HK7⟩, by simp [intOf]; omega⟩
      · go_simp
        refine hK.out _ _ s6 (fun _ => ?_)
        clear hK K
        refine wpAnyH_take (i := 5) (v := ?vT5) rfl ?aT5 ?bT5 ?cT5 ?dT5 (Or.inl ⟨?eT5, ?fT5⟩) s6 ?gT5
        case fT5 => intro w hSw; (try dsimp only at hSw); go_simp; (try with_reducible rfl)
        case aT5 => kernel_rfl
        case bT5 => kernel_rfl
        case cT5 => kernel_rfl
        case dT5 => exact fun _ _ _ h => h
        case eT5 => rfl
        simp only [Act.put, List.getElem_toArray, List.getElem_cons_zero, List.getElem_cons_succ, List.setIfInBounds_toArray, List.set_cons_zero, List.set_cons_succ]
        refine wpAnyH_ready (rs := [2]) (by kernel_rfl) (by simp) ?_
        refine (AllReadyH.cons (o := _) rfl (fun K hK => ?_) AllReadyH.nil)
        go_simp
        refine hK.out _ _ s6 (fun _ => ?_)
        clear hK K
        refine wpAnyH_take (i := 3) (v := ?vT6) rfl ?aT6 ?bT6 ?cT6 ?dT6 (Or.inl ⟨?eT6, ?fT6⟩) s6 ?gT6
        case fT6 => intro w hSw; (try dsimp only at hSw); go_simp; (try with_reducible rfl)
        case aT6 => kernel_rfl
        case bT6 => kernel_rfl
        case cT6 => kernel_rfl
        case dT6 => exact fun _ _ _ h => h
        case eT6 => rfl
        simp only [Act.put, List.getElem_toArray, List.getElem_cons_zero, List.getElem_cons_succ, List.setIfInBounds_toArray, List.set_cons_zero, List.set_cons_succ]
        refine wpAnyH_ready (rs := [6]) (by kernel_rfl) (by simp) ?_
        refine (AllReadyH.cons (o := _) rfl (fun K hK => ?_) AllReadyH.nil)
        go_simp
        refine hK.out _ _ s7 (fun _ => ?_)
        clear hK K
        refine wpAnyH_done (by kernel_rfl) ?_ _
        clear hlook hme hes hlk6 sN s6 s7 hwr
        obtain ⟨W7, rfl⟩ : ∃ W7, W7 = w7 := ⟨_, rfl⟩
        have hlA := HS7.out.look hrf
        have hlB := (HS7.out.keep (w' := W7.drew) (Keeps.refl NoBlock W7).drew (fun h => h)).look hrf
        rw [if_pos (by simp [HIn.out])] at hlA hlB
        unfold enV at hlA hlB
        by_cases hj0 : j = 0
        · have hjp : decide ((0 : Int) < (j : Int)) = false := decide_eq_false (by omega)
          have hjp2 : decide (0 < j) = false := decide_eq_false (by omega)
          obtain ⟨x0, x1⟩ : W7.cell? ⟨wr.heap.size, 0, none⟩ = some (.int .u64 (r.hash : Int)) ∧ W7.cell? ⟨wr.heap.size, 1, none⟩ = some (.int .u32 (r.at_ : Int)) := ⟨HX7.out.cell 0 rfl, HX7.out.cell 1 rfl⟩
          obtain ⟨y0, y1⟩ : W7.drew.cell? ⟨wr.heap.size, 0, none⟩ = some (.int .u64 (r.hash : Int)) ∧ W7.drew.cell? ⟨wr.heap.size, 1, none⟩ = some (.int .u32 (r.at_ : Int)) := ⟨HX7.out.cell 0 rfl, HX7.out.cell 1 rfl⟩
          clear hj0
          go_wp2_with fail
          go_region
          clear x0 x1 y0 y1 hlA hlB
          go_wp2_with fail
          exact ⟨⟨j + 1, by omega, by go_num, Lib.hid (HS7.out.keep (by first | exact Keeps.refl NoBlock _ | exact (Keeps.refl NoBlock _).drew | exact (Keeps.refl NoBlock _).drewN _) (fun h => h)), Lib.hid (by first | exact HK7.out | exact HK7.out.drew | exact HK7.out.drewN _)⟩, by simp [intOf]; omega⟩
        · obtain ⟨k, rfl⟩ : ∃ k, j = k + 1 := ⟨j - 1, by omega⟩
          have hjp : decide ((0 : Int) < ((k + 1 : Nat) : Int)) = true := decide_eq_true (by omega)
          have hjp2 : decide ((0 : Int) < (k : Int) + 1) = true := decide_eq_true (by omega)
          have hkn : (k : Int) < (Mx : Int) := by omega
          have hkn2 : k < Mx := by omega
          have hk0 : (0 : Int) ≤ (k : Int) := by omega
          have wk : IntKind.i64.wrap (k : Int) = (k : Int) := by rw [IntKind.wrap_i64]; omega
          obtain ⟨a', ha', d0, d1⟩ := (HSt4.out W7 HK7.out).at_ k (by rw [← HMx.out]; exact hkn2)
          obtain rfl := Option.some.inj ha'
          have hadj := pair_adj HPr.out (show k + 1 < S.length by rw [← HMx.out]; exact hlt)
          have htm : S.getD k En.none ∈ S := by have : k < S.length := (by rw [← HMx.out]; exact hkn2); simp [this]
          rw [← HRr.out] at hadj
          obtain ⟨t, ht⟩ : ∃ t, t = S.getD k En.none := ⟨_, rfl⟩
          rw [← ht] at d0 d1 hadj htm
          have HCt := Lib.hid (fun w => HCm.out t r htm hrm w)
          rw [cmpE_of_less hadj] at HCt
          have tN : ((W7.cell? ⟨wr.heap.size, 0, none⟩ = some (.int .u64 (r.hash : Int)) ∧ W7.cell? ⟨wr.heap.size, 1, none⟩ = some (.int .u32 (r.at_ : Int))) ∧ (Instr.lookup 25 (.map (some b)) (.agg #[.int .u64 (r.hash : Int), .int .u32 (r.at_ : Int)]) false).run Try.prog W7 = .ok (.int .i64 1) W7) ∧ W7.cell? (a.add (k * 2)) = some (.int .u64 (t.hash : Int)) ∧ W7.cell? ⟨(a.add (k * 2)).block, (a.add (k * 2)).off + 1, none⟩ = some (.int .u32 (t.at_ : Int)) := ⟨⟨⟨HX7.out.cell 0 rfl, HX7.out.cell 1 rfl⟩, hlA⟩, d0, d1⟩
          have t0 : ((W7.drew.cell? ⟨wr.heap.size, 0, none⟩ = some (.int .u64 (r.hash : Int)) ∧ W7.drew.cell? ⟨wr.heap.size, 1, none⟩ = some (.int .u32 (r.at_ : Int))) ∧ (Instr.lookup 25 (.map (some b)) (.agg #[.int .u64 (r.hash : Int), .int .u32 (r.at_ : Int)]) false).run Try.prog W7.drew = .ok (.int .i64 1) W7.drew) ∧ W7.drew.cell? (a.add (k * 2)) = some (.int .u64 (t.hash : Int)) ∧ W7.drew.cell? ⟨(a.add (k * 2)).block, (a.add (k * 2)).off + 1, none⟩ = some (.int .u32 (t.at_ : Int)) := ⟨⟨⟨HX7.out.cell 0 rfl, HX7.out.cell 1 rfl⟩, hlB⟩, d0, d1⟩
          have HD := Lib.hid (And.intro d0 d1)
          clear hj0 hlA hlB ht hadj htm d0 d1 ha'
          go_wp2_with fail
          go_region_held3 (fun w' => ((w'.cell? ⟨wr.heap.size, 0, none⟩ = some (.int .u64 (r.hash : Int)) ∧ w'.cell? ⟨wr.heap.size, 1, none⟩ = some (.int .u32 (r.at_ : Int))) ∧ (Instr.lookup 25 (.map (some b)) (.agg #[.int .u64 (r.hash : Int), .int .u32 (r.at_ : Int)]) false).run Try.prog w' = .ok (.int .i64 1) w') ∧ w'.cell? (a.add (k * 2)) = some (.int .u64 (t.hash : Int)) ∧ w'.cell? ⟨(a.add (k * 2)).block, (a.add (k * 2)).off + 1, none⟩ = some (.int .u32 (t.at_ : Int)))
            (first | exact t9 | exact t0 | exact tN)
            (first | (go_at_call 10; refine (HCt.out _).mono ?_; rintro e w9 ⟨rfl, hk⟩; have hk' : Keeps NoBlock W7 w9 := (by first | exact hk | exact hk.ofDrew | exact hk.ofDrewN); have HK7 := Lib.hid (HK7.out.trans (hk'.wider (fun _ _ h => h.elim))); have HX7 := Lib.hid (HX7.out.keep hk' (fun h => h)); have HS7 := Lib.hid (HS7.out.keep hk' (fun h => h)); have hl9 := HS7.out.look hrf; rw [if_pos (by simp [HIn.out])] at hl9; unfold enV at hl9; have t9 : ((w9.cell? ⟨wr.heap.size, 0, none⟩ = some (.int .u64 (r.hash : Int)) ∧ w9.cell? ⟨wr.heap.size, 1, none⟩ = some (.int .u32 (r.at_ : Int))) ∧ (Instr.lookup 25 (.map (some b)) (.agg #[.int .u64 (r.hash : Int), .int .u32 (r.at_ : Int)]) false).run Try.prog w9 = .ok (.int .i64 1) w9) ∧ w9.cell? (a.add (k * 2)) = some (.int .u64 (t.hash : Int)) ∧ w9.cell? ⟨(a.add (k * 2)).block, (a.add (k * 2)).off + 1, none⟩ = some (.int .u32 (t.at_ : Int)) := ⟨⟨⟨HX7.out.cell 0 rfl, HX7.out.cell 1 rfl⟩, hl9⟩, hk'.cell HD.out.1 (fun h => h), hk'.cell HD.out.2 (fun h => h)⟩; clear hk hk' hl9; obtain ⟨W7, rfl⟩ : ∃ x, x = w9 := ⟨_, rfl⟩))
          clear t0 tN t9
          go_wp2_with fail
          exact ⟨⟨k + 1 + 1, by omega, by go_num, HS7, HK7⟩, by simp [intOf]; omega⟩

    · have hdj : decide (j < Mx) = false := decide_eq_false hlt
      have hdj2 : decide ((j : Int) < (Mx : Int)) = false := decide_eq_false (by omega)
      have hjM : Mx = j := by omega
      obtain ⟨w8, rfl⟩ : ∃ w8, w8 = wr := ⟨_, rfl⟩
      have HSe8 : Hid (SeenAt w8 b Mx (fun x => decide (x ∈ S)) Mx) := Lib.hid (by
        have h := HSe.out
        rw [← hjM] at h
        exact h.congr (by funext x; rw [List.take_of_length_le (by rw [← HMx.out]; exact Nat.le_refl _)]))
      have HK8 := Lib.hid HKr.out
      clear hjM HSe HKr
      go_wp2_with fail
      go_loopw [69] (fun i wr => ∃ k : Nat, k ≤ nb ∧ i = .int .i64 (k : Int) ∧ Hid (SeenAt wr b (Mx + k) (fun x => decide (x ∈ S)) Mx) ∧ Hid (Keeps (Just b) W4 wr)) (fun i _ => nb - (intOf i).toNat)
      case atStart => exact ⟨0, Nat.zero_le _, rfl, HSe8, HK8⟩
      case round =>
        obtain ⟨k, hk, rfl, HSe, HKr⟩ := hrel
        by_cases hlt2 : k < nb
        · have hdk : decide (k < nb) = true := decide_eq_true hlt2
          have hdk2 : decide ((k : Int) < (nb : Int)) = true := decide_eq_true (by omega)
          have hkl : k < B.length := by rw [← HBl2.out]; exact hlt2
          obtain ⟨a, rfl, c0, c1⟩ := (HBt4.out wr HKr.out).at_ k hkl
          have hrm : B.getD k En.none ∈ B := by simp [hkl]
          have hrf := HFb.out _ hrm
          have hrS := (HMem.out _).2 hrm
          obtain ⟨r, hr⟩ : ∃ r, r = B.getD k En.none := ⟨_, rfl⟩
          rw [← hr] at c0 c1 hrm hrf hrS
          have HBlt : Hid (b < wr.heap.size) := Lib.hid HSe.out.lt
          have HSe5 := Lib.hid (HSe.out.keep ((Keeps.refl NoBlock wr).alloc (.cells #[.int .u64 (r.hash : Int), .int .u32 (r.at_ : Int)] 29)) (fun h => h))
          have HKr5 := Lib.hid (HKr.out.alloc (.cells #[.int .u64 (r.hash : Int), .int .u32 (r.at_ : Int)] 29))
          have HX5 := Lib.hid (Whole.new wr 29 (enCells r))
          have hlook := HSe5.out.look hrf
          rw [if_pos (by simp [hrS])] at hlook
          obtain ⟨w5, hdel, hs5, hk5⟩ := HSe5.out.del hrf (by simp [hrS]) 0
          obtain ⟨w6, hput, hs6, hk6⟩ := hs5.put (by unfold maxLen; omega) hrf
          unfold enV at hlook hdel hput
          have hxb : ¬ Just b wr.heap.size := by unfold Just; have := HBlt.out; omega
          have hX6 := HX5.out.keep hk5 hxb
          have z0 := hX6.cell 0 rfl
          have z1 := hX6.cell 1 rfl
          simp only [enCells, List.getElem_toArray, List.getElem_cons_zero, List.getElem_cons_succ] at z0 z1
          have hMp : 1 ≤ Mx := by rw [HMx.out]; exact List.length_pos_of_mem hrS
          have HS6 : Hid (SeenAt w6 b (Mx + (k + 1)) (fun x => decide (x ∈ S)) Mx) := Lib.hid (by
            have h := hs6
            rw [if_neg (by simp), show Mx - 1 + 1 = Mx by omega] at h
            exact h.congr (del_put_same (f := fun x => decide (x ∈ S)) (by simp [hrS])))
          have HK6 := Lib.hid ((HKr5.out.trans hk5).trans hk6)
          clear hr hkl hs5 hs6 hk5 hk6 hX6 HSe5 HKr5 HX5 hMp hxb
          go_wp2_with fail
          exact ⟨⟨k + 1, by omega, by go_num, HS6, HK6⟩, by simp [intOf]; omega⟩
        · have hdk : decide (k < nb) = false := decide_eq_false hlt2
          have hdk2 : decide ((k : Int) < (nb : Int)) = false := decide_eq_false (by omega)
          obtain ⟨w9, rfl⟩ : ∃ w9, w9 = wr := ⟨_, rfl⟩
          have HSe9 := Lib.hid HSe.out
          have HK9 := Lib.hid HKr.out
          clear HSe HKr HSe8 HK8
          have HSt9 := Lib.hid (HSt4.out w9 HK9.out)
          have HAt9 := Lib.hid (HAt4.out w9 HK9.out)
          have HAm9 := Lib.hid (HAm4.out w9 HK9.out)
          have HKw := Lib.hid (HK4.out.then HK9.out (fun i hi h => by unfold Just at h; have := HBb.out; omega))
          have HSt0 := Lib.hid (EnsAt.old HSt9.out)
          have HBlt9 : Hid (b < w9.heap.size) := Lib.hid HSe9.out.lt
          have HSzw : Hid (w.heap.size ≤ w9.heap.size) := Lib.hid HKw.out.size
          clear HSt4 HAt4 HAm4 HBt4
          go_wp2_with fail
          refine (HSm.out _ HAm9.out).mono ?_
          rintro e wa ⟨va, rfl, ha⟩
          have HTa := Lib.hid ha
          have hk := ha.keeps
          have HSt9 := Lib.hid (EnsAt.keep HSt9.out hk)
          have HAt9 := Lib.hid (EnsAt.keep HAt9.out hk)
          have HSe9 := Lib.hid (HSe9.out.keep hk (fun h => h))
          have HKw := Lib.hid (HKw.out.trans hk)
          clear ha hk HAm9
          go_wp2_with fail
          refine (HSl.out _ HAt9.out).mono ?_
          rintro e wb ⟨vb, rfl, hb⟩
          obtain ⟨qb, mb, db, rfl, hmb, hmd, hdd, hq, hat, hk⟩ := TwosSoFar.new (dd := En.none) hb
          have HTb := Lib.hid (show EnsAt wb qb (sortE l) from hat)
          have HTa := Lib.hid (HTa.out.keep hk)
          have HSt9 := Lib.hid (EnsAt.keep HSt9.out hk)
          have HSe9 := Lib.hid (HSe9.out.keep hk (fun h => h))
          have HKw := Lib.hid (HKw.out.trans hk)
          have HMb := Lib.hid hmb
          have HQb := Lib.hid hq
          clear hb hmb hmd hdd hq hat hk HAt9
          go_wp2_with (at_builtin; refine wpList_append_twosB (v0 := enH) (v1 := enA) (dd := En.none) rfl _ _ 22 rfl 29 i0 (.agg #[.int .u64 0, .int .u32 0]) 16 Try.underlying22 hi hz0 hz1 hz2 rfl _ _ rfl HTa.out qb mb db (sortE l) rfl HQb.out HMb.out HTb.out (fun _ => rfl) (fun _ => rfl) (by have := HLml.out; have := HLmm.out; have := HMb.out; omega) (by have := HLml.out; have := HLmm.out; have := HMb.out; omega) ?_)
          intro vc wc hc hbc
          have hkc := Keeps.ofBelowM hbc
          have HSt9 := Lib.hid (EnsAt.keepFar HSt9.out hkc (fun h0 a ha => by have := HSt0.out h0 a ha; omega))
          have HSe9 := Lib.hid (HSe9.out.keep hkc (by have := HBlt9.out; omega))
          have HKw := Lib.hid (HKw.out.then hkc (fun i hi h => by have := HSzw.out; omega))
          obtain ⟨qc, mc, dc, rfl, hmc, hmd, hdd, hq, hat, _⟩ := TwosSoFar.new (dd := En.none) hc
          have HTc := Lib.hid (show InE wc qc mc dc (sortE m ++ sortE l) from ⟨hmc, hmd, hdd, hq, HFg.out, hat⟩)
          have HMc : Hid (mc ≤ 60) := Lib.hid (by rw [hmc, List.length_append]; have := HLml.out; have := HLmm.out; omega)
          clear hc hbc hkc hmc hmd hdd hq hat
          go_wp2_with fail
          refine (HSo.out qc mc dc _ _ HTc.out (by have := HMc.out; omega)).mono ?_
          rintro e wd ⟨vd, rfl, qd, md, dd, rfl, hmd', hmd, hdd, hq, hat, hk⟩
          rw [HMg.out] at hmd' hat
          have hme : Mx = md := by rw [hmd', ← HMx.out]
          subst hme
          have HTd := Lib.hid (show EnsAt wd qd S from hat)
          have HSt9 := Lib.hid (EnsAt.keep HSt9.out hk)
          have HSe9 := Lib.hid (HSe9.out.keep hk (fun h => h))
          have HKw := Lib.hid (HKw.out.trans hk)
          have hlen := HSe9.out.len 3
          clear hmd' hmd hdd hq hat hk
          go_wp2_with fail
          go_loopw [102] (fun i wr => ∃ k : Nat, k ≤ Mx ∧ i = .int .i64 (k : Int) ∧ Hid (Keeps NoBlock wd wr)) (fun i _ => Mx - (intOf i).toNat)
          case atStart => exact ⟨0, Nat.zero_le _, rfl, Lib.hid (Keeps.refl _ _)⟩
          case round =>
            obtain ⟨k, hk, rfl, HKr⟩ := hrel
            by_cases hlt3 : k < Mx
            · have hdk3 : decide (k < Mx) = true := decide_eq_true hlt3
              have hdk4 : decide ((k : Int) < (Mx : Int)) = true := decide_eq_true (by omega)
              have hkl : k < S.length := by rw [← HMx.out]; exact hlt3
              obtain ⟨a, rfl, a0, a1⟩ := (EnsAt.keep HTd.out HKr.out).at_ k hkl
              obtain ⟨a', rfl, b0, b1⟩ := (EnsAt.keep HSt9.out HKr.out).at_ k hkl
              obtain ⟨r, hr⟩ : ∃ r, r = S.getD k En.none := ⟨_, rfl⟩
              rw [← hr] at a0 a1 b0 b1
              have hne := enNeSelf r
              clear hr hkl
              go_wp2_with fail
              go_quiet (fail)
              go_wp2_with fail
              go_roundw
              case rel => exact ⟨k + 1, by omega, by go_num, Lib.hid (by first | exact HKr.out.drewN _ | exact HKr.out)⟩
              case measure => simp [intOf]; omega
            · have hdk3 : decide (k < Mx) = false := decide_eq_false hlt3
              have hdk4 : decide ((k : Int) < (Mx : Int)) = false := decide_eq_false (by omega)
              go_wp2_with fail
              go_ret
              exact ⟨rfl, HKw.out.trans HKr.out⟩
end Go.Proofs.Ytbchiccgkhnkaaa

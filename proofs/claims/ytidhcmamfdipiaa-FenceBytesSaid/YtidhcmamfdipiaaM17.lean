/-
  FenByWalk; FenSorted.
-/
import Derived.BigQuiet
import Derived.Test.YtidhcmamfdipiaaM05
import Derived.Test.YtidhcmamfdipiaaM09
import Derived.Test.YtidhcmamfdipiaaM11
import Derived.Test.YtidhcmamfdipiaaM13
import Derived.Test.YtidhcmamfdipiaaM14
import Derived.Test.YtidhcmamfdipiaaM16
namespace Go.Proofs.Ytidhcmamfdipiaa
open Go.RowKit

theorem getF_len (z : Int) (xs : List Int) : (getF z xs).l.length ≤ xs.length := by
  unfold getF
  split
  · simp
  · split
    · simp
    · split
      · simp only [takeF_length]; omega
      · simp
theorem recMakeFn12 : ∀ (fn : Fn) (first cap : Array Value) (w : World), (Instr.makeFunc fn first cap).run Try.prog w = .ok (.func fn first cap) w := fun _ _ _ _ => rfl
theorem Keeps.onBuf12 {B g : Nat} {a b : World} (h : Keeps (OnBuf B g) a b) (hB : B ≤ g) : Keeps (fun k => B ≤ k) a b := h.wider (fun k _ hk => by rcases hk with rfl | hk <;> omega)
theorem rises_nextF {l : List Nat} {j : Nat} (h : j < l.length) : risesF (l.take (j + 1)) = (risesF (l.take j) && (decide (j = 0) || decide (l.getD (j - 1) 0 ≤ l.getD j 0))) := by
  have e : l.take (j + 1) = l.take j ++ [l.getD j 0] := by rw [List.take_succ_eq_append_getElem h]; simp [h]
  have hf := falls_more (l.take j) (l.getD j 0)
  rw [← e] at hf
  have hl : (l.take j).length = j := by rw [List.length_take]; omega
  rw [hl] at hf
  have hg : (l.take j).getD (j - 1) 0 = if j = 0 then (l.take j).getD (j - 1) 0 else l.getD (j - 1) 0 := by
    split
    · rfl
    · rw [List.getD_eq_getElem?_getD, List.getD_eq_getElem?_getD, List.getElem?_take, if_pos (by omega)]
  cases hr : risesF (l.take (j + 1))
  · rw [hr] at hf
    cases hr2 : risesF (l.take j)
    · simp
    · rw [hr2] at hf
      by_cases h0 : j = 0
      · subst h0
        simp at hf
      · rw [if_neg h0] at hg
        rw [hg] at hf
        simp at hf
        simp [h0]
        omega
  · rw [hr] at hf
    cases hr2 : risesF (l.take j)
    · rw [hr2] at hf
      simp at hf
    · rw [hr2] at hf
      by_cases h0 : j = 0
      · subst h0
        simp
      · rw [if_neg h0] at hg
        rw [hg] at hf
        simp at hf
        have := hf (by omega)
        simp [h0]
        omega

set_option maxHeartbeats 16000000 in
set_option maxRecDepth 10000 in
theorem fenbytes_walk (H : FenOk) (HB : FenByOk) (p : Option Addr) (n c : Nat) (l : List Nat) (pb : Option Addr) (N cb : Nat) (ys : List Int) (z : Int) (w : World) (h : InN w p n c l) (hb : In8 w pb N cb ys) :
    Calls Try.prog 5 #[.slice p n c, .slice pb N cb, .int .i64 z] w fun e w' => e = .returned (.bool true) ∧ Keeps NoBlock w w' := by
  have HL := Lib.hid (fun w => lives12_true H w)
  have HA0 := Lib.hid ((Whole.new w 26 #[.slice p n c]).alloc (.cells #[.int .i64 z] 3))
  have HA1 := Lib.hid (Whole.newAt (w.alloc (.cells #[.slice p n c] 26)) 3 #[.int .i64 z] (w.heap.size + 1) (by simp))
  have HK0 := Lib.hid (((Keeps.refl NoBlock w).alloc (.cells #[.slice p n c] 26)).alloc (.cells #[.int .i64 z] 3))
  by_cases hn : n ≤ 60 ∧ N ≤ 600
  rotate_left
  · by_cases hn1 : n ≤ 60
    · have hd : decide ((60 : Int) < (n : Int)) = false := decide_eq_false (by omega)
      have hd2 : decide (60 < n) = false := decide_eq_false (by omega)
      have hd3 : decide ((600 : Int) < (N : Int)) = true := decide_eq_true (by omega)
      have hd4 : decide (600 < N) = true := decide_eq_true (by omega)
      have hn2 : ¬ 60 < n := by omega
      have hn3 : 600 < N := by omega
      clear h hb H HB hn hn1
      go_enter Try.func5, Try.ntmps5
      go_wp2_with fail
      refine (HL.out _).mono ?_
      rintro e w1 ⟨rfl, hk⟩
      have a0 := (HA0.out.keep hk (fun h => h)).cell 0 rfl
      simp only [List.getElem_toArray, List.getElem_cons_zero] at a0
      have HK := Lib.hid (HK0.out.trans hk)
      clear hk
      go_wp2_with fail
      refine (HL.out _).mono ?_
      rintro e w2 ⟨rfl, hk⟩
      have HK := Lib.hid (HK.out.trans hk)
      clear hk a0
      go_wp2_with fail
      go_ret
      exact ⟨rfl, HK.out⟩
    · have hd : decide ((60 : Int) < (n : Int)) = true := decide_eq_true (by omega)
      have hd2 : decide (60 < n) = true := decide_eq_true (by omega)
      have hn2 : 60 < n := by omega
      clear h hb H HB hn hn1
      go_enter Try.func5, Try.ntmps5
      go_wp2_with fail
      refine (HL.out _).mono ?_
      rintro e w1 ⟨rfl, hk⟩
      have a0 := (HA0.out.keep hk (fun h => h)).cell 0 rfl
      simp only [List.getElem_toArray, List.getElem_cons_zero] at a0
      have HK := Lib.hid (HK0.out.trans hk)
      clear hk
      go_wp2_with fail
      refine (HL.out _).mono ?_
      rintro e w2 ⟨rfl, hk⟩
      have HK := Lib.hid (HK.out.trans hk)
      clear hk a0
      go_wp2_with fail
      go_ret
      exact ⟨rfl, HK.out⟩
  obtain ⟨hn, hN⟩ := hn
  have hd : decide ((60 : Int) < (n : Int)) = false := decide_eq_false (by omega)
  have hd2 : decide (60 < n) = false := decide_eq_false (by omega)
  have hd3 : decide ((600 : Int) < (N : Int)) = false := decide_eq_false (by omega)
  have hd4 : decide (600 < N) = false := decide_eq_false (by omega)
  have hn2 : ¬ 60 < n := by omega
  have hn3 : ¬ 600 < N := by omega
  have HLn := Lib.hid h.len
  have HFine := Lib.hid h.fine
  have HAt := Lib.hid (RowN.keep h.at_ HK0.out (fun _ _ h => h))
  have HBb := Lib.hid (hb.at_.keep HK0.out (fun _ _ h => h))
  have HFar : Hid (0 < l.length → ∀ a, p = some a → a.block < w.heap.size) := Lib.hid (fun h0 a ha => by
    obtain ⟨a', ha', c0⟩ := h.at_ 0 h0
    obtain rfl := Option.some.inj (ha.symm.trans ha')
    have := ltOfCell c0
    rwa [addBlock] at this)
  have HFarb : Hid (0 < ys.length → ∀ a, pb = some a → a.block < w.heap.size) := Lib.hid (fun h0 a ha => by
    obtain ⟨a', ha', hc0⟩ := hb.at_ h0
    obtain rfl := Option.some.inj (ha.symm.trans ha')
    have := ltOfCell (hc0 0 h0)
    rwa [addBlock] at this)
  have htl := textF_length l
  rw [← h.len] at htl
  have HPut := Lib.hid (fun g W (hB : BufAt W g g []) (hs : g ≤ W.heap.size) (ha : RowN W p l) (hf : 0 < n → ∀ a, p = some a → ¬ OnBuf g g a.block) =>
    (show Calls Try.prog 17 #[.pointer (some ⟨g, 0, none⟩), .slice p n c] W fun e w' => e = .returned (.tuple #[]) ∧ BufAt w' g g (textF l) ∧ Keeps (OnBuf g g) W w' from HB.put g g [] p n c l W hB hs ⟨h.len, h.cap, h.room, h.bare, h.fine, ha⟩ (by omega) hf (by simp)))
  have HBy := Lib.hid (fun g W (hB : BufAt W g g (textF l)) => bufBytes g g (textF l) W hB (by omega))
  have hget := getF_text h.fine
  rw [← h.len] at hget
  have HRn := Lib.hid (fun w0 A Dd q d (hA : Whole w0 A 26 #[.slice p n c]) (hDd : Whole w0 Dd 26 #[.slice none 0 0]) (h8 : Bytes8 w0 q (textF l)) (hd : 8 * n ≤ d) (hd' : d ≤ 9223372036854775807) => run_fb1 HB w0 A Dd p n c q (textF l) (8 * n) d htl.symm (by omega) hA hDd h8 (textF_octets l) hd hd' (by rw [hget]; split <;> simp))
  rw [hget] at HRn
  have HRn2 := Lib.hid (fun w0 A Dd (hA : Whole w0 A 3 #[.int .i64 z]) (hDd : Whole w0 Dd 26 #[.slice none 0 0]) (h8 : Bytes8 w0 pb ys) => run_fb2 HB w0 A Dd z pb ys N cb hb.len (by omega) hA hDd h8 hb.oct hb.cap hb.room)
  have HGr := Lib.hid (fun w => get12_ref z ys hb.oct (by have := hb.len; omega) 0 (by decide) w)
  have HTx := Lib.hid (fun w h' => text12_ref p n c l HLn.out (by omega) HFine.out w h')
  have HSa := Lib.hid (fun q q2 d d2 w h1 h2 => same12_go q q2 n d d2 l w HLn.out (by omega) h1 h2)
  have HNx := Lib.hid (fun j (h : j < l.length) => rises_nextF h)
  have HTl : Hid ((getF z ys).l.length ≤ 600) := Lib.hid (Nat.le_trans (getF_len z ys) (by have := hb.len; omega))
  unfold GotF at HGr
  rw [Int.zero_add] at HGr
  unfold rdr at HGr
  obtain ⟨t, ht⟩ : ∃ t, t = getF z ys := ⟨_, rfl⟩
  rw [← ht] at HRn2 HGr HTl
  obtain ⟨tm, ty, tl⟩ := t
  simp only at HRn2 HGr HTl
  unfold LeftF at HRn2
  simp only at HRn2
  clear ht
  have HX := Lib.hid hb.len
  rw [htl] at HBy
  obtain ⟨M, hM⟩ : ∃ M, M = 8 * n := ⟨_, rfl⟩
  rw [← hM] at HBy HRn
  have HM : Hid (M = (textF l).length) := Lib.hid (by rw [htl, hM])
  have hM9 : M ≤ 720 := by omega
  clear h hb H HB htl hget hM
  by_cases hR : risesF l = true
  · rw [if_pos hR] at HRn
    have HRr : Hid (risesF l = true) := Lib.hid hR
    clear hR
    go_enter Try.func5, Try.ntmps5
    go_wp2_with fail
    refine (HL.out _).mono ?_
    rintro e w1 ⟨rfl, hk⟩
    have HA0 := Lib.hid (HA0.out.keep hk (fun h => h))
    have HA1 := Lib.hid (HA1.out.keep hk (fun h => h))
    have HAt := Lib.hid (RowN.keep HAt.out hk (fun _ _ h => h))
    have HBb := Lib.hid (HBb.out.keep hk (fun _ _ h => h))
    have HK1 := Lib.hid (HK0.out.trans hk)
    have HSz : Hid (w.heap.size + 1 < w1.heap.size) := Lib.hid HA1.out.lt
    have a0 := ((HA0.out.alloc (.cells #[.slice none 0 0] 42)).cell 0 rfl)
    have a0' := HA0.out.cell 0 rfl
    simp only [List.getElem_toArray, List.getElem_cons_zero] at a0 a0'
    clear hk HL
    go_wp2_with fail
    refine (HPut.out w1.heap.size _ (bufNewB w1 w1.heap.size) (by simp) (RowN.keep HAt.out ((Keeps.refl NoBlock w1).alloc _) (fun _ _ h => h)) (fun h0 a ha => by have := HFar.out (by rw [← HLn.out]; exact h0) a ha; have := HSz.out; unfold OnBuf; omega)).mono ?_
    rintro e w2 ⟨rfl, hbuf, hk⟩
    have HQ := Lib.hid (((Keeps.refl (fun i => w1.heap.size ≤ i) w1).alloc (.cells #[.slice none 0 0] 42)).trans (hk.onBuf12 (Nat.le_refl _)))
    have HBf := Lib.hid (show BufAt (w2.alloc (.cells #[.slice none 0 0] 26)) w1.heap.size w1.heap.size (textF l) from hbuf.keepO ((Keeps.refl NoBlock w2).alloc _) (fun h => h) (fun _ _ _ _ h => h))
    have HDd := Lib.hid (Whole.new w2 26 #[.slice none 0 0])
    have HQ := Lib.hid (HQ.out.alloc (.cells #[.slice none 0 0] 26))
    have HSz2 := Lib.hid (show w1.heap.size + 1 ≤ w2.heap.size by have := hk.size; simpa using this)
    clear hbuf hk a0 a0'
    go_wp2_with fail
    refine (HBy.out w1.heap.size _ HBf.out).mono ?_
    rintro e w3 ⟨v, rfl, qb, db, rfl, hdb, hdb', hby, hqb, hk⟩
    have HBf := Lib.hid (HBf.out.keepO hk (fun h => h) (fun _ _ _ _ h => h))
    have HDd := Lib.hid (HDd.out.keep hk (fun h => h))
    have HQ := Lib.hid (HQ.out.trans (hk.wider (S' := fun i => w1.heap.size ≤ i) (fun _ _ h => h.elim)))
    have HBx := Lib.hid hby
    have hdb9 : db ≤ 9223372036854775807 := by first | omega | (unfold maxLen at hdb'; omega) | exact hdb'
    have hmf := recMakeFn12
    clear hk hby hqb hdb'
    go_wp2_with fail
    refine (HRn.out _ w.heap.size w2.heap.size qb db (HA0.out.keep HQ.out (by have := HSz.out; omega)) HDd.out HBx.out hdb hdb9).mono ?_
    rintro e w4 ⟨rfl, hkd, hrow⟩
    have HBf := Lib.hid (HBf.out.keepO hkd (by have := HSz2.out; unfold Just; omega) (fun j cs hj hbj hjd => by unfold Just at hjd; subst hjd; have := (Whole.unique hj HDd.out).1; revert this; decide))
    have HQ := Lib.hid (HQ.out.trans (hkd.wider (S' := fun i => w1.heap.size ≤ i) (fun i _ h => by unfold Just at h; have := HSz2.out; omega)))
    obtain ⟨qd, md, dd, hDd, hm, hmd, hdd, hq, hat, hnew⟩ := hrow rfl
    have hme : n = md := by rw [hm, ← HLn.out]
    subst hme
    have HDd := Lib.hid (show Whole w4 w2.heap.size 26 #[.slice qd n dd] from hDd)
    have HBk := Lib.hid (show RowN w4 qd l from hat)
    clear hDd hm hmd hdd hq hat hnew
    clear hkd hrow
    have HBy7 := Lib.hid (fun W hB => HBy.out w1.heap.size W hB)
    clear HBx HBy HPut HRn
    have a0 := (HA0.out.keep HQ.out (by have := HSz.out; omega)).cell 0 rfl
    simp only [List.getElem_toArray, List.getElem_cons_zero] at a0
    go_wp2_with fail
    clear a0
    go_loopw [11, 41] (fun b i wr => ∃ j : Nat, j ≤ n ∧ i = .int .i64 (j : Int) ∧ b = .bool (risesF (l.take j)) ∧ Hid (Keeps NoBlock w4 wr)) (fun _ i _ => n - (intOf i).toNat)
    case atStart => exact ⟨0, Nat.zero_le _, rfl, rfl, Lib.hid (Keeps.refl _ _)⟩
    case round =>
      obtain ⟨j, hj, rfl, rfl, HKl⟩ := hrel
      by_cases hlt : j < n
      · have hdj : decide ((j : Int) < (n : Int)) = true := decide_eq_true (by omega)
        have hjl : j < l.length := by rw [← HLn.out]; exact hlt
        have a0 := (HA0.out.keep (HQ.out.trans (HKl.out.wider (S' := fun i => w1.heap.size ≤ i) (fun _ _ h => h.elim))) (by have := HSz.out; omega)).cell 0 rfl
        simp only [List.getElem_toArray, List.getElem_cons_zero] at a0
        have HAl := Lib.hid (RowN.keepAt HAt.out (HQ.out.trans (HKl.out.wider (S' := fun i => w1.heap.size ≤ i) (fun _ _ h => h.elim))) (fun h0 a ha => by have := HFar.out h0 a ha; have := HSz.out; omega))
        have HN1 := Lib.hid (HNx.out j hjl)
        obtain ⟨b0, hb0⟩ : ∃ b0, b0 = risesF (l.take j) := ⟨_, rfl⟩
        rw [← hb0] at HN1 ⊢
        obtain ⟨ad, rfl, x0⟩ := HAl.out j hjl
        by_cases h0 : j = 0
        · subst h0
          have hd0 : decide ((0 : Nat) = 0) = true := by decide
          rw [hd0, Bool.true_or, Bool.and_true] at HN1
          have hd1 : decide (0 < n) = true := decide_eq_true hlt
          have hd5 : decide ((0 : Int) < (n : Int)) = true := decide_eq_true (by omega)
          clear hjl hb0
          cases b0
          all_goals
            go_wp2_with fail
            go_quiet (fail)
            go_wp2_with fail
            exact ⟨⟨1, by omega, by go_num, by rw [HN1.out], Lib.hid (by first | exact HKl.out.drewN _ | exact HKl.out)⟩, by simp [intOf]; omega⟩
        · obtain ⟨i, rfl⟩ : ∃ i, j = i + 1 := ⟨j - 1, by omega⟩
          obtain ⟨ad', had, y0⟩ := HAl.out i (by omega)
          obtain rfl := Option.some.inj had
          have hd0 : decide (i + 1 = 0) = false := decide_eq_false h0
          rw [hd0, Bool.false_or, show i + 1 - 1 = i from rfl] at HN1
          obtain ⟨x, hx⟩ : ∃ x, x = l.getD (i + 1) 0 := ⟨_, rfl⟩
          obtain ⟨y, hy⟩ : ∃ y, y = l.getD i 0 := ⟨_, rfl⟩
          rw [← hx] at x0 HN1
          rw [← hy] at y0 HN1
          obtain ⟨m, hm⟩ : ∃ m, m = i + 1 := ⟨_, rfl⟩
          rw [← hm] at x0 HN1 hdj hlt ⊢
          have hmi : (m : Int) - 1 = (i : Int) := by omega
          have hm0 : ((m : Int) == 0) = false := beq_eq_false_iff_ne.2 (by omega)
          have him : i < m := by omega
          have hin : i < n := by omega
          clear hjl hb0 hx hy h0 hd0 hm had
          cases b0
          · rw [Bool.false_and] at HN1
            go_wp2_with fail
            go_quiet (fail)
            go_wp2_with fail
            exact ⟨⟨m + 1, by omega, by go_num, by rw [HN1.out], Lib.hid (by first | exact HKl.out.drewN _ | exact HKl.out)⟩, by simp [intOf]; omega⟩
          · rw [Bool.true_and] at HN1
            by_cases hxy : y ≤ x
            · have hq1 : decide (y ≤ x) = true := decide_eq_true hxy
              have hq2 : decide ((y : Int) ≤ (x : Int)) = true := decide_eq_true (by omega)
              rw [hq1] at HN1
              go_wp2_with fail
              go_quiet (fail)
              go_wp2_with fail
              exact ⟨⟨m + 1, by omega, by go_num, by rw [HN1.out], Lib.hid (by first | exact HKl.out.drewN _ | exact HKl.out)⟩, by simp [intOf]; omega⟩
            · have hq1 : decide (y ≤ x) = false := decide_eq_false hxy
              have hq2 : decide ((y : Int) ≤ (x : Int)) = false := decide_eq_false (by omega)
              rw [hq1] at HN1
              go_wp2_with fail
              go_quiet (fail)
              go_wp2_with fail
              exact ⟨⟨m + 1, by omega, by go_num, by rw [HN1.out], Lib.hid (by first | exact HKl.out.drewN _ | exact HKl.out)⟩, by simp [intOf]; omega⟩
      · have hdj : decide ((j : Int) < (n : Int)) = false := decide_eq_false (by omega)
        rw [List.take_of_length_le (by have := HLn.out; omega), HRr.out]
        have HBf := Lib.hid (HBf.out.keepO HKl.out (fun h => h) (fun _ _ _ _ h => h))
        have HQ := Lib.hid (HQ.out.trans (HKl.out.wider (S' := fun i => w1.heap.size ≤ i) (fun _ _ h => h.elim)))
        have HDd := Lib.hid (HDd.out.keep HKl.out (fun h => h))
        have HBk := Lib.hid (RowN.keep HBk.out HKl.out (fun _ _ h => h))
        obtain ⟨W, rfl⟩ : ∃ W, W = wr := ⟨_, rfl⟩
        go_wp2_with fail
        have sN : W.drew.cell? ⟨w.heap.size, 0, none⟩ = some (.slice p n c) ∧ W.drew.cell? ⟨w2.heap.size, 0, none⟩ = some (.slice qd n dd) := ⟨(HA0.out.keep HQ.out (by have := HSz.out; omega)).cell 0 rfl, HDd.out.cell 0 rfl⟩
        refine wp_region_held_drew (S := fun w' => w'.cell? ⟨w.heap.size, 0, none⟩ = some (.slice p n c) ∧ w'.cell? ⟨w2.heap.size, 0, none⟩ = some (.slice qd n dd)) (by kernel_rfl) sN (fun hHeld => ?_)
        refine wpAnyH_take (i := 2) (v := ?vT1) rfl ?aT1 ?bT1 ?cT1 ?dT1 (Or.inl ⟨?eT1, ?fT1⟩) hHeld ?gT1
        case fT1 => intro w hSw; (try dsimp only at hSw); go_simp; (try with_reducible rfl)
        case aT1 => kernel_rfl
        case bT1 => kernel_rfl
        case cT1 => kernel_rfl
        case dT1 => exact fun _ _ _ h => h
        case eT1 => rfl
        simp only [Act.put, List.getElem_toArray, List.getElem_cons_zero, List.getElem_cons_succ, List.setIfInBounds_toArray, List.set_cons_zero, List.set_cons_succ]
        refine wpAnyH_ready (rs := [0]) (by kernel_rfl) (by simp) ?_
        refine (AllReadyH.cons (o := _) rfl (fun K hK => ?_) AllReadyH.nil)
        go_simp
        refine (HBy7.out _ (by exact HBf.out)).mono ?_
        rintro e w9 ⟨v, rfl, q5, d5, rfl, hd5, hd5', hby5, hq5, hk⟩
        have hk' : Keeps NoBlock W w9 := by first | exact hk | exact hk.ofDrew | exact hk.ofDrewN
        have HQ := Lib.hid (HQ.out.trans (hk'.wider (S' := fun i => w1.heap.size ≤ i) (fun _ _ h => h.elim)))
        have HDd := Lib.hid (HDd.out.keep hk' (fun h => h))
        have HBk := Lib.hid (RowN.keep HBk.out hk' (fun _ _ h => h))
        have HB5 := Lib.hid hby5
        clear hd5 hd5' hq5 hby5 hk hk'
        have hS : ((fun w' => w'.cell? ⟨w.heap.size, 0, none⟩ = some (.slice p n c) ∧ w'.cell? ⟨w2.heap.size, 0, none⟩ = some (.slice qd n dd)) w9) ∧ ((fun w' => (convert 40 9 (.slice q5 M d5)).run Try.prog w' = .ok (.string (strOfNums (textF l))) w') w9) := ⟨⟨(HA0.out.keep HQ.out (by have := HSz.out; omega)).cell 0 rfl, HDd.out.cell 0 rfl⟩, textOf q5 M d5 (textF l) w9 HM.out HB5.out⟩
        obtain ⟨W, rfl⟩ : ∃ W, W = w9 := ⟨_, rfl⟩
        clear HBf
        go_wp2_with fail
        refine hK.out _ _ hS.1 (fun _ => ?_)
        clear hK K
        refine wpAnyH_swap (S' := fun w' => (w'.cell? ⟨w.heap.size, 0, none⟩ = some (.slice p n c) ∧ w'.cell? ⟨w2.heap.size, 0, none⟩ = some (.slice qd n dd)) ∧ (convert 40 9 (.slice q5 M d5)).run Try.prog w' = .ok (.string (strOfNums (textF l))) w') (fun _ h => h.1) _ _ _ _ ?_
        refine wpAnyH_take (i := 1) (v := ?vT2) rfl ?aT2 ?bT2 ?cT2 ?dT2 (Or.inl ⟨?eT2, ?fT2⟩) hS ?gT2
        case fT2 => intro w hSw; (try dsimp only at hSw); go_simp; (try with_reducible rfl)
        case aT2 => kernel_rfl
        case bT2 => kernel_rfl
        case cT2 => kernel_rfl
        case dT2 => exact fun _ _ _ h => h
        case eT2 => rfl
        simp only [Act.put, List.getElem_toArray, List.getElem_cons_zero, List.getElem_cons_succ, List.setIfInBounds_toArray, List.set_cons_zero, List.set_cons_succ]
        refine wpAnyH_ready (rs := [3]) (by kernel_rfl) (by simp) ?_
        refine (AllReadyH.cons (o := _) rfl (fun K hK => ?_) AllReadyH.nil)
        clear hS
        go_simp
        refine (HTx.out _ (by exact (RowN.keepAt HAt.out HQ.out (fun h0 a ha => by have := HFar.out h0 a ha; have := HSz.out; omega)))).mono ?_
        rintro e w9 ⟨rfl, hk⟩
        have hk' : Keeps NoBlock W w9 := by first | exact hk | exact hk.ofDrew | exact hk.ofDrewN
        have HQ := Lib.hid (HQ.out.trans (hk'.wider (S' := fun i => w1.heap.size ≤ i) (fun _ _ h => h.elim)))
        have HDd := Lib.hid (HDd.out.keep hk' (fun h => h))
        have HBk := Lib.hid (RowN.keep HBk.out hk' (fun _ _ h => h))
        have HB5 := Lib.hid (HB5.out.keep hk' (fun _ _ h => h))
        clear hk hk'
        have hS : ((fun w' => w'.cell? ⟨w.heap.size, 0, none⟩ = some (.slice p n c) ∧ w'.cell? ⟨w2.heap.size, 0, none⟩ = some (.slice qd n dd)) w9) ∧ ((fun w' => (convert 40 9 (.slice q5 M d5)).run Try.prog w' = .ok (.string (strOfNums (textF l))) w') w9) := ⟨⟨(HA0.out.keep HQ.out (by have := HSz.out; omega)).cell 0 rfl, HDd.out.cell 0 rfl⟩, textOf q5 M d5 (textF l) w9 HM.out HB5.out⟩
        obtain ⟨W, rfl⟩ : ∃ W, W = w9 := ⟨_, rfl⟩
        go_wp2_with fail
        refine hK.out _ _ hS (fun _ => ?_)
        clear hK K
        refine wpAnyH_take (i := 4) (v := ?vT3) rfl ?aT3 ?bT3 ?cT3 ?dT3 (Or.inl ⟨?eT3, ?fT3⟩) hS ?gT3
        case fT3 => intro w hSw; (try dsimp only at hSw); go_simp; (try with_reducible rfl)
        case aT3 => kernel_rfl
        case bT3 => kernel_rfl
        case cT3 => kernel_rfl
        case dT3 => exact fun _ _ _ h => h
        case eT3 => rfl
        simp only [Act.put, List.getElem_toArray, List.getElem_cons_zero, List.getElem_cons_succ, List.setIfInBounds_toArray, List.set_cons_zero, List.set_cons_succ]
        refine wpAnyH_take (i := 5) (v := ?vT4) rfl ?aT4 ?bT4 ?cT4 ?dT4 (Or.inl ⟨?eT4, ?fT4⟩) hS ?gT4
        case fT4 => intro w hSw; (try dsimp only at hSw); go_simp; (try with_reducible rfl)
        case aT4 => kernel_rfl
        case bT4 => kernel_rfl
        case cT4 => kernel_rfl
        case dT4 => exact fun _ _ _ h => h
        case eT4 => rfl
        simp only [Act.put, List.getElem_toArray, List.getElem_cons_zero, List.getElem_cons_succ, List.setIfInBounds_toArray, List.set_cons_zero, List.set_cons_succ]
        refine wpAnyH_take (i := 6) (v := ?vT5) rfl ?aT5 ?bT5 ?cT5 ?dT5 (Or.inl ⟨?eT5, ?fT5⟩) hS ?gT5
        case fT5 => intro w hSw; (try dsimp only at hSw); go_simp; (try with_reducible rfl)
        case aT5 => kernel_rfl
        case bT5 => kernel_rfl
        case cT5 => kernel_rfl
        case dT5 => exact fun _ _ _ h => h
        case eT5 => rfl
        simp only [Act.put, List.getElem_toArray, List.getElem_cons_zero, List.getElem_cons_succ, List.setIfInBounds_toArray, List.set_cons_zero, List.set_cons_succ]
        refine wpAnyH_take (i := 7) (v := ?vT6) rfl ?aT6 ?bT6 ?cT6 ?dT6 (Or.inl ⟨?eT6, ?fT6⟩) hS ?gT6
        case fT6 => intro w hSw; (try dsimp only at hSw); go_simp; (try with_reducible rfl)
        case aT6 => kernel_rfl
        case bT6 => kernel_rfl
        case cT6 => kernel_rfl
        case dT6 => exact fun _ _ _ h => h
        case eT6 => rfl
        simp only [Act.put, List.getElem_toArray, List.getElem_cons_zero, List.getElem_cons_succ, List.setIfInBounds_toArray, List.set_cons_zero, List.set_cons_succ]
        refine wpAnyH_take (i := 8) (v := ?vT7) rfl ?aT7 ?bT7 ?cT7 ?dT7 (Or.inl ⟨?eT7, ?fT7⟩) hS ?gT7
        case fT7 => intro w hSw; (try dsimp only at hSw); go_simp; (try with_reducible rfl)
        case aT7 => kernel_rfl
        case bT7 => kernel_rfl
        case cT7 => kernel_rfl
        case dT7 => exact fun _ _ _ h => h
        case eT7 => rfl
        simp only [Act.put, List.getElem_toArray, List.getElem_cons_zero, List.getElem_cons_succ, List.setIfInBounds_toArray, List.set_cons_zero, List.set_cons_succ]
        refine wpAnyH_take (i := 9) (v := ?vT8) rfl ?aT8 ?bT8 ?cT8 ?dT8 (Or.inl ⟨?eT8, ?fT8⟩) hS ?gT8
        case fT8 => intro w hSw; (try dsimp only at hSw); go_simp; (try with_reducible rfl)
        case aT8 => kernel_rfl
        case bT8 => kernel_rfl
        case cT8 => kernel_rfl
        case dT8 => exact fun _ _ _ h => h
        case eT8 => rfl
        simp only [Act.put, List.getElem_toArray, List.getElem_cons_zero, List.getElem_cons_succ, List.setIfInBounds_toArray, List.set_cons_zero, List.set_cons_succ]
        refine wpAnyH_take (i := 10) (v := ?vT9) rfl ?aT9 ?bT9 ?cT9 ?dT9 (Or.inl ⟨?eT9, ?fT9⟩) hS ?gT9
        case fT9 => intro w hSw; (try dsimp only at hSw); go_simp; (try with_reducible rfl)
        case aT9 => kernel_rfl
        case bT9 => kernel_rfl
        case cT9 => kernel_rfl
        case dT9 => exact fun _ _ _ h => h
        case eT9 => rfl
        simp only [Act.put, List.getElem_toArray, List.getElem_cons_zero, List.getElem_cons_succ, List.setIfInBounds_toArray, List.set_cons_zero, List.set_cons_succ]
        refine wpAnyH_take (i := 11) (v := ?vT10) rfl ?aT10 ?bT10 ?cT10 ?dT10 (Or.inl ⟨?eT10, ?fT10⟩) hS ?gT10
        case fT10 => intro w hSw; (try dsimp only at hSw); go_simp; (try with_reducible rfl)
        case aT10 => kernel_rfl
        case bT10 => kernel_rfl
        case cT10 => kernel_rfl
        case dT10 => exact fun _ _ _ h => h
        case eT10 => rfl
        simp only [Act.put, List.getElem_toArray, List.getElem_cons_zero, List.getElem_cons_succ, List.setIfInBounds_toArray, List.set_cons_zero, List.set_cons_succ]
        refine wpAnyH_take (i := 12) (v := ?vT11) rfl ?aT11 ?bT11 ?cT11 ?dT11 (Or.inl ⟨?eT11, ?fT11⟩) hS ?gT11
        case fT11 => intro w hSw; (try dsimp only at hSw); go_simp; (try with_reducible rfl)
        case aT11 => kernel_rfl
        case bT11 => kernel_rfl
        case cT11 => kernel_rfl
        case dT11 => exact fun _ _ _ h => h
        case eT11 => rfl
        simp only [Act.put, List.getElem_toArray, List.getElem_cons_zero, List.getElem_cons_succ, List.setIfInBounds_toArray, List.set_cons_zero, List.set_cons_succ]
        refine wpAnyH_take (i := 13) (v := ?vT12) rfl ?aT12 ?bT12 ?cT12 ?dT12 (Or.inl ⟨?eT12, ?fT12⟩) hS ?gT12
        case fT12 => intro w hSw; (try dsimp only at hSw); go_simp; (try with_reducible rfl)
        case aT12 => kernel_rfl
        case bT12 => kernel_rfl
        case cT12 => kernel_rfl
        case dT12 => exact fun _ _ _ h => h
        case eT12 => rfl
        simp only [Act.put, List.getElem_toArray, List.getElem_cons_zero, List.getElem_cons_succ, List.setIfInBounds_toArray, List.set_cons_zero, List.set_cons_succ]
        refine wpAnyH_take (i := 14) (v := ?vT13) rfl ?aT13 ?bT13 ?cT13 ?dT13 (Or.inl ⟨?eT13, ?fT13⟩) hS ?gT13
        case fT13 => intro w hSw; (try dsimp only at hSw); go_simp; (try with_reducible rfl)
        case aT13 => kernel_rfl
        case bT13 => kernel_rfl
        case cT13 => kernel_rfl
        case dT13 => exact fun _ _ _ h => h
        case eT13 => rfl
        simp only [Act.put, List.getElem_toArray, List.getElem_cons_zero, List.getElem_cons_succ, List.setIfInBounds_toArray, List.set_cons_zero, List.set_cons_succ]
        refine wpAnyH_take (i := 15) (v := ?vT14) rfl ?aT14 ?bT14 ?cT14 ?dT14 (Or.inl ⟨?eT14, ?fT14⟩) hS ?gT14
        case fT14 => intro w hSw; (try dsimp only at hSw); go_simp; (try with_reducible rfl)
        case aT14 => kernel_rfl
        case bT14 => kernel_rfl
        case cT14 => kernel_rfl
        case dT14 => exact fun _ _ _ h => h
        case eT14 => rfl
        simp only [Act.put, List.getElem_toArray, List.getElem_cons_zero, List.getElem_cons_succ, List.setIfInBounds_toArray, List.set_cons_zero, List.set_cons_succ]
        refine wpAnyH_ready (rs := [16]) (by kernel_rfl) (by simp) ?_
        refine (AllReadyH.cons (o := _) rfl (fun K hK => ?_) AllReadyH.nil)
        clear hS
        go_simp
        refine (HSa.out qd p dd c _ (by exact HBk.out) (by exact (RowN.keepAt HAt.out HQ.out (fun h0 a ha => by have := HFar.out h0 a ha; have := HSz.out; omega)))).mono ?_
        rintro e w9 ⟨rfl, hk⟩
        have hk' : Keeps NoBlock W w9 := by first | exact hk | exact hk.ofDrew | exact hk.ofDrewN
        have HQ := Lib.hid (HQ.out.trans (hk'.wider (S' := fun i => w1.heap.size ≤ i) (fun _ _ h => h.elim)))
        have HDd := Lib.hid (HDd.out.keep hk' (fun h => h))
        have HBk := Lib.hid (RowN.keep HBk.out hk' (fun _ _ h => h))
        have HB5 := Lib.hid (HB5.out.keep hk' (fun _ _ h => h))
        clear hk hk'
        have hS : ((fun w' => w'.cell? ⟨w.heap.size, 0, none⟩ = some (.slice p n c) ∧ w'.cell? ⟨w2.heap.size, 0, none⟩ = some (.slice qd n dd)) w9) ∧ ((fun w' => (convert 40 9 (.slice q5 M d5)).run Try.prog w' = .ok (.string (strOfNums (textF l))) w') w9) := ⟨⟨(HA0.out.keep HQ.out (by have := HSz.out; omega)).cell 0 rfl, HDd.out.cell 0 rfl⟩, textOf q5 M d5 (textF l) w9 HM.out HB5.out⟩
        obtain ⟨W, rfl⟩ : ∃ W, W = w9 := ⟨_, rfl⟩
        go_wp2_with fail
        refine hK.out _ _ hS (fun _ => ?_)
        clear hK K
        refine wpAnyH_take (i := 17) (v := ?vT15) rfl ?aT15 ?bT15 ?cT15 ?dT15 (Or.inl ⟨?eT15, ?fT15⟩) hS ?gT15
        case fT15 => intro w hSw; (try dsimp only at hSw); go_simp; (try with_reducible rfl)
        case aT15 => kernel_rfl
        case bT15 => kernel_rfl
        case cT15 => kernel_rfl
        case dT15 => exact fun _ _ _ h => h
        case eT15 => rfl
        simp only [Act.put, List.getElem_toArray, List.getElem_cons_zero, List.getElem_cons_succ, List.setIfInBounds_toArray, List.set_cons_zero, List.set_cons_succ]
        refine wpAnyH_take (i := 18) (v := ?vT16) rfl ?aT16 ?bT16 ?cT16 ?dT16 (Or.inl ⟨?eT16, ?fT16⟩) hS ?gT16
        case fT16 => intro w hSw; (try dsimp only at hSw); go_simp; (try with_reducible rfl)
        case aT16 => kernel_rfl
        case bT16 => kernel_rfl
        case cT16 => kernel_rfl
        case dT16 => exact fun _ _ _ h => h
        case eT16 => rfl
        simp only [Act.put, List.getElem_toArray, List.getElem_cons_zero, List.getElem_cons_succ, List.setIfInBounds_toArray, List.set_cons_zero, List.set_cons_succ]
        refine wpAnyH_take (i := 19) (v := ?vT17) rfl ?aT17 ?bT17 ?cT17 ?dT17 (Or.inl ⟨?eT17, ?fT17⟩) hS ?gT17
        case fT17 => intro w hSw; (try dsimp only at hSw); go_simp; (try with_reducible rfl)
        case aT17 => kernel_rfl
        case bT17 => kernel_rfl
        case cT17 => kernel_rfl
        case dT17 => exact fun _ _ _ h => h
        case eT17 => rfl
        simp only [Act.put, List.getElem_toArray, List.getElem_cons_zero, List.getElem_cons_succ, List.setIfInBounds_toArray, List.set_cons_zero, List.set_cons_succ]
        refine wpAnyH_done (by kernel_rfl) ?_ _
        clear hS
        have HSz3 : Hid (w1.heap.size ≤ W.heap.size) := Lib.hid HQ.out.size
        have HD2 := Lib.hid (Whole.new W 26 #[.slice none 0 0])
        have HQ := Lib.hid (HQ.out.alloc (.cells #[.slice none 0 0] 26))
        go_wp2_with fail
        refine (HRn2.out _ (w.heap.size + 1) W.heap.size (HA1.out.keep HQ.out (by have := HSz.out; omega)) HD2.out (HBb.out.keepPos HQ.out (fun h0 a ha => by have := HFarb.out h0 a ha; have := HSz.out; omega))).mono ?_
        rintro e w10 ⟨rfl, hkd, hrow⟩
        have HQ := Lib.hid (HQ.out.trans (hkd.wider (S' := fun i => w1.heap.size ≤ i) (fun i _ h => by unfold Just at h; have := HSz3.out; omega)))
        have HRow := Lib.hid hrow
        have c1 := (HA1.out.keep HQ.out (by have := HSz.out; omega)).cell 0 rfl
        simp only [List.getElem_toArray, List.getElem_cons_zero] at c1
        have tb := textOf pb N cb ys w10 HX.out (HBb.out.keepPos HQ.out (fun h0 a ha => by have := HFarb.out h0 a ha; have := HSz.out; omega))
        clear hkd hrow HD2
        go_wp2_with fail
        refine (HGr.out _).mono ?_
        rintro e w11 ⟨v, rfl, hnum⟩
        obtain ⟨q9, m9, d9, rfl, hbare9, hm9, hc9⟩ := own_nums hnum.1
        have hk9 : Keeps NoBlock w10 w11 := Keeps.ofBelow hnum.2
        have HQ := Lib.hid (HQ.out.trans (hk9.wider (S' := fun i => w1.heap.size ≤ i) (fun _ _ h => h.elim)))
        have HT9 := Lib.hid (cells_rowN hm9 hbare9 hc9)
        have HM9 := Lib.hid (show m9 = tl.length from hm9)
        have hk10 := Lib.hid hk9
        clear hm9 hbare9 hc9 hnum hk9 c1 tb
        by_cases hy : ty = 0
        · have hyb : (ty != 0) = false := by rw [hy]; rfl
          have hyd : decide (ty = 0) = true := decide_eq_true hy
          obtain ⟨qr, mr, dr, hDr, hmr, hmd, hdd, hq, hat, hnew⟩ := HRow.out hy
          have hme : m9 = mr := by rw [hmr, HM9.out]
          subst hme
          have hDr := hDr.keep hk10.out (fun h => h)
          have r0 := (hDr.alloc (.cells #[.string (strOfNums (ys.drop tm)), .int .i64 (tm : Int), .int .i64 ty] 54)).cell 0 rfl
          have r0' := hDr.cell 0 rfl
          simp only [List.getElem_toArray, List.getElem_cons_zero] at r0 r0'
          have HE1 := Lib.hid (RowN.keep (RowN.keep (show RowN w10 qr tl from hat) hk10.out (fun _ _ h => h)) ((Keeps.refl NoBlock w11).alloc (.cells #[.string (strOfNums (ys.drop tm)), .int .i64 (tm : Int), .int .i64 ty] 54)) (fun _ _ h => h))
          have HE2 := Lib.hid (RowN.keep HT9.out ((Keeps.refl NoBlock w11).alloc (.cells #[.string (strOfNums (ys.drop tm)), .int .i64 (tm : Int), .int .i64 ty] 54)) (fun _ _ h => h))
          have HQ := Lib.hid (HQ.out.alloc (.cells #[.string (strOfNums (ys.drop tm)), .int .i64 (tm : Int), .int .i64 ty] 54))
          subst hy
          clear hDr hmr hmd hdd hq hat hnew
          go_wp2_with fail
          refine (same12_go qr q9 m9 dr d9 tl _ HM9.out (by have := HM9.out; have := HTl.out; omega) HE1.out HE2.out).mono ?_
          rintro e w12 ⟨rfl, hk⟩
          have HQ := Lib.hid (HQ.out.trans (hk.wider (S' := fun i => w1.heap.size ≤ i) (fun _ _ h => h.elim)))
          clear hk
          go_wp2_with fail
          go_ret
          exact ⟨by first | rfl | simp, HK1.out.then HQ.out (fun i hi h => by have := HSz.out; omega)⟩
        · have hyb : (ty != 0) = true := by rw [bne_iff_ne]; exact hy
          have hyd : decide (ty = 0) = false := decide_eq_false hy
          have HQ := Lib.hid (HQ.out.alloc (.cells #[.string (strOfNums (ys.drop tm)), .int .i64 (tm : Int), .int .i64 ty] 54))
          clear hy
          go_wp2_with fail
          go_ret
          exact ⟨by first | rfl | simp, HK1.out.then HQ.out (fun i hi h => by have := HSz.out; omega)⟩
  · rw [if_neg hR] at HRn
    have HRr : Hid (risesF l = false) := Lib.hid (Bool.eq_false_iff.2 hR)
    clear hR
    go_enter Try.func5, Try.ntmps5
    go_wp2_with fail
    refine (HL.out _).mono ?_
    rintro e w1 ⟨rfl, hk⟩
    have HA0 := Lib.hid (HA0.out.keep hk (fun h => h))
    have HA1 := Lib.hid (HA1.out.keep hk (fun h => h))
    have HAt := Lib.hid (RowN.keep HAt.out hk (fun _ _ h => h))
    have HBb := Lib.hid (HBb.out.keep hk (fun _ _ h => h))
    have HK1 := Lib.hid (HK0.out.trans hk)
    have HSz : Hid (w.heap.size + 1 < w1.heap.size) := Lib.hid HA1.out.lt
    have a0 := ((HA0.out.alloc (.cells #[.slice none 0 0] 42)).cell 0 rfl)
    have a0' := HA0.out.cell 0 rfl
    simp only [List.getElem_toArray, List.getElem_cons_zero] at a0 a0'
    clear hk HL
    go_wp2_with fail
    refine (HPut.out w1.heap.size _ (bufNewB w1 w1.heap.size) (by simp) (RowN.keep HAt.out ((Keeps.refl NoBlock w1).alloc _) (fun _ _ h => h)) (fun h0 a ha => by have := HFar.out (by rw [← HLn.out]; exact h0) a ha; have := HSz.out; unfold OnBuf; omega)).mono ?_
    rintro e w2 ⟨rfl, hbuf, hk⟩
    have HQ := Lib.hid (((Keeps.refl (fun i => w1.heap.size ≤ i) w1).alloc (.cells #[.slice none 0 0] 42)).trans (hk.onBuf12 (Nat.le_refl _)))
    have HBf := Lib.hid (show BufAt (w2.alloc (.cells #[.slice none 0 0] 26)) w1.heap.size w1.heap.size (textF l) from hbuf.keepO ((Keeps.refl NoBlock w2).alloc _) (fun h => h) (fun _ _ _ _ h => h))
    have HDd := Lib.hid (Whole.new w2 26 #[.slice none 0 0])
    have HQ := Lib.hid (HQ.out.alloc (.cells #[.slice none 0 0] 26))
    have HSz2 := Lib.hid (show w1.heap.size + 1 ≤ w2.heap.size by have := hk.size; simpa using this)
    clear hbuf hk a0 a0'
    go_wp2_with fail
    refine (HBy.out w1.heap.size _ HBf.out).mono ?_
    rintro e w3 ⟨v, rfl, qb, db, rfl, hdb, hdb', hby, hqb, hk⟩
    have HBf := Lib.hid (HBf.out.keepO hk (fun h => h) (fun _ _ _ _ h => h))
    have HDd := Lib.hid (HDd.out.keep hk (fun h => h))
    have HQ := Lib.hid (HQ.out.trans (hk.wider (S' := fun i => w1.heap.size ≤ i) (fun _ _ h => h.elim)))
    have HBx := Lib.hid hby
    have hdb9 : db ≤ 9223372036854775807 := by first | omega | (unfold maxLen at hdb'; omega) | exact hdb'
    have hmf := recMakeFn12
    clear hk hby hqb hdb'
    go_wp2_with fail
    refine (HRn.out _ w.heap.size w2.heap.size qb db (HA0.out.keep HQ.out (by have := HSz.out; omega)) HDd.out HBx.out hdb hdb9).mono ?_
    rintro e w4 ⟨rfl, hkd, hrow⟩
    have HBf := Lib.hid (HBf.out.keepO hkd (by have := HSz2.out; unfold Just; omega) (fun j cs hj hbj hjd => by unfold Just at hjd; subst hjd; have := (Whole.unique hj HDd.out).1; revert this; decide))
    have HQ := Lib.hid (HQ.out.trans (hkd.wider (S' := fun i => w1.heap.size ≤ i) (fun i _ h => by unfold Just at h; have := HSz2.out; omega)))
    clear hkd hrow
    have HBy7 := Lib.hid (fun W hB => HBy.out w1.heap.size W hB)
    clear HBx HBy HPut HRn
    have a0 := (HA0.out.keep HQ.out (by have := HSz.out; omega)).cell 0 rfl
    simp only [List.getElem_toArray, List.getElem_cons_zero] at a0
    go_wp2_with fail
    clear a0
    go_loopw [11, 41] (fun b i wr => ∃ j : Nat, j ≤ n ∧ i = .int .i64 (j : Int) ∧ b = .bool (risesF (l.take j)) ∧ Hid (Keeps NoBlock w4 wr)) (fun _ i _ => n - (intOf i).toNat)
    case atStart => exact ⟨0, Nat.zero_le _, rfl, rfl, Lib.hid (Keeps.refl _ _)⟩
    case round =>
      obtain ⟨j, hj, rfl, rfl, HKl⟩ := hrel
      by_cases hlt : j < n
      · have hdj : decide ((j : Int) < (n : Int)) = true := decide_eq_true (by omega)
        have hjl : j < l.length := by rw [← HLn.out]; exact hlt
        have a0 := (HA0.out.keep (HQ.out.trans (HKl.out.wider (S' := fun i => w1.heap.size ≤ i) (fun _ _ h => h.elim))) (by have := HSz.out; omega)).cell 0 rfl
        simp only [List.getElem_toArray, List.getElem_cons_zero] at a0
        have HAl := Lib.hid (RowN.keepAt HAt.out (HQ.out.trans (HKl.out.wider (S' := fun i => w1.heap.size ≤ i) (fun _ _ h => h.elim))) (fun h0 a ha => by have := HFar.out h0 a ha; have := HSz.out; omega))
        have HN1 := Lib.hid (HNx.out j hjl)
        obtain ⟨b0, hb0⟩ : ∃ b0, b0 = risesF (l.take j) := ⟨_, rfl⟩
        rw [← hb0] at HN1 ⊢
        obtain ⟨ad, rfl, x0⟩ := HAl.out j hjl
        by_cases h0 : j = 0
        · subst h0
          have hd0 : decide ((0 : Nat) = 0) = true := by decide
          rw [hd0, Bool.true_or, Bool.and_true] at HN1
          have hd1 : decide (0 < n) = true := decide_eq_true hlt
          have hd5 : decide ((0 : Int) < (n : Int)) = true := decide_eq_true (by omega)
          clear hjl hb0
          cases b0
          all_goals
            go_wp2_with fail
            go_quiet (fail)
            go_wp2_with fail
            exact ⟨⟨1, by omega, by go_num, by rw [HN1.out], Lib.hid (by first | exact HKl.out.drewN _ | exact HKl.out)⟩, by simp [intOf]; omega⟩
        · obtain ⟨i, rfl⟩ : ∃ i, j = i + 1 := ⟨j - 1, by omega⟩
          obtain ⟨ad', had, y0⟩ := HAl.out i (by omega)
          obtain rfl := Option.some.inj had
          have hd0 : decide (i + 1 = 0) = false := decide_eq_false h0
          rw [hd0, Bool.false_or, show i + 1 - 1 = i from rfl] at HN1
          obtain ⟨x, hx⟩ : ∃ x, x = l.getD (i + 1) 0 := ⟨_, rfl⟩
          obtain ⟨y, hy⟩ : ∃ y, y = l.getD i 0 := ⟨_, rfl⟩
          rw [← hx] at x0 HN1
          rw [← hy] at y0 HN1
          obtain ⟨m, hm⟩ : ∃ m, m = i + 1 := ⟨_, rfl⟩
          rw [← hm] at x0 HN1 hdj hlt ⊢
          have hmi : (m : Int) - 1 = (i : Int) := by omega
          have hm0 : ((m : Int) == 0) = false := beq_eq_false_iff_ne.2 (by omega)
          have him : i < m := by omega
          have hin : i < n := by omega
          clear hjl hb0 hx hy h0 hd0 hm had
          cases b0
          · rw [Bool.false_and] at HN1
            go_wp2_with fail
            go_quiet (fail)
            go_wp2_with fail
            exact ⟨⟨m + 1, by omega, by go_num, by rw [HN1.out], Lib.hid (by first | exact HKl.out.drewN _ | exact HKl.out)⟩, by simp [intOf]; omega⟩
          · rw [Bool.true_and] at HN1
            by_cases hxy : y ≤ x
            · have hq1 : decide (y ≤ x) = true := decide_eq_true hxy
              have hq2 : decide ((y : Int) ≤ (x : Int)) = true := decide_eq_true (by omega)
              rw [hq1] at HN1
              go_wp2_with fail
              go_quiet (fail)
              go_wp2_with fail
              exact ⟨⟨m + 1, by omega, by go_num, by rw [HN1.out], Lib.hid (by first | exact HKl.out.drewN _ | exact HKl.out)⟩, by simp [intOf]; omega⟩
            · have hq1 : decide (y ≤ x) = false := decide_eq_false hxy
              have hq2 : decide ((y : Int) ≤ (x : Int)) = false := decide_eq_false (by omega)
              rw [hq1] at HN1
              go_wp2_with fail
              go_quiet (fail)
              go_wp2_with fail
              exact ⟨⟨m + 1, by omega, by go_num, by rw [HN1.out], Lib.hid (by first | exact HKl.out.drewN _ | exact HKl.out)⟩, by simp [intOf]; omega⟩
      · have hdj : decide ((j : Int) < (n : Int)) = false := decide_eq_false (by omega)
        rw [List.take_of_length_le (by have := HLn.out; omega), HRr.out]
        have HBf := Lib.hid (HBf.out.keepO HKl.out (fun h => h) (fun _ _ _ _ h => h))
        have HQ := Lib.hid (HQ.out.trans (HKl.out.wider (S' := fun i => w1.heap.size ≤ i) (fun _ _ h => h.elim)))
        obtain ⟨W, rfl⟩ : ∃ W, W = wr := ⟨_, rfl⟩
        go_wp2_with fail
        have sN : W.drew.cell? ⟨w.heap.size, 0, none⟩ = some (.slice p n c) := (HA0.out.keep HQ.out (by have := HSz.out; omega)).cell 0 rfl
        refine wp_region_held_drew (S := fun w' => w'.cell? ⟨w.heap.size, 0, none⟩ = some (.slice p n c)) (by kernel_rfl) sN (fun hHeld => ?_)
        refine wpAnyH_take (i := 2) (v := ?vT101) rfl ?aT101 ?bT101 ?cT101 ?dT101 (Or.inl ⟨?eT101, ?fT101⟩) hHeld ?gT101
        case fT101 => intro w hSw; (try dsimp only at hSw); go_simp; (try with_reducible rfl)
        case aT101 => kernel_rfl
        case bT101 => kernel_rfl
        case cT101 => kernel_rfl
        case dT101 => exact fun _ _ _ h => h
        case eT101 => rfl
        simp only [Act.put, List.getElem_toArray, List.getElem_cons_zero, List.getElem_cons_succ, List.setIfInBounds_toArray, List.set_cons_zero, List.set_cons_succ]
        refine wpAnyH_ready (rs := [0]) (by kernel_rfl) (by simp) ?_
        refine (AllReadyH.cons (o := _) rfl (fun K hK => ?_) AllReadyH.nil)
        go_simp
        refine (HBy7.out _ (by exact HBf.out)).mono ?_
        rintro e w9 ⟨v, rfl, q5, d5, rfl, hd5, hd5', hby5, hq5, hk⟩
        have hk' : Keeps NoBlock W w9 := by first | exact hk | exact hk.ofDrew | exact hk.ofDrewN
        have HQ := Lib.hid (HQ.out.trans (hk'.wider (S' := fun i => w1.heap.size ≤ i) (fun _ _ h => h.elim)))
        have HB5 := Lib.hid hby5
        clear hd5 hd5' hq5 hby5 hk hk'
        have hS : ((fun w' => w'.cell? ⟨w.heap.size, 0, none⟩ = some (.slice p n c)) w9) ∧ ((fun w' => (convert 40 9 (.slice q5 M d5)).run Try.prog w' = .ok (.string (strOfNums (textF l))) w') w9) := ⟨(HA0.out.keep HQ.out (by have := HSz.out; omega)).cell 0 rfl, textOf q5 M d5 (textF l) w9 HM.out HB5.out⟩
        obtain ⟨W, rfl⟩ : ∃ W, W = w9 := ⟨_, rfl⟩
        clear HBf
        go_wp2_with fail
        refine hK.out _ _ hS.1 (fun _ => ?_)
        clear hK K
        refine wpAnyH_swap (S' := fun w' => (w'.cell? ⟨w.heap.size, 0, none⟩ = some (.slice p n c)) ∧ (convert 40 9 (.slice q5 M d5)).run Try.prog w' = .ok (.string (strOfNums (textF l))) w') (fun _ h => h.1) _ _ _ _ ?_
        refine wpAnyH_take (i := 1) (v := ?vT102) rfl ?aT102 ?bT102 ?cT102 ?dT102 (Or.inl ⟨?eT102, ?fT102⟩) hS ?gT102
        case fT102 => intro w hSw; (try dsimp only at hSw); go_simp; (try with_reducible rfl)
        case aT102 => kernel_rfl
        case bT102 => kernel_rfl
        case cT102 => kernel_rfl
        case dT102 => exact fun _ _ _ h => h
        case eT102 => rfl
        simp only [Act.put, List.getElem_toArray, List.getElem_cons_zero, List.getElem_cons_succ, List.setIfInBounds_toArray, List.set_cons_zero, List.set_cons_succ]
        refine wpAnyH_ready (rs := [3]) (by kernel_rfl) (by simp) ?_
        refine (AllReadyH.cons (o := _) rfl (fun K hK => ?_) AllReadyH.nil)
        clear hS
        go_simp
        refine (HTx.out _ (by exact (RowN.keepAt HAt.out HQ.out (fun h0 a ha => by have := HFar.out h0 a ha; have := HSz.out; omega)))).mono ?_
        rintro e w9 ⟨rfl, hk⟩
        have hk' : Keeps NoBlock W w9 := by first | exact hk | exact hk.ofDrew | exact hk.ofDrewN
        have HQ := Lib.hid (HQ.out.trans (hk'.wider (S' := fun i => w1.heap.size ≤ i) (fun _ _ h => h.elim)))
        have HB5 := Lib.hid (HB5.out.keep hk' (fun _ _ h => h))
        clear hk hk'
        have hS : ((fun w' => w'.cell? ⟨w.heap.size, 0, none⟩ = some (.slice p n c)) w9) ∧ ((fun w' => (convert 40 9 (.slice q5 M d5)).run Try.prog w' = .ok (.string (strOfNums (textF l))) w') w9) := ⟨(HA0.out.keep HQ.out (by have := HSz.out; omega)).cell 0 rfl, textOf q5 M d5 (textF l) w9 HM.out HB5.out⟩
        obtain ⟨W, rfl⟩ : ∃ W, W = w9 := ⟨_, rfl⟩
        go_wp2_with fail
        refine hK.out _ _ hS (fun _ => ?_)
        clear hK K
        refine wpAnyH_take (i := 4) (v := ?vT103) rfl ?aT103 ?bT103 ?cT103 ?dT103 (Or.inl ⟨?eT103, ?fT103⟩) hS ?gT103
        case fT103 => intro w hSw; (try dsimp only at hSw); go_simp; (try with_reducible rfl)
        case aT103 => kernel_rfl
        case bT103 => kernel_rfl
        case cT103 => kernel_rfl
        case dT103 => exact fun _ _ _ h => h
        case eT103 => rfl
        simp only [Act.put, List.getElem_toArray, List.getElem_cons_zero, List.getElem_cons_succ, List.setIfInBounds_toArray, List.set_cons_zero, List.set_cons_succ]
        refine wpAnyH_take (i := 5) (v := ?vT104) rfl ?aT104 ?bT104 ?cT104 ?dT104 (Or.inl ⟨?eT104, ?fT104⟩) hS ?gT104
        case fT104 => intro w hSw; (try dsimp only at hSw); go_simp; (try with_reducible rfl)
        case aT104 => kernel_rfl
        case bT104 => kernel_rfl
        case cT104 => kernel_rfl
        case dT104 => exact fun _ _ _ h => h
        case eT104 => rfl
        simp only [Act.put, List.getElem_toArray, List.getElem_cons_zero, List.getElem_cons_succ, List.setIfInBounds_toArray, List.set_cons_zero, List.set_cons_succ]
        refine wpAnyH_take (i := 6) (v := ?vT105) rfl ?aT105 ?bT105 ?cT105 ?dT105 (Or.inl ⟨?eT105, ?fT105⟩) hS ?gT105
        case fT105 => intro w hSw; (try dsimp only at hSw); go_simp; (try with_reducible rfl)
        case aT105 => kernel_rfl
        case bT105 => kernel_rfl
        case cT105 => kernel_rfl
        case dT105 => exact fun _ _ _ h => h
        case eT105 => rfl
        simp only [Act.put, List.getElem_toArray, List.getElem_cons_zero, List.getElem_cons_succ, List.setIfInBounds_toArray, List.set_cons_zero, List.set_cons_succ]
        refine wpAnyH_take (i := 7) (v := ?vT106) rfl ?aT106 ?bT106 ?cT106 ?dT106 (Or.inl ⟨?eT106, ?fT106⟩) hS ?gT106
        case fT106 => intro w hSw; (try dsimp only at hSw); go_simp; (try with_reducible rfl)
        case aT106 => kernel_rfl
        case bT106 => kernel_rfl
        case cT106 => kernel_rfl
        case dT106 => exact fun _ _ _ h => h
        case eT106 => rfl
        simp only [Act.put, List.getElem_toArray, List.getElem_cons_zero, List.getElem_cons_succ, List.setIfInBounds_toArray, List.set_cons_zero, List.set_cons_succ]
        refine wpAnyH_take (i := 8) (v := ?vT107) rfl ?aT107 ?bT107 ?cT107 ?dT107 (Or.inl ⟨?eT107, ?fT107⟩) hS ?gT107
        case fT107 => intro w hSw; (try dsimp only at hSw); go_simp; (try with_reducible rfl)
        case aT107 => kernel_rfl
        case bT107 => kernel_rfl
        case cT107 => kernel_rfl
        case dT107 => exact fun _ _ _ h => h
        case eT107 => rfl
        simp only [Act.put, List.getElem_toArray, List.getElem_cons_zero, List.getElem_cons_succ, List.setIfInBounds_toArray, List.set_cons_zero, List.set_cons_succ]
        refine wpAnyH_take (i := 9) (v := ?vT108) rfl ?aT108 ?bT108 ?cT108 ?dT108 (Or.inl ⟨?eT108, ?fT108⟩) hS ?gT108
        case fT108 => intro w hSw; (try dsimp only at hSw); go_simp; (try with_reducible rfl)
        case aT108 => kernel_rfl
        case bT108 => kernel_rfl
        case cT108 => kernel_rfl
        case dT108 => exact fun _ _ _ h => h
        case eT108 => rfl
        simp only [Act.put, List.getElem_toArray, List.getElem_cons_zero, List.getElem_cons_succ, List.setIfInBounds_toArray, List.set_cons_zero, List.set_cons_succ]
        refine wpAnyH_take (i := 10) (v := ?vT109) rfl ?aT109 ?bT109 ?cT109 ?dT109 (Or.inl ⟨?eT109, ?fT109⟩) hS ?gT109
        case fT109 => intro w hSw; (try dsimp only at hSw); go_simp; (try with_reducible rfl)
        case aT109 => kernel_rfl
        case bT109 => kernel_rfl
        case cT109 => kernel_rfl
        case dT109 => exact fun _ _ _ h => h
        case eT109 => rfl
        simp only [Act.put, List.getElem_toArray, List.getElem_cons_zero, List.getElem_cons_succ, List.setIfInBounds_toArray, List.set_cons_zero, List.set_cons_succ]
        refine wpAnyH_take (i := 11) (v := ?vT110) rfl ?aT110 ?bT110 ?cT110 ?dT110 (Or.inl ⟨?eT110, ?fT110⟩) hS ?gT110
        case fT110 => intro w hSw; (try dsimp only at hSw); go_simp; (try with_reducible rfl)
        case aT110 => kernel_rfl
        case bT110 => kernel_rfl
        case cT110 => kernel_rfl
        case dT110 => exact fun _ _ _ h => h
        case eT110 => rfl
        simp only [Act.put, List.getElem_toArray, List.getElem_cons_zero, List.getElem_cons_succ, List.setIfInBounds_toArray, List.set_cons_zero, List.set_cons_succ]
        refine wpAnyH_take (i := 12) (v := ?vT111) rfl ?aT111 ?bT111 ?cT111 ?dT111 (Or.inl ⟨?eT111, ?fT111⟩) hS ?gT111
        case fT111 => intro w hSw; (try dsimp only at hSw); go_simp; (try with_reducible rfl)
        case aT111 => kernel_rfl
        case bT111 => kernel_rfl
        case cT111 => kernel_rfl
        case dT111 => exact fun _ _ _ h => h
        case eT111 => rfl
        simp only [Act.put, List.getElem_toArray, List.getElem_cons_zero, List.getElem_cons_succ, List.setIfInBounds_toArray, List.set_cons_zero, List.set_cons_succ]
        refine wpAnyH_take (i := 13) (v := ?vT112) rfl ?aT112 ?bT112 ?cT112 ?dT112 (Or.inl ⟨?eT112, ?fT112⟩) hS ?gT112
        case fT112 => intro w hSw; (try dsimp only at hSw); go_simp; (try with_reducible rfl)
        case aT112 => kernel_rfl
        case bT112 => kernel_rfl
        case cT112 => kernel_rfl
        case dT112 => exact fun _ _ _ h => h
        case eT112 => rfl
        simp only [Act.put, List.getElem_toArray, List.getElem_cons_zero, List.getElem_cons_succ, List.setIfInBounds_toArray, List.set_cons_zero, List.set_cons_succ]
        refine wpAnyH_take (i := 14) (v := undef) rfl ?aT113 ?bT113 ?cT113 ?dT113 (Or.inr ?eT113) hS ?gT113
        case eT113 => exact ⟨rfl, rfl⟩
        case aT113 => kernel_rfl
        case bT113 => kernel_rfl
        case cT113 => kernel_rfl
        case dT113 => exact fun _ _ _ h => h
        simp only [Act.put, List.getElem_toArray, List.getElem_cons_zero, List.getElem_cons_succ, List.setIfInBounds_toArray, List.set_cons_zero, List.set_cons_succ]
        refine wpAnyH_take (i := 15) (v := undef) rfl ?aT114 ?bT114 ?cT114 ?dT114 (Or.inr ?eT114) hS ?gT114
        case eT114 => exact ⟨rfl, rfl⟩
        case aT114 => kernel_rfl
        case bT114 => kernel_rfl
        case cT114 => kernel_rfl
        case dT114 => exact fun _ _ _ h => h
        simp only [Act.put, List.getElem_toArray, List.getElem_cons_zero, List.getElem_cons_succ, List.setIfInBounds_toArray, List.set_cons_zero, List.set_cons_succ]
        refine wpAnyH_take (i := 16) (v := undef) rfl ?aT115 ?bT115 ?cT115 ?dT115 (Or.inr ?eT115) hS ?gT115
        case eT115 => exact ⟨rfl, rfl⟩
        case aT115 => kernel_rfl
        case bT115 => kernel_rfl
        case cT115 => kernel_rfl
        case dT115 => exact fun _ _ _ h => h
        simp only [Act.put, List.getElem_toArray, List.getElem_cons_zero, List.getElem_cons_succ, List.setIfInBounds_toArray, List.set_cons_zero, List.set_cons_succ]
        refine wpAnyH_take (i := 17) (v := undef) rfl ?aT116 ?bT116 ?cT116 ?dT116 (Or.inr ?eT116) hS ?gT116
        case eT116 => exact ⟨rfl, rfl⟩
        case aT116 => kernel_rfl
        case bT116 => kernel_rfl
        case cT116 => kernel_rfl
        case dT116 => exact fun _ _ _ h => h
        simp only [Act.put, List.getElem_toArray, List.getElem_cons_zero, List.getElem_cons_succ, List.setIfInBounds_toArray, List.set_cons_zero, List.set_cons_succ]
        refine wpAnyH_take (i := 18) (v := ?vT117) rfl ?aT117 ?bT117 ?cT117 ?dT117 (Or.inl ⟨?eT117, ?fT117⟩) hS ?gT117
        case fT117 => intro w hSw; (try dsimp only at hSw); go_simp; (try with_reducible rfl)
        case aT117 => kernel_rfl
        case bT117 => kernel_rfl
        case cT117 => kernel_rfl
        case dT117 => exact fun _ _ _ h => h
        case eT117 => rfl
        simp only [Act.put, List.getElem_toArray, List.getElem_cons_zero, List.getElem_cons_succ, List.setIfInBounds_toArray, List.set_cons_zero, List.set_cons_succ]
        refine wpAnyH_take (i := 19) (v := ?vT118) rfl ?aT118 ?bT118 ?cT118 ?dT118 (Or.inl ⟨?eT118, ?fT118⟩) hS ?gT118
        case fT118 => intro w hSw; (try dsimp only at hSw); go_simp; (try with_reducible rfl)
        case aT118 => kernel_rfl
        case bT118 => kernel_rfl
        case cT118 => kernel_rfl
        case dT118 => exact fun _ _ _ h => h
        case eT118 => rfl
        simp only [Act.put, List.getElem_toArray, List.getElem_cons_zero, List.getElem_cons_succ, List.setIfInBounds_toArray, List.set_cons_zero, List.set_cons_succ]
        refine wpAnyH_done (by kernel_rfl) ?_ _
        clear hS
        have HSz3 : Hid (w1.heap.size ≤ W.heap.size) := Lib.hid HQ.out.size
        have HD2 := Lib.hid (Whole.new W 26 #[.slice none 0 0])
        have HQ := Lib.hid (HQ.out.alloc (.cells #[.slice none 0 0] 26))
        go_wp2_with fail
        refine (HRn2.out _ (w.heap.size + 1) W.heap.size (HA1.out.keep HQ.out (by have := HSz.out; omega)) HD2.out (HBb.out.keepPos HQ.out (fun h0 a ha => by have := HFarb.out h0 a ha; have := HSz.out; omega))).mono ?_
        rintro e w10 ⟨rfl, hkd, hrow⟩
        have HQ := Lib.hid (HQ.out.trans (hkd.wider (S' := fun i => w1.heap.size ≤ i) (fun i _ h => by unfold Just at h; have := HSz3.out; omega)))
        have HRow := Lib.hid hrow
        have c1 := (HA1.out.keep HQ.out (by have := HSz.out; omega)).cell 0 rfl
        simp only [List.getElem_toArray, List.getElem_cons_zero] at c1
        have tb := textOf pb N cb ys w10 HX.out (HBb.out.keepPos HQ.out (fun h0 a ha => by have := HFarb.out h0 a ha; have := HSz.out; omega))
        clear hkd hrow HD2
        go_wp2_with fail
        refine (HGr.out _).mono ?_
        rintro e w11 ⟨v, rfl, hnum⟩
        obtain ⟨q9, m9, d9, rfl, hbare9, hm9, hc9⟩ := own_nums hnum.1
        have hk9 : Keeps NoBlock w10 w11 := Keeps.ofBelow hnum.2
        have HQ := Lib.hid (HQ.out.trans (hk9.wider (S' := fun i => w1.heap.size ≤ i) (fun _ _ h => h.elim)))
        have HT9 := Lib.hid (cells_rowN hm9 hbare9 hc9)
        have HM9 := Lib.hid (show m9 = tl.length from hm9)
        have hk10 := Lib.hid hk9
        clear hm9 hbare9 hc9 hnum hk9 c1 tb
        by_cases hy : ty = 0
        · have hyb : (ty != 0) = false := by rw [hy]; rfl
          have hyd : decide (ty = 0) = true := decide_eq_true hy
          obtain ⟨qr, mr, dr, hDr, hmr, hmd, hdd, hq, hat, hnew⟩ := HRow.out hy
          have hme : m9 = mr := by rw [hmr, HM9.out]
          subst hme
          have hDr := hDr.keep hk10.out (fun h => h)
          have r0 := (hDr.alloc (.cells #[.string (strOfNums (ys.drop tm)), .int .i64 (tm : Int), .int .i64 ty] 54)).cell 0 rfl
          have r0' := hDr.cell 0 rfl
          simp only [List.getElem_toArray, List.getElem_cons_zero] at r0 r0'
          have HE1 := Lib.hid (RowN.keep (RowN.keep (show RowN w10 qr tl from hat) hk10.out (fun _ _ h => h)) ((Keeps.refl NoBlock w11).alloc (.cells #[.string (strOfNums (ys.drop tm)), .int .i64 (tm : Int), .int .i64 ty] 54)) (fun _ _ h => h))
          have HE2 := Lib.hid (RowN.keep HT9.out ((Keeps.refl NoBlock w11).alloc (.cells #[.string (strOfNums (ys.drop tm)), .int .i64 (tm : Int), .int .i64 ty] 54)) (fun _ _ h => h))
          have HQ := Lib.hid (HQ.out.alloc (.cells #[.string (strOfNums (ys.drop tm)), .int .i64 (tm : Int), .int .i64 ty] 54))
          subst hy
          clear hDr hmr hmd hdd hq hat hnew
          go_wp2_with fail
          refine (same12_go qr q9 m9 dr d9 tl _ HM9.out (by have := HM9.out; have := HTl.out; omega) HE1.out HE2.out).mono ?_
          rintro e w12 ⟨rfl, hk⟩
          have HQ := Lib.hid (HQ.out.trans (hk.wider (S' := fun i => w1.heap.size ≤ i) (fun _ _ h => h.elim)))
          clear hk
          go_wp2_with fail
          go_ret
          exact ⟨by first | rfl | simp, HK1.out.then HQ.out (fun i hi h => by have := HSz.out; omega)⟩
        · have hyb : (ty != 0) = true := by rw [bne_iff_ne]; exact hy
          have hyd : decide (ty = 0) = false := decide_eq_false hy
          have HQ := Lib.hid (HQ.out.alloc (.cells #[.string (strOfNums (ys.drop tm)), .int .i64 (tm : Int), .int .i64 ty] 54))
          clear hy
          go_wp2_with fail
          go_ret
          exact ⟨by first | rfl | simp, HK1.out.then HQ.out (fun i hi h => by have := HSz.out; omega)⟩
end Go.Proofs.Ytidhcmamfdipiaa

namespace Go.Proofs.Ytidhcmamfdipiaa
open Go.RowKit Go.Sort

set_option maxHeartbeats 1000000 in
theorem less64_own (x y : Nat) (w : World) : Calls Try.prog 60 #[.int .u64 (x : Int), .int .u64 (y : Int)] w fun e w' => e = .returned (.bool (decide (x < y))) ∧ w' = w := by
  have HA := Lib.hid (fun w => nan64_own x w)
  go_enter Try.func60, Try.ntmps60
  go_wp2_with fail
  refine (HA.out _).mono ?_
  rintro e w1 ⟨rfl, rfl⟩
  go_wp2_with fail
  go_ret
  exact ⟨rfl, rfl⟩

theorem risesF_adj : ∀ {l : List Nat}, risesF l = true ↔ ∀ i, i + 1 < l.length → l.getD i 0 ≤ l.getD (i + 1) 0
  | [] => by simp [risesF]
  | [x] => by simp [risesF]
  | x :: y :: l => by
    rw [risesF, Bool.and_eq_true, risesF_adj (l := y :: l)]
    constructor
    · rintro ⟨h1, h2⟩ i hi
      match i with
      | 0 => simpa using h1
      | i + 1 => simpa using h2 i (by simp at hi ⊢; omega)
    · intro h
      refine ⟨by simpa using h 0 (by simp), fun i hi => ?_⟩
      simpa using h (i + 1) (by simp at hi ⊢; omega)

set_option maxHeartbeats 4000000 in
set_option maxRecDepth 10000 in
theorem sorted64_own (p : Option Addr) (n c : Nat) (l : List Nat) (hn : n = l.length) (hn0 : 0 < n) (hn9 : n ≤ 1000000) (w : World) (hl : RowN w p l) :
    Calls Try.prog 45 #[.slice p n c] w fun e w' => e = .returned (.bool (risesF l)) ∧ Keeps NoBlock w w' := by
  have HL := Lib.hid hl
  have HN := Lib.hid hn
  have HCmp := Lib.hid (fun a b w => less64_own a b w)
  have mixed : Try.prog.follows .mixedOrders = true := by kernel_rfl
  obtain ⟨M, hM⟩ : ∃ M, n = M + 1 := ⟨n - 1, by omega⟩
  have hs : (n : Int) - 1 = (M : Int) := by omega
  have hM9 : M ≤ 1000000 := by omega
  have HM := Lib.hid hM
  clear hl hn hM
  go_enter Try.func45, Try.ntmps45
  go_wp2_with fail
  go_loopw [3] (fun i wr => ∃ m : Nat, m ≤ M ∧ i = .int .i64 (m : Int) ∧ Hid (∀ i, m ≤ i → i + 1 < n → l.getD i 0 ≤ l.getD (i + 1) 0) ∧ Keeps NoBlock w wr) (fun i _ => (intOf i).toNat)
  case atStart => exact ⟨M, Nat.le_refl _, by go_num, Lib.hid (fun i h1 h2 => by have := HM.out; omega), Keeps.refl _ _⟩
  case round =>
    obtain ⟨m, hm, rfl, HA, hkk⟩ := hrel
    have HK := Lib.hid hkk
    clear hkk
    by_cases hlt : 0 < m
    · obtain ⟨m, rfl⟩ : ∃ k, m = k + 1 := ⟨m - 1, by omega⟩
      have hdk : decide (0 < ((m + 1 : Nat) : Int)) = true := decide_eq_true (by omega)
      have hdk2 : decide (0 < (m : Int) + 1) = true := decide_eq_true (by omega)
      obtain ⟨a, rfl, c0⟩ := (RowN.keep HL.out HK.out (fun _ _ h => h)) (m + 1) (by have := HN.out; have := HM.out; omega)
      obtain ⟨b, hb, d0⟩ := (RowN.keep HL.out HK.out (fun _ _ h => h)) m (by have := HN.out; have := HM.out; omega)
      obtain rfl := Option.some.inj hb
      obtain ⟨r, hr⟩ : ∃ r, r = l.getD (m + 1) 0 := ⟨_, rfl⟩
      obtain ⟨s, hs⟩ : ∃ s, s = l.getD m 0 := ⟨_, rfl⟩
      rw [← hr, show a.add (m + 1) = ⟨a.block, a.off + (m + 1), none⟩ from by unfold Addr.add; rw [if_neg (by omega)]] at c0
      rw [← hs] at d0
      have HRr := Lib.hid hr
      have HSs := Lib.hid hs
      clear hr hs hb
      have C0 : ∀ n os, (grow (wr.drewN n) os).cell? _ = _ := fun n os => cellG c0 n os
      have D0 : ∀ n os, (grow (wr.drewN n) os).cell? _ = _ := fun n os => cellG d0 n os
      clear c0 d0
      have hmn1 : m + 1 < n := by have := HM.out; omega
      have hmn : (m : Int) < (n : Int) := by omega
      have hmn2 : m < n := by omega
      have hmn3 : (m : Int) + 1 < (n : Int) := by omega
      have hm3 : (0 : Int) ≤ (m : Int) + 1 := by omega
      have hm4 : ((m : Int) + 1).toNat = m + 1 := by omega
      have hm0 : (0 : Int) ≤ (m : Int) := by omega
      have w1 : IntKind.i64.wrap (m : Int) = (m : Int) := by rw [IntKind.wrap_i64]; omega
      have hms : (m : Int) + 1 - 1 = (m : Int) := by omega
      have hcall := fun k os => HCmp.out r s (grow (wr.drewN k) os)
      have hcall2 : ∀ k os, Calls Try.prog 60 #[.int .u64 (r : Int), .int .u64 (s : Int)] (grow (wr.drewN k) os) fun e w' => e = .returned (.bool (decide (r < s))) ∧ ∃ q os', w' = grow ((grow (wr.drewN k) os).drewN q) os' := fun k os => (hcall k os).mono fun e w' ⟨h1, h2⟩ => ⟨h1, 0, #[], by rw [h2, grow_empty]; rfl⟩
      clear hcall
      by_cases hls : r < s
      · have HB : Hid (risesF l = false) := Lib.hid (by
          cases hb : risesF l
          · rfl
          · have h := risesF_adj.1 hb m (by have := HN.out; have := HM.out; omega)
            rw [← HRr.out, ← HSs.out] at h
            omega)
        rw [decide_eq_true hls] at hcall2
        clear hls
        go_wp2_with fail
        go_quiet_grown ((go_at_call 60; exact Calls.grown_of (hcall2 _ _)))
        go_wp2_with fail
        go_ret
        rw [HB.out]
        exact ⟨rfl, by first | exact keepsG HK.out _ _ | exact (keepsG HK.out _ _).drew⟩
      · have HLs := Lib.hid hls
        rw [decide_eq_false hls] at hcall2
        clear hls
        go_wp2_with fail
        go_quiet_grown ((go_at_call 60; exact Calls.grown_of (hcall2 _ _)))
        go_wp2_with fail
        go_roundw
        case rel =>
          refine ⟨m, by omega, by go_num, Lib.hid (fun i h1 h2 => ?_), by first | exact keepsG HK.out _ _ | exact (keepsG HK.out _ _).drew⟩
          by_cases he : i = m
          · rw [he, ← HRr.out, ← HSs.out]
            have := HLs.out
            omega
          · exact HA.out i (by omega) h2
        case measure => simp [intOf]
    · obtain rfl : m = 0 := by omega
      have HB : Hid (risesF l = true) := Lib.hid (risesF_adj.2 fun i hi => HA.out i (by omega) (by have := HN.out; omega))
      go_wp2_with fail
      go_ret
      rw [HB.out]
      exact ⟨rfl, HK.out⟩
end Go.Proofs.Ytidhcmamfdipiaa

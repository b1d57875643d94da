/-
  The walk of the law TableBytes. Written by wip/tools/gen_tabbytes.py.
-/
import Derived.Test.YtbchiccgkhnkaaaTabByIn
import Derived.Test.YtbchiccgkhnkaaaBufO
import Derived.Test.YtbchiccgkhnkaaaSwap
import Derived.Test.YtbchiccgkhnkaaaIn8
namespace Go.Proofs.Ytbchiccgkhnkaaa
open Go.RowKit

theorem getE_len (z : Int) (xs : List Int) : (getE z xs).l.length ≤ xs.length := by
  unfold getE
  split
  · simp
  · split
    · simp
    · split
      · simp only [takeE_length]; omega
      · simp
theorem recMakeFn11 : ∀ (fn : Fn) (first cap : Array Value) (w : World), (Instr.makeFunc fn first cap).run Try.prog w = .ok (.func fn first cap) w := fun _ _ _ _ => rfl
theorem Keeps.onBuf5 {B g : Nat} {a b : World} (h : Keeps (OnBuf B g) a b) (hB : B ≤ g) : Keeps (fun k => B ≤ k) a b := h.wider (fun k _ hk => by rcases hk with rfl | hk <;> omega)

set_option maxHeartbeats 16000000 in
set_option maxRecDepth 10000 in
theorem tabbytes_walk (H : SortOk) (HB : BytesOk) (p : Option Addr) (n c : Nat) (l : List En) (pb : Option Addr) (N cb : Nat) (ys : List Int) (z : Int) (w : World) (h : InE w p n c l) (hb : In8 w pb N cb ys) :
    Calls Try.prog 5 #[.slice p n c, .slice pb N cb, .int .i64 z] w fun e w' => e = .returned (.bool true) ∧ Keeps NoBlock w w' := by
  have HL := Lib.hid (fun w => lives11_true H w)
  have HA0 := Lib.hid ((Whole.new w 22 #[.slice p n c]).alloc (.cells #[.int .i64 z] 3))
  have HA1 := Lib.hid (Whole.newAt (w.alloc (.cells #[.slice p n c] 22)) 3 #[.int .i64 z] (w.heap.size + 1) (by simp))
  have HK0 := Lib.hid (((Keeps.refl NoBlock w).alloc (.cells #[.slice p n c] 22)).alloc (.cells #[.int .i64 z] 3))
  by_cases hn : n ≤ 60 ∧ N ≤ 600
  rotate_left
  · by_cases hn1 : n ≤ 60
    · have hd : decide ((60 : Int) < (n : Int)) = false := decide_eq_false (by omega)
      have hd2 : decide (60 < n) = false := decide_eq_false (by omega)
      have hd3 : decide ((600 : Int) < (N : Int)) = true := decide_eq_true (by omega)
      have hd4 : decide (600 < N) = true := decide_eq_true (by omega)
      have hn2 : ¬ 60 < n := by omega
      have hn3 : 600 < N := by omega
      clear h hb H HB hn hn1
      go_enter Try.func5, Try.ntmps5
      go_wp2_with fail
      refine (HL.out _).mono ?_
      rintro e w1 ⟨rfl, hk⟩
      have a0 := (HA0.out.keep hk (fun h => h)).cell 0 rfl
      simp only [List.getElem_toArray, List.getElem_cons_zero] at a0
      have HK := Lib.hid (HK0.out.trans hk)
      clear hk
      go_wp2_with fail
      refine (HL.out _).mono ?_
      rintro e w2 ⟨rfl, hk⟩
      have HK := Lib.hid (HK.out.trans hk)
      clear hk a0
      go_wp2_with fail
      go_ret
      exact ⟨rfl, HK.out⟩
    · have hd : decide ((60 : Int) < (n : Int)) = true := decide_eq_true (by omega)
      have hd2 : decide (60 < n) = true := decide_eq_true (by omega)
      have hn2 : 60 < n := by omega
      clear h hb H HB hn hn1
      go_enter Try.func5, Try.ntmps5
      go_wp2_with fail
      refine (HL.out _).mono ?_
      rintro e w1 ⟨rfl, hk⟩
      have a0 := (HA0.out.keep hk (fun h => h)).cell 0 rfl
      simp only [List.getElem_toArray, List.getElem_cons_zero] at a0
      have HK := Lib.hid (HK0.out.trans hk)
      clear hk
      go_wp2_with fail
      refine (HL.out _).mono ?_
      rintro e w2 ⟨rfl, hk⟩
      have HK := Lib.hid (HK.out.trans hk)
      clear hk a0
      go_wp2_with fail
      go_ret
      exact ⟨rfl, HK.out⟩
  obtain ⟨hn, hN⟩ := hn
  have hd : decide ((60 : Int) < (n : Int)) = false := decide_eq_false (by omega)
  have hd2 : decide (60 < n) = false := decide_eq_false (by omega)
  have hd3 : decide ((600 : Int) < (N : Int)) = false := decide_eq_false (by omega)
  have hd4 : decide (600 < N) = false := decide_eq_false (by omega)
  have hn2 : ¬ 60 < n := by omega
  have hn3 : ¬ 600 < N := by omega
  have HLn := Lib.hid h.len
  have HFine := Lib.hid h.fine
  have HAt := Lib.hid (EnsAt.keep h.at_ HK0.out)
  have HBb := Lib.hid (hb.at_.keep HK0.out (fun _ _ h => h))
  have HFar : Hid (0 < l.length → ∀ a, p = some a → a.block < w.heap.size) := Lib.hid (fun h0 a ha => by
    obtain ⟨a', ha', c0, _⟩ := h.at_.at_ 0 h0
    obtain rfl := Option.some.inj (ha.symm.trans ha')
    have := ltOfCell c0
    rwa [addBlock] at this)
  have HFarb : Hid (0 < ys.length → ∀ a, pb = some a → a.block < w.heap.size) := Lib.hid (fun h0 a ha => by
    obtain ⟨a', ha', hc0⟩ := hb.at_ h0
    obtain rfl := Option.some.inj (ha.symm.trans ha')
    have := ltOfCell (hc0 0 h0)
    rwa [addBlock] at this)
  have htl := textE_length l
  rw [← h.len] at htl
  have HPut := Lib.hid (fun g W (hB : BufAt W g g []) (hs : g ≤ W.heap.size) (ha : EnsAt W p l) (hf : 0 < n → ∀ a, p = some a → ¬ OnBuf g g a.block) =>
    (show Calls Try.prog 16 #[.pointer (some ⟨g, 0, none⟩), .slice p n c] W fun e w' => e = .returned (.tuple #[]) ∧ BufAt w' g g (textE l) ∧ Keeps (OnBuf g g) W w' from HB.put g g [] p n c l W hB hs ⟨h.len, h.cap, h.room, h.bare, h.fine, ha⟩ (by omega) hf (by simp)))
  have HBy := Lib.hid (fun g W (hB : BufAt W g g (textE l)) => bufBytes g g (textE l) W hB (by omega))
  have hget := getE_text h.fine
  rw [← h.len] at hget
  have HRn := Lib.hid (fun w0 A Dd q d (hA : Whole w0 A 22 #[.slice p n c]) (hDd : Whole w0 Dd 22 #[.slice none 0 0]) (h8 : Bytes8 w0 q (textE l)) (hd : 12 * n ≤ d) (hd' : d ≤ 9223372036854775807) => run_tb1 HB w0 A Dd p n c q (textE l) (12 * n) d htl.symm (by omega) hA hDd h8 (textE_octets l) hd hd' (by rw [hget]; split <;> simp))
  rw [hget] at HRn
  have HRn2 := Lib.hid (fun w0 A Dd (hA : Whole w0 A 3 #[.int .i64 z]) (hDd : Whole w0 Dd 22 #[.slice none 0 0]) (h8 : Bytes8 w0 pb ys) => run_tb2 HB w0 A Dd z pb ys N cb hb.len (by omega) hA hDd h8 hb.oct hb.cap hb.room)
  have HGr := Lib.hid (fun w => getents_ref z ys hb.oct (by have := hb.len; omega) 0 (by decide) w)
  have HRef := Lib.hid (fun w h' => refs_go p n c l HLn.out (by omega) w h')
  have HTx := Lib.hid (fun q d w h' => text11_ref q n d l HLn.out (by omega) HFine.out w h')
  have HRr := Lib.hid (fun q d w h' => rising11_ref q n d l HLn.out (by omega) w h')
  have HSa := Lib.hid (fun q q2 d d2 w h1 h2 => same11_go q q2 n d d2 l w HLn.out (by omega) h1 h2)
  have HTl : Hid ((getE z ys).l.length ≤ 600) := Lib.hid (Nat.le_trans (getE_len z ys) (by have := hb.len; omega))
  unfold GotE at HGr
  rw [Int.zero_add] at HGr
  unfold rdr at HGr
  obtain ⟨t, ht⟩ : ∃ t, t = getE z ys := ⟨_, rfl⟩
  rw [← ht] at HRn2 HGr HTl
  obtain ⟨tm, ty, tl⟩ := t
  simp only at HRn2 HGr HTl
  unfold LeftE at HRn2
  simp only at HRn2
  clear ht
  have HX := Lib.hid hb.len
  have HNn := Lib.hid htl
  rw [htl] at HBy
  obtain ⟨M, hM⟩ : ∃ M, M = 12 * n := ⟨_, rfl⟩
  rw [← hM] at HBy HRn
  have HM : Hid (M = (textE l).length) := Lib.hid (by rw [htl, hM])
  have hM9 : M ≤ 720 := by omega
  clear h hb H HB htl hget hM
  by_cases hR : risesE l = true
  · rw [if_pos hR] at HRn
    rw [hR] at HRr
    clear hR
    go_enter Try.func5, Try.ntmps5
    go_wp2_with fail
    refine (HL.out _).mono ?_
    rintro e w1 ⟨rfl, hk⟩
    have HA0 := Lib.hid (HA0.out.keep hk (fun h => h))
    have HA1 := Lib.hid (HA1.out.keep hk (fun h => h))
    have HAt := Lib.hid (EnsAt.keep HAt.out hk)
    have HBb := Lib.hid (HBb.out.keep hk (fun _ _ h => h))
    have HK1 := Lib.hid (HK0.out.trans hk)
    have HSz : Hid (w.heap.size + 1 < w1.heap.size) := Lib.hid HA1.out.lt
    have a0 := ((HA0.out.alloc (.cells #[.slice none 0 0] 40)).cell 0 rfl)
    have a0' := HA0.out.cell 0 rfl
    simp only [List.getElem_toArray, List.getElem_cons_zero] at a0 a0'
    clear hk HL
    go_wp2_with fail
    refine (HPut.out w1.heap.size _ (bufNewB w1 w1.heap.size) (by simp) (EnsAt.keep HAt.out ((Keeps.refl NoBlock w1).alloc _)) (fun h0 a ha => by have := HFar.out (by rw [← HLn.out]; exact h0) a ha; have := HSz.out; unfold OnBuf; omega)).mono ?_
    rintro e w2 ⟨rfl, hbuf, hk⟩
    have HQ := Lib.hid (((Keeps.refl (fun i => w1.heap.size ≤ i) w1).alloc (.cells #[.slice none 0 0] 40)).trans (hk.onBuf5 (Nat.le_refl _)))
    have HBf := Lib.hid (show BufAt (w2.alloc (.cells #[.slice none 0 0] 22)) w1.heap.size w1.heap.size (textE l) from hbuf.keepO ((Keeps.refl NoBlock w2).alloc _) (fun h => h) (fun _ _ _ _ h => h))
    have HDd := Lib.hid (Whole.new w2 22 #[.slice none 0 0])
    have HQ := Lib.hid (HQ.out.alloc (.cells #[.slice none 0 0] 22))
    have HSz2 := Lib.hid (show w1.heap.size + 1 ≤ w2.heap.size by have := hk.size; simpa using this)
    clear hbuf hk a0 a0'
    go_wp2_with fail
    refine (HBy.out w1.heap.size _ HBf.out).mono ?_
    rintro e w3 ⟨v, rfl, qb, db, rfl, hdb, hdb', hby, hqb, hk⟩
    have HBf := Lib.hid (HBf.out.keepO hk (fun h => h) (fun _ _ _ _ h => h))
    have HDd := Lib.hid (HDd.out.keep hk (fun h => h))
    have HQ := Lib.hid (HQ.out.trans (hk.wider (S' := fun i => w1.heap.size ≤ i) (fun _ _ h => h.elim)))
    have HBx := Lib.hid hby
    have hdb9 : db ≤ 9223372036854775807 := by first | omega | (unfold maxLen at hdb'; omega) | exact hdb'
    have hmf := recMakeFn11
    clear hk hby hqb hdb'
    go_wp2_with fail
    refine (HRn.out _ w.heap.size w2.heap.size qb db (HA0.out.keep HQ.out (by have := HSz.out; omega)) HDd.out HBx.out hdb hdb9).mono ?_
    rintro e w4 ⟨rfl, hkd, hrow⟩
    have HBf := Lib.hid (HBf.out.keepO hkd (by have := HSz2.out; unfold Just; omega) (fun j cs hj hbj hjd => by unfold Just at hjd; subst hjd; have := (Whole.unique hj HDd.out).1; revert this; decide))
    have HQ := Lib.hid (HQ.out.trans (hkd.wider (S' := fun i => w1.heap.size ≤ i) (fun i _ h => by unfold Just at h; have := HSz2.out; omega)))
    obtain ⟨qd, md, dd, hDd, hm, hmd, hdd, hq, hat, hnew⟩ := hrow rfl
    have hme : n = md := by rw [hm, ← HLn.out]
    subst hme
    have HDd := Lib.hid (show Whole w4 w2.heap.size 22 #[.slice qd n dd] from hDd)
    have HBk := Lib.hid (show EnsAt w4 qd l from hat)
    clear hDd hm hmd hdd hq hat hnew
    clear hkd hrow
    have HBy7 := Lib.hid (fun W hB => HBy.out w1.heap.size W hB)
    clear HBx HBy HPut HRn
    obtain ⟨W, rfl⟩ : ∃ W, W = w4 := ⟨_, rfl⟩
    go_wp2_with fail
    have sN : W.drew.cell? ⟨w.heap.size, 0, none⟩ = some (.slice p n c) ∧ W.drew.cell? ⟨w2.heap.size, 0, none⟩ = some (.slice qd n dd) := ⟨(HA0.out.keep HQ.out (by have := HSz.out; omega)).cell 0 rfl, HDd.out.cell 0 rfl⟩
    refine wp_region_held_drew (S := fun w' => w'.cell? ⟨w.heap.size, 0, none⟩ = some (.slice p n c) ∧ w'.cell? ⟨w2.heap.size, 0, none⟩ = some (.slice qd n dd)) (by kernel_rfl) sN (fun hHeld => ?_)
    refine wpAnyH_take (i := 2) (v := ?vT1) rfl ?aT1 ?bT1 ?cT1 ?dT1 (Or.inl ⟨?eT1, ?fT1⟩) hHeld ?gT1
    case fT1 => intro w hSw; (try dsimp only at hSw); go_simp; (try with_reducible rfl)
    case aT1 => kernel_rfl
    case bT1 => kernel_rfl
    case cT1 => kernel_rfl
    case dT1 => exact fun _ _ _ h => h
    case eT1 => rfl
    simp only [Act.put, List.getElem_toArray, List.getElem_cons_zero, List.getElem_cons_succ, List.setIfInBounds_toArray, List.set_cons_zero, List.set_cons_succ]
    refine wpAnyH_ready (rs := [0]) (by kernel_rfl) (by simp) ?_
    refine (AllReadyH.cons (o := _) rfl (fun K hK => ?_) AllReadyH.nil)
    go_simp
    refine (HBy7.out _ (by exact HBf.out)).mono ?_
    rintro e w9 ⟨v, rfl, q5, d5, rfl, hd5, hd5', hby5, hq5, hk⟩
    have hk' : Keeps NoBlock W w9 := by first | exact hk | exact hk.ofDrew | exact hk.ofDrewN
    have HQ := Lib.hid (HQ.out.trans (hk'.wider (S' := fun i => w1.heap.size ≤ i) (fun _ _ h => h.elim)))
    have HDd := Lib.hid (HDd.out.keep hk' (fun h => h))
    have HBk := Lib.hid (EnsAt.keep HBk.out hk')
    have HB5 := Lib.hid hby5
    clear hd5 hd5' hq5 hby5 hk hk'
    have hS : ((fun w' => w'.cell? ⟨w.heap.size, 0, none⟩ = some (.slice p n c) ∧ w'.cell? ⟨w2.heap.size, 0, none⟩ = some (.slice qd n dd)) w9) ∧ ((fun w' => (convert 38 9 (.slice q5 M d5)).run Try.prog w' = .ok (.string (strOfNums (textE l))) w') w9) := ⟨⟨(HA0.out.keep HQ.out (by have := HSz.out; omega)).cell 0 rfl, HDd.out.cell 0 rfl⟩, textOf q5 M d5 (textE l) w9 HM.out HB5.out⟩
    obtain ⟨W, rfl⟩ : ∃ W, W = w9 := ⟨_, rfl⟩
    clear HBf
    go_wp2_with fail
    refine hK.out _ _ hS.1 (fun _ => ?_)
    clear hK K
    refine wpAnyH_swap (S' := fun w' => (w'.cell? ⟨w.heap.size, 0, none⟩ = some (.slice p n c) ∧ w'.cell? ⟨w2.heap.size, 0, none⟩ = some (.slice qd n dd)) ∧ (convert 38 9 (.slice q5 M d5)).run Try.prog w' = .ok (.string (strOfNums (textE l))) w') (fun _ h => h.1) _ _ _ _ ?_
    refine wpAnyH_take (i := 1) (v := ?vT2) rfl ?aT2 ?bT2 ?cT2 ?dT2 (Or.inl ⟨?eT2, ?fT2⟩) hS ?gT2
    case fT2 => intro w hSw; (try dsimp only at hSw); go_simp; (try with_reducible rfl)
    case aT2 => kernel_rfl
    case bT2 => kernel_rfl
    case cT2 => kernel_rfl
    case dT2 => exact fun _ _ _ h => h
    case eT2 => rfl
    simp only [Act.put, List.getElem_toArray, List.getElem_cons_zero, List.getElem_cons_succ, List.setIfInBounds_toArray, List.set_cons_zero, List.set_cons_succ]
    refine wpAnyH_ready (rs := [3]) (by kernel_rfl) (by simp) ?_
    refine (AllReadyH.cons (o := _) rfl (fun K hK => ?_) AllReadyH.nil)
    clear hS
    go_simp
    refine (HRef.out _ (by exact (EnsAt.keepFar HAt.out HQ.out (fun h0 a ha => by have := HFar.out h0 a ha; have := HSz.out; omega)))).mono ?_
    rintro e w9 ⟨v, rfl, q6, m6, d6, rfl, hm, hmd, hdd, hq, hat, hk⟩
    have hme : n = m6 := by rw [hm, ← HLn.out]
    subst hme
    have hk' : Keeps NoBlock W w9 := by first | exact hk | exact hk.ofDrew | exact hk.ofDrewN
    have HQ := Lib.hid (HQ.out.trans (hk'.wider (S' := fun i => w1.heap.size ≤ i) (fun _ _ h => h.elim)))
    have HDd := Lib.hid (HDd.out.keep hk' (fun h => h))
    have HBk := Lib.hid (EnsAt.keep HBk.out hk')
    have HR6 := Lib.hid (show EnsAt w9 q6 l from hat)
    have HB5 := Lib.hid (HB5.out.keep hk' (fun _ _ h => h))
    clear hm hmd hdd hq hat hk hk'
    have hS : ((fun w' => w'.cell? ⟨w.heap.size, 0, none⟩ = some (.slice p n c) ∧ w'.cell? ⟨w2.heap.size, 0, none⟩ = some (.slice qd n dd)) w9) ∧ ((fun w' => (convert 38 9 (.slice q5 M d5)).run Try.prog w' = .ok (.string (strOfNums (textE l))) w') w9) := ⟨⟨(HA0.out.keep HQ.out (by have := HSz.out; omega)).cell 0 rfl, HDd.out.cell 0 rfl⟩, textOf q5 M d5 (textE l) w9 HM.out HB5.out⟩
    obtain ⟨W, rfl⟩ : ∃ W, W = w9 := ⟨_, rfl⟩
    go_wp2_with fail
    refine hK.out _ _ hS (fun _ => ?_)
    clear hK K
    refine wpAnyH_ready (rs := [4]) (by kernel_rfl) (by simp) ?_
    refine (AllReadyH.cons (o := _) rfl (fun K hK => ?_) AllReadyH.nil)
    clear hS
    go_simp
    refine (HTx.out q6 d6 _ (by exact HR6.out)).mono ?_
    rintro e w9 ⟨rfl, hk⟩
    have hk' : Keeps NoBlock W w9 := by first | exact hk | exact hk.ofDrew | exact hk.ofDrewN
    have HQ := Lib.hid (HQ.out.trans (hk'.wider (S' := fun i => w1.heap.size ≤ i) (fun _ _ h => h.elim)))
    have HDd := Lib.hid (HDd.out.keep hk' (fun h => h))
    have HBk := Lib.hid (EnsAt.keep HBk.out hk')
    have HB5 := Lib.hid (HB5.out.keep hk' (fun _ _ h => h))
    clear hk hk'
    have hS : ((fun w' => w'.cell? ⟨w.heap.size, 0, none⟩ = some (.slice p n c) ∧ w'.cell? ⟨w2.heap.size, 0, none⟩ = some (.slice qd n dd)) w9) ∧ ((fun w' => (convert 38 9 (.slice q5 M d5)).run Try.prog w' = .ok (.string (strOfNums (textE l))) w') w9) := ⟨⟨(HA0.out.keep HQ.out (by have := HSz.out; omega)).cell 0 rfl, HDd.out.cell 0 rfl⟩, textOf q5 M d5 (textE l) w9 HM.out HB5.out⟩
    obtain ⟨W, rfl⟩ : ∃ W, W = w9 := ⟨_, rfl⟩
    go_wp2_with fail
    refine hK.out _ _ hS (fun _ => ?_)
    clear hK K
    refine wpAnyH_take (i := 5) (v := ?vT3) rfl ?aT3 ?bT3 ?cT3 ?dT3 (Or.inl ⟨?eT3, ?fT3⟩) hS ?gT3
    case fT3 => intro w hSw; (try dsimp only at hSw); go_simp; (try with_reducible rfl)
    case aT3 => kernel_rfl
    case bT3 => kernel_rfl
    case cT3 => kernel_rfl
    case dT3 => exact fun _ _ _ h => h
    case eT3 => rfl
    simp only [Act.put, List.getElem_toArray, List.getElem_cons_zero, List.getElem_cons_succ, List.setIfInBounds_toArray, List.set_cons_zero, List.set_cons_succ]
    refine wpAnyH_take (i := 6) (v := ?vT4) rfl ?aT4 ?bT4 ?cT4 ?dT4 (Or.inl ⟨?eT4, ?fT4⟩) hS ?gT4
    case fT4 => intro w hSw; (try dsimp only at hSw); go_simp; (try with_reducible rfl)
    case aT4 => kernel_rfl
    case bT4 => kernel_rfl
    case cT4 => kernel_rfl
    case dT4 => exact fun _ _ _ h => h
    case eT4 => rfl
    simp only [Act.put, List.getElem_toArray, List.getElem_cons_zero, List.getElem_cons_succ, List.setIfInBounds_toArray, List.set_cons_zero, List.set_cons_succ]
    refine wpAnyH_take (i := 7) (v := ?vT5) rfl ?aT5 ?bT5 ?cT5 ?dT5 (Or.inl ⟨?eT5, ?fT5⟩) hS ?gT5
    case fT5 => intro w hSw; (try dsimp only at hSw); go_simp; (try with_reducible rfl)
    case aT5 => kernel_rfl
    case bT5 => kernel_rfl
    case cT5 => kernel_rfl
    case dT5 => exact fun _ _ _ h => h
    case eT5 => rfl
    simp only [Act.put, List.getElem_toArray, List.getElem_cons_zero, List.getElem_cons_succ, List.setIfInBounds_toArray, List.set_cons_zero, List.set_cons_succ]
    refine wpAnyH_take (i := 8) (v := ?vT6) rfl ?aT6 ?bT6 ?cT6 ?dT6 (Or.inl ⟨?eT6, ?fT6⟩) hS ?gT6
    case fT6 => intro w hSw; (try dsimp only at hSw); go_simp; (try with_reducible rfl)
    case aT6 => kernel_rfl
    case bT6 => kernel_rfl
    case cT6 => kernel_rfl
    case dT6 => exact fun _ _ _ h => h
    case eT6 => rfl
    simp only [Act.put, List.getElem_toArray, List.getElem_cons_zero, List.getElem_cons_succ, List.setIfInBounds_toArray, List.set_cons_zero, List.set_cons_succ]
    refine wpAnyH_take (i := 9) (v := ?vT7) rfl ?aT7 ?bT7 ?cT7 ?dT7 (Or.inl ⟨?eT7, ?fT7⟩) hS ?gT7
    case fT7 => intro w hSw; (try dsimp only at hSw); go_simp; (try with_reducible rfl)
    case aT7 => kernel_rfl
    case bT7 => kernel_rfl
    case cT7 => kernel_rfl
    case dT7 => exact fun _ _ _ h => h
    case eT7 => rfl
    simp only [Act.put, List.getElem_toArray, List.getElem_cons_zero, List.getElem_cons_succ, List.setIfInBounds_toArray, List.set_cons_zero, List.set_cons_succ]
    refine wpAnyH_ready (rs := [10]) (by kernel_rfl) (by simp) ?_
    refine (AllReadyH.cons (o := _) rfl (fun K hK => ?_) AllReadyH.nil)
    clear hS
    go_simp
    refine (HRef.out _ (by exact (EnsAt.keepFar HAt.out HQ.out (fun h0 a ha => by have := HFar.out h0 a ha; have := HSz.out; omega)))).mono ?_
    rintro e w9 ⟨v, rfl, q7, m7, d7, rfl, hm, hmd, hdd, hq, hat, hk⟩
    have hme : n = m7 := by rw [hm, ← HLn.out]
    subst hme
    have hk' : Keeps NoBlock W w9 := by first | exact hk | exact hk.ofDrew | exact hk.ofDrewN
    have HQ := Lib.hid (HQ.out.trans (hk'.wider (S' := fun i => w1.heap.size ≤ i) (fun _ _ h => h.elim)))
    have HDd := Lib.hid (HDd.out.keep hk' (fun h => h))
    have HBk := Lib.hid (EnsAt.keep HBk.out hk')
    have HR7 := Lib.hid (show EnsAt w9 q7 l from hat)
    have HB5 := Lib.hid (HB5.out.keep hk' (fun _ _ h => h))
    clear hm hmd hdd hq hat hk hk'
    have hS : ((fun w' => w'.cell? ⟨w.heap.size, 0, none⟩ = some (.slice p n c) ∧ w'.cell? ⟨w2.heap.size, 0, none⟩ = some (.slice qd n dd)) w9) ∧ ((fun w' => (convert 38 9 (.slice q5 M d5)).run Try.prog w' = .ok (.string (strOfNums (textE l))) w') w9) := ⟨⟨(HA0.out.keep HQ.out (by have := HSz.out; omega)).cell 0 rfl, HDd.out.cell 0 rfl⟩, textOf q5 M d5 (textE l) w9 HM.out HB5.out⟩
    obtain ⟨W, rfl⟩ : ∃ W, W = w9 := ⟨_, rfl⟩
    go_wp2_with fail
    refine hK.out _ _ hS (fun _ => ?_)
    clear hK K
    refine wpAnyH_ready (rs := [11]) (by kernel_rfl) (by simp) ?_
    refine (AllReadyH.cons (o := _) rfl (fun K hK => ?_) AllReadyH.nil)
    clear hS
    go_simp
    refine (HRr.out q7 d7 _ (by exact HR7.out)).mono ?_
    rintro e w9 ⟨rfl, hk⟩
    have hk' : Keeps NoBlock W w9 := by first | exact hk | exact hk.ofDrew | exact hk.ofDrewN
    have HQ := Lib.hid (HQ.out.trans (hk'.wider (S' := fun i => w1.heap.size ≤ i) (fun _ _ h => h.elim)))
    have HDd := Lib.hid (HDd.out.keep hk' (fun h => h))
    have HBk := Lib.hid (EnsAt.keep HBk.out hk')
    have HB5 := Lib.hid (HB5.out.keep hk' (fun _ _ h => h))
    clear hk hk'
    have hS : ((fun w' => w'.cell? ⟨w.heap.size, 0, none⟩ = some (.slice p n c) ∧ w'.cell? ⟨w2.heap.size, 0, none⟩ = some (.slice qd n dd)) w9) ∧ ((fun w' => (convert 38 9 (.slice q5 M d5)).run Try.prog w' = .ok (.string (strOfNums (textE l))) w') w9) := ⟨⟨(HA0.out.keep HQ.out (by have := HSz.out; omega)).cell 0 rfl, HDd.out.cell 0 rfl⟩, textOf q5 M d5 (textE l) w9 HM.out HB5.out⟩
    obtain ⟨W, rfl⟩ : ∃ W, W = w9 := ⟨_, rfl⟩
    go_wp2_with fail
    refine hK.out _ _ hS (fun _ => ?_)
    clear hK K
    refine wpAnyH_take (i := 12) (v := ?vT8) rfl ?aT8 ?bT8 ?cT8 ?dT8 (Or.inl ⟨?eT8, ?fT8⟩) hS ?gT8
    case fT8 => intro w hSw; (try dsimp only at hSw); go_simp; (try with_reducible rfl)
    case aT8 => kernel_rfl
    case bT8 => kernel_rfl
    case cT8 => kernel_rfl
    case dT8 => exact fun _ _ _ h => h
    case eT8 => rfl
    simp only [Act.put, List.getElem_toArray, List.getElem_cons_zero, List.getElem_cons_succ, List.setIfInBounds_toArray, List.set_cons_zero, List.set_cons_succ]
    refine wpAnyH_take (i := 13) (v := ?vT9) rfl ?aT9 ?bT9 ?cT9 ?dT9 (Or.inl ⟨?eT9, ?fT9⟩) hS ?gT9
    case fT9 => intro w hSw; (try dsimp only at hSw); go_simp; (try with_reducible rfl)
    case aT9 => kernel_rfl
    case bT9 => kernel_rfl
    case cT9 => kernel_rfl
    case dT9 => exact fun _ _ _ h => h
    case eT9 => rfl
    simp only [Act.put, List.getElem_toArray, List.getElem_cons_zero, List.getElem_cons_succ, List.setIfInBounds_toArray, List.set_cons_zero, List.set_cons_succ]
    refine wpAnyH_take (i := 14) (v := ?vT10) rfl ?aT10 ?bT10 ?cT10 ?dT10 (Or.inl ⟨?eT10, ?fT10⟩) hS ?gT10
    case fT10 => intro w hSw; (try dsimp only at hSw); go_simp; (try with_reducible rfl)
    case aT10 => kernel_rfl
    case bT10 => kernel_rfl
    case cT10 => kernel_rfl
    case dT10 => exact fun _ _ _ h => h
    case eT10 => rfl
    simp only [Act.put, List.getElem_toArray, List.getElem_cons_zero, List.getElem_cons_succ, List.setIfInBounds_toArray, List.set_cons_zero, List.set_cons_succ]
    refine wpAnyH_take (i := 15) (v := ?vT11) rfl ?aT11 ?bT11 ?cT11 ?dT11 (Or.inl ⟨?eT11, ?fT11⟩) hS ?gT11
    case fT11 => intro w hSw; (try dsimp only at hSw); go_simp; (try with_reducible rfl)
    case aT11 => kernel_rfl
    case bT11 => kernel_rfl
    case cT11 => kernel_rfl
    case dT11 => exact fun _ _ _ h => h
    case eT11 => rfl
    simp only [Act.put, List.getElem_toArray, List.getElem_cons_zero, List.getElem_cons_succ, List.setIfInBounds_toArray, List.set_cons_zero, List.set_cons_succ]
    refine wpAnyH_take (i := 16) (v := ?vT12) rfl ?aT12 ?bT12 ?cT12 ?dT12 (Or.inl ⟨?eT12, ?fT12⟩) hS ?gT12
    case fT12 => intro w hSw; (try dsimp only at hSw); go_simp; (try with_reducible rfl)
    case aT12 => kernel_rfl
    case bT12 => kernel_rfl
    case cT12 => kernel_rfl
    case dT12 => exact fun _ _ _ h => h
    case eT12 => rfl
    simp only [Act.put, List.getElem_toArray, List.getElem_cons_zero, List.getElem_cons_succ, List.setIfInBounds_toArray, List.set_cons_zero, List.set_cons_succ]
    refine wpAnyH_take (i := 17) (v := ?vT13) rfl ?aT13 ?bT13 ?cT13 ?dT13 (Or.inl ⟨?eT13, ?fT13⟩) hS ?gT13
    case fT13 => intro w hSw; (try dsimp only at hSw); go_simp; (try with_reducible rfl)
    case aT13 => kernel_rfl
    case bT13 => kernel_rfl
    case cT13 => kernel_rfl
    case dT13 => exact fun _ _ _ h => h
    case eT13 => rfl
    simp only [Act.put, List.getElem_toArray, List.getElem_cons_zero, List.getElem_cons_succ, List.setIfInBounds_toArray, List.set_cons_zero, List.set_cons_succ]
    refine wpAnyH_take (i := 18) (v := ?vT14) rfl ?aT14 ?bT14 ?cT14 ?dT14 (Or.inl ⟨?eT14, ?fT14⟩) hS ?gT14
    case fT14 => intro w hSw; (try dsimp only at hSw); go_simp; (try with_reducible rfl)
    case aT14 => kernel_rfl
    case bT14 => kernel_rfl
    case cT14 => kernel_rfl
    case dT14 => exact fun _ _ _ h => h
    case eT14 => rfl
    simp only [Act.put, List.getElem_toArray, List.getElem_cons_zero, List.getElem_cons_succ, List.setIfInBounds_toArray, List.set_cons_zero, List.set_cons_succ]
    refine wpAnyH_take (i := 19) (v := ?vT15) rfl ?aT15 ?bT15 ?cT15 ?dT15 (Or.inl ⟨?eT15, ?fT15⟩) hS ?gT15
    case fT15 => intro w hSw; (try dsimp only at hSw); go_simp; (try with_reducible rfl)
    case aT15 => kernel_rfl
    case bT15 => kernel_rfl
    case cT15 => kernel_rfl
    case dT15 => exact fun _ _ _ h => h
    case eT15 => rfl
    simp only [Act.put, List.getElem_toArray, List.getElem_cons_zero, List.getElem_cons_succ, List.setIfInBounds_toArray, List.set_cons_zero, List.set_cons_succ]
    refine wpAnyH_ready (rs := [20]) (by kernel_rfl) (by simp) ?_
    refine (AllReadyH.cons (o := _) rfl (fun K hK => ?_) AllReadyH.nil)
    clear hS
    go_simp
    refine (HRef.out _ (by exact (EnsAt.keepFar HAt.out HQ.out (fun h0 a ha => by have := HFar.out h0 a ha; have := HSz.out; omega)))).mono ?_
    rintro e w9 ⟨v, rfl, q8, m8, d8, rfl, hm, hmd, hdd, hq, hat, hk⟩
    have hme : n = m8 := by rw [hm, ← HLn.out]
    subst hme
    have hk' : Keeps NoBlock W w9 := by first | exact hk | exact hk.ofDrew | exact hk.ofDrewN
    have HQ := Lib.hid (HQ.out.trans (hk'.wider (S' := fun i => w1.heap.size ≤ i) (fun _ _ h => h.elim)))
    have HDd := Lib.hid (HDd.out.keep hk' (fun h => h))
    have HBk := Lib.hid (EnsAt.keep HBk.out hk')
    have HR8 := Lib.hid (show EnsAt w9 q8 l from hat)
    have HB5 := Lib.hid (HB5.out.keep hk' (fun _ _ h => h))
    clear hm hmd hdd hq hat hk hk'
    have hS : ((fun w' => w'.cell? ⟨w.heap.size, 0, none⟩ = some (.slice p n c) ∧ w'.cell? ⟨w2.heap.size, 0, none⟩ = some (.slice qd n dd)) w9) ∧ ((fun w' => (convert 38 9 (.slice q5 M d5)).run Try.prog w' = .ok (.string (strOfNums (textE l))) w') w9) := ⟨⟨(HA0.out.keep HQ.out (by have := HSz.out; omega)).cell 0 rfl, HDd.out.cell 0 rfl⟩, textOf q5 M d5 (textE l) w9 HM.out HB5.out⟩
    obtain ⟨W, rfl⟩ : ∃ W, W = w9 := ⟨_, rfl⟩
    go_wp2_with fail
    refine hK.out _ _ hS (fun _ => ?_)
    clear hK K
    refine wpAnyH_ready (rs := [21]) (by kernel_rfl) (by simp) ?_
    refine (AllReadyH.cons (o := _) rfl (fun K hK => ?_) AllReadyH.nil)
    clear hS
    go_simp
    refine (HSa.out qd q8 dd d8 _ (by exact HBk.out) (by exact HR8.out)).mono ?_
    rintro e w9 ⟨rfl, hk⟩
    have hk' : Keeps NoBlock W w9 := by first | exact hk | exact hk.ofDrew | exact hk.ofDrewN
    have HQ := Lib.hid (HQ.out.trans (hk'.wider (S' := fun i => w1.heap.size ≤ i) (fun _ _ h => h.elim)))
    have HDd := Lib.hid (HDd.out.keep hk' (fun h => h))
    have HBk := Lib.hid (EnsAt.keep HBk.out hk')
    have HB5 := Lib.hid (HB5.out.keep hk' (fun _ _ h => h))
    clear hk hk'
    have hS : ((fun w' => w'.cell? ⟨w.heap.size, 0, none⟩ = some (.slice p n c) ∧ w'.cell? ⟨w2.heap.size, 0, none⟩ = some (.slice qd n dd)) w9) ∧ ((fun w' => (convert 38 9 (.slice q5 M d5)).run Try.prog w' = .ok (.string (strOfNums (textE l))) w') w9) := ⟨⟨(HA0.out.keep HQ.out (by have := HSz.out; omega)).cell 0 rfl, HDd.out.cell 0 rfl⟩, textOf q5 M d5 (textE l) w9 HM.out HB5.out⟩
    obtain ⟨W, rfl⟩ : ∃ W, W = w9 := ⟨_, rfl⟩
    go_wp2_with fail
    refine hK.out _ _ hS (fun _ => ?_)
    clear hK K
    refine wpAnyH_take (i := 22) (v := ?vT16) rfl ?aT16 ?bT16 ?cT16 ?dT16 (Or.inl ⟨?eT16, ?fT16⟩) hS ?gT16
    case fT16 => intro w hSw; (try dsimp only at hSw); go_simp; (try with_reducible rfl)
    case aT16 => kernel_rfl
    case bT16 => kernel_rfl
    case cT16 => kernel_rfl
    case dT16 => exact fun _ _ _ h => h
    case eT16 => rfl
    simp only [Act.put, List.getElem_toArray, List.getElem_cons_zero, List.getElem_cons_succ, List.setIfInBounds_toArray, List.set_cons_zero, List.set_cons_succ]
    refine wpAnyH_take (i := 23) (v := ?vT17) rfl ?aT17 ?bT17 ?cT17 ?dT17 (Or.inl ⟨?eT17, ?fT17⟩) hS ?gT17
    case fT17 => intro w hSw; (try dsimp only at hSw); go_simp; (try with_reducible rfl)
    case aT17 => kernel_rfl
    case bT17 => kernel_rfl
    case cT17 => kernel_rfl
    case dT17 => exact fun _ _ _ h => h
    case eT17 => rfl
    simp only [Act.put, List.getElem_toArray, List.getElem_cons_zero, List.getElem_cons_succ, List.setIfInBounds_toArray, List.set_cons_zero, List.set_cons_succ]
    refine wpAnyH_take (i := 24) (v := ?vT18) rfl ?aT18 ?bT18 ?cT18 ?dT18 (Or.inl ⟨?eT18, ?fT18⟩) hS ?gT18
    case fT18 => intro w hSw; (try dsimp only at hSw); go_simp; (try with_reducible rfl)
    case aT18 => kernel_rfl
    case bT18 => kernel_rfl
    case cT18 => kernel_rfl
    case dT18 => exact fun _ _ _ h => h
    case eT18 => rfl
    simp only [Act.put, List.getElem_toArray, List.getElem_cons_zero, List.getElem_cons_succ, List.setIfInBounds_toArray, List.set_cons_zero, List.set_cons_succ]
    refine wpAnyH_done (by kernel_rfl) ?_ _
    clear hS
    have HSz3 : Hid (w1.heap.size ≤ W.heap.size) := Lib.hid HQ.out.size
    have HD2 := Lib.hid (Whole.new W 22 #[.slice none 0 0])
    have HQ := Lib.hid (HQ.out.alloc (.cells #[.slice none 0 0] 22))
    go_wp2_with fail
    refine (HRn2.out _ (w.heap.size + 1) W.heap.size (HA1.out.keep HQ.out (by have := HSz.out; omega)) HD2.out (HBb.out.keepPos HQ.out (fun h0 a ha => by have := HFarb.out h0 a ha; have := HSz.out; omega))).mono ?_
    rintro e w10 ⟨rfl, hkd, hrow⟩
    have HQ := Lib.hid (HQ.out.trans (hkd.wider (S' := fun i => w1.heap.size ≤ i) (fun i _ h => by unfold Just at h; have := HSz3.out; omega)))
    have HRow := Lib.hid hrow
    have c1 := (HA1.out.keep HQ.out (by have := HSz.out; omega)).cell 0 rfl
    simp only [List.getElem_toArray, List.getElem_cons_zero] at c1
    have tb := textOf pb N cb ys w10 HX.out (HBb.out.keepPos HQ.out (fun h0 a ha => by have := HFarb.out h0 a ha; have := HSz.out; omega))
    clear hkd hrow HD2
    go_wp2_with fail
    refine (HGr.out _).mono ?_
    rintro e w11 ⟨v, rfl, q9, m9, d9, rfl, hm, hmd, hdd, hq, hat, hk⟩
    have HQ := Lib.hid (HQ.out.trans (hk.wider (S' := fun i => w1.heap.size ≤ i) (fun _ _ h => h.elim)))
    have HT9 := Lib.hid (show EnsAt w11 q9 tl from hat)
    have HM9 := Lib.hid (show m9 = tl.length from hm)
    have hk10 := Lib.hid hk
    clear hm hmd hdd hq hat hk c1 tb
    by_cases hy : ty = 0
    · have hyb : (ty != 0) = false := by rw [hy]; rfl
      have hyd : decide (ty = 0) = true := decide_eq_true hy
      obtain ⟨qr, mr, dr, hDr, hmr, hmd, hdd, hq, hat, hnew⟩ := HRow.out hy
      have hme : m9 = mr := by rw [hmr, HM9.out]
      subst hme
      have hDr := hDr.keep hk10.out (fun h => h)
      have r0 := (hDr.alloc (.cells #[.string (strOfNums (ys.drop tm)), .int .i64 (tm : Int), .int .i64 ty] 52)).cell 0 rfl
      have r0' := hDr.cell 0 rfl
      simp only [List.getElem_toArray, List.getElem_cons_zero] at r0 r0'
      have HE1 := Lib.hid (EnsAt.keep (EnsAt.keep (show EnsAt w10 qr tl from hat) hk10.out) ((Keeps.refl NoBlock w11).alloc (.cells #[.string (strOfNums (ys.drop tm)), .int .i64 (tm : Int), .int .i64 ty] 52)))
      have HE2 := Lib.hid (EnsAt.keep HT9.out ((Keeps.refl NoBlock w11).alloc (.cells #[.string (strOfNums (ys.drop tm)), .int .i64 (tm : Int), .int .i64 ty] 52)))
      have HQ := Lib.hid (HQ.out.alloc (.cells #[.string (strOfNums (ys.drop tm)), .int .i64 (tm : Int), .int .i64 ty] 52))
      subst hy
      clear hDr hmr hmd hdd hq hat hnew
      go_wp2_with fail
      refine (same11_go qr q9 m9 dr d9 tl _ HM9.out (by have := HM9.out; have := HTl.out; omega) HE1.out HE2.out).mono ?_
      rintro e w12 ⟨rfl, hk⟩
      have HQ := Lib.hid (HQ.out.trans (hk.wider (S' := fun i => w1.heap.size ≤ i) (fun _ _ h => h.elim)))
      clear hk
      go_wp2_with fail
      go_ret
      exact ⟨by first | rfl | simp, HK1.out.then HQ.out (fun i hi h => by have := HSz.out; omega)⟩
    · have hyb : (ty != 0) = true := by rw [bne_iff_ne]; exact hy
      have hyd : decide (ty = 0) = false := decide_eq_false hy
      have HQ := Lib.hid (HQ.out.alloc (.cells #[.string (strOfNums (ys.drop tm)), .int .i64 (tm : Int), .int .i64 ty] 52))
      clear hy
      go_wp2_with fail
      go_ret
      exact ⟨by first | rfl | simp, HK1.out.then HQ.out (fun i hi h => by have := HSz.out; omega)⟩
  · rw [if_neg hR] at HRn
    rw [Bool.eq_false_iff.2 hR] at HRr
    clear hR
    go_enter Try.func5, Try.ntmps5
    go_wp2_with fail
    refine (HL.out _).mono ?_
    rintro e w1 ⟨rfl, hk⟩
    have HA0 := Lib.hid (HA0.out.keep hk (fun h => h))
    have HA1 := Lib.hid (HA1.out.keep hk (fun h => h))
    have HAt := Lib.hid (EnsAt.keep HAt.out hk)
    have HBb := Lib.hid (HBb.out.keep hk (fun _ _ h => h))
    have HK1 := Lib.hid (HK0.out.trans hk)
    have HSz : Hid (w.heap.size + 1 < w1.heap.size) := Lib.hid HA1.out.lt
    have a0 := ((HA0.out.alloc (.cells #[.slice none 0 0] 40)).cell 0 rfl)
    have a0' := HA0.out.cell 0 rfl
    simp only [List.getElem_toArray, List.getElem_cons_zero] at a0 a0'
    clear hk HL
    go_wp2_with fail
    refine (HPut.out w1.heap.size _ (bufNewB w1 w1.heap.size) (by simp) (EnsAt.keep HAt.out ((Keeps.refl NoBlock w1).alloc _)) (fun h0 a ha => by have := HFar.out (by rw [← HLn.out]; exact h0) a ha; have := HSz.out; unfold OnBuf; omega)).mono ?_
    rintro e w2 ⟨rfl, hbuf, hk⟩
    have HQ := Lib.hid (((Keeps.refl (fun i => w1.heap.size ≤ i) w1).alloc (.cells #[.slice none 0 0] 40)).trans (hk.onBuf5 (Nat.le_refl _)))
    have HBf := Lib.hid (show BufAt (w2.alloc (.cells #[.slice none 0 0] 22)) w1.heap.size w1.heap.size (textE l) from hbuf.keepO ((Keeps.refl NoBlock w2).alloc _) (fun h => h) (fun _ _ _ _ h => h))
    have HDd := Lib.hid (Whole.new w2 22 #[.slice none 0 0])
    have HQ := Lib.hid (HQ.out.alloc (.cells #[.slice none 0 0] 22))
    have HSz2 := Lib.hid (show w1.heap.size + 1 ≤ w2.heap.size by have := hk.size; simpa using this)
    clear hbuf hk a0 a0'
    go_wp2_with fail
    refine (HBy.out w1.heap.size _ HBf.out).mono ?_
    rintro e w3 ⟨v, rfl, qb, db, rfl, hdb, hdb', hby, hqb, hk⟩
    have HBf := Lib.hid (HBf.out.keepO hk (fun h => h) (fun _ _ _ _ h => h))
    have HDd := Lib.hid (HDd.out.keep hk (fun h => h))
    have HQ := Lib.hid (HQ.out.trans (hk.wider (S' := fun i => w1.heap.size ≤ i) (fun _ _ h => h.elim)))
    have HBx := Lib.hid hby
    have hdb9 : db ≤ 9223372036854775807 := by first | omega | (unfold maxLen at hdb'; omega) | exact hdb'
    have hmf := recMakeFn11
    clear hk hby hqb hdb'
    go_wp2_with fail
    refine (HRn.out _ w.heap.size w2.heap.size qb db (HA0.out.keep HQ.out (by have := HSz.out; omega)) HDd.out HBx.out hdb hdb9).mono ?_
    rintro e w4 ⟨rfl, hkd, hrow⟩
    have HBf := Lib.hid (HBf.out.keepO hkd (by have := HSz2.out; unfold Just; omega) (fun j cs hj hbj hjd => by unfold Just at hjd; subst hjd; have := (Whole.unique hj HDd.out).1; revert this; decide))
    have HQ := Lib.hid (HQ.out.trans (hkd.wider (S' := fun i => w1.heap.size ≤ i) (fun i _ h => by unfold Just at h; have := HSz2.out; omega)))
    clear hkd hrow
    have HBy7 := Lib.hid (fun W hB => HBy.out w1.heap.size W hB)
    clear HBx HBy HPut HRn
    obtain ⟨W, rfl⟩ : ∃ W, W = w4 := ⟨_, rfl⟩
    go_wp2_with fail
    have sN : W.drew.cell? ⟨w.heap.size, 0, none⟩ = some (.slice p n c) := (HA0.out.keep HQ.out (by have := HSz.out; omega)).cell 0 rfl
    refine wp_region_held_drew (S := fun w' => w'.cell? ⟨w.heap.size, 0, none⟩ = some (.slice p n c)) (by kernel_rfl) sN (fun hHeld => ?_)
    refine wpAnyH_take (i := 2) (v := ?vT101) rfl ?aT101 ?bT101 ?cT101 ?dT101 (Or.inl ⟨?eT101, ?fT101⟩) hHeld ?gT101
    case fT101 => intro w hSw; (try dsimp only at hSw); go_simp; (try with_reducible rfl)
    case aT101 => kernel_rfl
    case bT101 => kernel_rfl
    case cT101 => kernel_rfl
    case dT101 => exact fun _ _ _ h => h
    case eT101 => rfl
    simp only [Act.put, List.getElem_toArray, List.getElem_cons_zero, List.getElem_cons_succ, List.setIfInBounds_toArray, List.set_cons_zero, List.set_cons_succ]
    refine wpAnyH_ready (rs := [0]) (by kernel_rfl) (by simp) ?_
    refine (AllReadyH.cons (o := _) rfl (fun K hK => ?_) AllReadyH.nil)
    go_simp
    refine (HBy7.out _ (by exact HBf.out)).mono ?_
    rintro e w9 ⟨v, rfl, q5, d5, rfl, hd5, hd5', hby5, hq5, hk⟩
    have hk' : Keeps NoBlock W w9 := by first | exact hk | exact hk.ofDrew | exact hk.ofDrewN
    have HQ := Lib.hid (HQ.out.trans (hk'.wider (S' := fun i => w1.heap.size ≤ i) (fun _ _ h => h.elim)))
    have HB5 := Lib.hid hby5
    clear hd5 hd5' hq5 hby5 hk hk'
    have hS : ((fun w' => w'.cell? ⟨w.heap.size, 0, none⟩ = some (.slice p n c)) w9) ∧ ((fun w' => (convert 38 9 (.slice q5 M d5)).run Try.prog w' = .ok (.string (strOfNums (textE l))) w') w9) := ⟨(HA0.out.keep HQ.out (by have := HSz.out; omega)).cell 0 rfl, textOf q5 M d5 (textE l) w9 HM.out HB5.out⟩
    obtain ⟨W, rfl⟩ : ∃ W, W = w9 := ⟨_, rfl⟩
    clear HBf
    go_wp2_with fail
    refine hK.out _ _ hS.1 (fun _ => ?_)
    clear hK K
    refine wpAnyH_swap (S' := fun w' => (w'.cell? ⟨w.heap.size, 0, none⟩ = some (.slice p n c)) ∧ (convert 38 9 (.slice q5 M d5)).run Try.prog w' = .ok (.string (strOfNums (textE l))) w') (fun _ h => h.1) _ _ _ _ ?_
    refine wpAnyH_take (i := 1) (v := ?vT102) rfl ?aT102 ?bT102 ?cT102 ?dT102 (Or.inl ⟨?eT102, ?fT102⟩) hS ?gT102
    case fT102 => intro w hSw; (try dsimp only at hSw); go_simp; (try with_reducible rfl)
    case aT102 => kernel_rfl
    case bT102 => kernel_rfl
    case cT102 => kernel_rfl
    case dT102 => exact fun _ _ _ h => h
    case eT102 => rfl
    simp only [Act.put, List.getElem_toArray, List.getElem_cons_zero, List.getElem_cons_succ, List.setIfInBounds_toArray, List.set_cons_zero, List.set_cons_succ]
    refine wpAnyH_ready (rs := [3]) (by kernel_rfl) (by simp) ?_
    refine (AllReadyH.cons (o := _) rfl (fun K hK => ?_) AllReadyH.nil)
    clear hS
    go_simp
    refine (HRef.out _ (by exact (EnsAt.keepFar HAt.out HQ.out (fun h0 a ha => by have := HFar.out h0 a ha; have := HSz.out; omega)))).mono ?_
    rintro e w9 ⟨v, rfl, q6, m6, d6, rfl, hm, hmd, hdd, hq, hat, hk⟩
    have hme : n = m6 := by rw [hm, ← HLn.out]
    subst hme
    have hk' : Keeps NoBlock W w9 := by first | exact hk | exact hk.ofDrew | exact hk.ofDrewN
    have HQ := Lib.hid (HQ.out.trans (hk'.wider (S' := fun i => w1.heap.size ≤ i) (fun _ _ h => h.elim)))
    have HR6 := Lib.hid (show EnsAt w9 q6 l from hat)
    have HB5 := Lib.hid (HB5.out.keep hk' (fun _ _ h => h))
    clear hm hmd hdd hq hat hk hk'
    have hS : ((fun w' => w'.cell? ⟨w.heap.size, 0, none⟩ = some (.slice p n c)) w9) ∧ ((fun w' => (convert 38 9 (.slice q5 M d5)).run Try.prog w' = .ok (.string (strOfNums (textE l))) w') w9) := ⟨(HA0.out.keep HQ.out (by have := HSz.out; omega)).cell 0 rfl, textOf q5 M d5 (textE l) w9 HM.out HB5.out⟩
    obtain ⟨W, rfl⟩ : ∃ W, W = w9 := ⟨_, rfl⟩
    go_wp2_with fail
    refine hK.out _ _ hS (fun _ => ?_)
    clear hK K
    refine wpAnyH_ready (rs := [4]) (by kernel_rfl) (by simp) ?_
    refine (AllReadyH.cons (o := _) rfl (fun K hK => ?_) AllReadyH.nil)
    clear hS
    go_simp
    refine (HTx.out q6 d6 _ (by exact HR6.out)).mono ?_
    rintro e w9 ⟨rfl, hk⟩
    have hk' : Keeps NoBlock W w9 := by first | exact hk | exact hk.ofDrew | exact hk.ofDrewN
    have HQ := Lib.hid (HQ.out.trans (hk'.wider (S' := fun i => w1.heap.size ≤ i) (fun _ _ h => h.elim)))
    have HB5 := Lib.hid (HB5.out.keep hk' (fun _ _ h => h))
    clear hk hk'
    have hS : ((fun w' => w'.cell? ⟨w.heap.size, 0, none⟩ = some (.slice p n c)) w9) ∧ ((fun w' => (convert 38 9 (.slice q5 M d5)).run Try.prog w' = .ok (.string (strOfNums (textE l))) w') w9) := ⟨(HA0.out.keep HQ.out (by have := HSz.out; omega)).cell 0 rfl, textOf q5 M d5 (textE l) w9 HM.out HB5.out⟩
    obtain ⟨W, rfl⟩ : ∃ W, W = w9 := ⟨_, rfl⟩
    go_wp2_with fail
    refine hK.out _ _ hS (fun _ => ?_)
    clear hK K
    refine wpAnyH_take (i := 5) (v := ?vT103) rfl ?aT103 ?bT103 ?cT103 ?dT103 (Or.inl ⟨?eT103, ?fT103⟩) hS ?gT103
    case fT103 => intro w hSw; (try dsimp only at hSw); go_simp; (try with_reducible rfl)
    case aT103 => kernel_rfl
    case bT103 => kernel_rfl
    case cT103 => kernel_rfl
    case dT103 => exact fun _ _ _ h => h
    case eT103 => rfl
    simp only [Act.put, List.getElem_toArray, List.getElem_cons_zero, List.getElem_cons_succ, List.setIfInBounds_toArray, List.set_cons_zero, List.set_cons_succ]
    refine wpAnyH_take (i := 6) (v := ?vT104) rfl ?aT104 ?bT104 ?cT104 ?dT104 (Or.inl ⟨?eT104, ?fT104⟩) hS ?gT104
    case fT104 => intro w hSw; (try dsimp only at hSw); go_simp; (try with_reducible rfl)
    case aT104 => kernel_rfl
    case bT104 => kernel_rfl
    case cT104 => kernel_rfl
    case dT104 => exact fun _ _ _ h => h
    case eT104 => rfl
    simp only [Act.put, List.getElem_toArray, List.getElem_cons_zero, List.getElem_cons_succ, List.setIfInBounds_toArray, List.set_cons_zero, List.set_cons_succ]
    refine wpAnyH_take (i := 7) (v := ?vT105) rfl ?aT105 ?bT105 ?cT105 ?dT105 (Or.inl ⟨?eT105, ?fT105⟩) hS ?gT105
    case fT105 => intro w hSw; (try dsimp only at hSw); go_simp; (try with_reducible rfl)
    case aT105 => kernel_rfl
    case bT105 => kernel_rfl
    case cT105 => kernel_rfl
    case dT105 => exact fun _ _ _ h => h
    case eT105 => rfl
    simp only [Act.put, List.getElem_toArray, List.getElem_cons_zero, List.getElem_cons_succ, List.setIfInBounds_toArray, List.set_cons_zero, List.set_cons_succ]
    refine wpAnyH_take (i := 8) (v := ?vT106) rfl ?aT106 ?bT106 ?cT106 ?dT106 (Or.inl ⟨?eT106, ?fT106⟩) hS ?gT106
    case fT106 => intro w hSw; (try dsimp only at hSw); go_simp; (try with_reducible rfl)
    case aT106 => kernel_rfl
    case bT106 => kernel_rfl
    case cT106 => kernel_rfl
    case dT106 => exact fun _ _ _ h => h
    case eT106 => rfl
    simp only [Act.put, List.getElem_toArray, List.getElem_cons_zero, List.getElem_cons_succ, List.setIfInBounds_toArray, List.set_cons_zero, List.set_cons_succ]
    refine wpAnyH_take (i := 9) (v := ?vT107) rfl ?aT107 ?bT107 ?cT107 ?dT107 (Or.inl ⟨?eT107, ?fT107⟩) hS ?gT107
    case fT107 => intro w hSw; (try dsimp only at hSw); go_simp; (try with_reducible rfl)
    case aT107 => kernel_rfl
    case bT107 => kernel_rfl
    case cT107 => kernel_rfl
    case dT107 => exact fun _ _ _ h => h
    case eT107 => rfl
    simp only [Act.put, List.getElem_toArray, List.getElem_cons_zero, List.getElem_cons_succ, List.setIfInBounds_toArray, List.set_cons_zero, List.set_cons_succ]
    refine wpAnyH_ready (rs := [10]) (by kernel_rfl) (by simp) ?_
    refine (AllReadyH.cons (o := _) rfl (fun K hK => ?_) AllReadyH.nil)
    clear hS
    go_simp
    refine (HRef.out _ (by exact (EnsAt.keepFar HAt.out HQ.out (fun h0 a ha => by have := HFar.out h0 a ha; have := HSz.out; omega)))).mono ?_
    rintro e w9 ⟨v, rfl, q7, m7, d7, rfl, hm, hmd, hdd, hq, hat, hk⟩
    have hme : n = m7 := by rw [hm, ← HLn.out]
    subst hme
    have hk' : Keeps NoBlock W w9 := by first | exact hk | exact hk.ofDrew | exact hk.ofDrewN
    have HQ := Lib.hid (HQ.out.trans (hk'.wider (S' := fun i => w1.heap.size ≤ i) (fun _ _ h => h.elim)))
    have HR7 := Lib.hid (show EnsAt w9 q7 l from hat)
    have HB5 := Lib.hid (HB5.out.keep hk' (fun _ _ h => h))
    clear hm hmd hdd hq hat hk hk'
    have hS : ((fun w' => w'.cell? ⟨w.heap.size, 0, none⟩ = some (.slice p n c)) w9) ∧ ((fun w' => (convert 38 9 (.slice q5 M d5)).run Try.prog w' = .ok (.string (strOfNums (textE l))) w') w9) := ⟨(HA0.out.keep HQ.out (by have := HSz.out; omega)).cell 0 rfl, textOf q5 M d5 (textE l) w9 HM.out HB5.out⟩
    obtain ⟨W, rfl⟩ : ∃ W, W = w9 := ⟨_, rfl⟩
    go_wp2_with fail
    refine hK.out _ _ hS (fun _ => ?_)
    clear hK K
    refine wpAnyH_ready (rs := [11]) (by kernel_rfl) (by simp) ?_
    refine (AllReadyH.cons (o := _) rfl (fun K hK => ?_) AllReadyH.nil)
    clear hS
    go_simp
    refine (HRr.out q7 d7 _ (by exact HR7.out)).mono ?_
    rintro e w9 ⟨rfl, hk⟩
    have hk' : Keeps NoBlock W w9 := by first | exact hk | exact hk.ofDrew | exact hk.ofDrewN
    have HQ := Lib.hid (HQ.out.trans (hk'.wider (S' := fun i => w1.heap.size ≤ i) (fun _ _ h => h.elim)))
    have HB5 := Lib.hid (HB5.out.keep hk' (fun _ _ h => h))
    clear hk hk'
    have hS : ((fun w' => w'.cell? ⟨w.heap.size, 0, none⟩ = some (.slice p n c)) w9) ∧ ((fun w' => (convert 38 9 (.slice q5 M d5)).run Try.prog w' = .ok (.string (strOfNums (textE l))) w') w9) := ⟨(HA0.out.keep HQ.out (by have := HSz.out; omega)).cell 0 rfl, textOf q5 M d5 (textE l) w9 HM.out HB5.out⟩
    obtain ⟨W, rfl⟩ : ∃ W, W = w9 := ⟨_, rfl⟩
    go_wp2_with fail
    refine hK.out _ _ hS (fun _ => ?_)
    clear hK K
    refine wpAnyH_take (i := 12) (v := ?vT108) rfl ?aT108 ?bT108 ?cT108 ?dT108 (Or.inl ⟨?eT108, ?fT108⟩) hS ?gT108
    case fT108 => intro w hSw; (try dsimp only at hSw); go_simp; (try with_reducible rfl)
    case aT108 => kernel_rfl
    case bT108 => kernel_rfl
    case cT108 => kernel_rfl
    case dT108 => exact fun _ _ _ h => h
    case eT108 => rfl
    simp only [Act.put, List.getElem_toArray, List.getElem_cons_zero, List.getElem_cons_succ, List.setIfInBounds_toArray, List.set_cons_zero, List.set_cons_succ]
    refine wpAnyH_take (i := 13) (v := ?vT109) rfl ?aT109 ?bT109 ?cT109 ?dT109 (Or.inl ⟨?eT109, ?fT109⟩) hS ?gT109
    case fT109 => intro w hSw; (try dsimp only at hSw); go_simp; (try with_reducible rfl)
    case aT109 => kernel_rfl
    case bT109 => kernel_rfl
    case cT109 => kernel_rfl
    case dT109 => exact fun _ _ _ h => h
    case eT109 => rfl
    simp only [Act.put, List.getElem_toArray, List.getElem_cons_zero, List.getElem_cons_succ, List.setIfInBounds_toArray, List.set_cons_zero, List.set_cons_succ]
    refine wpAnyH_take (i := 14) (v := ?vT110) rfl ?aT110 ?bT110 ?cT110 ?dT110 (Or.inl ⟨?eT110, ?fT110⟩) hS ?gT110
    case fT110 => intro w hSw; (try dsimp only at hSw); go_simp; (try with_reducible rfl)
    case aT110 => kernel_rfl
    case bT110 => kernel_rfl
    case cT110 => kernel_rfl
    case dT110 => exact fun _ _ _ h => h
    case eT110 => rfl
    simp only [Act.put, List.getElem_toArray, List.getElem_cons_zero, List.getElem_cons_succ, List.setIfInBounds_toArray, List.set_cons_zero, List.set_cons_succ]
    refine wpAnyH_take (i := 15) (v := ?vT111) rfl ?aT111 ?bT111 ?cT111 ?dT111 (Or.inl ⟨?eT111, ?fT111⟩) hS ?gT111
    case fT111 => intro w hSw; (try dsimp only at hSw); go_simp; (try with_reducible rfl)
    case aT111 => kernel_rfl
    case bT111 => kernel_rfl
    case cT111 => kernel_rfl
    case dT111 => exact fun _ _ _ h => h
    case eT111 => rfl
    simp only [Act.put, List.getElem_toArray, List.getElem_cons_zero, List.getElem_cons_succ, List.setIfInBounds_toArray, List.set_cons_zero, List.set_cons_succ]
    refine wpAnyH_take (i := 16) (v := ?vT112) rfl ?aT112 ?bT112 ?cT112 ?dT112 (Or.inl ⟨?eT112, ?fT112⟩) hS ?gT112
    case fT112 => intro w hSw; (try dsimp only at hSw); go_simp; (try with_reducible rfl)
    case aT112 => kernel_rfl
    case bT112 => kernel_rfl
    case cT112 => kernel_rfl
    case dT112 => exact fun _ _ _ h => h
    case eT112 => rfl
    simp only [Act.put, List.getElem_toArray, List.getElem_cons_zero, List.getElem_cons_succ, List.setIfInBounds_toArray, List.set_cons_zero, List.set_cons_succ]
    refine wpAnyH_take (i := 17) (v := ?vT113) rfl ?aT113 ?bT113 ?cT113 ?dT113 (Or.inl ⟨?eT113, ?fT113⟩) hS ?gT113
    case fT113 => intro w hSw; (try dsimp only at hSw); go_simp; (try with_reducible rfl)
    case aT113 => kernel_rfl
    case bT113 => kernel_rfl
    case cT113 => kernel_rfl
    case dT113 => exact fun _ _ _ h => h
    case eT113 => rfl
    simp only [Act.put, List.getElem_toArray, List.getElem_cons_zero, List.getElem_cons_succ, List.setIfInBounds_toArray, List.set_cons_zero, List.set_cons_succ]
    refine wpAnyH_take (i := 18) (v := undef) rfl ?aT114 ?bT114 ?cT114 ?dT114 (Or.inr ?eT114) hS ?gT114
    case eT114 => exact ⟨rfl, rfl⟩
    case aT114 => kernel_rfl
    case bT114 => kernel_rfl
    case cT114 => kernel_rfl
    case dT114 => exact fun _ _ _ h => h
    simp only [Act.put, List.getElem_toArray, List.getElem_cons_zero, List.getElem_cons_succ, List.setIfInBounds_toArray, List.set_cons_zero, List.set_cons_succ]
    refine wpAnyH_take (i := 19) (v := undef) rfl ?aT115 ?bT115 ?cT115 ?dT115 (Or.inr ?eT115) hS ?gT115
    case eT115 => exact ⟨rfl, rfl⟩
    case aT115 => kernel_rfl
    case bT115 => kernel_rfl
    case cT115 => kernel_rfl
    case dT115 => exact fun _ _ _ h => h
    simp only [Act.put, List.getElem_toArray, List.getElem_cons_zero, List.getElem_cons_succ, List.setIfInBounds_toArray, List.set_cons_zero, List.set_cons_succ]
    refine wpAnyH_take (i := 20) (v := undef) rfl ?aT116 ?bT116 ?cT116 ?dT116 (Or.inr ?eT116) hS ?gT116
    case eT116 => exact ⟨rfl, rfl⟩
    case aT116 => kernel_rfl
    case bT116 => kernel_rfl
    case cT116 => kernel_rfl
    case dT116 => exact fun _ _ _ h => h
    simp only [Act.put, List.getElem_toArray, List.getElem_cons_zero, List.getElem_cons_succ, List.setIfInBounds_toArray, List.set_cons_zero, List.set_cons_succ]
    refine wpAnyH_take (i := 21) (v := undef) rfl ?aT117 ?bT117 ?cT117 ?dT117 (Or.inr ?eT117) hS ?gT117
    case eT117 => exact ⟨rfl, rfl⟩
    case aT117 => kernel_rfl
    case bT117 => kernel_rfl
    case cT117 => kernel_rfl
    case dT117 => exact fun _ _ _ h => h
    simp only [Act.put, List.getElem_toArray, List.getElem_cons_zero, List.getElem_cons_succ, List.setIfInBounds_toArray, List.set_cons_zero, List.set_cons_succ]
    refine wpAnyH_take (i := 22) (v := undef) rfl ?aT118 ?bT118 ?cT118 ?dT118 (Or.inr ?eT118) hS ?gT118
    case eT118 => exact ⟨rfl, rfl⟩
    case aT118 => kernel_rfl
    case bT118 => kernel_rfl
    case cT118 => kernel_rfl
    case dT118 => exact fun _ _ _ h => h
    simp only [Act.put, List.getElem_toArray, List.getElem_cons_zero, List.getElem_cons_succ, List.setIfInBounds_toArray, List.set_cons_zero, List.set_cons_succ]
    refine wpAnyH_take (i := 23) (v := ?vT119) rfl ?aT119 ?bT119 ?cT119 ?dT119 (Or.inl ⟨?eT119, ?fT119⟩) hS ?gT119
    case fT119 => intro w hSw; (try dsimp only at hSw); go_simp; (try with_reducible rfl)
    case aT119 => kernel_rfl
    case bT119 => kernel_rfl
    case cT119 => kernel_rfl
    case dT119 => exact fun _ _ _ h => h
    case eT119 => rfl
    simp only [Act.put, List.getElem_toArray, List.getElem_cons_zero, List.getElem_cons_succ, List.setIfInBounds_toArray, List.set_cons_zero, List.set_cons_succ]
    refine wpAnyH_take (i := 24) (v := ?vT120) rfl ?aT120 ?bT120 ?cT120 ?dT120 (Or.inl ⟨?eT120, ?fT120⟩) hS ?gT120
    case fT120 => intro w hSw; (try dsimp only at hSw); go_simp; (try with_reducible rfl)
    case aT120 => kernel_rfl
    case bT120 => kernel_rfl
    case cT120 => kernel_rfl
    case dT120 => exact fun _ _ _ h => h
    case eT120 => rfl
    simp only [Act.put, List.getElem_toArray, List.getElem_cons_zero, List.getElem_cons_succ, List.setIfInBounds_toArray, List.set_cons_zero, List.set_cons_succ]
    refine wpAnyH_done (by kernel_rfl) ?_ _
    clear hS
    have HSz3 : Hid (w1.heap.size ≤ W.heap.size) := Lib.hid HQ.out.size
    have HD2 := Lib.hid (Whole.new W 22 #[.slice none 0 0])
    have HQ := Lib.hid (HQ.out.alloc (.cells #[.slice none 0 0] 22))
    go_wp2_with fail
    refine (HRn2.out _ (w.heap.size + 1) W.heap.size (HA1.out.keep HQ.out (by have := HSz.out; omega)) HD2.out (HBb.out.keepPos HQ.out (fun h0 a ha => by have := HFarb.out h0 a ha; have := HSz.out; omega))).mono ?_
    rintro e w10 ⟨rfl, hkd, hrow⟩
    have HQ := Lib.hid (HQ.out.trans (hkd.wider (S' := fun i => w1.heap.size ≤ i) (fun i _ h => by unfold Just at h; have := HSz3.out; omega)))
    have HRow := Lib.hid hrow
    have c1 := (HA1.out.keep HQ.out (by have := HSz.out; omega)).cell 0 rfl
    simp only [List.getElem_toArray, List.getElem_cons_zero] at c1
    have tb := textOf pb N cb ys w10 HX.out (HBb.out.keepPos HQ.out (fun h0 a ha => by have := HFarb.out h0 a ha; have := HSz.out; omega))
    clear hkd hrow HD2
    go_wp2_with fail
    refine (HGr.out _).mono ?_
    rintro e w11 ⟨v, rfl, q9, m9, d9, rfl, hm, hmd, hdd, hq, hat, hk⟩
    have HQ := Lib.hid (HQ.out.trans (hk.wider (S' := fun i => w1.heap.size ≤ i) (fun _ _ h => h.elim)))
    have HT9 := Lib.hid (show EnsAt w11 q9 tl from hat)
    have HM9 := Lib.hid (show m9 = tl.length from hm)
    have hk10 := Lib.hid hk
    clear hm hmd hdd hq hat hk c1 tb
    by_cases hy : ty = 0
    · have hyb : (ty != 0) = false := by rw [hy]; rfl
      have hyd : decide (ty = 0) = true := decide_eq_true hy
      obtain ⟨qr, mr, dr, hDr, hmr, hmd, hdd, hq, hat, hnew⟩ := HRow.out hy
      have hme : m9 = mr := by rw [hmr, HM9.out]
      subst hme
      have hDr := hDr.keep hk10.out (fun h => h)
      have r0 := (hDr.alloc (.cells #[.string (strOfNums (ys.drop tm)), .int .i64 (tm : Int), .int .i64 ty] 52)).cell 0 rfl
      have r0' := hDr.cell 0 rfl
      simp only [List.getElem_toArray, List.getElem_cons_zero] at r0 r0'
      have HE1 := Lib.hid (EnsAt.keep (EnsAt.keep (show EnsAt w10 qr tl from hat) hk10.out) ((Keeps.refl NoBlock w11).alloc (.cells #[.string (strOfNums (ys.drop tm)), .int .i64 (tm : Int), .int .i64 ty] 52)))
      have HE2 := Lib.hid (EnsAt.keep HT9.out ((Keeps.refl NoBlock w11).alloc (.cells #[.string (strOfNums (ys.drop tm)), .int .i64 (tm : Int), .int .i64 ty] 52)))
      have HQ := Lib.hid (HQ.out.alloc (.cells #[.string (strOfNums (ys.drop tm)), .int .i64 (tm : Int), .int .i64 ty] 52))
      subst hy
      clear hDr hmr hmd hdd hq hat hnew
      go_wp2_with fail
      refine (same11_go qr q9 m9 dr d9 tl _ HM9.out (by have := HM9.out; have := HTl.out; omega) HE1.out HE2.out).mono ?_
      rintro e w12 ⟨rfl, hk⟩
      have HQ := Lib.hid (HQ.out.trans (hk.wider (S' := fun i => w1.heap.size ≤ i) (fun _ _ h => h.elim)))
      clear hk
      go_wp2_with fail
      go_ret
      exact ⟨by first | rfl | simp, HK1.out.then HQ.out (fun i hi h => by have := HSz.out; omega)⟩
    · have hyb : (ty != 0) = true := by rw [bne_iff_ne]; exact hy
      have hyd : decide (ty = 0) = false := decide_eq_false hy
      have HQ := Lib.hid (HQ.out.alloc (.cells #[.string (strOfNums (ys.drop tm)), .int .i64 (tm : Int), .int .i64 ty] 52))
      clear hy
      go_wp2_with fail
      go_ret
      exact ⟨by first | rfl | simp, HK1.out.then HQ.out (fun i hi h => by have := HSz.out; omega)⟩
end Go.Proofs.Ytbchiccgkhnkaaa

/-
  FrGetOwn; RecNone; RecAll; FrAll; Lift; Open.
-/
import Derived.ProofKit
import Derived.OpenShut
import Derived.SizedLaws
import Derived.Carry
import Derived.ChangeSame
import Derived.JoinedOf
import Derived.JoinedAt
import Derived.Deep.Slices
import Derived.Test.YtjjeaaiajgbncaaM01
import Derived.Test.YtjjeaaiajgbncaaM02
import Derived.Test.YtjjeaaiajgbncaaM09
import Derived.Test.YtjjeaaiajgbncaaM11
import Derived.Test.YtjjeaaiajgbncaaM15
namespace Go.Proofs.Ytjjeaaiajgbncaa
open Go.RowKit

/-- Run, with the reading of a head. -/
theorem run_headIn (w0 : World) (A B C : Nat) (p : Option Addr) (xs : List Int) (N c : Nat) (hx : N = xs.length) (ho : Octets xs) (hc : N ≤ c) (hc' : c ≤ 9223372036854775807) (hb : Bytes8 w0 p xs) (cA : Whole w0 A 5 #[.int .u8 0]) (cB : Whole w0 B 33 #[.int .u64 0]) (cC : Whole w0 C 33 #[.int .u64 0]) (hAB : A < B) (hBC : B < C) (far : 0 < xs.length → ∀ q, p = some q → q.block < A) :
    Calls Try.prog 62 #[.slice p N c, .func (.func 76) #[] #[.pointer (some ⟨A, 0, none⟩), .pointer (some ⟨B, 0, none⟩), .pointer (some ⟨C, 0, none⟩)]] w0 fun e w' => e = .returned (.tuple #[.int .i64 ((hKind 0 xs).a : Int), .int .i64 (hKind 0 xs).y]) ∧ LeftH w0 A B C (hKind 0 xs) w' := by
  have hlt := cC.lt
  refine (run_any _ _ p N c (hKind 0 xs).a (hKind 0 xs).y _ w0 enter_headIn (fun W hB hK _ => headIn w0 W A B C p xs N c hx ho hc hc' ⟨hB, cA.keep hK (fun h => h), cB.keep hK (fun h => h), cC.keep hK (fun h => h), hb.keep hK (fun _ _ h => h), hK.wider (fun _ _ h => h.elim), ⟨hAB, hBC, hlt⟩, far⟩)).mono ?_
  rintro e w' ⟨rfl, w2, ⟨hR, h1, h2, h3⟩, hT⟩
  exact ⟨rfl, hR.then hT.2.2.2.2 (fun i hi h => by omega), h1.keep hT.2.2.2.2 (by omega), h2.keep hT.2.2.2.2 (by omega), h3.keep hT.2.2.2.2 (by omega)⟩

set_option maxHeartbeats 2000000 in
set_option maxRecDepth 10000 in
theorem readhead_own (p : Option Addr) (N c : Nat) (xs : List Int) (w : World) (h : In8 w p N c xs) :
    Calls Try.prog 46 #[.slice p N c] w fun e w' => e = .returned (.tuple #[.int .u8 (hKind 0 xs).e, .int .u64 (hKind 0 xs).s, .int .u64 (hKind 0 xs).n, .int .i64 (hKind 0 xs).y]) ∧ Keeps NoBlock w w' := by
  have hmf := getFnOk
  have hk0 : Keeps NoBlock w (((w.alloc (.cells #[.int .u8 0] 5)).alloc (.cells #[.int .u64 0] 33)).alloc (.cells #[.int .u64 0] 33)) := (((Keeps.refl NoBlock w).alloc _).alloc _).alloc _
  have hA : Whole (((w.alloc (.cells #[.int .u8 0] 5)).alloc (.cells #[.int .u64 0] 33)).alloc (.cells #[.int .u64 0] 33)) w.heap.size 5 #[.int .u8 0] := ((Whole.new w _ _).alloc _).alloc _
  have hB : Whole (((w.alloc (.cells #[.int .u8 0] 5)).alloc (.cells #[.int .u64 0] 33)).alloc (.cells #[.int .u64 0] 33)) (w.heap.size + 1) 33 #[.int .u64 0] := (Whole.newAt (w.alloc (.cells #[.int .u8 0] 5)) _ _ _ (by simp)).alloc _
  have hC : Whole (((w.alloc (.cells #[.int .u8 0] 5)).alloc (.cells #[.int .u64 0] 33)).alloc (.cells #[.int .u64 0] 33)) (w.heap.size + 1 + 1) 33 #[.int .u64 0] := Whole.newAt ((w.alloc (.cells #[.int .u8 0] 5)).alloc (.cells #[.int .u64 0] 33)) _ _ _ (by simp)
  have hrun := run_headIn _ w.heap.size (w.heap.size + 1) (w.heap.size + 1 + 1) p xs N c h.len h.oct h.cap h.room (h.at_.keep hk0 (fun _ _ h => h)) hA hB hC (by omega) (by omega) (fun h0 q hq => by
    obtain ⟨a, ha, hcell⟩ := h.at_ h0
    obtain rfl := Option.some.inj (hq.symm.trans ha)
    have := ltOfCell (hcell 0 h0)
    rwa [addBlock] at this)
  obtain ⟨t, ht⟩ : ∃ t, t = hKind 0 xs := ⟨_, rfl⟩
  rw [← ht] at hrun ⊢
  have HRn := Lib.hid hrun
  have HK0 := Lib.hid hk0
  clear hrun hk0 hA hB hC ht h
  go_enter Try.func46, Try.ntmps46
  go_wp2_with fail
  refine HRn.out.mono ?_
  rintro e w1 ⟨rfl, hk, hA, hB, hC⟩
  have HK := Lib.hid (HK0.out.then hk (fun i hi h => by omega))
  have a0 := hA.cell 0 rfl
  have b0 := hB.cell 0 rfl
  have c0 := hC.cell 0 rfl
  simp only [List.getElem_toArray, List.getElem_cons_zero] at a0 b0 c0
  have a1 := hA.free 0
  have b1 := hB.free 0
  have c1 := hC.free 0
  have a0' : w1.drew.cell? ⟨w.heap.size, 0, none⟩ = some (.int .u8 t.e) := a0
  have b0' : w1.drew.cell? ⟨w.heap.size + 1, 0, none⟩ = some (.int .u64 t.s) := b0
  have c0' : w1.drew.cell? ⟨w.heap.size + 1 + 1, 0, none⟩ = some (.int .u64 t.n) := c0
  clear hk hA hB hC HRn
  go_wp2_with fail
  go_region
  all_goals go_wp2_with fail
  all_goals exact bodyPost_ret (v := .tuple #[.int .u8 t.e, .int .u64 t.s, .int .u64 t.n, .int .i64 t.y]) (by simp [results, Try.results46, go_sem, a0, b0, c0]) rfl ⟨rfl, by first | exact (((HK.out.setNew (Nat.le_refl _) 0 _).setNew (by omega) 0 _).setNew (by omega) 0 _).drew | exact ((HK.out.setNew (Nat.le_refl _) 0 _).setNew (by omega) 0 _).setNew (by omega) 0 _⟩

/-- What a head's reading says, once it is asked whether it may be. -/
def hOut (t : HR) : Int × Nat × Nat × Nat :=
  if t.y ≠ 0 then (t.y, 0, 0, 0) else if t.s.toNat ≤ 4294967295 ∧ t.n.toNat ≤ 4294967295 ∧ mayHead t.e.toNat t.s.toNat t.n.toNat = true then (0, t.e.toNat, t.s.toNat, t.n.toNat) else (1, 0, 0, 0)
theorem hLast_out (a : Nat) (e s n : Int) (l : List Int) : headLast e.toNat s.toNat n.toNat l = hOut (hLast a e s n l) := by
  cases l with
  | nil => rfl
  | cons b r => rfl
theorem hNum_out (a : Nat) (e s : Int) (xs : List Int) : (if (vget xs).e ≠ 0 then ((vget xs).e, 0, 0, 0) else headLast e.toNat s.toNat (vget xs).x.toNat (xs.drop (vget xs).n)) = hOut (hNum a e s xs) := by
  unfold hNum
  by_cases h2 : (vget xs).e ≠ 0
  · rw [if_pos h2, if_pos h2]
    unfold hOut
    rw [if_pos h2]
  · rw [if_neg h2, if_neg h2]
    exact hLast_out _ _ _ _ _
theorem hSeg_out (a : Nat) (e : Int) (xs : List Int) : headNums e.toNat xs = hOut (hSeg a e xs) := by
  unfold headNums hSeg
  by_cases h1 : (vget xs).e ≠ 0
  · rw [if_pos h1, if_pos h1]
    unfold hOut
    rw [if_pos h1]
  · rw [if_neg h1, if_neg h1]
    exact hNum_out _ _ _ _
theorem hExp_out (a : Nat) (xs : List Int) : headExp xs = hOut (hExp a xs) := by
  cases xs with
  | nil => rfl
  | cons b r => exact hSeg_out _ _ _
theorem hVer_out (a : Nat) (xs : List Int) : headVer xs = hOut (hVer a xs) := by
  cases xs with
  | nil => rfl
  | cons b r =>
    show (if b ≠ 2 then (4, 0, 0, 0) else headExp r) = hOut (if b = 2 then hExp (a + 1) r else ⟨4, a + 1, 0, 0, 0⟩)
    by_cases h : b = 2
    · rw [if_neg (by simpa using h), if_pos h]
      exact hExp_out _ _
    · rw [if_pos h, if_neg h]
      rfl
theorem hKind_out (a : Nat) (xs : List Int) : headR xs = hOut (hKind a xs) := by
  cases xs with
  | nil => rfl
  | cons b r =>
    show (if b ≠ 1 then (4, 0, 0, 0) else headVer r) = hOut (if b = 1 then hVer (a + 1) r else ⟨4, a + 1, 0, 0, 0⟩)
    by_cases h : b = 1
    · rw [if_neg (by simpa using h), if_pos h]
      exact hVer_out _ _
    · rw [if_pos h, if_neg h]
      rfl

/-- The numbers that a head's reading leaves are bytes and words. -/
structure HR.Fine (t : HR) : Prop where
  e : 0 ≤ t.e ∧ t.e < 256
  s : 0 ≤ t.s ∧ t.s < 18446744073709551616
  n : 0 ≤ t.n ∧ t.n < 18446744073709551616
theorem vget_u64 {xs : List Int} (ho : Octets xs) (h : (vget xs).e = 0) : 0 ≤ (vget xs).x ∧ (vget xs).x < 18446744073709551616 := vread_bound 9 true xs ho h
theorem hLast_fine {a : Nat} {e s n : Int} (l : List Int) (he : 0 ≤ e ∧ e < 256) (hs : 0 ≤ s ∧ s < 18446744073709551616) (hn : 0 ≤ n ∧ n < 18446744073709551616) : (hLast a e s n l).Fine := by
  cases l <;> exact ⟨he, hs, hn⟩
theorem hSeg_fine {a : Nat} {e : Int} {xs : List Int} (ho : Octets xs) (he : 0 ≤ e ∧ e < 256) : (hSeg a e xs).Fine := by
  have hz : (0 : Int) ≤ 0 ∧ (0 : Int) < 18446744073709551616 := by decide
  unfold hSeg
  by_cases h1 : (vget xs).e = 0
  · rw [if_neg (by simpa using h1)]
    have hs := vget_u64 ho h1
    unfold hNum
    by_cases h2 : (vget (xs.drop (vget xs).n)).e = 0
    · rw [if_neg (by simpa using h2)]
      exact hLast_fine _ he hs (vget_u64 (ho.drop _) h2)
    · rw [if_pos h2]
      exact ⟨he, hs, hz⟩
  · rw [if_pos h1]
    exact ⟨he, hz, hz⟩
theorem hKind_fine {a : Nat} {xs : List Int} (ho : Octets xs) : (hKind a xs).Fine := by
  have hz : (0 : Int) ≤ 0 ∧ (0 : Int) < 18446744073709551616 := by decide
  have h8 : (0 : Int) ≤ 0 ∧ (0 : Int) < 256 := by decide
  cases xs with
  | nil => exact ⟨h8, hz, hz⟩
  | cons b r =>
    have ho1 : Octets r := fun x hx => ho x (List.mem_cons_of_mem _ hx)
    show (if b = 1 then hVer (a + 1) r else ⟨4, a + 1, 0, 0, 0⟩ : HR).Fine
    split
    · cases r with
      | nil => exact ⟨h8, hz, hz⟩
      | cons b2 r2 =>
        have ho2 : Octets r2 := fun x hx => ho1 x (List.mem_cons_of_mem _ hx)
        show (if b2 = 2 then hExp (a + 1 + 1) r2 else ⟨4, a + 1 + 1, 0, 0, 0⟩ : HR).Fine
        split
        · cases r2 with
          | nil => exact ⟨h8, hz, hz⟩
          | cons b3 r3 => exact hSeg_fine (fun x hx => ho2 x (List.mem_cons_of_mem _ hx)) (ho2 b3 List.mem_cons_self)
        · exact ⟨h8, hz, hz⟩
    · exact ⟨h8, hz, hz⟩

set_option maxHeartbeats 1000000 in
set_option maxRecDepth 10000 in
theorem hcheck_own (e s n : Nat) (w : World) : Calls Try.prog 42 #[confV e s, .int .u32 (n : Int)] w fun r w' => r = .returned (.int .i64 (if mayHead e s n = true then 0 else 1)) ∧ Keeps NoBlock w w' := by
  have HR := Lib.hid (Whole.new w 48 (confCells e s))
  have HK := Lib.hid ((Keeps.refl NoBlock w).alloc (.cells (confCells e s) 48))
  have H1 := Lib.hid (fun w => check_conf e s w)
  have hdef : mayHead e s n = (mayC e s && decide (n < s)) := rfl
  rw [hdef]
  cases hm : mayC e s
  · rw [checkC_not hm] at H1
    rw [Bool.false_and, if_neg (by decide)]
    clear hdef hm
    unfold confV at H1 ⊢
    go_enter Try.func42, Try.ntmps42
    go_wp2_with fail
    refine (H1.out _).mono ?_
    rintro r w1 ⟨rfl, hk⟩
    have HK := Lib.hid (HK.out.trans hk)
    clear hk
    go_wp2_with fail
    go_ret
    exact ⟨rfl, HK.out⟩
  · rw [checkC_may hm] at H1
    rw [Bool.true_and]
    clear hdef hm
    unfold confV at H1 ⊢
    by_cases hns : n < s
    · have d1 : decide ((s : Int) ≤ (n : Int)) = false := decide_eq_false (by omega)
      have d2 : decide (s ≤ n) = false := decide_eq_false (by omega)
      rw [if_pos (decide_eq_true hns)]
      have HN := Lib.hid hns
      clear hns
      go_enter Try.func42, Try.ntmps42
      go_wp2_with fail
      refine (H1.out _).mono ?_
      rintro r w1 ⟨rfl, hk⟩
      have c1 := (HR.out.keep hk (fun h => h)).cell 1 rfl
      simp only [confCells, List.getElem_toArray, List.getElem_cons_zero, List.getElem_cons_succ] at c1
      have HK := Lib.hid (HK.out.trans hk)
      clear hk
      have hns : ¬ (s : Int) ≤ (n : Int) := by have := HN.out; omega
      go_wp2_with fail
      go_ret
      exact ⟨rfl, HK.out⟩
    · have d1 : decide ((s : Int) ≤ (n : Int)) = true := decide_eq_true (by omega)
      have d2 : decide (s ≤ n) = true := decide_eq_true (by omega)
      rw [if_neg (by simpa using hns)]
      have HN := Lib.hid hns
      clear hns
      go_enter Try.func42, Try.ntmps42
      go_wp2_with fail
      refine (H1.out _).mono ?_
      rintro r w1 ⟨rfl, hk⟩
      have c1 := (HR.out.keep hk (fun h => h)).cell 1 rfl
      simp only [confCells, List.getElem_toArray, List.getElem_cons_zero, List.getElem_cons_succ] at c1
      have HK := Lib.hid (HK.out.trans hk)
      clear hk
      have hns : (s : Int) ≤ (n : Int) := by have := HN.out; omega
      go_wp2_with fail
      go_ret
      exact ⟨rfl, HK.out⟩
end Go.Proofs.Ytjjeaaiajgbncaa

namespace Go.Proofs.Ytjjeaaiajgbncaa

theorem readEnd_none {d : Bool} {s : Nat} {k v r : List Int} (h : (readEnd d s k v r).1 ≠ 0) : (readEnd d s k v r).2 = Rec.none := by
  unfold readEnd at h ⊢
  by_cases hr : r = []
  · rw [if_pos hr] at h; exact absurd rfl h
  · rw [if_neg hr]
theorem readKey_none {k : Int} {s : Nat} {xs : List Int} (h : (readKey k s xs).1 ≠ 0) : (readKey k s xs).2 = Rec.none := by
  unfold readKey at h ⊢
  by_cases h1 : (vtext xs 1 4096).e ≠ 0
  · rw [if_pos h1]
  · rw [if_neg h1] at h ⊢
    by_cases h2 : k = 3
    · rw [if_pos h2] at h ⊢
      exact readEnd_none h
    · rw [if_neg h2] at h ⊢
      by_cases h3 : (vtext (xs.drop (vtext xs 1 4096).n) 0 1048576).e ≠ 0
      · rw [if_pos h3]
      · rw [if_neg h3] at h ⊢
        exact readEnd_none h
theorem readR_none {xs : List Int} (h : (readR xs).1 ≠ 0) : (readR xs).2 = Rec.none := by
  cases xs with
  | nil => rfl
  | cons k xs =>
    change (readKind k xs).1 ≠ 0 at h
    change (readKind k xs).2 = Rec.none
    unfold readKind at h ⊢
    by_cases h1 : k ≠ 2 ∧ k ≠ 3
    · rw [if_pos h1]
    · rw [if_neg h1] at h ⊢
      by_cases h2 : (vget xs).e ≠ 0
      · rw [if_pos h2]
      · rw [if_neg h2] at h ⊢
        exact readKey_none h
end Go.Proofs.Ytjjeaaiajgbncaa

namespace Go.Proofs.Ytjjeaaiajgbncaa
open Go.RowKit

theorem recMakeFn : ∀ (fn : Fn) (first cap : Array Value) (w : World), (Instr.makeFunc fn first cap).run Try.prog w = .ok (.func fn first cap) w := fun _ _ _ _ => rfl

/-- Run, with the reading of a record into block D. -/
theorem run_readIn7 (D : Nat) (p : Option Addr) (xs : List Int) (N c : Nat) (hx : N = xs.length) (w0 : World) (hD : Whole w0 D 35 (recCells Rec.none)) (hb : Bytes8 w0 p xs) (ho : Octets xs) (hfar : 0 < xs.length → ∀ q, p = some q → q.block ≠ D) (hc : N ≤ c) (hN : N ≤ 140737488355328) (hc' : c ≤ 9223372036854775807) :
    Calls Try.prog 62 #[.slice p N c, .func (.func 68) #[] #[.pointer (some ⟨D, 0, none⟩)]] w0 fun e w' => (∃ a : Nat, e = .returned (.tuple #[.int .i64 a, .int .i64 (readR xs).1])) ∧ Left7 w0 D (readR xs) w' := by
  obtain ⟨a, ha⟩ := readIn7 w0 D p xs N c hx ho hc hN hc'
  refine (run_any _ _ p N c a (readR xs).1 _ w0 enter_readIn7 (fun W hB hK _ => ha W ⟨hB, hD.keep hK (fun h => h), hb.keep hK (fun _ _ h => h), hK.wider (fun _ _ h => h.elim), hD.lt, fun h0 q hq => ?_⟩)).mono ?_
  · refine ⟨?_, hfar h0 q hq⟩
    obtain ⟨a', ha', hcell⟩ := hb h0
    obtain rfl := Option.some.inj (hq.symm.trans ha')
    have := ltOfCell (hcell 0 h0)
    rwa [addBlock] at this
  · rintro e w' ⟨rfl, w2, ⟨hR1, hR2⟩, hT⟩
    refine ⟨⟨a, rfl⟩, hR1.then hT.2.2.2.2 (fun i hi h => by unfold Just; omega), fun h0 => (hR2 h0).keep hT.2.2.2.2 (by have := hD.lt; omega)⟩

set_option maxHeartbeats 1600000 in
set_option maxRecDepth 10000 in
theorem read_own (p : Option Addr) (N c : Nat) (xs : List Int) (w : World) (hx : N = xs.length) (hc : N ≤ c) (hc' : c ≤ 9223372036854775807) (hN : N ≤ 140737488355328) (ho : Octets xs) (hb : Bytes8 w p xs) :
    Calls Try.prog 39 #[.slice p N c] w fun e w' => e = .returned (.tuple #[recV (readR xs).2, .int .i64 (readR xs).1]) ∧ Keeps NoBlock w w' := by
  have hmf := recMakeFn
  have hlt : 0 < xs.length → ∀ q, p = some q → q.block < w.heap.size := fun h0 q hq => by
    obtain ⟨a, ha, hcell⟩ := hb h0
    obtain rfl := Option.some.inj (hq.symm.trans ha)
    have := ltOfCell (hcell 0 h0)
    rwa [addBlock] at this
  have hk0 : Keeps NoBlock w ((w.alloc (.cells (recCells Rec.none) 35)).alloc (.cells (recCells Rec.none) 35)) := ((Keeps.refl NoBlock w).alloc _).alloc _
  have hfirst : Whole ((w.alloc (.cells (recCells Rec.none) 35)).alloc (.cells (recCells Rec.none) 35)) w.heap.size 35 (recCells Rec.none) := (Whole.new w _ _).alloc _
  have hrun := run_readIn7 (w.heap.size + 1) p xs N c hx _ (Whole.newAt (w.alloc (.cells (recCells Rec.none) 35)) 35 (recCells Rec.none) (w.heap.size + 1) (by simp)) (hb.keep hk0 (fun _ _ h => h)) ho (fun h0 q hq => by have := hlt h0 q hq; omega) hc hN hc'
  have hbad : (readR xs).1 ≠ 0 → (readR xs).2 = Rec.none := fun h => readR_none h
  obtain ⟨t, ht⟩ : ∃ t, t = readR xs := ⟨_, rfl⟩
  rw [← ht] at hrun hbad ⊢
  have HRn := Lib.hid hrun; have HF := Lib.hid hfirst; have HK0 := Lib.hid hk0; have HBad := Lib.hid hbad
  clear hrun hfirst hk0 hbad ht hb ho hx hc hc' hN hlt
  obtain ⟨y, r⟩ := t
  simp only at HRn HBad ⊢
  by_cases he : y = 0
  · subst he
    go_enter Try.func39, Try.ntmps39
    go_wp2_with fail
    refine HRn.out.mono ?_
    rintro e w1 ⟨⟨a, rfl⟩, hk, hrec⟩
    have hF := HF.out.keep hk (by unfold Just; omega)
    have HKa := Lib.hid (HK0.out.then hk (fun i hi h => by unfold Just at h; omega))
    obtain ⟨c0, c1, c2, c3⟩ := RecAt.ofWhole (hrec rfl)
    obtain ⟨e0, e1, e2, e3⟩ := RecAt.ofWhole hF
    have f0 := hF.free 0
    have f1 := hF.free 1
    have f2 := hF.free 2
    have f3 := hF.free 3
    have HF2 := Lib.hid hF
    clear hF hrec hk
    obtain ⟨del, seq, key, val⟩ := r
    simp only at c0 c1 c2 c3
    go_wp2_with fail
    obtain ⟨g0, g1, g2, g3⟩ := RecAt.ofWhole (r := ⟨del, seq, key, val⟩) ((((HF2.out.set 0 (.bool del)).set 1 (.int .u64 (seq : Int))).set 2 (.string (strOfNums key))).set 3 (.string (strOfNums val)))
    simp only at g0 g1 g2 g3
    exact bodyPost_ret (v := .tuple #[recV ⟨del, seq, key, val⟩, .int .i64 0]) (by simp [results, Try.results39, go_sem, recV, g0, g1, g2, g3]) rfl ⟨rfl, (((HKa.out.setNew (Nat.le_refl _) 0 _).setNew (Nat.le_refl _) 1 _).setNew (Nat.le_refl _) 2 _).setNew (Nat.le_refl _) 3 _⟩
  · rw [HBad.out he]
    go_enter Try.func39, Try.ntmps39
    go_wp2_with fail
    refine HRn.out.mono ?_
    rintro e w1 ⟨⟨a, rfl⟩, hk, _⟩
    have hF := HF.out.keep hk (by unfold Just; omega)
    have HKa := Lib.hid (HK0.out.then hk (fun i hi h => by unfold Just at h; omega))
    obtain ⟨e0, e1, e2, e3⟩ := RecAt.ofWhole hF
    have f0 := hF.free 0
    have f1 := hF.free 1
    have f2 := hF.free 2
    have f3 := hF.free 3
    have HF2 := Lib.hid hF
    clear hF hk
    go_wp2_with fail
    obtain ⟨g0, g1, g2, g3⟩ := RecAt.ofWhole (r := Rec.none) ((((HF2.out.set 0 (.bool false)).set 1 (.int .u64 0)).set 2 (.string ⟨#[]⟩)).set 3 (.string ⟨#[]⟩))
    exact bodyPost_ret (v := .tuple #[recV Rec.none, .int .i64 y]) (by simp [results, Try.results39, go_sem, recV, g0, g1, g2, g3]) rfl ⟨rfl, (((HKa.out.setNew (Nat.le_refl _) 0 _).setNew (Nat.le_refl _) 1 _).setNew (Nat.le_refl _) 2 _).setNew (Nat.le_refl _) 3 _⟩

theorem body_ok7 : BodyOk where
  check := fun r w h => check_own r (by have := h.key; omega) (by have := h.val; omega) w
  body := fun r w h => body_own r w h
end Go.Proofs.Ytjjeaaiajgbncaa

namespace Go.Proofs.Ytjjeaaiajgbncaa
open Go.RowKit

set_option maxHeartbeats 2000000 in
set_option maxRecDepth 10000 in
theorem putrec_own (r : Rec) (w : World) (hr : r.Little) : Calls Try.prog 15 #[recV r] w fun e w' => ∃ v, e = .returned (.tuple #[v, .int .i64 (checkR r)]) ∧ NewBytes w (putR r) v w' := by
  have hf := hr.fine
  have h1 := hr.key
  have h2 := hr.val
  have HB := Lib.hid (fun w => body_own r w ⟨hf, by omega, by omega⟩)
  by_cases hc : checkR r = 0
  · have hbe : bodyE r = bodyR r := by unfold bodyE; rw [if_pos hc]
    have hpr : putR r = sealN (bodyR r) := by unfold putR; rw [if_pos hc]
    rw [hbe, hc] at HB
    rw [hpr, hc]
    have hbl := bodyR_length hf (by omega) (by omega)
    have hbo := bodyR_octets hf
    obtain ⟨B, hB⟩ : ∃ B, B = bodyR r := ⟨_, rfl⟩
    rw [← hB] at HB hbl hbo ⊢
    obtain ⟨L, hL⟩ : ∃ L, L = B.length := ⟨_, rfl⟩
    have HS := Lib.hid (fun q d W (hd : L ≤ d) (hd' : d ≤ 9223372036854775807) (hq : q = none → L = 0 ∧ d = 0) (h8 : Bytes8 W q B) => seal_own q L d B W ⟨hL, hd, hd', hq, hbo, h8⟩ (by omega))
    have HL := Lib.hid hL
    clear hbe hpr hc hr hf h1 h2 hB hL hbl hbo
    obtain ⟨del, seq, key, val⟩ := r
    unfold recV at HB ⊢
    simp only at HB ⊢
    go_enter Try.func15, Try.ntmps15
    go_wp2_with fail
    refine (HB.out _).mono ?_
    rintro e w1 ⟨v, rfl, q, m, d, rfl, hm, hmd, hd, hq, hb, hk⟩
    have hmL : m = L := by rw [hm, HL.out]
    subst hmL
    have HK := Lib.hid (((Keeps.refl NoBlock w).alloc _).trans hk)
    have HQ := Lib.hid hq
    have HBb := Lib.hid hb
    clear hk hm hq hb HB
    go_wp2_with fail
    refine (HS.out q d _ hmd hd HQ.out HBb.out).mono ?_
    rintro e w2 ⟨v2, rfl, q2, m2, d2, rfl, hm2, hmd2, hd2, hq2, hb2, hk2⟩
    have HN := Lib.hid (show NewBytes w (sealN B) (.slice q2 m2 d2) w2 from ⟨q2, m2, d2, rfl, hm2, hmd2, hd2, hq2, hb2, HK.out.trans hk2⟩)
    clear hm2 hmd2 hd2 hq2 hb2 hk2
    go_wp2_with fail
    refine bodyPost_ret (results_tmp2 rfl _ _ _) rfl ?_
    exact ⟨_, rfl, HN.out⟩
  · have hpr : putR r = [] := by unfold putR; rw [if_neg hc]
    rw [hpr]
    obtain ⟨z, hz⟩ : ∃ z, z = checkR r := ⟨_, rfl⟩
    rw [← hz] at HB hc ⊢
    have hne : (z != 0) = true := by rw [bne_iff_ne]; exact hc
    clear hpr hc hr hf h1 h2 hz
    obtain ⟨del, seq, key, val⟩ := r
    unfold recV at HB ⊢
    simp only at HB ⊢
    go_enter Try.func15, Try.ntmps15
    go_wp2_with fail
    refine (HB.out _).mono ?_
    rintro e w1 ⟨v, rfl, q, m, d, rfl, hm, hmd, hd, hq, hb, hk⟩
    have HK := Lib.hid (((Keeps.refl NoBlock w).alloc _).trans hk)
    clear hk hm hmd hd hq hb HB
    go_wp2_with fail
    refine bodyPost_ret (results_tmp2 rfl _ _ _) rfl ?_
    exact ⟨_, rfl, .ofNil _ _ HK.out⟩

set_option maxHeartbeats 2000000 in
set_option maxRecDepth 10000 in
theorem getrec_own (p : Option Addr) (N c : Nat) (ys : List Int) (w : World) (h : In8 w p N c ys) (hN : N ≤ 500000) :
    Calls Try.prog 17 #[.slice p N c] w fun e w' => e = .returned (.tuple #[recV (getR ys).2, .int .i64 (getR ys).1]) ∧ Keeps NoBlock w w' := by
  have HO := Lib.hid (fun W (hb : Bytes8 W p ys) => open_own p N c ys W ⟨h.len, h.cap, h.room, h.bare, h.oct, hb⟩ (by omega))
  have HAt := Lib.hid (h.at_.keep ((Keeps.refl NoBlock w).alloc (.cells (recCells Rec.none) 35)) (fun _ _ h => h))
  obtain ⟨hb1, hb2⟩ := open_bound h.oct
  have hl := h.len
  unfold getR
  obtain ⟨y, hy⟩ : ∃ y, y = (openN ys).1 := ⟨_, rfl⟩
  obtain ⟨T, hT⟩ : ∃ T, T = (openN ys).2 := ⟨_, rfl⟩
  rw [← hy] at HO ⊢
  rw [← hT] at HO hb1 hb2 ⊢
  have HW := Lib.hid (Whole.new w 35 (recCells Rec.none))
  have HK0 := Lib.hid ((Keeps.refl NoBlock w).alloc (.cells (recCells Rec.none) 35))
  by_cases h0 : y = 0
  · subst h0
    rw [if_neg (by simp)]
    obtain ⟨L, hL⟩ : ∃ L, L = T.length := ⟨_, rfl⟩
    have HR := Lib.hid (fun q d W (hd : L ≤ d) (hd' : d ≤ 9223372036854775807) (h8 : Bytes8 W q T) => read_own q L d T W hL hd hd' (by omega) hb1 h8)
    obtain ⟨z, hz⟩ : ∃ z, z = readR T := ⟨_, rfl⟩
    rw [← hz] at HR ⊢
    have HL := Lib.hid hL
    obtain ⟨y2, r2⟩ := z
    obtain ⟨del, seq, key, val⟩ := r2
    unfold recV at HR ⊢
    simp only at HR ⊢
    clear hz hb1 hb2 hl hy hT hL h
    go_enter Try.func17, Try.ntmps17
    go_wp2_with fail
    refine (HO.out _ HAt.out).mono ?_
    rintro e w1 ⟨v, rfl, q, m, d, rfl, hm, hmd, hd, hq, hb, hk⟩
    have hmL : m = L := by rw [hm, HL.out]
    subst hmL
    have HN := Lib.hid (HW.out.keep hk (fun h => h))
    have HK := Lib.hid (HK0.out.trans hk)
    have HBb := Lib.hid hb
    clear hk hm hq hb HO
    go_wp2_with fail
    refine (HR.out q d _ hmd hd HBb.out).mono ?_
    rintro e w2 ⟨rfl, hk⟩
    have hN2 := HN.out.keep hk (fun h => h)
    have HK := Lib.hid (HK.out.trans hk)
    obtain ⟨c0, c1, c2, c3⟩ := RecAt.ofWhole hN2
    have f0 := hN2.free 0
    have f1 := hN2.free 1
    have f2 := hN2.free 2
    have f3 := hN2.free 3
    have HF2 := Lib.hid hN2
    clear hk hN2
    go_wp2_with fail
    obtain ⟨g0, g1, g2, g3⟩ := RecAt.ofWhole (r := ⟨del, seq, key, val⟩) ((((HF2.out.set 0 (.bool del)).set 1 (.int .u64 (seq : Int))).set 2 (.string (strOfNums key))).set 3 (.string (strOfNums val)))
    simp only at g0 g1 g2 g3
    exact bodyPost_ret (v := .tuple #[recV ⟨del, seq, key, val⟩, .int .i64 y2]) (by simp [results, Try.results17, go_sem, recV, g0, g1, g2, g3]) rfl ⟨rfl, (((HK.out.setNew (Nat.le_refl _) 0 _).setNew (Nat.le_refl _) 1 _).setNew (Nat.le_refl _) 2 _).setNew (Nat.le_refl _) 3 _⟩
  · rw [if_pos h0]
    have hne : (y != 0) = true := by rw [bne_iff_ne]; exact h0
    clear hb1 hb2 hl h0 hy hT h
    go_enter Try.func17, Try.ntmps17
    go_wp2_with fail
    refine (HO.out _ HAt.out).mono ?_
    rintro e w1 ⟨v, rfl, q, m, d, rfl, hm, hmd, hd, hq, hb, hk⟩
    have hN2 := HW.out.keep hk (fun h => h)
    have HK := Lib.hid (HK0.out.trans hk)
    obtain ⟨c0, c1, c2, c3⟩ := RecAt.ofWhole hN2
    have f0 := hN2.free 0
    have f1 := hN2.free 1
    have f2 := hN2.free 2
    have f3 := hN2.free 3
    have HF2 := Lib.hid hN2
    clear hk hN2 hm hmd hd hq hb HO
    go_wp2_with fail
    obtain ⟨g0, g1, g2, g3⟩ := RecAt.ofWhole (r := Rec.none) ((((HF2.out.set 0 (.bool false)).set 1 (.int .u64 0)).set 2 (.string ⟨#[]⟩)).set 3 (.string ⟨#[]⟩))
    exact bodyPost_ret (v := .tuple #[recV Rec.none, .int .i64 y]) (by simp [results, Try.results17, go_sem, recV, g0, g1, g2, g3]) rfl ⟨rfl, (((HK.out.setNew (Nat.le_refl _) 0 _).setNew (Nat.le_refl _) 1 _).setNew (Nat.le_refl _) 2 _).setNew (Nat.le_refl _) 3 _⟩

set_option maxHeartbeats 4000000 in
set_option maxRecDepth 10000 in
theorem gethead_own (p : Option Addr) (N c : Nat) (ys : List Int) (w : World) (h : In8 w p N c ys) (hN : N ≤ 500000) :
    Calls Try.prog 22 #[.slice p N c] w fun e w' => e = .returned (.tuple #[confV (getH ys).2.1 (getH ys).2.2.1, .int .u32 ((getH ys).2.2.2 : Int), .int .i64 (getH ys).1]) ∧ Keeps NoBlock w w' := by
  have HO := Lib.hid (fun W (hb : Bytes8 W p ys) => open_own p N c ys W ⟨h.len, h.cap, h.room, h.bare, h.oct, hb⟩ (by omega))
  have HAt := Lib.hid (h.at_.keep ((Keeps.refl NoBlock w).alloc (.cells (confCells 0 0) 48)) (fun _ _ h => h))
  obtain ⟨hb1, hb2⟩ := open_bound h.oct
  have hl := h.len
  unfold getH
  obtain ⟨y, hy⟩ : ∃ y, y = (openN ys).1 := ⟨_, rfl⟩
  obtain ⟨T, hT⟩ : ∃ T, T = (openN ys).2 := ⟨_, rfl⟩
  rw [← hy] at HO ⊢
  rw [← hT] at HO hb1 hb2 ⊢
  have HW := Lib.hid (Whole.new w 48 (confCells 0 0))
  have HK0 := Lib.hid ((Keeps.refl NoBlock w).alloc (.cells (confCells 0 0) 48))
  by_cases h0 : y = 0
  rotate_left
  · rw [if_pos h0]
    have hne : (y != 0) = true := by rw [bne_iff_ne]; exact h0
    clear hb1 hb2 hl h0 hy hT h
    go_enter Try.func22, Try.ntmps22
    go_wp2_with fail
    refine (HO.out _ HAt.out).mono ?_
    rintro e w1 ⟨v, rfl, q, m, d, rfl, hm, hmd, hd, hq, hb, hk⟩
    have hN := HW.out.keep hk (fun h => h)
    have HK := Lib.hid (HK0.out.trans hk)
    clear hk hm hmd hd hq hb HO
    have c0 := hN.cell 0 rfl
    have c1 := hN.cell 1 rfl
    simp only [confCells, List.getElem_toArray, List.getElem_cons_zero, List.getElem_cons_succ] at c0 c1
    have f0 := hN.free 0
    have f1 := hN.free 1
    have HF := Lib.hid hN
    clear hN
    go_wp2_with fail
    exact bodyPost_ret (v := .tuple #[confV 0 0, .int .u32 0, .int .i64 y]) (by simp [results, Try.results22, go_sem, confV, c0, c1]) rfl ⟨rfl, (HK.out.setNew (Nat.le_refl _) 0 _).setNew (Nat.le_refl _) 1 _⟩
  subst h0
  rw [if_neg (by simp), hKind_out 0 T]
  obtain ⟨L, hL⟩ : ∃ L, L = T.length := ⟨_, rfl⟩
  have HRd := Lib.hid (fun q d W (hd : L ≤ d) (hd' : d ≤ 9223372036854775807) (hq : q = none → L = 0 ∧ d = 0) (h8 : Bytes8 W q T) => readhead_own q L d T W ⟨hL, hd, hd', hq, hb1, h8⟩)
  have hfine := hKind_fine (a := 0) hb1
  obtain ⟨t, ht⟩ : ∃ t, t = hKind 0 T := ⟨_, rfl⟩
  rw [← ht] at HRd hfine ⊢
  have HL := Lib.hid hL
  clear ht hb1 hb2 hl hy hT hL h
  obtain ⟨y, a, e0, s0, n0⟩ := t
  obtain ⟨⟨he0, he1⟩, ⟨hs0, hs1⟩, ⟨hn0, hn1⟩⟩ := hfine
  simp only at he0 he1 hs0 hs1 hn0 hn1 HRd
  obtain ⟨x, rfl⟩ : ∃ x : Nat, e0 = (x : Int) := ⟨e0.toNat, by omega⟩
  obtain ⟨s, rfl⟩ : ∃ s : Nat, s0 = (s : Int) := ⟨s0.toNat, by omega⟩
  obtain ⟨n, rfl⟩ : ∃ n : Nat, n0 = (n : Int) := ⟨n0.toNat, by omega⟩
  have hdef : hOut ⟨y, a, (x : Int), (s : Int), (n : Int)⟩ = if y ≠ 0 then (y, 0, 0, 0) else if s ≤ 4294967295 ∧ n ≤ 4294967295 ∧ mayHead x s n = true then (0, x, s, n) else (1, 0, 0, 0) := rfl
  rw [hdef]
  clear hdef he0 hs0 hn0
  by_cases h1 : y = 0
  rotate_left
  · rw [if_pos h1]
    have hne : (y != 0) = true := by rw [bne_iff_ne]; exact h1
    clear h1
    go_enter Try.func22, Try.ntmps22
    go_wp2_with fail
    refine (HO.out _ HAt.out).mono ?_
    rintro e w1 ⟨v, rfl, q, m, d, rfl, hm, hmd, hd, hq, hb, hk⟩
    have hN := HW.out.keep hk (fun h => h)
    have HK := Lib.hid (HK0.out.trans hk)
    have hmL : m = L := by rw [hm, HL.out]
    subst hmL
    have HQ1 := Lib.hid hq
    have HB1 := Lib.hid hb
    have HN1 := Lib.hid hN
    clear hk hm hq hb HO hN
    go_wp2_with fail
    refine (HRd.out q d _ hmd hd HQ1.out HB1.out).mono ?_
    rintro e w2 ⟨rfl, hk⟩
    have hN := HN1.out.keep hk (fun h => h)
    have HK := Lib.hid (HK.out.trans hk)
    clear hk
    have c0 := hN.cell 0 rfl
    have c1 := hN.cell 1 rfl
    simp only [confCells, List.getElem_toArray, List.getElem_cons_zero, List.getElem_cons_succ] at c0 c1
    have f0 := hN.free 0
    have f1 := hN.free 1
    have HF := Lib.hid hN
    clear hN
    go_wp2_with fail
    exact bodyPost_ret (v := .tuple #[confV 0 0, .int .u32 0, .int .i64 y]) (by simp [results, Try.results22, go_sem, confV, c0, c1]) rfl ⟨rfl, (HK.out.setNew (Nat.le_refl _) 0 _).setNew (Nat.le_refl _) 1 _⟩
  subst h1
  rw [if_neg (by simp)]
  by_cases hbig : s ≤ 4294967295 ∧ n ≤ 4294967295
  rotate_left
  · rw [if_neg (fun h => hbig ⟨h.1, h.2.1⟩)]
    obtain ⟨M, hM⟩ : ∃ M : Nat, M = max s n := ⟨_, rfl⟩
    have hMx : max (s : Int) (n : Int) = (M : Int) := by omega
    have hMd : decide ((4294967295 : Int) < (M : Int)) = true := decide_eq_true (by omega)
    have hMd2 : decide (4294967295 < M) = true := decide_eq_true (by omega)
    have hM3 : (4294967295 : Int) < (M : Int) := by omega
    clear hbig hM hs1 hn1
    go_enter Try.func22, Try.ntmps22
    go_wp2_with fail
    refine (HO.out _ HAt.out).mono ?_
    rintro e w1 ⟨v, rfl, q, m, d, rfl, hm, hmd, hd, hq, hb, hk⟩
    have hN := HW.out.keep hk (fun h => h)
    have HK := Lib.hid (HK0.out.trans hk)
    have hmL : m = L := by rw [hm, HL.out]
    subst hmL
    have HQ1 := Lib.hid hq
    have HB1 := Lib.hid hb
    have HN1 := Lib.hid hN
    clear hk hm hq hb HO hN
    go_wp2_with fail
    refine (HRd.out q d _ hmd hd HQ1.out HB1.out).mono ?_
    rintro e w2 ⟨rfl, hk⟩
    have hN := HN1.out.keep hk (fun h => h)
    have HK := Lib.hid (HK.out.trans hk)
    clear hk
    have c0 := hN.cell 0 rfl
    have c1 := hN.cell 1 rfl
    simp only [confCells, List.getElem_toArray, List.getElem_cons_zero, List.getElem_cons_succ] at c0 c1
    have f0 := hN.free 0
    have f1 := hN.free 1
    have HF := Lib.hid hN
    clear hN
    go_wp2_with fail
    exact bodyPost_ret (v := .tuple #[confV 0 0, .int .u32 0, .int .i64 1]) (by simp [results, Try.results22, go_sem, confV, c0, c1]) rfl ⟨rfl, (HK.out.setNew (Nat.le_refl _) 0 _).setNew (Nat.le_refl _) 1 _⟩
  obtain ⟨hs3, hn3⟩ := hbig
  have hM1 : max (s : Int) (n : Int) ≤ 4294967295 := by omega
  obtain ⟨M, hM⟩ : ∃ M : Nat, M = max s n := ⟨_, rfl⟩
  have hMx : max (s : Int) (n : Int) = (M : Int) := by omega
  have hMd : decide ((4294967295 : Int) < (M : Int)) = false := decide_eq_false (by omega)
  have hMd2 : decide (4294967295 < M) = false := decide_eq_false (by omega)
  have hM3 : ¬ (4294967295 : Int) < (M : Int) := by omega
  have ws : IntKind.u32.wrap (s : Int) = (s : Int) := by rw [IntKind.wrap_u32]; omega
  have wn : IntKind.u32.wrap (n : Int) = (n : Int) := by rw [IntKind.wrap_u32]; omega
  have HCk := Lib.hid (fun w => hcheck_own x s n w)
  unfold confV at HCk
  have hif : (if s ≤ 4294967295 ∧ n ≤ 4294967295 ∧ mayHead x s n = true then ((0 : Int), x, s, n) else (1, 0, 0, 0)) = if mayHead x s n = true then (0, x, s, n) else (1, 0, 0, 0) := by
    by_cases hm : mayHead x s n = true
    · rw [if_pos hm, if_pos ⟨hs3, hn3, hm⟩]
    · rw [if_neg hm, if_neg (fun h => hm h.2.2)]
  rw [hif]
  clear hif hM hM1 hs3 hn3 hs1 hn1
  by_cases hm : mayHead x s n = true
  · rw [if_pos hm] at HCk ⊢
    clear hm
    go_enter Try.func22, Try.ntmps22
    go_wp2_with fail
    refine (HO.out _ HAt.out).mono ?_
    rintro e w1 ⟨v, rfl, q, m, d, rfl, hm, hmd, hd, hq, hb, hk⟩
    have hN := HW.out.keep hk (fun h => h)
    have HK := Lib.hid (HK0.out.trans hk)
    have hmL : m = L := by rw [hm, HL.out]
    subst hmL
    have HQ1 := Lib.hid hq
    have HB1 := Lib.hid hb
    have HN1 := Lib.hid hN
    clear hk hm hq hb HO hN
    go_wp2_with fail
    refine (HRd.out q d _ hmd hd HQ1.out HB1.out).mono ?_
    rintro e w2 ⟨rfl, hk⟩
    have hN := HN1.out.keep hk (fun h => h)
    have HK := Lib.hid (HK.out.trans hk)
    clear hk
    have c0 := hN.cell 0 rfl
    have c1 := hN.cell 1 rfl
    simp only [confCells, List.getElem_toArray, List.getElem_cons_zero, List.getElem_cons_succ] at c0 c1
    have f0 := hN.free 0
    have f1 := hN.free 1
    have HF := Lib.hid (show Whole ((w2.setCell ⟨w.heap.size, 0, none⟩ (.int .u8 (x : Int))).setCell ⟨w.heap.size, 1, none⟩ (.int .u32 (s : Int))) w.heap.size 48 (confCells x s) from (hN.set 0 _).set 1 _)
    have HK := Lib.hid ((HK.out.setNew (g := w.heap.size) (Nat.le_refl _) 0 (.int .u8 (x : Int))).setNew (g := w.heap.size) (Nat.le_refl _) 1 (.int .u32 (s : Int)))
    clear hN
    go_wp2_with fail
    refine (HCk.out _).mono ?_
    rintro e w3 ⟨rfl, hk⟩
    have hN := HF.out.keep hk (fun h => h)
    have HK := Lib.hid (HK.out.trans hk)
    clear hk c0 c1 f0 f1
    have c0 := hN.cell 0 rfl
    have c1 := hN.cell 1 rfl
    simp only [confCells, List.getElem_toArray, List.getElem_cons_zero, List.getElem_cons_succ] at c0 c1
    have f0 := hN.free 0
    have f1 := hN.free 1
    have HF3 := Lib.hid hN
    clear hN
    go_wp2_with fail
    have g0 := ((HF3.out.set 0 (.int .u8 (x : Int))).set 1 (.int .u32 (s : Int))).cell (v := .int .u8 (x : Int)) 0 rfl
    have g1 := ((HF3.out.set 0 (.int .u8 (x : Int))).set 1 (.int .u32 (s : Int))).cell (v := .int .u32 (s : Int)) 1 rfl
    exact bodyPost_ret (v := .tuple #[confV x s, .int .u32 (n : Int), .int .i64 0]) (by simp [results, Try.results22, go_sem, confV, g0, g1]) rfl ⟨rfl, (HK.out.setNew (Nat.le_refl _) 0 _).setNew (Nat.le_refl _) 1 _⟩
  · rw [if_neg hm] at HCk ⊢
    clear hm
    go_enter Try.func22, Try.ntmps22
    go_wp2_with fail
    refine (HO.out _ HAt.out).mono ?_
    rintro e w1 ⟨v, rfl, q, m, d, rfl, hm, hmd, hd, hq, hb, hk⟩
    have hN := HW.out.keep hk (fun h => h)
    have HK := Lib.hid (HK0.out.trans hk)
    have hmL : m = L := by rw [hm, HL.out]
    subst hmL
    have HQ1 := Lib.hid hq
    have HB1 := Lib.hid hb
    have HN1 := Lib.hid hN
    clear hk hm hq hb HO hN
    go_wp2_with fail
    refine (HRd.out q d _ hmd hd HQ1.out HB1.out).mono ?_
    rintro e w2 ⟨rfl, hk⟩
    have hN := HN1.out.keep hk (fun h => h)
    have HK := Lib.hid (HK.out.trans hk)
    clear hk
    have c0 := hN.cell 0 rfl
    have c1 := hN.cell 1 rfl
    simp only [confCells, List.getElem_toArray, List.getElem_cons_zero, List.getElem_cons_succ] at c0 c1
    have f0 := hN.free 0
    have f1 := hN.free 1
    have HF := Lib.hid (show Whole ((w2.setCell ⟨w.heap.size, 0, none⟩ (.int .u8 (x : Int))).setCell ⟨w.heap.size, 1, none⟩ (.int .u32 (s : Int))) w.heap.size 48 (confCells x s) from (hN.set 0 _).set 1 _)
    have HK := Lib.hid ((HK.out.setNew (g := w.heap.size) (Nat.le_refl _) 0 (.int .u8 (x : Int))).setNew (g := w.heap.size) (Nat.le_refl _) 1 (.int .u32 (s : Int)))
    clear hN
    go_wp2_with fail
    refine (HCk.out _).mono ?_
    rintro e w3 ⟨rfl, hk⟩
    have hN := HF.out.keep hk (fun h => h)
    have HK := Lib.hid (HK.out.trans hk)
    clear hk c0 c1 f0 f1
    have c0 := hN.cell 0 rfl
    have c1 := hN.cell 1 rfl
    simp only [confCells, List.getElem_toArray, List.getElem_cons_zero, List.getElem_cons_succ] at c0 c1
    have f0 := hN.free 0
    have f1 := hN.free 1
    have HF3 := Lib.hid hN
    clear hN
    go_wp2_with fail
    exact bodyPost_ret (v := .tuple #[confV 0 0, .int .u32 0, .int .i64 1]) (by simp [results, Try.results22, go_sem, confV, c0, c1]) rfl ⟨rfl, (HK.out.setNew (Nat.le_refl _) 0 _).setNew (Nat.le_refl _) 1 _⟩

set_option maxHeartbeats 4000000 in
set_option maxRecDepth 10000 in
theorem puthead_own (x s n : Nat) (w : World) (hx : x < 256) (hs : s < 4294967296) (hn : n < 4294967296) : Calls Try.prog 20 #[confV x s, .int .u32 (n : Int)] w fun e w' => ∃ v, e = .returned (.tuple #[v, .int .i64 (if mayHead x s n = true then 0 else 1)]) ∧ NewBytes w (putH x s n) v w' := by
  have HW := Lib.hid (Whole.new w 48 (confCells x s))
  have HK0 := Lib.hid ((Keeps.refl NoBlock w).alloc (.cells (confCells x s) 48))
  have HCk := Lib.hid (fun w => hcheck_own x s n w)
  unfold putH
  by_cases hm : mayHead x s n = true
  · rw [if_pos hm] at HCk ⊢
    rw [if_pos hm]
    have hbl := headB_length (e := x) (s := s) (n := n) (by omega) (by omega)
    have hbo := headB_octets (e := x) (s := s) (n := n) hx
    have HPs := Lib.hid (fun base g xs w h hb hx => put_any base g xs s (s : Int) rfl w h hb hx (by omega))
    have HPn := Lib.hid (fun base g xs w h hb hx => put_any base g xs n (n : Int) rfl w h hb hx (by omega))
    have hdef : headB x s n = ((([] ++ [(1 : Int)]) ++ [(2 : Int)]) ++ [(x : Int)]) ++ vnum s ++ vnum n := by simp [headB]
    rw [hdef] at hbl hbo ⊢
    have hls := vnum_ten (x := s) (by omega)
    have ws : IntKind.u64.wrap (s : Int) = (s : Int) := by rw [IntKind.wrap_u64]; omega
    have wn : IntKind.u64.wrap (n : Int) = (n : Int) := by rw [IntKind.wrap_u64]; omega
    obtain ⟨S, hS⟩ : ∃ S, S = vnum s := ⟨_, rfl⟩
    obtain ⟨V, hV⟩ : ∃ V, V = vnum n := ⟨_, rfl⟩
    rw [← hS] at HPs hbl hbo hls ⊢
    rw [← hV] at HPn hbl hbo ⊢
    have HS := Lib.hid (fun q d W L (hL : L = (((([] ++ [(1 : Int)]) ++ [(2 : Int)]) ++ [(x : Int)]) ++ S ++ V).length) (hd : L ≤ d) (hd' : d ≤ 9223372036854775807) (hq : q = none → L = 0 ∧ d = 0) (h8 : Bytes8 W q (((([] ++ [(1 : Int)]) ++ [(2 : Int)]) ++ [(x : Int)]) ++ S ++ V)) => seal_own q L d _ W ⟨hL, hd, hd', hq, hbo, h8⟩ (by omega))
    obtain ⟨G, hG⟩ : ∃ G, G = ((([] ++ [(1 : Int)]) ++ [(2 : Int)]) ++ [(x : Int)]) ++ S ++ V := ⟨_, rfl⟩
    rw [← hG] at HS hbl ⊢
    have HG := Lib.hid hG
    clear hm hdef hS hV hbo hG
    unfold confV at HCk ⊢
    go_enter Try.func20, Try.ntmps20
    go_wp2_with fail
    refine (HCk.out _).mono ?_
    rintro e w1 ⟨rfl, hk⟩
    have hN := HW.out.keep hk (fun h => h)
    have HK := Lib.hid (HK0.out.trans hk)
    have hsz : w.heap.size + 1 ≤ w1.heap.size := by have := hk.size; simpa using this
    have HSz := Lib.hid hsz
    have hwa : Keeps NoBlock w1 (w1.alloc (.cells #[.slice none 0 0] 60)) := (Keeps.refl NoBlock w1).alloc _
    obtain ⟨W, hW⟩ : ∃ W, W = w1.alloc (.cells #[.slice none 0 0] 60) := ⟨_, rfl⟩
    have HB : Hid (BufAt W w1.heap.size w1.heap.size []) := Lib.hid (by rw [hW]; exact bufNewB w1 w1.heap.size)
    have HR : Hid (Whole W w.heap.size 48 (confCells x s)) := Lib.hid (by rw [hW]; exact hN.alloc _)
    have HQ : Hid (Keeps (fun i => w1.heap.size ≤ i) w1 W) := Lib.hid (by rw [hW]; exact (Keeps.refl _ w1).alloc _)
    clear hk hN hsz hwa
    go_wp2_with fail
    rw [← hW]
    clear hW
    have s0 : W.drew.cell? ⟨w.heap.size, 0, none⟩ = some (.int .u8 (x : Int)) := HR.out.cell 0 rfl
    have sN : W.cell? ⟨w.heap.size, 0, none⟩ = some (.int .u8 (x : Int)) := HR.out.cell 0 rfl
    go_region_held3 (fun w' => w'.cell? ⟨w.heap.size, 0, none⟩ = some (.int .u8 (x : Int)))
      (first | exact s5 | exact s0 | exact sN)
      (first | (go_at_call 43; refine (bufByteK w1.heap.size w1.heap.size _ _ _ (by exact HB.out) (by have := HQ.out.size; first | exact this | omega) (by simp)).mono ?_; rintro e w5 ⟨rfl, hb, hk⟩; have hk' : Keeps (fun i => w1.heap.size ≤ i) W w5 := (by first | exact hk.onBuf (Nat.le_refl _) | exact (hk.onBuf (Nat.le_refl _)).ofDrew | exact (hk.onBuf (Nat.le_refl _)).ofDrewN); have HB := Lib.hid hb; have HQ := Lib.hid (HQ.out.trans hk'); have HR := Lib.hid (HR.out.keep hk' (by have := HSz.out; omega)); have s5 : w5.cell? ⟨w.heap.size, 0, none⟩ = some (.int .u8 (x : Int)) := HR.out.cell 0 rfl; clear hb hk hk'; obtain ⟨W, rfl⟩ : ∃ x, x = w5 := ⟨_, rfl⟩))
    have q1 : W.cell? ⟨w.heap.size, 1, none⟩ = some (.int .u32 (s : Int)) := HR.out.cell 1 rfl
    have HB3 : Hid (BufAt W w1.heap.size w1.heap.size ((([] ++ [(1 : Int)]) ++ [(2 : Int)]) ++ [(x : Int)])) := HB
    have HQ3 := HQ
    clear HB HQ HR s0 sN s5
    go_wp2_with fail
    refine (HPs.out _ _ _ _ HB3.out HQ3.out.size (by simp)).mono ?_
    rintro e w6 ⟨rfl, hb, hk⟩
    have HB6 := Lib.hid hb
    have HQ6 := Lib.hid (HQ3.out.trans (hk.onBuf (Nat.le_refl _)))
    clear hb hk HB3
    go_wp2_with fail
    refine (HPn.out _ _ _ _ HB6.out HQ6.out.size (by simp; omega)).mono ?_
    rintro e w7 ⟨rfl, hb, hk⟩
    have HB7 := Lib.hid hb
    have HQ7 := Lib.hid (HQ6.out.trans (hk.onBuf (Nat.le_refl _)))
    clear hb hk HB6
    rw [← HG.out] at HB7
    have hG0 : 0 < G.length := by rw [HG.out]; simp
    have HBy := Lib.hid (bufBytes w1.heap.size w1.heap.size G w7 HB7.out (by omega))
    obtain ⟨L, hL⟩ : ∃ L, L = G.length := ⟨_, rfl⟩
    rw [← hL] at HBy hG0
    have HL := Lib.hid hL
    clear hL hbl q1 HB7
    go_wp2_with fail
    refine HBy.out.mono ?_
    rintro e w8 ⟨v, rfl, q, d, rfl, hd, hd', hby, hq, hk⟩
    have HK8 := Lib.hid (HK.out.then (HQ7.out.trans (hk.wider (S' := fun i => w1.heap.size ≤ i) (fun _ _ h => h.elim))) (fun i hi h => by have := HSz.out; omega))
    have HB8 := Lib.hid hby
    have HQ8 : Hid (q = none → L = 0 ∧ d = 0) := Lib.hid (fun h0 => by
      obtain ⟨a, ha, _⟩ := HB8.out (by rw [← HL.out]; exact hG0)
      rw [h0] at ha
      simp at ha)
    have hd9 : d ≤ 9223372036854775807 := by first | omega | (unfold maxLen at hd'; omega) | exact hd'
    clear hby hq hk hd'
    go_wp2_with fail
    refine (HS.out q d _ L HL.out hd hd9 HQ8.out HB8.out).mono ?_
    rintro e w9 ⟨v2, rfl, q2, m2, d2, rfl, hm2, hmd2, hd2, hq2, hb2, hk2⟩
    have HN := Lib.hid (show NewBytes w (sealN G) (.slice q2 m2 d2) w9 from ⟨q2, m2, d2, rfl, hm2, hmd2, hd2, hq2, hb2, HK8.out.trans hk2⟩)
    clear hm2 hmd2 hd2 hq2 hb2 hk2
    go_wp2_with fail
    refine bodyPost_ret (results_tmp2 rfl _ _ _) rfl ?_
    exact ⟨_, rfl, HN.out⟩
  · rw [if_neg hm] at HCk ⊢
    rw [if_neg hm]
    clear hm
    unfold confV at HCk ⊢
    go_enter Try.func20, Try.ntmps20
    go_wp2_with fail
    refine (HCk.out _).mono ?_
    rintro e w1 ⟨rfl, hk⟩
    have HK := Lib.hid (HK0.out.trans hk)
    clear hk
    go_wp2_with fail
    refine bodyPost_ret (results_tmp2 rfl _ _ _) rfl ?_
    exact ⟨_, rfl, .ofNil _ _ HK.out⟩

theorem frame_ok : FrameOk where
  shut := fun p N c xs w h hN => seal_own p N c xs w h hN
  open_ := fun p N c ys w h hN => open_own p N c ys w h (by omega)
  size := fun z w h0 h1 => fsize_own z w h0 h1
  putrec := fun r w h => putrec_own r w h
  getrec := fun p N c ys w h hN => getrec_own p N c ys w h hN
  puthead := fun x s n w hx hs hn => puthead_own x s n w hx hs hn
  gethead := fun p N c ys w h hN => gethead_own p N c ys w h hN
end Go.Proofs.Ytjjeaaiajgbncaa

namespace Go.Proofs.Ytjjeaaiajgbncaa
open Go.ChangeShapes Go.WideShapes Go.ChangeAt Go.RowKit

theorem own : ownKnob Try.prog.godebug = none := by kernel_rfl
theorem laidOut : laidOutB Try.prog = true := by kernel_rfl

theorem trodAll_stay {H : Type} {enc : TypeId × Value → H} {W W' : World} (hb : Below W.heap.size W W') : ∀ (ts : List TypeId) (vs : List Value) (ds : List (DataW H)) (ps : List MemPlace), (∀ t ∈ ts, Try.prog.readableRec t = true ∧ t < Try.prog.types.size) →
    DataW.TrodAll enc Try.prog W 0 (fun _ => true) true ts vs ds ps → (∀ x ∈ ps, x.block < W.heap.size) → DataW.TrodAll enc Try.prog W' 0 (fun b => decide (b < W.heap.size)) true ts vs ds ps
  | [], [], [], _, _, h, _ => h
  | t :: ts, v :: vs, d :: ds, _, hr, ⟨p, q, h1, h2, e⟩, hlt => by
    subst e
    exact ⟨p, q, Below.trod laidOut (hr t List.mem_cons_self).1 (hr t List.mem_cons_self).2 h1 hb (fun x hx => hlt x (List.mem_append_left _ hx)),
      trodAll_stay hb ts vs ds q (fun u hu => hr u (List.mem_cons_of_mem _ hu)) h2 (fun x hx => hlt x (List.mem_append_right _ hx)), rfl⟩
  | [], _ :: _, _, _, _, h, _ => h.elim
  | [], [], _ :: _, _, _, h, _ => h.elim
  | _ :: _, [], _, _, _, h, _ => h.elim
  | _ :: _, _ :: _, [], _, _, h, _ => h.elim

/-- What a law's specification says. -/
def LawSpec (s : ChangeSpec) (n : Nat) : Prop :=
  s.vars = [] ∧ ∀ (H : Type) (ds : List (DataW H)), ds.length = n → (s.fn H ds).results = [.lit (.bool true)] ∧ (s.fn H ds).args = ds ∧ (s.fn H ds).vars = []

theorem trodAll_length {H : Type} {enc : TypeId × Value → H} {W : World} {sp : Nat → Bool} {hd : Bool} : ∀ (ts : List TypeId) (vs : List Value) (ds : List (DataW H)) (ps : List MemPlace), DataW.TrodAll enc Try.prog W 0 sp hd ts vs ds ps → ds.length = ts.length
  | [], [], [], _, _ => rfl
  | _ :: ts, _ :: vs, _ :: ds, _, ⟨_, q, _, h2, _⟩ => by simp [trodAll_length ts vs ds q h2]
  | [], _ :: _, _, _, h => h.elim
  | [], [], _ :: _, _, h => h.elim
  | _ :: _, [], _, _, h => h.elim
  | _ :: _, _ :: _, [], _, h => h.elim

theorem law_post {H : Type} {enc : TypeId × Value → H} {f : Func} {s : ChangeSpec} {W W' : World} {args : Array Value} {ds gs : List (DataW H)} {before : List MemPlace} (hs : LawSpec s f.params.size) (hres : f.resultTypes = #[4])
    (hr0 : (f.params.toList.all fun t => Try.prog.readableRec t && decide (t < Try.prog.types.size)) = true) (hW : DataW.Whole enc Try.prog f.params.toList s.vars false W args.toList ds gs before) (hb : Below W.heap.size W W') :
    s.post enc Try.prog f false true false false W args (.bool true) W' := by
  have hr : ∀ t ∈ f.params.toList, Try.prog.readableRec t = true ∧ t < Try.prog.types.size := fun t ht => by simpa using List.all_eq_true.1 hr0 t ht
  have hW' := hW
  obtain ⟨p, q, hA, hV, rfl, _, _⟩ := hW
  rw [hs.1] at hV
  have hgs : gs = [] ∧ q = [] := by
    cases gs with
    | nil => exact ⟨rfl, hV⟩
    | cons g gs => exact hV.elim
  obtain ⟨rfl, rfl⟩ := hgs
  have hl := trodAll_length _ _ _ _ hA
  have hlt : ∀ x ∈ p, x.block < W.heap.size := fun x hx => by simpa using hW'.lt x (List.mem_append_left _ hx)
  obtain ⟨h1, h2, h3⟩ := hs.2 H (ds ++ []) (by simpa using hl)
  refine ⟨ds, [], p ++ [], [], p, [], hW', ?_, ?_, ?_, hb.frame _, fun h => by cases h⟩
  · rw [h1, hres]
    exact trodAll_mk1 (shut_bool Try.underlying4 true)
  · rw [h2, List.append_nil]
    exact trodAll_stay hb _ _ _ _ hr hA hlt
  · rw [h3, hs.1]
    rfl
end Go.Proofs.Ytjjeaaiajgbncaa

namespace Go.Proofs.Ytjjeaaiajgbncaa
open Go.ChangeShapes Go.WideShapes Go.ChangeAt Go.RowKit

theorem octet_wf {n : Int} (h : (Lit.int .u8 n).wf = true) : 0 ≤ n ∧ n < 256 := by
  have : 0 ≤ n ∧ n ≤ 255 := by simpa [Lit.wf, IntKind.min, IntKind.max, IntKind.signed, IntKind.bits] using h
  omega

set_option maxRecDepth 100000 in
/-- An argument that is a slice of bytes. -/
theorem open_octets {H : Type} {enc : TypeId × Value → H} {W : World} {base : Nat} {v : Value} {d : DataW H} {ps : List MemPlace} (hv : Value.okWide Try.prog W .any base 22 v) (h : DataW.Trod enc Try.prog W 0 (fun _ => true) true 22 v d ps) :
    ∃ (p : Option Addr) (N c : Nat) (xs : List Int), v = .slice p N c ∧ N = xs.length ∧ N ≤ c ∧ c ≤ 9223372036854775807 ∧ Bytes8 W p xs ∧ Octets xs ∧ (1 ≤ N → ∀ r, p = some r → r.block < W.heap.size) ∧ (p = none → N = 0 ∧ c = 0) := by
  obtain ⟨a0, len, cap, rfl⟩ := okWide_slice Try.underlying22 hv
  obtain ⟨fuel, hf⟩ := h
  rcases open_ints Try.underlying22 Try.underlying5 (by kernel_rfl) hf with ⟨hcs, hx⟩ | ⟨a, len', cap', zs, hcs, _, hl, hm, hz, hx, hcell, hwz⟩
  · simp [Value.cells] at hcs
    obtain ⟨rfl, rfl, rfl⟩ := hcs
    exact ⟨none, 0, 0, [], rfl, rfl, Nat.le_refl _, by omega, Bytes8.nil _ _, fun b hb => by simp at hb, fun h => by omega, fun _ => ⟨rfl, rfl⟩⟩
  · simp [Value.cells] at hcs
    obtain ⟨rfl, rfl, rfl⟩ := hcs
    simp only [if_true] at hz
    have hxl : (zs.take len).length = len := by simp; omega
    have hb8 : Bytes8 W (some a) (zs.take len) := fun _ => ⟨a, rfl, fun i hi => by
      rw [hxl] at hi
      rw [hcell i (by omega)]
      simp [hi]⟩
    refine ⟨some a, len, cap, zs.take len, rfl, hxl.symm, hl, by unfold maxLen at hm; omega, hb8, fun b hb => octet_wf (hwz b (List.mem_of_mem_take hb)), fun h1 r hr => ?_, fun h => by simp at h⟩
    obtain ⟨a', ha', hc'⟩ := hb8 (by omega)
    obtain rfl := Option.some.inj hr
    obtain rfl := Option.some.inj ha'
    have := ltOfCell (hc' 0 (by omega))
    rwa [addBlock] at this
end Go.Proofs.Ytjjeaaiajgbncaa

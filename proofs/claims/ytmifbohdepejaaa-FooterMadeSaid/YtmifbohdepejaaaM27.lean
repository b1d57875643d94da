/-
  FtGetOwn; FtGetAll; OpenS; OpenE; OpenFt; FtGeWalk.
-/
import Derived.Lib.SmallJoins
import Derived.Deep.Slices
import Derived.Test.YtmifbohdepejaaaM02
import Derived.Test.YtmifbohdepejaaaM05
import Derived.Test.YtmifbohdepejaaaM09
import Derived.Test.YtmifbohdepejaaaM13
import Derived.Test.YtmifbohdepejaaaM14
import Derived.Test.YtmifbohdepejaaaM21
import Derived.Test.YtmifbohdepejaaaM24
import Derived.Test.YtmifbohdepejaaaM26
namespace Go.Proofs.Ytmifbohdepejaaa
open Go.RowKit Go.Sort

set_option maxHeartbeats 4000000 in
set_option maxRecDepth 10000 in
theorem equal64_own (p : Option Addr) (n c : Nat) (l : List Nat) (q : Option Addr) (m d : Nat) (k : List Nat) (w : World) (hn : n = l.length) (hm : m = k.length) (hl : RowN w p l) (hk : RowN w q k) (hn9 : n ≤ 1000000) (hm9 : m ≤ 1000000) :
    Calls Try.prog 34 #[.slice p n c, .slice q m d] w fun e w' => e = .returned (.bool (decide (l = k))) ∧ Keeps NoBlock w w' := by
  have mixed : Try.prog.follows .mixedOrders = true := by kernel_rfl
  by_cases hnm : n = m
  · subst hnm
    have HL := Lib.hid hl
    have HK' := Lib.hid hk
    have HN := Lib.hid hn
    have HM := Lib.hid hm
    clear hl hk hn hm
    go_enter Try.func34, Try.ntmps34
    go_wp2_with fail
    go_loopw [13] (fun i wr => ∃ j : Nat, j ≤ n ∧ i = .int .i64 (j : Int) ∧ Hid (∀ i, i < j → l.getD i 0 = k.getD i 0) ∧ Hid (Keeps NoBlock w wr)) (fun i _ => n - (intOf i).toNat)
    case atStart => exact ⟨0, Nat.zero_le _, rfl, Lib.hid (fun i h => by omega), Lib.hid (Keeps.refl _ _)⟩
    case round =>
      obtain ⟨j, hj, rfl, HA, HK⟩ := hrel
      by_cases hlt : j < n
      · have hd : decide ((j : Int) < (n : Int)) = true := decide_eq_true (by omega)
        have hin : (j : Int) < (n : Int) := by omega
        obtain ⟨a, rfl, c0⟩ := (RowN.keep HL.out HK.out (fun _ _ h => h)) j (by have := HN.out; omega)
        obtain ⟨b, rfl, d0⟩ := (RowN.keep HK'.out HK.out (fun _ _ h => h)) j (by have := HM.out; omega)
        obtain ⟨r, hr⟩ : ∃ r, r = l.getD j 0 := ⟨_, rfl⟩
        obtain ⟨s, hs⟩ : ∃ s, s = k.getD j 0 := ⟨_, rfl⟩
        rw [← hr] at c0
        rw [← hs] at d0
        have HRr := Lib.hid hr
        have HSs := Lib.hid hs
        clear hr hs
        have C0 : ∀ n os, (grow (wr.drewN n) os).cell? _ = _ := fun n os => cellG c0 n os
        have D0 : ∀ n os, (grow (wr.drewN n) os).cell? _ = _ := fun n os => cellG d0 n os
        clear c0 d0
        have hj0 : (0 : Int) ≤ (j : Int) := by omega
        by_cases hrs : r = s
        · have HRs := Lib.hid hrs
          subst hrs
          go_wp2_with fail
          go_quiet_grown (fail)
          go_wp2_with fail
          go_roundw
          case rel =>
            refine ⟨j + 1, by omega, by go_num, Lib.hid (fun i hi => ?_), by first | exact Lib.hid (keepsG HK.out _ _) | exact Lib.hid (keepsG HK.out _ _).drew⟩
            by_cases he : i = j
            · rw [he, ← HRr.out, ← HSs.out]
            · exact HA.out i (by omega)
          case measure => simp [intOf]; omega
        · have HB : Hid (decide (l = k) = false) := Lib.hid (decide_eq_false (fun e => hrs (by rw [HRr.out, HSs.out, e])))
          have hne : ((r : Int) != (s : Int)) = true := by rw [bne_iff_ne]; omega
          have hne2 : ¬ (r : Int) = (s : Int) := by omega
          have hne3 : decide ((r : Int) = (s : Int)) = false := decide_eq_false (by omega)
          go_wp2_with fail
          go_quiet_grown (fail)
          go_wp2_with fail
          go_ret
          rw [HB.out]
          exact ⟨rfl, by first | exact keepsG HK.out _ _ | exact (keepsG HK.out _ _).drew⟩
      · have hd : decide ((j : Int) < (n : Int)) = false := decide_eq_false (by omega)
        obtain rfl : j = n := by omega
        have HB : Hid (decide (l = k) = true) := Lib.hid (decide_eq_true (List.ext_getElem (by have := HN.out; have := HM.out; omega) (fun i h1 h2 => by
          have h := HA.out i (by have := HN.out; omega)
          rw [List.getD_eq_getElem?_getD, List.getD_eq_getElem?_getD, List.getElem?_eq_getElem h1, List.getElem?_eq_getElem h2] at h
          exact h)))
        go_wp2_with fail
        go_ret
        rw [HB.out]
        exact ⟨rfl, HK.out⟩
  · have HB : Hid (decide (l = k) = false) := Lib.hid (decide_eq_false (fun e => hnm (by rw [hn, hm, e])))
    have hne : ((n : Int) != (m : Int)) = true := by rw [bne_iff_ne]; omega
    have hne2 : ¬ (n : Int) = (m : Int) := by omega
    have hne3 : decide ((n : Int) = (m : Int)) = false := decide_eq_false (by omega)
    clear hl hk hn hm
    go_enter Try.func34, Try.ntmps34
    go_wp2_with fail
    go_ret
    rw [HB.out]
    exact ⟨rfl, Keeps.refl _ _⟩

/-- Run, with the reading of a footer. -/
theorem run_ftIn (w0 : World) (A B : Nat) (p : Option Addr) (xs : List Int) (N c : Nat) (hx : N = xs.length) (ho : Octets xs) (hc : N ≤ c) (hc' : c ≤ 9223372036854775807) (hN9 : N ≤ 1000000) (hb : Bytes8 w0 p xs) (cA : Whole w0 A 25 #[.int .u32 0, .slice none 0 0]) (cB : Whole w0 B 47 #[.slice none 0 0]) (hAB : A < B) (far : 0 < xs.length → ∀ q, p = some q → q.block < A) :
    Calls Try.prog 66 #[.slice p N c, .func (.func 67) #[] #[.pointer (some ⟨A, 0, none⟩), .pointer (some ⟨B, 0, none⟩)]] w0 fun e w' => e = .returned (.tuple #[.int .i64 ((rKind 0 xs).a : Int), .int .i64 (rKind 0 xs).y]) ∧ LeftFt w0 A B (rKind 0 xs) w' := by
  have hlt := cB.lt
  refine (run_any _ _ p N c (rKind 0 xs).a (rKind 0 xs).y _ w0 enter_ftIn (fun W hB hK hsz => ftIn w0 W A B p xs N c hx ho hc hc' hN9 hsz ⟨hB, cA.keep hK (fun h => h), cB.keep hK (fun h => h), hb.keep hK (fun _ _ h => h), hK.wider (fun _ _ h => h.elim), ⟨hAB, hlt⟩, far⟩)).mono ?_
  rintro e w' ⟨rfl, w2, ⟨hR, x, q, m, d, q2, m2, d2, h1, h2, h3⟩, hT⟩
  refine ⟨rfl, hR.then hT.2.2.2.2 (fun i hi h => by omega), x, q, m, d, q2, m2, d2, h1.keep hT.2.2.2.2 (by omega), h2.keep hT.2.2.2.2 (by omega), fun hy => ?_⟩
  obtain ⟨e0, h4, h5⟩ := h3 hy
  exact ⟨e0, h4.keep hT.2.2.2.2 (fun i hi h => by omega), h5.keep hT.2.2.2.2 (fun i hi h => by omega)⟩

theorem FarE.lower {K J : Nat} {w : World} {q : Option Addr} {m d : Nat} {l : List En} (h : FarE K w q m d l) (hj : J ≤ K) : FarE J w q m d l :=
  ⟨h.1, h.2.1, h.2.2.1, h.2.2.2.1, h.2.2.2.2.1, fun h0 a ha => Nat.le_trans hj (h.2.2.2.2.2 h0 a ha)⟩
theorem FarN.lower {K J : Nat} {w : World} {q : Option Addr} {m d : Nat} {l : List Nat} (h : FarN K w q m d l) (hj : J ≤ K) : FarN J w q m d l :=
  ⟨h.1, h.2.1, h.2.2.1, h.2.2.2.1, h.2.2.2.2.1, fun h0 a ha => Nat.le_trans hj (h.2.2.2.2.2 h0 a ha)⟩
/-- How read ends. -/
def RdPost (w : World) (t : RF) (e : Ending) (w' : World) : Prop :=
  ∃ (x : Int) (q : Option Addr) (m d : Nat) (q2 : Option Addr) (m2 d2 : Nat), e = .returned (.tuple #[.agg #[.int .u32 x, .slice q m d], .slice q2 m2 d2, .int .i64 t.y]) ∧ Keeps NoBlock w w' ∧ (t.y = 0 → x = (t.u : Int) ∧ FarE w.heap.size w' q m d t.l ∧ FarN w.heap.size w' q2 m2 d2 t.fs)

set_option maxHeartbeats 2000000 in
set_option maxRecDepth 10000 in
theorem ftread_own (p : Option Addr) (N c : Nat) (xs : List Int) (w : World) (h : In8 w p N c xs) (hN9 : N ≤ 1000000) :
    Calls Try.prog 33 #[.slice p N c] w (RdPost w (rKind 0 xs)) := by
  have hmf := getFnOk
  have hk0 : Keeps NoBlock w ((w.alloc (.cells #[.int .u32 0, .slice none 0 0] 25)).alloc (.cells #[.slice none 0 0] 47)) := ((Keeps.refl NoBlock w).alloc _).alloc _
  have hA : Whole ((w.alloc (.cells #[.int .u32 0, .slice none 0 0] 25)).alloc (.cells #[.slice none 0 0] 47)) w.heap.size 25 #[.int .u32 0, .slice none 0 0] := (Whole.new w _ _).alloc _
  have hB : Whole ((w.alloc (.cells #[.int .u32 0, .slice none 0 0] 25)).alloc (.cells #[.slice none 0 0] 47)) (w.heap.size + 1) 47 #[.slice none 0 0] := Whole.newAt (w.alloc (.cells #[.int .u32 0, .slice none 0 0] 25)) _ _ _ (by simp)
  have hrun := run_ftIn _ w.heap.size (w.heap.size + 1) p xs N c h.len h.oct h.cap h.room hN9 (h.at_.keep hk0 (fun _ _ h => h)) hA hB (by omega) (fun h0 q hq => by
    obtain ⟨a, ha, hcell⟩ := h.at_ h0
    obtain rfl := Option.some.inj (hq.symm.trans ha)
    have := ltOfCell (hcell 0 h0)
    rwa [addBlock] at this)
  have hs0 : w.heap.size + 2 = ((w.alloc (.cells #[.int .u32 0, .slice none 0 0] 25)).alloc (.cells #[.slice none 0 0] 47)).heap.size := by simp
  obtain ⟨t, ht⟩ : ∃ t, t = rKind 0 xs := ⟨_, rfl⟩
  rw [← ht] at hrun ⊢
  have HRn := Lib.hid hrun
  have HK0 := Lib.hid hk0
  have HS0 := Lib.hid hs0
  clear hrun hk0 hA hB ht h hs0
  go_enter Try.func33, Try.ntmps33
  go_wp2_with fail
  refine HRn.out.mono ?_
  rintro e w1 ⟨rfl, hk, x, q, m, d, q2, m2, d2, hA, hB, hy⟩
  have HK := Lib.hid (HK0.out.then hk (fun i hi h => by omega))
  have HY := Lib.hid hy
  have a0 := hA.cell 0 rfl
  have a1 := hA.cell 1 rfl
  have b0 := hB.cell 0 rfl
  simp only [List.getElem_toArray, List.getElem_cons_zero, List.getElem_cons_succ] at a0 a1 b0
  have f0 := hA.free 0
  have f1 := hA.free 1
  have g0 := hB.free 0
  have a0' : w1.drew.cell? ⟨w.heap.size, 0, none⟩ = some (.int .u32 x) := a0
  have a1' : w1.drew.cell? ⟨w.heap.size, 1, none⟩ = some (.slice q m d) := a1
  have b0' : w1.drew.cell? ⟨w.heap.size + 1, 0, none⟩ = some (.slice q2 m2 d2) := b0
  clear hk hA hB HRn hy
  go_wp2_with fail
  go_region
  all_goals go_wp2_with fail
  all_goals refine bodyPost_ret (v := .tuple #[.agg #[.int .u32 x, .slice q m d], .slice q2 m2 d2, .int .i64 t.y]) (by simp [results, Try.results33, go_sem, a0, a1, b0]) rfl ?_
  all_goals refine ⟨x, q, m, d, q2, m2, d2, rfl, by first | exact ((((HK.out.setNew (Nat.le_refl _) 0 _).setNew (Nat.le_refl _) 1 _).setNew (by omega) 0 _)).drew | exact (((HK.out.setNew (Nat.le_refl _) 0 _).setNew (Nat.le_refl _) 1 _).setNew (by omega) 0 _), fun h0 => ?_⟩
  all_goals obtain ⟨e0, hE, hF⟩ := HY.out h0
  all_goals have hS : Keeps (fun i => i = w.heap.size ∨ i = w.heap.size + 1) w1 (((w1.setCell ⟨w.heap.size, 0, none⟩ (.int .u32 x)).setCell ⟨w.heap.size, 1, none⟩ (.slice q m d)).setCell ⟨w.heap.size + 1, 0, none⟩ (.slice q2 m2 d2)) := ((((Keeps.refl _ w1).setIn (.inl rfl) 0 (.int .u32 x)).setIn (.inl rfl) 1 (.slice q m d)).setIn (.inr rfl) 0 (.slice q2 m2 d2))
  all_goals exact ⟨e0, (by first | exact (FarE.lower (hE.keep hS (fun i hi h => by have := HS0.out; omega)) (by have := HS0.out; omega)) | exact (FarE.lower (hE.keep hS.drew (fun i hi h => by have := HS0.out; omega)) (by have := HS0.out; omega))), (by first | exact (FarN.lower (hF.keep hS (fun i hi h => by have := HS0.out; omega)) (by have := HS0.out; omega)) | exact (FarN.lower (hF.keep hS.drew (fun i hi h => by have := HS0.out; omega)) (by have := HS0.out; omega)))⟩

theorem getE_fine (n : Int) (xs : List Int) (ho : Octets xs) : (∀ e ∈ (getE n xs).l, e.Fine) ∧ (getE n xs).l.length ≤ xs.length := by
  have he := getES_fine 0 n ho
  have ee : getES 0 n xs = getE n xs := if_neg (by simp)
  rw [ee] at he
  exact ⟨he.1, he.2.2⟩
theorem getF_rows (n : Int) (xs : List Int) : (getF n xs).l.length ≤ xs.length := by
  unfold getF
  split
  · exact Nat.zero_le _
  · split
    · exact Nat.zero_le _
    · split
      · show (takeF n.toNat xs).length ≤ _
        rw [takeF_length]
        omega
      · exact Nat.zero_le _
/-- What a reading leaves is a footer of no more entries than bytes. -/
theorem rKind_fine (xs : List Int) (ho : Octets xs) : (rKind 0 xs).u < 4294967296 ∧ (∀ e ∈ (rKind 0 xs).l, e.Fine) ∧ (rKind 0 xs).l.length ≤ xs.length ∧ (rKind 0 xs).fs.length ≤ xs.length := by
  have hg : ∀ (y : Int) (a : Nat), (RF.gone y a).u < 4294967296 ∧ (∀ e ∈ (RF.gone y a).l, e.Fine) ∧ (RF.gone y a).l.length ≤ xs.length ∧ (RF.gone y a).fs.length ≤ xs.length := fun y a => ⟨(show (0 : Nat) < 4294967296 by decide), fun e he => by simp [RF.gone] at he, Nat.zero_le _, Nat.zero_le _⟩
  cases xs with
  | nil => exact hg _ _
  | cons b r =>
    have hr : Octets r := fun x hx => ho x (List.mem_cons_of_mem _ hx)
    rw [rKind]
    split
    · unfold rCount
      split
      · exact hg _ _
      · unfold rUsed
        split
        · exact hg _ _
        · split
          · exact hg _ _
          · have hu := (le_short (n := 4) ((hr.drop 4).take 4) (by rw [List.length_take]; omega)).2
            obtain ⟨n, hn⟩ : ∃ n, n = (le (r.take 4)).toNat := ⟨_, rfl⟩
            rw [← hn]
            have he := getE_fine (n : Int) ((r.drop 4).drop 4) ((hr.drop 4).drop 4)
            have hlen : ((r.drop 4).drop 4).length ≤ (b :: r).length := by rw [List.length_drop, List.length_drop, List.length_cons]; omega
            unfold rRows
            split
            · exact hg _ _
            · unfold rFen
              split
              · exact hg _ _
              · obtain ⟨z, hz⟩ : ∃ z, z = (((r.drop 4).drop 4).drop (getE (n : Int) ((r.drop 4).drop 4)).m).drop (getF (countF (n : Int) : Nat) (((r.drop 4).drop 4).drop (getE (n : Int) ((r.drop 4).drop 4)).m)).m := ⟨_, rfl⟩
                rw [← hz]
                have hf := getF_rows (countF (n : Int) : Nat) (((r.drop 4).drop 4).drop (getE (n : Int) ((r.drop 4).drop 4)).m)
                rw [List.length_drop] at hf
                cases z with
                | nil => exact ⟨hu, he.1, Nat.le_trans he.2 hlen, Nat.le_trans hf (by omega)⟩
                | cons _ _ => exact hg _ _
    · exact hg _ _
end Go.Proofs.Ytmifbohdepejaaa

namespace Go.Proofs.Ytmifbohdepejaaa
open Go.RowKit

set_option maxHeartbeats 8000000 in
set_option maxRecDepth 10000 in
theorem ftget_own (p : Option Addr) (N c : Nat) (ys : List Int) (w : World) (h : In8 w p N c ys) (hN : N ≤ 100000) :
    Calls Try.prog 13 #[.slice p N c] w (FtPost w (getFt ys)) := by
  have HA0 := Lib.hid (Whole.new w 25 #[.int .u32 0, .slice none 0 0])
  have HK0 := Lib.hid ((Keeps.refl NoBlock w).alloc (.cells #[.int .u32 0, .slice none 0 0] 25))
  have HO := Lib.hid (open_own p N c ys _ ⟨h.len, h.cap, h.room, h.bare, h.oct, h.at_.keep HK0.out (fun _ _ h => h)⟩ (by omega))
  obtain ⟨hb1, hb2⟩ := open_bound h.oct
  have hl := h.len
  unfold getFt
  obtain ⟨y, hy⟩ : ∃ y, y = (openN ys).1 := ⟨_, rfl⟩
  obtain ⟨T, hT⟩ : ∃ T, T = (openN ys).2 := ⟨_, rfl⟩
  rw [← hy, ← hT] at HO
  rw [← hT] at hb1 hb2
  rw [← hy, ← hT]
  have hT9 : T.length ≤ 100000 := by omega
  have hw0 : w.heap.size ≤ w.heap.size := Nat.le_refl _
  clear h hy hT hl hb2
  by_cases hy0 : y ≠ 0
  · rw [if_pos hy0]
    have hne : (y != 0) = true := by rw [bne_iff_ne]; exact hy0
    clear hb1 hT9
    go_enter Try.func13, Try.ntmps13
    go_wp2_with fail
    refine HO.out.mono ?_
    rintro e w1 ⟨v, rfl, q, m, d, rfl, hm, hmd, hd, hq, hb, hk⟩
    have HK := Lib.hid (HK0.out.trans hk)
    have hA := HA0.out.keep hk (fun h => h)
    have z0 := hA.cell 0 rfl
    have z1 := hA.cell 1 rfl
    have f0 := hA.free 0
    have f1 := hA.free 1
    simp only [List.getElem_toArray, List.getElem_cons_zero, List.getElem_cons_succ] at z0 z1
    clear hk hA hb hm hq
    go_wp2_with fail
    exact bodyPost_ret (v := .tuple #[.agg #[.int .u32 0, .slice none 0 0], .int .i64 y]) (by simp [results, Try.results13, go_sem, z0, z1]) rfl (FtPost.gone rfl ((HK.out.setNew (g := w.heap.size) (Nat.le_refl _) 0 _).setNew (g := w.heap.size) (Nat.le_refl _) 1 _))
  · rw [if_neg hy0]
    obtain rfl : y = 0 := by simpa using hy0
    have hout := rKind_out T
    obtain ⟨hf1, hf2, hf3, hf4⟩ := rKind_fine T hb1
    have HRd := Lib.hid (fun q m d W (h : In8 W q m d T) (hm : m ≤ 1000000) => ftread_own q m d T W h hm)
    obtain ⟨t, ht⟩ : ∃ t, t = rKind 0 T := ⟨_, rfl⟩
    rw [← ht] at hout hf1 hf2 hf3 hf4 HRd
    rw [hout]
    obtain ⟨U, hUd⟩ : ∃ U, U = outF t := ⟨_, rfl⟩
    rw [← hUd]
    have HUd := Lib.hid hUd
    clear hUd
    have HB1 := Lib.hid hb1
    clear hout ht hy0 hb1
    go_enter Try.func13, Try.ntmps13
    go_wp2_with fail
    refine HO.out.mono ?_
    rintro e w1 ⟨v, rfl, q, m, d, rfl, hm, hmd, hd, hq, hb, hk⟩
    have HK := Lib.hid (HK0.out.trans hk)
    have HA := Lib.hid (HA0.out.keep hk (fun h => h))
    have HR := Lib.hid (HRd.out q m d w1 ⟨hm, hmd, hd, hq, HB1.out, hb⟩ (by omega))
    have HSz1 := Lib.hid (show w.heap.size + 1 ≤ w1.heap.size by have := hk.size; simpa using this)
    clear hk hb hm hq HRd HO HA0 HK0 hmd hd
    go_wp2_with fail
    refine HR.out.mono ?_
    rintro e w2 ⟨x, qe, me, de, qf, mf, df, rfl, hk, hok⟩
    have HK := Lib.hid (HK.out.trans hk)
    have HA := Lib.hid (HA.out.keep hk (fun h => h))
    have HOk := Lib.hid hok
    clear hk hok HR
    have HN6 := Lib.hid (Whole.new w2 25 #[.int .u32 x, .slice qe me de])
    have HS6 := Lib.hid ((Keeps.refl NoBlock w2).alloc (.cells #[.int .u32 x, .slice qe me de] 25))
    have HK := Lib.hid (HK.out.trans HS6.out)
    have HA := Lib.hid (HA.out.keep HS6.out (fun h => h))
    by_cases hy : t.y = 0
    rotate_left
    · have hne : (t.y != 0) = true := by rw [bne_iff_ne]; exact hy
      have HU : Hid (U = ⟨t.y, Ft.none⟩) := Lib.hid (by rw [HUd.out]; unfold outF; rw [if_pos hy])
      obtain ⟨Y, hY⟩ : ∃ Y, Y = t.y := ⟨_, rfl⟩
      rw [← hY] at HU hne ⊢
      have z0 := HA.out.cell 0 rfl
      have z1 := HA.out.cell 1 rfl
      have f0 := HA.out.free 0
      have f1 := HA.out.free 1
      simp only [List.getElem_toArray, List.getElem_cons_zero, List.getElem_cons_succ] at z0 z1
      clear hY hy hf1 hf2 hf3 hf4 HN6 HS6 HA HOk
      go_wp2_with fail
      exact bodyPost_ret (v := .tuple #[.agg #[.int .u32 0, .slice none 0 0], .int .i64 Y]) (by simp [results, Try.results13, go_sem, z0, z1]) rfl (FtPost.gone HU.out ((HK.out.setNew (g := w.heap.size) (Nat.le_refl _) 0 _).setNew (g := w.heap.size) (Nat.le_refl _) 1 _))
    obtain ⟨e0, hE, hF⟩ := HOk.out hy
    subst e0
    rw [hy]
    clear hf1
    have hE6 := hE.keep HS6.out (fun _ _ h => h)
    have HF6 := Lib.hid (hF.keep HS6.out (fun _ _ h => h))
    obtain ⟨u, l, fs, hu, hl, hfs⟩ : ∃ u l fs, u = t.u ∧ l = t.l ∧ fs = t.fs := ⟨_, _, _, rfl, rfl, rfl⟩
    have HU : Hid (U = if checkFt ⟨u, l⟩ ≠ 0 then ⟨checkFt ⟨u, l⟩, Ft.none⟩ else if fs ≠ ofF l then ⟨4, Ft.none⟩ else ⟨0, ⟨u, l⟩⟩) := Lib.hid (by rw [HUd.out, hu, hl, hfs]; unfold outF; rw [if_neg (by rw [hy]; decide)])
    rw [← hl] at hf2 hf3 hE6
    rw [← hfs] at HF6 hf4
    have HFl : Hid (mf ≤ 1000000) := Lib.hid (by have := HF6.out.1; omega)
    rw [← hu] at HN6 HS6 HK HA hE6 HF6 ⊢
    have HCk := Lib.hid (ftcheck_own u qe me de l _ ⟨hE6.1, hE6.2.1, hE6.2.2.1, hE6.2.2.2.1, hf2, hE6.2.2.2.2.1⟩ (by have := hE6.1; omega))
    have HE6 := Lib.hid hE6
    have HL9 : Hid (me ≤ 100000) := Lib.hid (by have := hE6.1; omega)
    unfold ftV at HCk
    clear hE6 hu hl hfs hf3 hf4 hE hF hy HOk HUd
    by_cases hck : checkFt ⟨u, l⟩ ≠ 0
    · have HU2 : Hid (U = ⟨checkFt ⟨u, l⟩, Ft.none⟩) := Lib.hid (by rw [HU.out, if_pos hck])
      obtain ⟨Y, hY⟩ : ∃ Y, Y = checkFt ⟨u, l⟩ := ⟨_, rfl⟩
      rw [← hY] at HCk hck HU2
      have hne : (Y != 0) = true := by rw [bne_iff_ne]; exact hck
      have c0 := HN6.out.cell 0 rfl
      have c1 := HN6.out.cell 1 rfl
      simp only [List.getElem_toArray, List.getElem_cons_zero, List.getElem_cons_succ] at c0 c1
      clear hY hck hf2 HF6 HU
      go_wp2_with fail
      refine HCk.out.mono ?_
      rintro e w3 ⟨rfl, hk⟩
      have HK := Lib.hid (HK.out.trans hk)
      have hA := HA.out.keep hk (fun h => h)
      have z0 := hA.cell 0 rfl
      have z1 := hA.cell 1 rfl
      have f0 := hA.free 0
      have f1 := hA.free 1
      simp only [List.getElem_toArray, List.getElem_cons_zero, List.getElem_cons_succ] at z0 z1
      clear hk hA c0 c1 HN6 HS6 HA
      go_wp2_with fail
      exact bodyPost_ret (v := .tuple #[.agg #[.int .u32 0, .slice none 0 0], .int .i64 Y]) (by simp [results, Try.results13, go_sem, z0, z1]) rfl (FtPost.gone HU2.out ((HK.out.setNew (g := w.heap.size) (Nat.le_refl _) 0 _).setNew (g := w.heap.size) (Nat.le_refl _) 1 _))
    · have HU2 : Hid (U = if fs ≠ ofF l then ⟨4, Ft.none⟩ else ⟨0, ⟨u, l⟩⟩) := Lib.hid (by rw [HU.out, if_neg hck])
      have hck0 : checkFt ⟨u, l⟩ = 0 := by simpa using hck
      rw [hck0] at HCk
      have HF2 := Lib.hid hf2
      have c0 := HN6.out.cell 0 rfl
      have c1 := HN6.out.cell 1 rfl
      simp only [List.getElem_toArray, List.getElem_cons_zero, List.getElem_cons_succ] at c0 c1
      clear hck hck0 hf2 HU
      go_wp2_with fail
      refine HCk.out.mono ?_
      rintro e w3 ⟨rfl, hk⟩
      have HK := Lib.hid (HK.out.trans hk)
      have HA := Lib.hid (HA.out.keep hk (fun h => h))
      have HN := Lib.hid (HN6.out.keep hk (fun h => h))
      have HE := Lib.hid (HE6.out.keep hk (fun _ _ h => h))
      have HF := Lib.hid (HF6.out.keep hk (fun _ _ h => h))
      clear hk c0 c1 HN6 HS6 HE6 HF6 HCk
      have c1 := HN.out.cell 1 rfl
      simp only [List.getElem_toArray, List.getElem_cons_zero, List.getElem_cons_succ] at c1
      have HOf := Lib.hid (callsIn_wide.1 (of_in 3 (Nat.le_refl _) qe me de l w3 HE.out.1 HE.out.2.1 HE.out.2.2.1 HL9.out HE.out.2.2.2.2.1))
      have HLo : Hid ((ofF l).length ≤ 1000000) := Lib.hid (by rw [ofF_length]; have := HE.out.1; have := HL9.out; omega)
      obtain ⟨ks, hks⟩ : ∃ ks, ks = ofF l := ⟨_, rfl⟩
      rw [← hks] at HOf HLo HU2
      clear hks
      go_wp2_with fail
      refine HOf.out.mono ?_
      rintro e w4 ⟨v, rfl, hns⟩
      obtain ⟨q9, m9, d9, rfl, hm9, hmd9, hd9, hq9, hr9, hn9, hk⟩ := fnew_row hns
      have HK := Lib.hid (HK.out.trans hk)
      have HA := Lib.hid (HA.out.keep hk (fun h => h))
      have HN := Lib.hid (HN.out.keep hk (fun h => h))
      have HE := Lib.hid (HE.out.keep hk (fun _ _ h => h))
      have HEq := Lib.hid (equal64_own qf mf df fs q9 m9 d9 ks w4 HF.out.1 hm9 (HF.out.keep hk (fun _ _ h => h)).2.2.2.2.1 hr9 HFl.out (by have := HLo.out; omega))
      clear hk hns hm9 hmd9 hd9 hq9 hr9 hn9 HOf HF c1
      by_cases heq : fs = ks
      · have HU3 : Hid (U = ⟨0, ⟨u, l⟩⟩) := Lib.hid (by rw [HU2.out, if_neg (by simpa using heq)])
        rw [decide_eq_true heq] at HEq
        clear heq
        go_wp2_with fail
        refine HEq.out.mono ?_
        rintro e w5 ⟨rfl, hk⟩
        have HK := Lib.hid (HK.out.trans hk)
        have hA := HA.out.keep hk (fun h => h)
        have hN := HN.out.keep hk (fun h => h)
        have HE := Lib.hid (HE.out.keep hk (fun _ _ h => h))
        have z0 := hA.cell 0 rfl
        have z1 := hA.cell 1 rfl
        have f0 := hA.free 0
        have f1 := hA.free 1
        have c0 := hN.cell 0 rfl
        have c1 := hN.cell 1 rfl
        simp only [List.getElem_toArray, List.getElem_cons_zero, List.getElem_cons_succ] at z0 z1 c0 c1
        clear hk hA hN HN HA HEq
        go_wp2_with fail
        refine bodyPost_ret (v := .tuple #[.agg #[.int .u32 (u : Int), .slice qe me de], .int .i64 0]) (by simp [results, Try.results13, go_sem, z0, z1]) rfl ?_
        have hs : Keeps (Just w.heap.size) w5 ((w5.setCell ⟨w.heap.size, 0, none⟩ (.int .u32 (u : Int))).setCell ⟨w.heap.size, 1, none⟩ (.slice qe me de)) := ((Keeps.refl _ w5).setIn (Just.self _) 0 _).setIn (Just.self _) 1 _
        rw [HU3.out]
        exact ⟨qe, me, de, rfl, HE.out.1, HE.out.2.1, HE.out.2.2.1, HE.out.2.2.2.1, (HE.out.keep hs (fun i hi => by have := HSz1.out; unfold Just; omega)).2.2.2.2.1, (HK.out.setNew (g := w.heap.size) (Nat.le_refl _) 0 _).setNew (g := w.heap.size) (Nat.le_refl _) 1 _⟩
      · have HU3 : Hid (U = ⟨4, Ft.none⟩) := Lib.hid (by rw [HU2.out, if_pos heq])
        rw [decide_eq_false heq] at HEq
        clear heq
        go_wp2_with fail
        refine HEq.out.mono ?_
        rintro e w5 ⟨rfl, hk⟩
        have HK := Lib.hid (HK.out.trans hk)
        have hA := HA.out.keep hk (fun h => h)
        have z0 := hA.cell 0 rfl
        have z1 := hA.cell 1 rfl
        have f0 := hA.free 0
        have f1 := hA.free 1
        simp only [List.getElem_toArray, List.getElem_cons_zero, List.getElem_cons_succ] at z0 z1
        clear hk hA HN HA HEq HE
        go_wp2_with fail
        exact bodyPost_ret (v := .tuple #[.agg #[.int .u32 0, .slice none 0 0], .int .i64 4]) (by simp [results, Try.results13, go_sem, z0, z1]) rfl (FtPost.gone HU3.out ((HK.out.setNew (g := w.heap.size) (Nat.le_refl _) 0 _).setNew (g := w.heap.size) (Nat.le_refl _) 1 _))
theorem ftget_ok : FtGetOk := ⟨fun p N c ys w h hN => ftget_own p N c ys w h hN⟩
end Go.Proofs.Ytmifbohdepejaaa

namespace Go.Proofs.Ytmifbohdepejaaa
open Go.Joins Go.ChangeShapes Go.WideShapes Go.ChangeAt Go.RowKit Go.Deep

theorem nums_of_str (s : ByteArray) : ∃ xs, s = strOfNums xs ∧ Octets xs ∧ xs.length = s.size := by
  refine ⟨s.data.toList.map fun b => (b.toNat : Int), ?_, fun b hb => ?_, by rw [List.length_map]; rfl⟩
  · apply ByteArray.ext
    apply Array.ext'
    rw [strOfNums_data, List.map_map]
    have e : ((fun n : Int => UInt8.ofNat n.toNat) ∘ fun b : UInt8 => (b.toNat : Int)) = id := by
      funext b
      simp
    rw [e, List.map_id]
  · obtain ⟨x, _, rfl⟩ := List.mem_map.1 hb
    have := x.toNat_lt
    omega

theorem plusPlain {w : World} {p : Addr} {v : Value} (j : Nat) (h : w.cell? p = some v) : p.add j = ⟨p.block, p.off + j, none⟩ := by
  obtain ⟨b, o, s⟩ := p
  cases s with
  | none => unfold Addr.add; split <;> simp_all
  | some x =>
    unfold World.cell? at h
    split at h <;> simp at h
end Go.Proofs.Ytmifbohdepejaaa

namespace Go.Proofs.Ytmifbohdepejaaa
open Go.Joins Go.ChangeShapes Go.WideShapes Go.ChangeAt Go.RowKit Go.Deep

theorem num_u64E {n : Int} (h : (Lit.int .u64 n).wf = true) : ∃ x : Nat, n = (x : Int) ∧ x < 18446744073709551616 := by
  have : 0 ≤ n ∧ n ≤ 18446744073709551615 := by simpa [Lit.wf, IntKind.min, IntKind.max, IntKind.signed, IntKind.bits] using h
  exact ⟨n.toNat, by omega, by omega⟩
theorem en_of_two {H : Type} {enc : TypeId × Value → H} {W : World} {sp : Nat → Bool} {v0 v1 : Value} {y0 y1 : DataW H × List MemPlace} {n0 n1 : Nat}
    (t0 : DataW.trod enc Try.prog W 0 sp true n0 46 [v0] = some y0) (t1 : DataW.trod enc Try.prog W 0 sp true n1 22 [v1] = some y1) :
    ∃ r : En, v0 = .int .u64 (r.hash : Int) ∧ v1 = .int .u32 (r.at_ : Int) ∧ r.Fine := by
  obtain ⟨a, e0, _, w0⟩ := DataW.trod_int Try.underlying46 t0
  obtain ⟨b, e1, _, w1⟩ := DataW.trod_int Try.underlying22 t1
  obtain ⟨x, rfl, hx⟩ := num_u64E w0
  have hb : 0 ≤ b ∧ b ≤ 4294967295 := by simpa [Lit.wf, IntKind.min, IntKind.max, IntKind.signed, IntKind.bits] using w1
  obtain ⟨y, rfl⟩ : ∃ y : Nat, b = (y : Int) := ⟨b.toNat, by omega⟩
  exact ⟨⟨x, y⟩, by simpa using e0, by simpa using e1, ⟨hx, by simp only; omega⟩⟩

set_option maxRecDepth 100000 in
theorem open_strE {H : Type} {enc : TypeId × Value → H} {W : World} {base : Nat} {v : Value} {d : DataW H} {ps : List MemPlace} (hv : Value.okWide Try.prog W .any base 9 v) (h : DataW.Trod enc Try.prog W 0 (fun _ => true) true 9 v d ps) :
    ∃ xs : List Int, v = .string (strOfNums xs) ∧ Octets xs ∧ xs.length ≤ 9223372036854775807 := by
  obtain ⟨fuel, hf⟩ := h
  obtain ⟨s, e0, _, hs⟩ := DataW.trod_string Try.underlying9 hf
  obtain ⟨xs, rfl, ox, lx⟩ := nums_of_str s
  unfold maxLen at hs
  obtain ⟨s', rfl⟩ := okWide_string Try.underlying9 hv
  refine ⟨xs, ?_, ox, by omega⟩
  simpa [Value.cells] using e0

set_option maxRecDepth 100000 in
theorem open_en {H : Type} {enc : TypeId × Value → H} {W : World} {base : Nat} {v : Value} {d : DataW H} {ps : List MemPlace} (hv : Value.okWide Try.prog W .any base 49 v) (h : DataW.Trod enc Try.prog W 0 (fun _ => true) true 49 v d ps) :
    ∃ r : En, v = enV r ∧ r.Fine := by
  obtain ⟨v0, v1, y0, y1, n, rfl, _, _, t0, t1⟩ := open_agg2 Try.underlying49 (by kernel_rfl) (by kernel_rfl) hv h
  obtain ⟨r, rfl, rfl, hr⟩ := en_of_two t0 t1
  exact ⟨r, rfl, hr⟩

set_option maxRecDepth 100000 in
theorem ens_of_trod {H : Type} {enc : TypeId × Value → H} {W : World} {a0 : Option Addr} {len cap : Nat} {d : DataW H} {ps : List MemPlace} (h : DataW.Trod enc Try.prog W 0 (fun _ => true) true 23 (.slice a0 len cap) d ps) :
    ∃ (p : Option Addr) (n c : Nat) (l : List En), Value.slice a0 len cap = .slice p n c ∧ InE W p n c l := by
  obtain ⟨fuel, hf⟩ := h
  rcases Go.Deep.open_slice Try.underlying23 hf with ⟨hcs, _⟩ | ⟨a, len', cap', m, n, D, Pl, hcs, _, hl, hm, hmm, _, hi⟩
  · simp [Value.cells] at hcs
    obtain ⟨rfl, rfl, rfl⟩ := hcs
    exact ⟨none, 0, 0, [], rfl, rfl, Nat.le_refl _, by omega, fun _ => ⟨rfl, rfl⟩, fun b hb => by simp at hb, fun i hi => by simp at hi⟩
  · simp [Value.cells] at hcs
    obtain ⟨rfl, rfl, rfl⟩ := hcs
    simp only [if_true] at hmm
    have hall : ∀ i, i < len → ∃ r : En, (W.cell? (a.add (i * 2)) = some (.int .u64 (r.hash : Int)) ∧ W.cell? ⟨(a.add (i * 2)).block, (a.add (i * 2)).off + 1, none⟩ = some (.int .u32 (r.at_ : Int))) ∧ r.Fine := by
      intro i hlt
      obtain ⟨cs, hc, ht⟩ := hi i (by omega)
      obtain ⟨ys, n', _, _, hlen, hyl, hfs⟩ := DataW.trod_struct Try.underlying49 ht
      have hyl2 : ys.length = 2 := hyl
      have h2 : Try.prog.cellsOf 49 = 2 := by kernel_rfl
      rw [h2] at hc hlen
      have hs : Try.prog.cellsOf 46 = 1 := by kernel_rfl
      have hs2 : Try.prog.cellsOf 22 = 1 := by kernel_rfl
      obtain ⟨_, _, hat⟩ := World.cells?_some hc
      match cs, hlen with
      | [v0, v1], _ =>
        have t0 := hfs 0 _ rfl
        have t1 := hfs 1 _ rfl
        simp only [List.getElem_toArray, List.getElem_cons_zero, List.getElem_cons_succ] at t0 t1
        simp only [hs, hs2, List.drop_zero, List.drop_succ_cons, List.take_succ_cons, List.take_zero] at t0 t1
        obtain ⟨y0, hy0⟩ : ∃ y, ys[0]? = some y := ⟨_, List.getElem?_eq_getElem (by omega)⟩
        obtain ⟨y1, hy1⟩ : ∃ y, ys[1]? = some y := ⟨_, List.getElem?_eq_getElem (by omega)⟩
        rw [hy0] at t0; rw [hy1] at t1
        obtain ⟨r, rfl, rfl, hr⟩ := en_of_two t0 t1
        have k0 : W.cell? (a.add (i * 2)) = some (.int .u64 (r.hash : Int)) := hat 0 (by omega)
        have k1 := hat 1 (by omega)
        rw [plusPlain 1 k0] at k1
        exact ⟨r, ⟨k0, k1⟩, hr⟩
    haveI : Inhabited En := ⟨En.none⟩
    obtain ⟨f, hf⟩ := Go.Deep.choose_lt (α := En) hall
    refine ⟨some a, len, cap, (List.range len).map f, rfl, by simp, hl, by unfold maxLen at hm; omega, fun h => by simp at h, fun z hz => ?_, fun i hi => ⟨a, rfl, ?_⟩⟩
    · obtain ⟨i, hi, rfl⟩ := List.mem_map.1 hz
      exact (hf i (by simpa using hi)).2
    · have hi' : i < len := by simpa using hi
      have := (hf i hi').1
      simpa [hi', enH, enA] using this

set_option maxRecDepth 100000 in
theorem open_ens {H : Type} {enc : TypeId × Value → H} {W : World} {base : Nat} {v : Value} {d : DataW H} {ps : List MemPlace} (hv : Value.okWide Try.prog W .any base 23 v) (h : DataW.Trod enc Try.prog W 0 (fun _ => true) true 23 v d ps) :
    ∃ (p : Option Addr) (n c : Nat) (l : List En), v = .slice p n c ∧ InE W p n c l := by
  obtain ⟨a0, len, cap, rfl⟩ := okWide_slice Try.underlying23 hv
  exact ens_of_trod h
end Go.Proofs.Ytmifbohdepejaaa

namespace Go.Proofs.Ytmifbohdepejaaa
open Go.Joins Go.ChangeShapes Go.WideShapes Go.ChangeAt Go.RowKit Go.Deep

set_option maxRecDepth 100000 in
theorem open_ft {H : Type} {enc : TypeId × Value → H} {W : World} {base : Nat} {v : Value} {d : DataW H} {ps : List MemPlace} (hv : Value.okWide Try.prog W .any base 25 v) (h : DataW.Trod enc Try.prog W 0 (fun _ => true) true 25 v d ps) :
    ∃ (u : Nat) (q : Option Addr) (n c : Nat) (l : List En), v = ftV u q n c ∧ u < 4294967296 ∧ InE W q n c l := by
  obtain ⟨v0, v1, y0, y1, n, rfl, _, _, t0, t1⟩ := open_agg2 Try.underlying25 (by kernel_rfl) (by kernel_rfl) hv h
  obtain ⟨a, e0, _, w0⟩ := DataW.trod_int Try.underlying22 t0
  have ha : 0 ≤ a ∧ a ≤ 4294967295 := by simpa [Lit.wf, IntKind.min, IntKind.max, IntKind.signed, IntKind.bits] using w0
  obtain ⟨u, rfl⟩ : ∃ u : Nat, a = (u : Int) := ⟨a.toNat, by omega⟩
  have hs : ∃ q m c, v1 = .slice q m c := by
    rcases Go.Deep.open_slice Try.underlying23 t1 with ⟨hcs, _⟩ | ⟨a, len', cap', m, n, D, Pl, hcs, _⟩
    · simp only [List.cons.injEq, and_true] at hcs; exact ⟨_, _, _, hcs⟩
    · simp only [List.cons.injEq, and_true] at hcs; exact ⟨_, _, _, hcs⟩
  obtain ⟨q, m, c, rfl⟩ := hs
  obtain ⟨p, m', c', l, he, hl⟩ := ens_of_trod (d := y1.1) (ps := y1.2) ⟨n, by simpa [Value.cells] using t1⟩
  simp only [Value.slice.injEq] at he
  obtain ⟨rfl, rfl, rfl⟩ := he
  refine ⟨u, _, _, _, l, ?_, by omega, hl⟩
  have e0' : v0 = .int .u32 (u : Int) := by simpa using e0
  rw [e0']
  rfl
end Go.Proofs.Ytmifbohdepejaaa

namespace Go.Proofs.Ytmifbohdepejaaa
open Go.RowKit

set_option maxHeartbeats 4000000 in
set_option maxRecDepth 10000 in
theorem ftgets_walk (HM : FtMostOk) (HG : FtGetOk) (p : Option Addr) (N c : Nat) (ys : List Int) (w : World) (hin : In8 w p N c ys) :
    Calls Try.prog 4 #[.slice p N c] w fun e w' => e = .returned (.bool true) ∧ Keeps NoBlock w w' := by
  have HLv := Lib.hid (fun w => lives13_true HM w)
  obtain ⟨hx, hN, hc, hn0, ho, hb⟩ := hin
  by_cases hg : N ≤ 1500
  rotate_left
  · have hgd : decide ((1500 : Int) < (N : Int)) = true := decide_eq_true (by omega)
    clear HM HG hb
    go_enter Try.func4, Try.ntmps4
    go_wp2_with fail
    refine (HLv.out _).mono ?_
    rintro e w1 ⟨rfl, hk⟩
    have HK := Lib.hid hk
    clear hk
    go_wp2_with fail
    refine (HLv.out _).mono ?_
    rintro e w2 ⟨rfl, hk⟩
    have HK := Lib.hid (HK.out.trans hk)
    clear hk
    go_wp2_with fail
    go_ret
    exact ⟨rfl, HK.out⟩
  have HGe := Lib.hid (fun w hb8 => HG.get p N c ys w ⟨hx, hN, hc, hn0, ho, hb8⟩ (by omega))
  have HRf := Lib.hid (fun w => getft_ref ys ho (by omega) w)
  have hbd := (getFt_small ys ho).2
  have HX := Lib.hid hx
  have HB0 := Lib.hid hb
  have hgd : decide ((1500 : Int) < (N : Int)) = false := decide_eq_false (by omega)
  obtain ⟨U, hU⟩ : ∃ U, U = getFt ys := ⟨_, rfl⟩
  rw [← hU] at HGe HRf hbd
  obtain ⟨Y, ⟨u, l⟩⟩ := U
  have HS := Lib.hid (fun q q2 d d2 w h1 h2 => same13_go u q q2 l.length d d2 l w rfl (by have := hbd; simp only at this; omega) h1 h2)
  clear HM HG hx hb hU ho hbd
  go_enter Try.func4, Try.ntmps4
  go_wp2_with fail
  refine (HLv.out _).mono ?_
  rintro e w1 ⟨rfl, hk⟩
  have HK := Lib.hid hk
  have HB := Lib.hid (HB0.out.keep hk (fun _ _ h => h))
  clear hk
  go_wp2_with fail
  refine (HGe.out _ HB.out).mono ?_
  rintro e w2 ⟨q, m, d, rfl, hm, hmd, hdd, hq, hat, hk⟩
  simp only at hm hat
  subst hm
  have HK := Lib.hid (HK.out.trans hk)
  have HB := Lib.hid (HB.out.keep hk (fun _ _ h => h))
  have HE := Lib.hid hat
  clear hk hat hmd hdd hq
  have hka : Keeps NoBlock w2 (w2.alloc (.cells (ftCells u q l.length d) 25)) := (Keeps.refl NoBlock w2).alloc _
  have HK := Lib.hid (HK.out.trans hka)
  have HB := Lib.hid (HB.out.keep hka (fun _ _ h => h))
  have HE := Lib.hid (EnsAt.keep HE.out hka)
  have HF := Lib.hid (Whole.new w2 25 (ftCells u q l.length d))
  have t1 := textOf p N c ys _ HX.out HB.out
  unfold ftCells at t1
  clear hka
  unfold ftV
  go_wp2_with fail
  refine (HRf.out _).mono ?_
  rintro e w3 ⟨q2, m2, d2, rfl, hm, hmd, hdd, hq, hat, hk⟩
  simp only at hm hat
  subst hm
  have HK := Lib.hid (HK.out.trans hk)
  have HE := Lib.hid (EnsAt.keep HE.out hk)
  have HF := Lib.hid (HF.out.keep hk (fun h => h))
  have HE2 := Lib.hid hat
  clear hk hat hmd hdd hq t1
  have hka : Keeps NoBlock w3 (w3.alloc (.cells (ftCells u q2 l.length d2) 34)) := (Keeps.refl NoBlock w3).alloc _
  have HK := Lib.hid (HK.out.trans hka)
  have HE := Lib.hid (EnsAt.keep HE.out hka)
  have HE2 := Lib.hid (EnsAt.keep HE2.out hka)
  have HF := Lib.hid (HF.out.keep hka (fun h => h))
  have HF2 := Lib.hid (Whole.new w3 34 (ftCells u q2 l.length d2))
  have f0 := HF.out.cell 0 rfl
  have f1 := HF.out.cell 1 rfl
  have g0 := HF2.out.cell 0 rfl
  have g1 := HF2.out.cell 1 rfl
  simp only [ftCells, List.getElem_toArray, List.getElem_cons_zero, List.getElem_cons_succ] at f0 f1 g0 g1
  clear hka
  unfold ftV
  go_wp2_with fail
  refine (HS.out q q2 d d2 _ HE.out HE2.out).mono ?_
  rintro e w4 ⟨rfl, hk⟩
  have HK := Lib.hid (HK.out.trans hk)
  clear hk
  go_wp2_with fail
  go_ret
  exact ⟨by first | rfl | simp, HK.out⟩
end Go.Proofs.Ytmifbohdepejaaa

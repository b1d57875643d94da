/-
  FenSorted; FenGetOwn; FrOpen; RecRead; FrRead; FtRead.
-/
import Derived.Test.YtmifbohdepejaaaM05
import Derived.Test.YtmifbohdepejaaaM06
import Derived.Test.YtmifbohdepejaaaM10
import Derived.Test.YtmifbohdepejaaaM13
import Derived.Test.YtmifbohdepejaaaM14
import Derived.Test.YtmifbohdepejaaaM15
import Derived.Test.YtmifbohdepejaaaM16
import Derived.Test.YtmifbohdepejaaaM19
import Derived.Test.YtmifbohdepejaaaM21
import Derived.Test.YtmifbohdepejaaaM25
namespace Go.Proofs.Ytmifbohdepejaaa
open Go.RowKit Go.Sort

set_option maxHeartbeats 1000000 in
theorem less64_own (x y : Nat) (w : World) : Calls Try.prog 135 #[.int .u64 (x : Int), .int .u64 (y : Int)] w fun e w' => e = .returned (.bool (decide (x < y))) ∧ w' = w := by
  have HA := Lib.hid (fun w => nan64_own x w)
  go_enter Try.func135, Try.ntmps135
  go_wp2_with fail
  refine (HA.out _).mono ?_
  rintro e w1 ⟨rfl, rfl⟩
  go_wp2_with fail
  go_ret
  exact ⟨rfl, rfl⟩

theorem risesF_adj : ∀ {l : List Nat}, risesF l = true ↔ ∀ i, i + 1 < l.length → l.getD i 0 ≤ l.getD (i + 1) 0
  | [] => by simp [risesF]
  | [x] => by simp [risesF]
  | x :: y :: l => by
    rw [risesF, Bool.and_eq_true, risesF_adj (l := y :: l)]
    constructor
    · rintro ⟨h1, h2⟩ i hi
      match i with
      | 0 => simpa using h1
      | i + 1 => simpa using h2 i (by simp at hi ⊢; omega)
    · intro h
      refine ⟨by simpa using h 0 (by simp), fun i hi => ?_⟩
      simpa using h (i + 1) (by simp at hi ⊢; omega)

set_option maxHeartbeats 4000000 in
set_option maxRecDepth 10000 in
theorem sorted64_own (p : Option Addr) (n c : Nat) (l : List Nat) (hn : n = l.length) (hn0 : 0 < n) (hn9 : n ≤ 1000000) (w : World) (hl : RowN w p l) :
    Calls Try.prog 108 #[.slice p n c] w fun e w' => e = .returned (.bool (risesF l)) ∧ Keeps NoBlock w w' := by
  have HL := Lib.hid hl
  have HN := Lib.hid hn
  have HCmp := Lib.hid (fun a b w => less64_own a b w)
  have mixed : Try.prog.follows .mixedOrders = true := by kernel_rfl
  obtain ⟨M, hM⟩ : ∃ M, n = M + 1 := ⟨n - 1, by omega⟩
  have hs : (n : Int) - 1 = (M : Int) := by omega
  have hM9 : M ≤ 1000000 := by omega
  have HM := Lib.hid hM
  clear hl hn hM
  go_enter Try.func108, Try.ntmps108
  go_wp2_with fail
  go_loopw [3] (fun i wr => ∃ m : Nat, m ≤ M ∧ i = .int .i64 (m : Int) ∧ Hid (∀ i, m ≤ i → i + 1 < n → l.getD i 0 ≤ l.getD (i + 1) 0) ∧ Keeps NoBlock w wr) (fun i _ => (intOf i).toNat)
  case atStart => exact ⟨M, Nat.le_refl _, by go_num, Lib.hid (fun i h1 h2 => by have := HM.out; omega), Keeps.refl _ _⟩
  case round =>
    obtain ⟨m, hm, rfl, HA, hkk⟩ := hrel
    have HK := Lib.hid hkk
    clear hkk
    by_cases hlt : 0 < m
    · obtain ⟨m, rfl⟩ : ∃ k, m = k + 1 := ⟨m - 1, by omega⟩
      have hdk : decide (0 < ((m + 1 : Nat) : Int)) = true := decide_eq_true (by omega)
      have hdk2 : decide (0 < (m : Int) + 1) = true := decide_eq_true (by omega)
      obtain ⟨a, rfl, c0⟩ := (RowN.keep HL.out HK.out (fun _ _ h => h)) (m + 1) (by have := HN.out; have := HM.out; omega)
      obtain ⟨b, hb, d0⟩ := (RowN.keep HL.out HK.out (fun _ _ h => h)) m (by have := HN.out; have := HM.out; omega)
      obtain rfl := Option.some.inj hb
      obtain ⟨r, hr⟩ : ∃ r, r = l.getD (m + 1) 0 := ⟨_, rfl⟩
      obtain ⟨s, hs⟩ : ∃ s, s = l.getD m 0 := ⟨_, rfl⟩
      rw [← hr, show a.add (m + 1) = ⟨a.block, a.off + (m + 1), none⟩ from by unfold Addr.add; rw [if_neg (by omega)]] at c0
      rw [← hs] at d0
      have HRr := Lib.hid hr
      have HSs := Lib.hid hs
      clear hr hs hb
      have C0 : ∀ n os, (grow (wr.drewN n) os).cell? _ = _ := fun n os => cellG c0 n os
      have D0 : ∀ n os, (grow (wr.drewN n) os).cell? _ = _ := fun n os => cellG d0 n os
      clear c0 d0
      have hmn1 : m + 1 < n := by have := HM.out; omega
      have hmn : (m : Int) < (n : Int) := by omega
      have hmn2 : m < n := by omega
      have hmn3 : (m : Int) + 1 < (n : Int) := by omega
      have hm3 : (0 : Int) ≤ (m : Int) + 1 := by omega
      have hm4 : ((m : Int) + 1).toNat = m + 1 := by omega
      have hm0 : (0 : Int) ≤ (m : Int) := by omega
      have w1 : IntKind.i64.wrap (m : Int) = (m : Int) := by rw [IntKind.wrap_i64]; omega
      have hms : (m : Int) + 1 - 1 = (m : Int) := by omega
      have hcall := fun k os => HCmp.out r s (grow (wr.drewN k) os)
      have hcall2 : ∀ k os, Calls Try.prog 135 #[.int .u64 (r : Int), .int .u64 (s : Int)] (grow (wr.drewN k) os) fun e w' => e = .returned (.bool (decide (r < s))) ∧ ∃ q os', w' = grow ((grow (wr.drewN k) os).drewN q) os' := fun k os => (hcall k os).mono fun e w' ⟨h1, h2⟩ => ⟨h1, 0, #[], by rw [h2, grow_empty]; rfl⟩
      clear hcall
      by_cases hls : r < s
      · have HB : Hid (risesF l = false) := Lib.hid (by
          cases hb : risesF l
          · rfl
          · have h := risesF_adj.1 hb m (by have := HN.out; have := HM.out; omega)
            rw [← HRr.out, ← HSs.out] at h
            omega)
        rw [decide_eq_true hls] at hcall2
        clear hls
        go_wp2_with fail
        go_quiet_grown ((go_at_call 135; exact Calls.grown_of (hcall2 _ _)))
        go_wp2_with fail
        go_ret
        rw [HB.out]
        exact ⟨rfl, by first | exact keepsG HK.out _ _ | exact (keepsG HK.out _ _).drew⟩
      · have HLs := Lib.hid hls
        rw [decide_eq_false hls] at hcall2
        clear hls
        go_wp2_with fail
        go_quiet_grown ((go_at_call 135; exact Calls.grown_of (hcall2 _ _)))
        go_wp2_with fail
        go_roundw
        case rel =>
          refine ⟨m, by omega, by go_num, Lib.hid (fun i h1 h2 => ?_), by first | exact keepsG HK.out _ _ | exact (keepsG HK.out _ _).drew⟩
          by_cases he : i = m
          · rw [he, ← HRr.out, ← HSs.out]
            have := HLs.out
            omega
          · exact HA.out i (by omega) h2
        case measure => simp [intOf]
    · obtain rfl : m = 0 := by omega
      have HB : Hid (risesF l = true) := Lib.hid (risesF_adj.2 fun i hi => HA.out i (by omega) (by have := HN.out; omega))
      go_wp2_with fail
      go_ret
      rw [HB.out]
      exact ⟨rfl, HK.out⟩
end Go.Proofs.Ytmifbohdepejaaa

namespace Go.Proofs.Ytmifbohdepejaaa
open Go.RowKit

/-- Block g has room for d numbers; the first n are those of f. -/
def RowU (wr : World) (g d n : Nat) (f : Nat → Nat) : Prop :=
  ∃ cur, Whole wr g 46 cur ∧ cur.size = d ∧ n ≤ d ∧ ∀ i, i < n → cur[i]? = some (numV (f i))
theorem RowU.lt {wr : World} {g d n : Nat} {f : Nat → Nat} (h : RowU wr g d n f) : g < wr.heap.size := by
  obtain ⟨cur, hw, _⟩ := h
  exact hw.lt
theorem RowU.cell {wr : World} {g d n : Nat} {f : Nat → Nat} (h : RowU wr g d n f) {i : Nat} (hi : i < n) : wr.cell? ⟨g, i, none⟩ = some (.int .u64 ((f i : Nat) : Int)) := by
  obtain ⟨cur, hw, _, _, hc⟩ := h
  exact hw.cell _ (hc i hi)
theorem RowU.free {wr : World} {g d n : Nat} {f : Nat → Nat} (h : RowU wr g d n f) (i : Nat) : wr.frozen? ⟨g, i, none⟩ = false := by
  obtain ⟨cur, hw, _⟩ := h
  exact hw.free i
theorem RowU.keep {w w' : World} {g d n : Nat} {f : Nat → Nat} (h : RowU w g d n f) {S : Nat → Prop} (hk : Keeps S w w') (hs : ¬ S g) : RowU w' g d n f := by
  obtain ⟨cur, hw, h1⟩ := h
  exact ⟨cur, hw.keep hk hs, h1⟩
theorem RowU.congr {w : World} {g d n m : Nat} {f f' : Nat → Nat} (h : RowU w g d n f) (hm : m ≤ n) (he : ∀ i, i < m → f i = f' i) : RowU w g d m f' := by
  obtain ⟨cur, hw, h1, h2, h3⟩ := h
  exact ⟨cur, hw, h1, by omega, fun i hi => by rw [← he i hi]; exact h3 i (by omega)⟩
theorem RowU.put {w : World} {g d n : Nat} {f : Nat → Nat} (h : RowU w g d n f) {k : Nat} (hk : k < n) (x : Nat) :
    RowU (w.setCell ⟨g, k, none⟩ (.int .u64 (x : Int))) g d n (fun i => if i = k then x else f i) := by
  obtain ⟨cur, hw, h1, h2, h3⟩ := h
  refine ⟨_, hw.set _ _, by simpa using h1, h2, fun i hi => ?_⟩
  dsimp only
  by_cases e : i = k
  · subst e
    rw [if_pos rfl, Array.getElem?_setIfInBounds_self_of_lt (by omega)]
    rfl
  · rw [if_neg e, Array.getElem?_setIfInBounds_ne (by omega)]
    exact h3 i hi
/-- The row as numbers that can be read. -/
theorem RowU.nums {w : World} {g d n : Nat} {f : Nat → Nat} (h : RowU w g d n f) {l : List Nat} (hl : l.length ≤ n) (he : ∀ i, i < l.length → l.getD i 0 = f i) : RowN w (some ⟨g, 0, none⟩) l := fun i hi => by
  refine ⟨_, rfl, ?_⟩
  rw [addZero, he i hi]
  exact h.cell (by omega)
theorem RowU.ofMade {w : World} {base g n d : Nat} (h : w.ownsRow base 46 1 (.slice (some ⟨g, 0, none⟩) n d) n (madeCells #[Value.int .u64 0] n).toList) : RowU w g d n (fun _ => 0) := by
  rcases h with ⟨hl, ⟨h0, _⟩ | ⟨g', cap, cur, hv, hb, hg, h1, h2, h3, h4⟩⟩
  · simp at h0
  · simp only [Value.slice.injEq, Option.some.injEq, Addr.mk.injEq, and_true, true_and] at hv
    obtain ⟨rfl, rfl⟩ := hv
    refine ⟨cur, hg, by omega, h1, fun i hi => ?_⟩
    have e : (cur.toList.take (n * 1))[i]? = (madeCells #[Value.int .u64 0] n).toList[i]? := by rw [h4]
    rw [List.getElem?_take_of_lt (by omega), Array.getElem?_toList, Array.getElem?_toList] at e
    rw [e]
    simp [madeCells, hi, Nat.mod_one]
    rfl

theorem le_natF {xs : List Int} (ho : Octets xs) (m : Nat) : le (xs.take m) = (((le (xs.take m)).toNat : Nat) : Int) := by
  have := (le_bound (xs.take m) (fun b hb => ho b (List.mem_of_mem_take hb))).1
  omega
theorem wrap_smallF {x : Nat} (h : x < 9223372036854775808) : wrap64 (x : Int) = (x : Int) := by unfold wrap64; omega
theorem takeF_getD : ∀ (n j : Nat) (xs : List Int), j < n → (takeF n xs).getD j 0 = (le ((xs.drop (8 * j)).take 8)).toNat
  | 0, _, _, h => by omega
  | n + 1, 0, xs, _ => by simp [takeF]
  | n + 1, j + 1, xs, h => by
    rw [takeF, List.getD_cons_succ, takeF_getD n j (xs.drop 8) (by omega), List.drop_drop, show 8 + 8 * j = 8 * (j + 1) by omega]
/-- What the row is behind j numbers. -/
def soFarF (l : List Nat) (j : Nat) : Nat → Nat := fun i => if i < j then l.getD i 0 else 0
theorem soFarF_step (l : List Nat) (j : Nat) (i : Nat) : (if i = j then l.getD j 0 else soFarF l j i) = soFarF l (j + 1) i := by
  unfold soFarF
  by_cases h : i = j
  · subst h
    rw [if_pos rfl, if_pos (by omega)]
  · rw [if_neg h]
    by_cases h2 : i < j
    · rw [if_pos h2, if_pos (by omega)]
    · rw [if_neg h2, if_neg (by omega)]

set_option maxHeartbeats 4000000 in
set_option maxRecDepth 10000 in
theorem fget_own (k : Nat) (p : Option Addr) (xs : List Int) (N c a : Nat) (z : Int) (w : World) (hx : N = xs.length) (h : CurB w k p N c a true 0) (hb : Bytes8 w p xs) (ho : Octets xs) (hp : 0 < xs.length → ∀ q, p = some q → q.block ≠ k) (ha : a ≤ N) (hN : N ≤ c) (hc : c ≤ 9223372036854775807) (hN9 : N ≤ 1000000) :
    Calls Try.prog 72 #[.pointer (some ⟨k, 0, none⟩), .int .i64 z] w (GetFPost k p N c a (getF z (xs.drop a)) w) := by
  unfold getF
  by_cases hz : z ≤ 0
  · rw [if_pos hz]
    have hd : decide (z ≤ 0) = true := decide_eq_true hz
    have H := Lib.hid h
    clear h hb ho hp hz hx
    go_enter Try.func72, Try.ntmps72
    go_wp2_with fail
    go_ret
    exact ⟨Keeps.refl _ _, .inl ⟨rfl, ⟨_, rfl, none, 0, 0, rfl, rfl, Nat.le_refl _, by decide, fun _ => ⟨rfl, rfl⟩, fun i hi => by simp at hi, fun h => by omega⟩, H.out⟩⟩
  · rw [if_neg hz]
    obtain ⟨n, rfl⟩ : ∃ n : Nat, z = (n : Int) := ⟨z.toNat, by omega⟩
    rw [Int.toNat_natCast]
    have hd : decide ((n : Int) ≤ 0) = false := decide_eq_false hz
    have hd2 : decide (n ≤ 0) = false := decide_eq_false (by omega)
    have hd3 : decide (n = 0) = false := decide_eq_false (by omega)
    have hn0 : ¬ n = 0 := by omega
    obtain ⟨M, hM⟩ : ∃ M, M = (xs.drop a).length := ⟨_, rfl⟩
    have hMN : a + M = N := by rw [hM, List.length_drop]; omega
    have HLf := Lib.hid (fun w h => left_at k p N c a 0 w h ha (by omega))
    rw [show (N : Int) - (a : Int) = (M : Int) by omega] at HLf
    rw [← hM]
    have hq : ((M : Int)).tdiv 8 = ((M / 8 : Nat) : Int) := by rw [Int.tdiv_eq_ediv_of_nonneg (by omega)]; omega
    obtain ⟨K, hK⟩ : ∃ K, K = M / 8 := ⟨_, rfl⟩
    rw [← hK] at hq ⊢
    have hq2 : (M : Int) / 8 = (K : Int) := by omega
    have hK9 : K ≤ 1000000 := by rw [hK]; omega
    by_cases hs : K < n
    · rw [if_pos hs]
      have hs1 : decide ((K : Int) < (n : Int)) = true := decide_eq_true (by omega)
      have hs2 : decide (K < n) = true := decide_eq_true hs
      have H := Lib.hid h
      clear h hb ho hp hz hx hM hK hs
      have hwK : wrap64 (K : Int) = (K : Int) := wrap_smallF (by omega)
      go_enter Try.func72, Try.ntmps72
      go_wp2_with fail
      refine (HLf.out _ H.out).mono ?_
      rintro e w1 ⟨rfl, m, rfl⟩
      have H1 : Hid (CurB (w.drewN m) k p N c a true 0) := Lib.hid H.out
      go_wp2_with fail
      clear hwK
      refine (fail_at k p N c a 2 _ H1.out (by decide)).mono ?_
      rintro e w2 ⟨rfl, hcur, hk⟩
      exact ⟨rfl, hk.ofDrewN, .inr ⟨by decide, rfl, hcur⟩⟩
    · rw [if_neg hs]
      have hs1 : decide ((K : Int) < (n : Int)) = false := decide_eq_false (by omega)
      have hs2 : decide (K < n) = false := decide_eq_false hs
      have hfit : a + 8 * n ≤ N := by omega
      obtain ⟨l, hl⟩ : ∃ l, l = takeF n (xs.drop a) := ⟨_, rfl⟩
      rw [← hl]
      have hll : l.length = n := by rw [hl]; exact takeF_length _ _
      obtain ⟨t, ht⟩ : ∃ t : GF, t = if risesF l = true then ⟨8 * n, 0, l⟩ else ⟨8 * n, 8, []⟩ := ⟨_, rfl⟩
      rw [← ht]
      have HT := Lib.hid ht
      clear ht
      have HG : Hid (∀ j, j < n → le ((xs.drop (a + 8 * j)).take 8) = ((l.getD j 0 : Nat) : Int)) := Lib.hid (fun j hj => by
        have hd := takeF_getD n j (xs.drop a) hj
        rw [← hl, List.drop_drop] at hd
        rw [hd]
        exact le_natF (ho.drop (a + 8 * j)) 8)
      have HE := Lib.hid (fun j w (hj : j < n) h hb => eight_at k p xs N c (a + 8 * j) w hx h hb ho hp (by omega) hN hc)
      have H := Lib.hid h
      have HB := Lib.hid hb
      have HP := Lib.hid hp
      have HL := Lib.hid hll
      have hn9 : n ≤ 200000 := by omega
      obtain ⟨i0, hi, hz0, hz1, hz2⟩ := info_parts infoU64
      have HCx := Lib.hid hfit
      clear h hb ho hp hz hx hM hK hs hl hll hq2 hMN hfit
      have hwK : wrap64 (K : Int) = (K : Int) := wrap_smallF (by omega)
      go_enter Try.func72, Try.ntmps72
      go_wp2_with fail
      refine (HLf.out _ H.out).mono ?_
      rintro e w1 ⟨rfl, m, rfl⟩
      obtain ⟨W, hW⟩ : ∃ W, W = w.drewN m := ⟨_, rfl⟩
      have H1 : Hid (CurB W k p N c a true 0) := Lib.hid (by rw [hW]; exact H.out)
      have HB1 : Hid (Bytes8 W p xs) := Lib.hid (by rw [hW]; exact HB.out)
      have HK1 : Hid (Keeps (Just k) w W) := Lib.hid (by rw [hW]; exact (Keeps.refl _ _).drewN _)
      rw [← hW]
      clear hW HLf
      go_wp2_with (at_make; refine wpList_make_full _ rfl _ _ 47 rfl W.heap.size 46 i0 (.int .u64 0) 1 Try.underlying47 hi hz0 hz1 .i64 .i64 (n : Int) (n : Int) n rfl rfl rfl rfl (by rw [hz2]; omega) (by unfold maxLen; omega) (Nat.le_refl _) ?_)
      intro w2 hown hgrow
      clear hwK
      have hR0 := RowU.ofMade hown
      have HK2 := Lib.hid (HK1.out.grown hgrow (fun k hk => by simp at hk))
      have hkW : k < W.heap.size := H1.out.lt
      have HR : Hid (RowU w2 W.heap.size n n (soFarF l 0)) := Lib.hid (hR0.congr (Nat.le_refl _) (fun i hi => by unfold soFarF; rw [if_neg (by omega)]))
      have hNo : Keeps NoBlock W w2 := (Keeps.refl NoBlock W).grown hgrow (fun k hk => by simp at hk)
      have HC2 : Hid (CurB w2 k p N c (a + 8 * 0) true 0) := Lib.hid (H1.out.keep hNo (fun h => h))
      have HB2 : Hid (Bytes8 w2 p xs) := Lib.hid (HB1.out.keep hNo (fun _ _ h => h))
      have hgn : W.heap.size ≠ k := by omega
      have hwg : w.heap.size ≤ W.heap.size := HK1.out.size
      obtain ⟨g, hgd⟩ : ∃ g, g = W.heap.size := ⟨_, rfl⟩
      rw [← hgd] at HR hgn hwg ⊢
      have HPg : Hid (0 < xs.length → ∀ q, p = some q → q.block ≠ g) := Lib.hid (fun h0 q hq => by
        obtain ⟨a', ha', hc⟩ := HB.out h0
        obtain rfl := Option.some.inj (ha'.symm.trans hq)
        have := ltOfCell (hc 0 h0)
        rw [addBlock] at this
        omega)
      have HGn := Lib.hid hgn
      have HWg := Lib.hid hwg
      clear hown hgrow hR0 hNo hgn hwg hgd hkW H1 HB1 HK1
      go_wp2_with fail
      go_loopw [20] (fun i wr => ∃ j : Nat, j ≤ n ∧ i = .int .i64 (j : Int) ∧ Hid (CurB wr k p N c (a + 8 * j) true 0) ∧ Hid (RowU wr g n n (soFarF l j)) ∧ Hid (Keeps (Just k) w wr) ∧ Hid (Bytes8 wr p xs)) (fun i _ => n - (intOf i).toNat)
      case atStart => exact ⟨0, Nat.zero_le _, rfl, HC2, HR, HK2, HB2⟩
      case round =>
        obtain ⟨j, hj, rfl, HC3, HR3, HK3, HB3⟩ := hrel
        by_cases hlt : j < n
        · have hdj : decide ((j : Int) < (n : Int)) = true := decide_eq_true (by omega)
          have HE3 := HE.out j
          rw [HG.out j hlt] at HE3
          have HE3 := Lib.hid HE3
          obtain ⟨r, hr⟩ : ∃ r, r = l.getD j 0 := ⟨_, rfl⟩
          have HStep : Hid (∀ i, (if i = j then r else soFarF l j i) = soFarF l (j + 1) i) := Lib.hid (by rw [hr]; exact soFarF_step l j)
          rw [← hr] at HE3
          clear hr
          go_wp2_with fail
          refine (HE3.out _ hlt HC3.out HB3.out).mono ?_
          rintro e w4 ⟨rfl, hcur, hk⟩
          have HC4 := Lib.hid hcur
          have HR4 := Lib.hid (HR3.out.keep hk HGn.out)
          have HK4 := Lib.hid (HK3.out.trans hk)
          have HB4 := Lib.hid (HB3.out.keepPos hk (fun h0 q hq => HP.out h0 q hq))
          clear hcur hk
          have x0 := HR4.out.cell hlt
          have f0 := HR4.out.free j
          have HRn := Lib.hid (HR4.out.put hlt r)
          have HKn := Lib.hid (HK4.out.set (p := ⟨g, j, none⟩) (.inr HWg.out) (.int .u64 (r : Int)))
          have hSet : Keeps (Just g) w4 (w4.setCell ⟨g, j, none⟩ (.int .u64 (r : Int))) := (Keeps.refl _ _).setIn (Just.self g) _ _
          have HCn := Lib.hid (Whole.keep HC4.out hSet (fun h => HGn.out h.symm))
          have HSet := Lib.hid hSet
          clear hSet
          go_wp2_with fail
          go_roundw
          case rel =>
            refine ⟨j + 1, by omega, by go_num, Lib.hid ?_, Lib.hid ?_, Lib.hid HKn.out, Lib.hid ?_⟩
            · rw [show a + 8 * (j + 1) = a + 8 * j + 8 by omega]
              exact HCn.out
            · exact HRn.out.congr (Nat.le_refl _) (fun i _ => HStep.out i)
            · exact HB4.out.keepPos HSet.out (fun h0 q hq => HPg.out h0 q hq)
          case measure => simp [intOf]; omega
        · have hdj : decide ((j : Int) < (n : Int)) = false := decide_eq_false (by omega)
          obtain rfl : j = n := by omega
          have HEn := Lib.hid (HR3.out.nums (l := l) (by rw [HL.out]; exact Nat.le_refl _) (fun i hi => by unfold soFarF; rw [if_pos (by have := HL.out; omega)]))
          have HRi := Lib.hid (fun w h => sorted64_own (some ⟨g, 0, none⟩) j j l HL.out.symm (by omega) (by omega) w h)
          cases hri : risesF l
          · rw [hri] at HRi
            have HT2 : Hid (t = ⟨8 * j, 8, []⟩) := Lib.hid (by rw [HT.out, if_neg (by rw [hri]; simp)])
            clear hri HT
            go_wp2_with fail
            refine (HRi.out _ HEn.out).mono ?_
            rintro e w6 ⟨rfl, hk⟩
            have HC6 := Lib.hid (HC3.out.keep hk (fun h => h))
            have HK6 := Lib.hid (HK3.out.then hk (fun _ _ h => h.elim))
            clear hk
            go_wp2_with fail
            refine (fail_at k p N c (a + 8 * j) 8 _ HC6.out (by decide)).mono ?_
            rintro e w7 ⟨rfl, hcur, hk⟩
            refine ⟨rfl, ?_⟩
            unfold GetFPost
            rw [HT2.out]
            exact ⟨HK6.out.trans hk, .inr ⟨show (8 : Int) ≠ 0 by decide, rfl, hcur⟩⟩
          · rw [hri] at HRi
            have HT2 : Hid (t = ⟨8 * j, 0, l⟩) := Lib.hid (by rw [HT.out, if_pos hri])
            clear hri HT
            go_wp2_with fail
            refine (HRi.out _ HEn.out).mono ?_
            rintro e w6 ⟨rfl, hk⟩
            have HC6 := Lib.hid (HC3.out.keep hk (fun h => h))
            have HK6 := Lib.hid (HK3.out.then hk (fun _ _ h => h.elim))
            have HE6 := Lib.hid (RowN.keep HEn.out hk (fun _ _ h => h))
            clear hk
            go_wp2_with fail
            go_ret
            unfold GetFPost
            rw [HT2.out]
            exact ⟨HK6.out, .inl ⟨rfl, ⟨_, rfl, _, _, _, rfl, HL.out.symm, Nat.le_refl _, by omega, fun h => by simp at h, HE6.out, fun _ a ha => by obtain rfl := Option.some.inj ha; exact HWg.out⟩, HC6.out⟩⟩
theorem fenby_ok : FenByOk := ⟨fun base g xs p n c l w h1 h2 h3 h4 h5 h6 => fput_own base g xs p n c l w h1 h2 h3 h4 h5 h6, fun k p xs N c a z w h1 h2 h3 h4 h5 h6 h7 h8 h9 => fget_own k p xs N c a z w h1 h2 h3 h4 h5 h6 h7 h8 h9⟩
end Go.Proofs.Ytmifbohdepejaaa

namespace Go.Proofs.Ytmifbohdepejaaa
open Go.RowKit

/-- Why the reading of a sum stops, where, and the sum. -/
def sumE (N : Nat) : Int := if N < 8 then 2 else 0
def sumA (N : Nat) : Nat := if N < 8 then 0 else 8
def sumX (xs : List Int) : Int := if xs.length < 8 then 0 else le xs

theorem enter_partIn (args : Array Value) (w : World) : (callFunc 100 args).run Try.prog w = .ok (.enter 100 args) w := by kernel_rfl

set_option maxHeartbeats 1000000 in
theorem partIn (w0 W : World) (D : Nat) (p : Option Addr) (xs : List Int) (N c : Nat) (hx : N = xs.length) (h8 : N ≤ 8) (hB : Begun w0 p N c 0 0 W) (hK : Keeps NoBlock w0 W) (hD : Whole W D 46 #[.int .u64 0]) (hDlt : D < w0.heap.size) (hb : Bytes8 W p xs) (ho : Octets xs)
    (hp : 0 < xs.length → ∀ q, p = some q → q.block < w0.heap.size) (hc : N ≤ c) (hc' : c ≤ 9223372036854775807) :
    Calls Try.prog 100 (#[.pointer (some ⟨w0.heap.size + 1 + 1, 0, none⟩)] ++ #[.pointer (some ⟨D, 0, none⟩)]) W (ReadEnds w0 p N c (sumA N) (sumE N) (fun w2 => Keeps (Just D) w0 w2 ∧ Whole w2 D 46 #[.int .u64 (sumX xs)])) := by
  by_cases hs : N < 8
  · have e1 : sumA N = 0 := if_pos hs
    have e2 : sumE N = 2 := if_pos hs
    have e3 : sumX xs = 0 := if_pos (by omega)
    rw [e1, e2, e3]
    have HG := Lib.hid (eight_short (w0.heap.size + 1 + 1) p N c 0 W hB.cur (Nat.zero_le _) (by omega) (by omega))
    have HB := Lib.hid hB; have HK := Lib.hid hK; have HD := Lib.hid hD
    clear hB hK hD hb ho hp hx hc hc' e1 e2 e3
    simp only [List.append_toArray, List.nil_append, List.cons_append]
    go_enter Try.func100, Try.ntmps100
    go_wp2_with fail
    refine HG.out.mono ?_
    rintro e w1 ⟨rfl, hcur, hk⟩
    exact ⟨rfl, .inr (gave_given _), HB.out.keep hk hcur, (HK.out.wider (S' := Just D) (fun _ _ h => h.elim)).then hk (fun i hi h => by unfold Just at h; omega), HD.out.keep hk (by unfold Just; omega)⟩
  · have hN8 : N = 8 := by omega
    have e1 : sumA N = 8 := if_neg hs
    have e2 : sumE N = 0 := if_neg hs
    have e3 : sumX xs = le xs := if_neg (by omega)
    have HG := eight_at (w0.heap.size + 1 + 1) p xs N c 0 W hx hB.cur hb ho (fun h0 q hq => by have := hp h0 q hq; omega) (by omega) hc hc'
    rw [List.drop_zero, List.take_of_length_le (by omega)] at HG
    rw [e1, e2, e3]
    obtain ⟨z, hz⟩ : ∃ z, z = le xs := ⟨_, rfl⟩
    rw [← hz] at HG ⊢
    have HG := Lib.hid HG
    have HB := Lib.hid hB; have HK := Lib.hid hK; have HD := Lib.hid hD
    clear hB hK hD hb ho hp hx hc hc' e1 e2 e3 hz hN8
    simp only [List.append_toArray, List.nil_append, List.cons_append]
    go_enter Try.func100, Try.ntmps100
    go_wp2_with fail
    refine HG.out.mono ?_
    rintro e w1 ⟨rfl, hcur, hk⟩
    have hD1 := HD.out.keep hk (by unfold Just; omega)
    have d0 := hD1.cell 0 rfl
    have f0 := hD1.free 0
    simp only [List.getElem_toArray, List.getElem_cons_zero] at d0
    have HB1 := Lib.hid ((HB.out.keep hk hcur).store hDlt (.int .u64 z))
    have HR := Lib.hid (show Keeps (Just D) w0 (w1.setCell ⟨D, 0, none⟩ (.int .u64 z)) from ((HK.out.wider (S' := Just D) (fun _ _ h => h.elim)).then hk (fun i hi h => by unfold Just at h; omega)).setIn (Just.self D) 0 _)
    have HD2 := Lib.hid (hD1.set 0 (.int .u64 z))
    clear hk hcur hD1 HG
    go_wp2_with fail
    go_returns
    exact ⟨.inl rfl, HB1.out, HR.out, HD2.out⟩

/-- A reading of a sum, into block D. -/
theorem run_partIn (D : Nat) (p : Option Addr) (xs : List Int) (N c : Nat) (hx : N = xs.length) (h8 : N ≤ 8) (w0 : World) (hD : Whole w0 D 46 #[.int .u64 0]) (hb : Bytes8 w0 p xs) (ho : Octets xs) (hc : N ≤ c) (hc' : c ≤ 9223372036854775807) :
    Calls Try.prog 66 #[.slice p N c, .func (.func 100) #[] #[.pointer (some ⟨D, 0, none⟩)]] w0 fun e w' => e = .returned (.tuple #[.int .i64 (sumA N : Int), .int .i64 (sumE N)]) ∧ Whole w' D 46 #[.int .u64 (sumX xs)] ∧ Keeps (Just D) w0 w' := by
  have hDlt := hD.lt
  refine (run_any _ _ p N c (sumA N) (sumE N) _ w0 enter_partIn (fun W hB hK _ => partIn w0 W D p xs N c hx h8 hB hK (hD.keep hK (fun h => h)) hDlt (hb.keep hK (fun _ _ h => h)) ho (fun h0 q hq => by
    obtain ⟨a, ha, hcell⟩ := hb h0
    obtain rfl := Option.some.inj (hq.symm.trans ha)
    have := ltOfCell (hcell 0 h0)
    rwa [addBlock] at this) hc hc')).mono ?_
  rintro e w' ⟨rfl, w2, ⟨hR1, hR2⟩, hT⟩
  exact ⟨rfl, hR2.keep hT.2.2.2.2 (by omega), hR1.then hT.2.2.2.2 (fun i hi h => by unfold Just; omega)⟩

set_option maxHeartbeats 1000000 in
set_option maxRecDepth 10000 in
theorem part_own (p : Option Addr) (N c : Nat) (xs : List Int) (w : World) (h : In8 w p N c xs) (hN : N ≤ 1000000) :
    Calls Try.prog 65 #[.slice p N c] w fun e w' => e = .returned (.tuple #[.slice p (N - 8) (N - 8), .int .u64 (sumX (xs.drop (N - 8))), .int .i64 (sumE N)]) ∧ Keeps NoBlock w w' := by
  have hmf := getFnOk
  have hl := h.len
  have hcap := h.cap
  have hroom := h.room
  have hdl : (xs.drop (N - 8)).length = N - (N - 8) := by rw [List.length_drop, ← hl]
  have hk0 : Keeps NoBlock w (w.alloc (.cells #[.int .u64 0] 46)) := (Keeps.refl NoBlock w).alloc _
  have HRn := Lib.hid (fun q d (hq : 0 < N - (N - 8) → q = p.map (·.add (N - 8))) (hd : N - (N - 8) ≤ d) (hd' : d ≤ 9223372036854775807) =>
    run_partIn w.heap.size q (xs.drop (N - 8)) (N - (N - 8)) d hdl.symm (by omega) (w.alloc (.cells #[.int .u64 0] 46)) (Whole.new _ _ _) (by
      have h1 := (h.at_.keep hk0 (fun _ _ h => h)).piece (q := q) (N - 8) (N - (N - 8)) (by omega) hq
      rwa [List.take_of_length_le (by rw [hdl]; exact Nat.le_refl _)] at h1) (h.oct.drop _) hd hd')
  obtain ⟨z, hz⟩ : ∃ z, z = sumX (xs.drop (N - 8)) := ⟨_, rfl⟩
  rw [← hz] at HRn ⊢
  have hse : sumE (N - (N - 8)) = sumE N := by unfold sumE; split <;> split <;> omega
  rw [hse] at HRn
  obtain ⟨y, hy⟩ : ∃ y, y = sumE N := ⟨_, rfl⟩
  rw [← hy] at HRn ⊢
  obtain ⟨a, ha⟩ : ∃ a, a = sumA (N - (N - 8)) := ⟨_, rfl⟩
  rw [← ha] at HRn
  clear h hl hdl hz hse hy ha
  by_cases hs : N < 8
  · obtain ⟨k, hk⟩ : ∃ k, k = N - 8 := ⟨_, rfl⟩
    obtain rfl : k = 0 := by omega
    rw [← hk] at HRn ⊢
    rw [Nat.sub_zero] at HRn
    have hz0 : ((0 : Nat) : Int) = 0 := rfl
    have hm1 : (N : Int) - 8 ≤ 0 := by omega
    have hw1 : IntKind.i64.wrap ((N : Int) - 8) = (N : Int) - 8 := by rw [IntKind.wrap_i64]; omega
    clear hk
    have hm : max ((N : Int) - 8) 0 = 0 := by omega
    by_cases hc0 : c = 0
    · have hN0 : N = 0 := by omega
      subst hc0
      subst hN0
      have hm8 : max (-8 : Int) 0 = 0 := by decide
      go_enter Try.func65, Try.ntmps65
      go_wp2_with fail
      refine (HRn.out _ _ (fun h => by simp at h) (by simp) (by omega)).mono ?_
      rintro e w1 ⟨rfl, hD, hk⟩
      have d0 := hD.cell 0 rfl
      have f0 := hD.free 0
      have d0' : w1.drew.cell? ⟨w.heap.size, 0, none⟩ = some (.int .u64 z) := d0
      have hk2 : Keeps NoBlock w w1 := hk0.then hk (fun i hi h => by unfold Just at h; omega)
      have HK := Lib.hid hk2
      have HD := Lib.hid hD
      clear hk hk2 hD HRn
      go_wp2_with fail
      go_region
      all_goals go_wp2_with fail
      all_goals exact bodyPost_ret (v := .tuple #[.slice p 0 0, .int .u64 z, .int .i64 y]) (by simp [results, Try.results65, go_sem, d0]) rfl ⟨rfl, by first | exact (HK.out.setNew (Nat.le_refl _) 0 _).drew | exact HK.out.setNew (Nat.le_refl _) 0 _⟩
    · go_enter Try.func65, Try.ntmps65
      go_wp2_with fail
      refine (HRn.out p c (fun _ => by cases p <;> simp [Addr.add]) (by omega) (by omega)).mono ?_
      rintro e w1 ⟨rfl, hD, hk⟩
      have d0 := hD.cell 0 rfl
      have f0 := hD.free 0
      have d0' : w1.drew.cell? ⟨w.heap.size, 0, none⟩ = some (.int .u64 z) := d0
      have hk2 : Keeps NoBlock w w1 := hk0.then hk (fun i hi h => by unfold Just at h; omega)
      have HK := Lib.hid hk2
      have HD := Lib.hid hD
      clear hk hk2 hD HRn
      go_wp2_with fail
      go_region
      all_goals go_wp2_with fail
      all_goals exact bodyPost_ret (v := .tuple #[.slice p 0 0, .int .u64 z, .int .i64 y]) (by simp [results, Try.results65, go_sem, d0]) rfl ⟨rfl, by first | exact (HK.out.setNew (Nat.le_refl _) 0 _).drew | exact HK.out.setNew (Nat.le_refl _) 0 _⟩
  · obtain ⟨k, rfl⟩ : ∃ k, N = k + 8 := ⟨N - 8, by omega⟩
    rw [show k + 8 - 8 = k by omega] at HRn ⊢
    rw [show k + 8 - k = 8 by omega] at HRn
    have hw1 : IntKind.i64.wrap (((k + 8 : Nat) : Int) - 8) = (k : Int) := by rw [IntKind.wrap_i64]; omega
    have hck : ¬ c = k := by omega
    go_enter Try.func65, Try.ntmps65
    go_wp2_with fail
    refine (HRn.out _ _ (fun _ => rfl) (by omega) (by omega)).mono ?_
    rintro e w1 ⟨rfl, hD, hk⟩
    have d0 := hD.cell 0 rfl
    have f0 := hD.free 0
    have d0' : w1.drew.cell? ⟨w.heap.size, 0, none⟩ = some (.int .u64 z) := d0
    have hk2 : Keeps NoBlock w w1 := hk0.then hk (fun i hi h => by unfold Just at h; omega)
    have HK := Lib.hid hk2
    have HD := Lib.hid hD
    clear hk hk2 hD HRn
    go_wp2_with fail
    go_region
    all_goals go_wp2_with fail
    all_goals exact bodyPost_ret (v := .tuple #[.slice p k k, .int .u64 z, .int .i64 y]) (by simp [results, Try.results65, go_sem, d0]) rfl ⟨rfl, by first | exact (HK.out.setNew (Nat.le_refl _) 0 _).drew | exact HK.out.setNew (Nat.le_refl _) 0 _⟩

set_option maxHeartbeats 2000000 in
set_option maxRecDepth 10000 in
theorem open_own (p : Option Addr) (N c : Nat) (ys : List Int) (w : World) (h : In8 w p N c ys) (hN : N ≤ 1000000) :
    Calls Try.prog 32 #[.slice p N c] w fun e w' => ∃ v, e = .returned (.tuple #[v, .int .i64 (openN ys).1]) ∧ NewBytes w (openN ys).2 v w' := by
  have HU := Lib.hid (unstuff_cobs p N c ys w h.len h.cap h.room h.bare h.oct hN h.at_)
  have hu := unst_octets h.oct
  have hlen := h.len
  unfold openN
  obtain ⟨y, hy⟩ : ∃ y, y = (unst ys).1 := ⟨_, rfl⟩
  obtain ⟨T, hT⟩ : ∃ T, T = (unst ys).2 := ⟨_, rfl⟩
  rw [← hy] at HU ⊢
  rw [← hT] at HU hu ⊢
  obtain ⟨hto, htl⟩ := hu
  by_cases h0 : y = 0
  · subst h0
    clear hy hT h
    rw [if_neg (by simp)]
    obtain ⟨L, hL⟩ : ∃ L, L = T.length := ⟨_, rfl⟩
    have HP := Lib.hid (fun q d W (hd : L ≤ d) (hd' : d ≤ 9223372036854775807) (hq : q = none → L = 0 ∧ d = 0) (h8 : Bytes8 W q T) => part_own q L d T W ⟨hL, hd, hd', hq, hto, h8⟩ (by omega))
    obtain ⟨k, hk⟩ : ∃ k, k = L - 8 := ⟨_, rfl⟩
    rw [← hk] at HP
    have hdef : openEnd T = if L < 8 then (2, []) else if le (T.drop k) = wxxh 0 (T.take k) then (0, T.take k) else (5, []) := by
      unfold openEnd
      rw [hk, hL]
    rw [hdef]
    by_cases h8 : L < 8
    · rw [if_pos h8]
      have e2 : sumE L = 2 := if_pos h8
      rw [e2] at HP
      obtain ⟨x, hx⟩ : ∃ x, x = sumX (T.drop k) := ⟨_, rfl⟩
      rw [← hx] at HP
      have HL := Lib.hid hL
      clear hx hL hto htl hk hdef e2 hlen
      go_enter Try.func32, Try.ntmps32
      go_wp2_with fail
      refine HU.out.mono ?_
      rintro e w1 ⟨v, rfl, q, m, d, rfl, hm, hmd, hd, hq, hb, hk1⟩
      have hmL : m = L := by rw [hm, HL.out]
      subst hmL
      have HK := Lib.hid hk1
      have HQ := Lib.hid hq
      have HB := Lib.hid hb
      clear hk1 hm hq hb HU
      go_wp2_with fail
      refine (HP.out q d _ hmd hd HQ.out HB.out).mono ?_
      rintro e w2 ⟨rfl, hk2⟩
      have HB2 := Lib.hid (HB.out.keep hk2 (fun _ _ h => h))
      have HK2 := Lib.hid (HK.out.trans hk2)
      clear hk2
      go_wp2_with fail
      refine bodyPost_ret (results_tmp2 rfl _ _ _) rfl ?_
      exact ⟨_, rfl, .ofNil _ _ HK2.out⟩
    · rw [if_neg h8]
      have e2 : sumE L = 0 := if_neg h8
      have e3 : sumX (T.drop k) = le (T.drop k) := if_neg (by rw [List.length_drop]; omega)
      rw [e2, e3] at HP
      have hkl : (T.take k).length = k := by rw [List.length_take]; omega
      have HSum := Lib.hid (fun q W (hq : q = none → k = 0) (hb : Bytes8 W q (T.take k)) => sum_wide 0 u64_zero q k k (T.take k) hkl.symm (Nat.le_refl _) (by omega) (fun h => ⟨hq h, hq h⟩) (hto.take k) (by omega) W hb)
      have HNew := Lib.hid (fun q W (hq : q = none → k = 0) (hb : Bytes8 W q (T.take k)) (hk : Keeps NoBlock w W) => (show NewBytes w (T.take k) (.slice q k k) W from ⟨q, k, k, rfl, hkl.symm, Nat.le_refl _, by omega, fun h => ⟨hq h, hq h⟩, hb, hk⟩))
      have HPc := Lib.hid (fun q W (hb : Bytes8 W q T) => (show Bytes8 W q (T.take k) from by
        have h1 := hb.piece (q := q) 0 k (by omega) (fun h => by cases q <;> simp [Addr.add])
        rwa [List.drop_zero] at h1))
      have HL := Lib.hid hL
      have hkL : k ≤ L := by omega
      have hk9 : k ≤ 1000000 := by omega
      obtain ⟨B, hB⟩ : ∃ B, B = T.take k := ⟨_, rfl⟩
      rw [← hB] at HSum HNew HPc ⊢
      by_cases hv : le (T.drop k) = wxxh 0 B
      · rw [if_pos hv]
        have hne : (le (T.drop k) != wxxh 0 B) = false := by rw [hv]; simp
        obtain ⟨x, hx⟩ : ∃ x, x = le (T.drop k) := ⟨_, rfl⟩
        obtain ⟨z, hz⟩ : ∃ z, z = wxxh 0 B := ⟨_, rfl⟩
        rw [← hx] at HP hne
        rw [← hz] at HSum hne
        clear hx hz hv hB hkl hL hto htl hk hdef e2 e3 hlen
        go_enter Try.func32, Try.ntmps32
        go_wp2_with fail
        refine HU.out.mono ?_
        rintro e w1 ⟨v, rfl, q, m, d, rfl, hm, hmd, hd, hq, hb, hk1⟩
        have hmL : m = L := by rw [hm, HL.out]
        subst hmL
        have HK := Lib.hid hk1
        have HQ := Lib.hid hq
        have HB := Lib.hid hb
        clear hk1 hm hq hb HU
        go_wp2_with fail
        refine (HP.out q d _ hmd hd HQ.out HB.out).mono ?_
        rintro e w2 ⟨rfl, hk2⟩
        have HB2 := Lib.hid (HB.out.keep hk2 (fun _ _ h => h))
        have HK2 := Lib.hid (HK.out.trans hk2)
        clear hk2
        go_wp2_with fail
        have HQ2 : Hid (q = none → k = 0) := Lib.hid (fun h => by have := (HQ.out h).1; omega)
        refine (HSum.out q _ HQ2.out (HPc.out q _ HB2.out)).mono ?_
        rintro e w3 ⟨rfl, hk3⟩
        have HN := Lib.hid (HNew.out q _ HQ2.out (HPc.out q _ (HB2.out.keep hk3 (fun _ _ h => h))) (HK2.out.trans hk3))
        clear hk3
        go_wp2_with fail
        refine bodyPost_ret (results_tmp2 rfl _ _ _) rfl ?_
        exact ⟨_, rfl, HN.out⟩
      · rw [if_neg hv]
        have hne : (le (T.drop k) != wxxh 0 B) = true := by rw [bne_iff_ne]; exact hv
        obtain ⟨x, hx⟩ : ∃ x, x = le (T.drop k) := ⟨_, rfl⟩
        obtain ⟨z, hz⟩ : ∃ z, z = wxxh 0 B := ⟨_, rfl⟩
        rw [← hx] at HP hne
        rw [← hz] at HSum hne
        clear hx hz hv hB hkl hL hto htl hk hdef e2 e3 hlen HNew
        go_enter Try.func32, Try.ntmps32
        go_wp2_with fail
        refine HU.out.mono ?_
        rintro e w1 ⟨v, rfl, q, m, d, rfl, hm, hmd, hd, hq, hb, hk1⟩
        have hmL : m = L := by rw [hm, HL.out]
        subst hmL
        have HK := Lib.hid hk1
        have HQ := Lib.hid hq
        have HB := Lib.hid hb
        clear hk1 hm hq hb HU
        go_wp2_with fail
        refine (HP.out q d _ hmd hd HQ.out HB.out).mono ?_
        rintro e w2 ⟨rfl, hk2⟩
        have HB2 := Lib.hid (HB.out.keep hk2 (fun _ _ h => h))
        have HK2 := Lib.hid (HK.out.trans hk2)
        clear hk2
        go_wp2_with fail
        have HQ2 : Hid (q = none → k = 0) := Lib.hid (fun h => by have := (HQ.out h).1; omega)
        refine (HSum.out q _ HQ2.out (HPc.out q _ HB2.out)).mono ?_
        rintro e w3 ⟨rfl, hk3⟩
        have HK3 := Lib.hid (HK2.out.trans hk3)
        clear hk3
        go_wp2_with fail
        refine bodyPost_ret (results_tmp2 rfl _ _ _) rfl ?_
        exact ⟨_, rfl, .ofNil _ _ HK3.out⟩
  · rw [if_pos h0]
    have hne : (y != 0) = true := by rw [bne_iff_ne]; exact h0
    clear hT hto htl hy h0 h hlen
    go_enter Try.func32, Try.ntmps32
    go_wp2_with fail
    refine HU.out.mono ?_
    rintro e w1 ⟨v, rfl, q, m, d, rfl, hm, hmd, hd, hq, hb, hk⟩
    have HK := Lib.hid hk
    clear hk hm hmd hd hq hb
    go_wp2_with fail
    refine bodyPost_ret (results_tmp2 rfl _ _ _) rfl ?_
    exact ⟨_, rfl, .ofNil _ _ HK.out⟩
end Go.Proofs.Ytmifbohdepejaaa

namespace Go.Proofs.Ytmifbohdepejaaa
open Go.RowKit

theorem drop_succ (b : Int) (ys : List Int) (n : Nat) : (b :: ys).drop (1 + n) = ys.drop n := by rw [Nat.add_comm, List.drop_succ_cons]

end Go.Proofs.Ytmifbohdepejaaa

namespace Go.Proofs.Ytmifbohdepejaaa
open Go.RowKit

/-- How must ends. -/
def MustPost (k : Nat) (p : Option Addr) (N c a : Nat) (want : Int) (w : World) (e : Ending) (w' : World) (l : List Int) : Prop :=
  Keeps (Just k) w w' ∧ ((∃ r, l = want :: r ∧ e = .returned (.tuple #[]) ∧ CurB w' k p N c (a + 1) true 0) ∨ (∃ b r, l = b :: r ∧ b ≠ want ∧ e = .panicked (given k) ∧ CurB w' k p N c (a + 1) true 4) ∨ (l = [] ∧ e = .panicked (given k) ∧ CurB w' k p N c a true 2))

theorem drop_head {xs : List Int} {a : Nat} {b : Int} {r : List Int} (h : xs.drop a = b :: r) : a < xs.length ∧ xs.getD a 0 = b ∧ xs.drop (a + 1) = r := by
  have hl : a < xs.length := by
    have := congrArg List.length h
    rw [List.length_drop, List.length_cons] at this
    omega
  have e := List.drop_eq_getElem_cons hl
  rw [h] at e
  refine ⟨hl, ?_, (List.cons.inj e).2.symm⟩
  rw [List.getD_eq_getElem?_getD, List.getElem?_eq_getElem hl]
  exact (List.cons.inj e).1.symm

/-- What a reading of a head comes to: why it stops, where, and what it has read. -/
structure HR where
  y : Int
  a : Nat
  e : Int
  s : Int
  n : Int
def hLast (a : Nat) (e s n : Int) : List Int → HR
  | [] => ⟨0, a, e, s, n⟩
  | _ :: _ => ⟨3, a, e, s, n⟩
def hNum (a : Nat) (e s : Int) (xs : List Int) : HR := if (vget xs).e ≠ 0 then ⟨(vget xs).e, a + (vget xs).n, e, s, 0⟩ else hLast (a + (vget xs).n) e s (vget xs).x (xs.drop (vget xs).n)
def hSeg (a : Nat) (e : Int) (xs : List Int) : HR := if (vget xs).e ≠ 0 then ⟨(vget xs).e, a + (vget xs).n, e, 0, 0⟩ else hNum (a + (vget xs).n) e (vget xs).x (xs.drop (vget xs).n)
def hExp (a : Nat) : List Int → HR
  | [] => ⟨2, a, 0, 0, 0⟩
  | b :: r => hSeg (a + 1) b r
def hVer (a : Nat) : List Int → HR
  | [] => ⟨2, a, 0, 0, 0⟩
  | b :: r => if b = 2 then hExp (a + 1) r else ⟨4, a + 1, 0, 0, 0⟩
def hKind (a : Nat) : List Int → HR
  | [] => ⟨2, a, 0, 0, 0⟩
  | b :: r => if b = 1 then hVer (a + 1) r else ⟨4, a + 1, 0, 0, 0⟩

/-- Within the reading: the cursor at a, the head's numbers in their blocks, the bytes as they were. -/
structure AtH (w0 : World) (A B C : Nat) (p : Option Addr) (xs : List Int) (N c a : Nat) (y x s n : Int) (W : World) : Prop where
  beg : Begun w0 p N c a y W
  cA : Whole W A 5 #[.int .u8 x]
  cB : Whole W B 46 #[.int .u64 s]
  cC : Whole W C 46 #[.int .u64 n]
  by8 : Bytes8 W p xs
  kp : Keeps (fun i => i = A ∨ i = B ∨ i = C) w0 W
  lt : A < B ∧ B < C ∧ C < w0.heap.size
  far : 0 < xs.length → ∀ q, p = some q → q.block < A

section
variable {w0 : World} {A B C : Nat} {p : Option Addr} {xs : List Int} {N c a : Nat} {y x s n : Int} {W : World}
theorem AtH.cur (h : AtH w0 A B C p xs N c a y x s n W) : CurB W (w0.heap.size + 1 + 1) p N c a true y := h.beg.cur
theorem AtH.apart (h : AtH w0 A B C p xs N c a y x s n W) : 0 < xs.length → ∀ q, p = some q → q.block ≠ w0.heap.size + 1 + 1 := fun h0 q hq => by have := h.far h0 q hq; have := h.lt; omega
theorem AtH.call (h : AtH w0 A B C p xs N c a y x s n W) {W' : World} {b : Nat} {z : Int} (hk : Keeps (Just (w0.heap.size + 1 + 1)) W W') (hc : CurB W' (w0.heap.size + 1 + 1) p N c b true z) : AtH w0 A B C p xs N c b z x s n W' :=
  ⟨h.beg.keep hk hc, h.cA.keep hk (by have := h.lt; unfold Just; omega), h.cB.keep hk (by have := h.lt; unfold Just; omega), h.cC.keep hk (by have := h.lt; unfold Just; omega), h.by8.keepPos hk (fun h0 q hq => by have := h.far h0 q hq; have := h.lt; unfold Just; omega), h.kp.then hk (fun i hi hj => by unfold Just at hj; omega), h.lt, h.far⟩
theorem AtH.quiet (h : AtH w0 A B C p xs N c a y x s n W) {W' : World} (hk : Keeps NoBlock W W') : AtH w0 A B C p xs N c a y x s n W' :=
  h.call (hk.wider (fun _ _ hj => hj.elim)) (Whole.keep h.cur hk (fun hj => hj))
theorem AtH.setBeg (h : AtH w0 A B C p xs N c a y x s n W) {D : Nat} (hD : D < w0.heap.size) (v : Value) : Begun w0 p N c a y (W.setCell ⟨D, 0, none⟩ v) :=
  ⟨h.beg.at_.setOther (by simp; omega) v, h.beg.why.setOther (by simp; omega) v, Whole.setOther h.beg.cur (by simp; omega) v, h.beg.var.setOther (by simp; omega) v⟩
theorem AtH.putA (h : AtH w0 A B C p xs N c a y x s n W) (v : Int) : AtH w0 A B C p xs N c a y v s n (W.setCell ⟨A, 0, none⟩ (.int .u8 v)) :=
  ⟨h.setBeg (by have := h.lt; omega) _, h.cA.set 0 _, h.cB.setOther (by have := h.lt; simp; omega) _, h.cC.setOther (by have := h.lt; simp; omega) _, h.by8.keepPos ((Keeps.refl (Just A) W).setIn (Just.self A) 0 _) (fun h0 q hq => by have := h.far h0 q hq; unfold Just; omega), h.kp.setIn (.inl rfl) 0 _, h.lt, h.far⟩
theorem AtH.putB (h : AtH w0 A B C p xs N c a y x s n W) (v : Int) : AtH w0 A B C p xs N c a y x v n (W.setCell ⟨B, 0, none⟩ (.int .u64 v)) :=
  ⟨h.setBeg (by have := h.lt; omega) _, h.cA.setOther (by have := h.lt; simp; omega) _, h.cB.set 0 _, h.cC.setOther (by have := h.lt; simp; omega) _, h.by8.keepPos ((Keeps.refl (Just B) W).setIn (Just.self B) 0 _) (fun h0 q hq => by have := h.far h0 q hq; have := h.lt; unfold Just; omega), h.kp.setIn (.inr (.inl rfl)) 0 _, h.lt, h.far⟩
theorem AtH.putC (h : AtH w0 A B C p xs N c a y x s n W) (v : Int) : AtH w0 A B C p xs N c a y x s v (W.setCell ⟨C, 0, none⟩ (.int .u64 v)) :=
  ⟨h.setBeg (by have := h.lt; omega) _, h.cA.setOther (by have := h.lt; simp; omega) _, h.cB.setOther (by have := h.lt; simp; omega) _, h.cC.set 0 _, h.by8.keepPos ((Keeps.refl (Just C) W).setIn (Just.self C) 0 _) (fun h0 q hq => by have := h.far h0 q hq; have := h.lt; unfold Just; omega), h.kp.setIn (.inr (.inr rfl)) 0 _, h.lt, h.far⟩
end

/-- What the reading leaves. -/
def LeftH (w0 : World) (A B C : Nat) (t : HR) (w2 : World) : Prop :=
  Keeps (fun i => i = A ∨ i = B ∨ i = C) w0 w2 ∧ Whole w2 A 5 #[.int .u8 t.e] ∧ Whole w2 B 46 #[.int .u64 t.s] ∧ Whole w2 C 46 #[.int .u64 t.n]

theorem AtH.gave {w0 : World} {A B C : Nat} {p : Option Addr} {xs : List Int} {N c : Nat} {t u : HR} {W : World} (h : AtH w0 A B C p xs N c t.a t.y t.e t.s t.n W) (hu : u = t) : ReadEnds w0 p N c u.a u.y (LeftH w0 A B C u) (.panicked (given (w0.heap.size + 1 + 1))) W := by
  subst hu
  exact ⟨.inr (gave_given _), h.beg, h.kp, h.cA, h.cB, h.cC⟩
theorem AtH.done {w0 : World} {A B C : Nat} {p : Option Addr} {xs : List Int} {N c : Nat} {t u : HR} {W : World} (h : AtH w0 A B C p xs N c t.a t.y t.e t.s t.n W) (hu : u = t) : ReadEnds w0 p N c u.a u.y (LeftH w0 A B C u) (.returned (.tuple #[])) W := by
  subst hu
  exact ⟨.inl rfl, h.beg, h.kp, h.cA, h.cB, h.cC⟩

end Go.Proofs.Ytmifbohdepejaaa

namespace Go.Proofs.Ytmifbohdepejaaa
open Go.RowKit

/-- What a reading of a footer's body comes to: why it stops, where, and what it has read. -/
structure RF where
  y : Int
  a : Nat
  u : Nat
  l : List En
  fs : List Nat
def RF.gone (y : Int) (a : Nat) : RF := ⟨y, a, 0, [], []⟩
def rEnd (a u : Nat) (l : List En) (fs : List Nat) : List Int → RF
  | [] => ⟨0, a, u, l, fs⟩
  | _ :: _ => .gone 3 a
def rFen (a n u : Nat) (l : List En) (r : List Int) : RF :=
  if (getF (countF (n : Int) : Nat) r).y ≠ 0 then .gone (getF (countF (n : Int) : Nat) r).y (a + (getF (countF (n : Int) : Nat) r).m) else rEnd (a + (getF (countF (n : Int) : Nat) r).m) u l (getF (countF (n : Int) : Nat) r).l (r.drop (getF (countF (n : Int) : Nat) r).m)
def rRows (a n u : Nat) (r : List Int) : RF :=
  if (getE (n : Int) r).y ≠ 0 then .gone (getE (n : Int) r).y (a + (getE (n : Int) r).m) else rFen (a + (getE (n : Int) r).m) n u (getE (n : Int) r).l (r.drop (getE (n : Int) r).m)
def rUsed (a n : Nat) (r : List Int) : RF := if 1048576 < n then .gone 3 a else if r.length < 4 then .gone 2 a else rRows (a + 4) n (le (r.take 4)).toNat (r.drop 4)
def rCount (a : Nat) (r : List Int) : RF := if r.length < 4 then .gone 2 a else rUsed (a + 4) (le (r.take 4)).toNat (r.drop 4)
def rKind (a : Nat) : List Int → RF
  | [] => .gone 2 a
  | b :: r => if b = 4 then rCount (a + 1) r else .gone 4 (a + 1)
/-- What Get makes of it. -/
def outF (t : RF) : GFt := if t.y ≠ 0 then ⟨t.y, Ft.none⟩ else if checkFt ⟨t.u, t.l⟩ ≠ 0 then ⟨checkFt ⟨t.u, t.l⟩, Ft.none⟩ else if t.fs ≠ ofF t.l then ⟨4, Ft.none⟩ else ⟨0, ⟨t.u, t.l⟩⟩
theorem outF_gone {y : Int} (a : Nat) (h : y ≠ 0) : outF (.gone y a) = ⟨y, Ft.none⟩ := by
  unfold outF RF.gone
  rw [if_pos h]
theorem rEnd_out (a u : Nat) (l : List En) (fs : List Nat) (r : List Int) : ftEnd ⟨u, l⟩ fs r = outF (rEnd a u l fs r) := by
  unfold ftEnd
  cases r with
  | nil =>
    rw [if_neg (by simp)]
    rfl
  | cons b r =>
    rw [if_pos (by simp)]
    exact (outF_gone a (by decide)).symm
theorem rFen_out (a n u : Nat) (l : List En) (r : List Int) : ftFences n u l r = outF (rFen a n u l r) := by
  unfold ftFences rFen
  by_cases h : (getF (countF (n : Int) : Nat) r).y ≠ 0
  · rw [if_pos h, if_pos h, outF_gone _ h]
  · rw [if_neg h, if_neg h]
    exact rEnd_out _ _ _ _ _
theorem rRows_out (a n u : Nat) (r : List Int) : ftRows n u r = outF (rRows a n u r) := by
  unfold ftRows rRows
  by_cases h : (getE (n : Int) r).y ≠ 0
  · rw [if_pos h, if_pos h, outF_gone _ h]
  · rw [if_neg h, if_neg h]
    exact rFen_out _ _ _ _ _
theorem rUsed_out (a n : Nat) (r : List Int) : ftUsed n r = outF (rUsed a n r) := by
  unfold ftUsed rUsed
  by_cases h : 1048576 < n
  · rw [if_pos h, if_pos h, outF_gone _ (by decide)]
  · rw [if_neg h, if_neg h]
    by_cases h4 : r.length < 4
    · rw [if_pos h4, if_pos h4, outF_gone _ (by decide)]
    · rw [if_neg h4, if_neg h4]
      exact rRows_out _ _ _ _
theorem rKind_out (r : List Int) : readFt r = outF (rKind 0 r) := by
  cases r with
  | nil => exact (outF_gone _ (by decide)).symm
  | cons b r =>
    rw [readFt, rKind]
    by_cases h : b = 4
    · rw [if_pos h, if_pos h]
      unfold ftCount rCount
      by_cases h4 : r.length < 4
      · rw [if_pos h4, if_pos h4, outF_gone _ (by decide)]
      · rw [if_neg h4, if_neg h4]
        exact rUsed_out _ _ _
    · rw [if_neg h, if_neg h, outF_gone _ (by decide)]

/-- A row of entries, of numbers, whose cells lie from block K on. -/
def FarE (K : Nat) (w : World) (q : Option Addr) (m d : Nat) (l : List En) : Prop := m = l.length ∧ m ≤ d ∧ d ≤ 9223372036854775807 ∧ (q = none → m = 0 ∧ d = 0) ∧ EnsAt w q l ∧ (0 < m → ∀ a, q = some a → K ≤ a.block)
def FarN (K : Nat) (w : World) (q : Option Addr) (m d : Nat) (l : List Nat) : Prop := m = l.length ∧ m ≤ d ∧ d ≤ 9223372036854775807 ∧ (q = none → m = 0 ∧ d = 0) ∧ RowN w q l ∧ (0 < m → ∀ a, q = some a → K ≤ a.block)
theorem FarE.keep {K : Nat} {w w' : World} {q : Option Addr} {m d : Nat} {l : List En} (h : FarE K w q m d l) {S : Nat → Prop} (hk : Keeps S w w') (hs : ∀ i, K ≤ i → ¬ S i) : FarE K w' q m d l :=
  ⟨h.1, h.2.1, h.2.2.1, h.2.2.2.1, EnsAt.keepFar h.2.2.2.2.1 hk (fun h0 a ha => hs _ (h.2.2.2.2.2 (by have := h.1; omega) a ha)), h.2.2.2.2.2⟩
theorem FarN.keep {K : Nat} {w w' : World} {q : Option Addr} {m d : Nat} {l : List Nat} (h : FarN K w q m d l) {S : Nat → Prop} (hk : Keeps S w w') (hs : ∀ i, K ≤ i → ¬ S i) : FarN K w' q m d l :=
  ⟨h.1, h.2.1, h.2.2.1, h.2.2.2.1, RowN.keepAt h.2.2.2.2.1 hk (fun h0 a ha => hs _ (h.2.2.2.2.2 (by have := h.1; omega) a ha)), h.2.2.2.2.2⟩

/-- Within the reading: the cursor at a, what was read in its blocks, the bytes as they were. -/
structure AtF (w0 : World) (A B : Nat) (p : Option Addr) (xs : List Int) (N c a : Nat) (y : Int) (v0 v1 v2 : Value) (W : World) : Prop where
  beg : Begun w0 p N c a y W
  cA : Whole W A 25 #[v0, v1]
  cB : Whole W B 47 #[v2]
  by8 : Bytes8 W p xs
  kp : Keeps (fun i => i = A ∨ i = B) w0 W
  lt : A < B ∧ B < w0.heap.size
  far : 0 < xs.length → ∀ q, p = some q → q.block < A

section
variable {w0 : World} {A B : Nat} {p : Option Addr} {xs : List Int} {N c a : Nat} {y : Int} {v0 v1 v2 : Value} {W : World}
theorem AtF.cur (h : AtF w0 A B p xs N c a y v0 v1 v2 W) : CurB W (w0.heap.size + 1 + 1) p N c a true y := h.beg.cur
theorem AtF.apart (h : AtF w0 A B p xs N c a y v0 v1 v2 W) : 0 < xs.length → ∀ q, p = some q → q.block ≠ w0.heap.size + 1 + 1 := fun h0 q hq => by have := h.far h0 q hq; have := h.lt; omega
theorem AtF.call (h : AtF w0 A B p xs N c a y v0 v1 v2 W) {W' : World} {b : Nat} {z : Int} (hk : Keeps (Just (w0.heap.size + 1 + 1)) W W') (hc : CurB W' (w0.heap.size + 1 + 1) p N c b true z) : AtF w0 A B p xs N c b z v0 v1 v2 W' :=
  ⟨h.beg.keep hk hc, h.cA.keep hk (by have := h.lt; unfold Just; omega), h.cB.keep hk (by have := h.lt; unfold Just; omega), h.by8.keepPos hk (fun h0 q hq => by have := h.far h0 q hq; have := h.lt; unfold Just; omega), h.kp.then hk (fun i hi hj => by unfold Just at hj; omega), h.lt, h.far⟩
theorem AtF.quiet (h : AtF w0 A B p xs N c a y v0 v1 v2 W) {W' : World} (hk : Keeps NoBlock W W') : AtF w0 A B p xs N c a y v0 v1 v2 W' :=
  h.call (hk.wider (fun _ _ hj => hj.elim)) (Whole.keep h.cur hk (fun hj => hj))
theorem AtF.setBeg (h : AtF w0 A B p xs N c a y v0 v1 v2 W) {D : Nat} (hD : D < w0.heap.size) (i : Nat) (v : Value) : Begun w0 p N c a y (W.setCell ⟨D, i, none⟩ v) :=
  ⟨h.beg.at_.setOther (by simp; omega) v, h.beg.why.setOther (by simp; omega) v, Whole.setOther h.beg.cur (by simp; omega) v, h.beg.var.setOther (by simp; omega) v⟩
theorem AtF.putU (h : AtF w0 A B p xs N c a y v0 v1 v2 W) (v : Value) : AtF w0 A B p xs N c a y v v1 v2 (W.setCell ⟨A, 0, none⟩ v) :=
  ⟨h.setBeg (by have := h.lt; omega) _ _, h.cA.set 0 _, h.cB.setOther (by have := h.lt; simp; omega) _, h.by8.keepPos ((Keeps.refl (Just A) W).setIn (Just.self A) 0 _) (fun h0 q hq => by have := h.far h0 q hq; unfold Just; omega), h.kp.setIn (.inl rfl) 0 _, h.lt, h.far⟩
theorem AtF.putT (h : AtF w0 A B p xs N c a y v0 v1 v2 W) (v : Value) : AtF w0 A B p xs N c a y v0 v v2 (W.setCell ⟨A, 1, none⟩ v) :=
  ⟨h.setBeg (by have := h.lt; omega) _ _, h.cA.set 1 _, h.cB.setOther (by have := h.lt; simp; omega) _, h.by8.keepPos ((Keeps.refl (Just A) W).setIn (Just.self A) 1 _) (fun h0 q hq => by have := h.far h0 q hq; unfold Just; omega), h.kp.setIn (.inl rfl) 1 _, h.lt, h.far⟩
theorem AtF.putN (h : AtF w0 A B p xs N c a y v0 v1 v2 W) (v : Value) : AtF w0 A B p xs N c a y v0 v1 v (W.setCell ⟨B, 0, none⟩ v) :=
  ⟨h.setBeg (by have := h.lt; omega) _ _, h.cA.setOther (by have := h.lt; simp; omega) _, h.cB.set 0 _, h.by8.keepPos ((Keeps.refl (Just B) W).setIn (Just.self B) 0 _) (fun h0 q hq => by have := h.far h0 q hq; have := h.lt; unfold Just; omega), h.kp.setIn (.inr rfl) 0 _, h.lt, h.far⟩
end

/-- What the reading leaves. -/
def LeftFt (w0 : World) (A B : Nat) (t : RF) (w2 : World) : Prop :=
  Keeps (fun i => i = A ∨ i = B) w0 w2 ∧ ∃ (x : Int) (q : Option Addr) (m d : Nat) (q2 : Option Addr) (m2 d2 : Nat), Whole w2 A 25 #[.int .u32 x, .slice q m d] ∧ Whole w2 B 47 #[.slice q2 m2 d2] ∧
    (t.y = 0 → x = (t.u : Int) ∧ FarE (w0.heap.size + 1 + 1 + 1 + 1) w2 q m d t.l ∧ FarN (w0.heap.size + 1 + 1 + 1 + 1) w2 q2 m2 d2 t.fs)

theorem AtF.gave {w0 : World} {A B : Nat} {p : Option Addr} {xs : List Int} {N c : Nat} {t U : RF} {x : Int} {q : Option Addr} {m d : Nat} {q2 : Option Addr} {m2 d2 : Nat} {W : World} (h : AtF w0 A B p xs N c t.a t.y (.int .u32 x) (.slice q m d) (.slice q2 m2 d2) W) (hy : t.y ≠ 0) (hu : U = t) : ReadEnds w0 p N c U.a U.y (LeftFt w0 A B U) (.panicked (given (w0.heap.size + 1 + 1))) W := by
  subst hu
  exact ⟨.inr (gave_given _), h.beg, h.kp, _, _, _, _, _, _, _, h.cA, h.cB, fun h => absurd h hy⟩

theorem enter_ftIn (args : Array Value) (w : World) : (callFunc 67 args).run Try.prog w = .ok (.enter 67 args) w := by kernel_rfl

theorem getE_m (n : Int) (r : List Int) : (getE n r).m ≤ r.length := by
  unfold getE
  split
  · exact Nat.zero_le _
  · split
    · exact Nat.zero_le _
    · split <;> (show 12 * n.toNat ≤ r.length; omega)
theorem getF_m (n : Int) (r : List Int) : (getF n r).m ≤ r.length := by
  unfold getF
  split
  · exact Nat.zero_le _
  · split
    · exact Nat.zero_le _
    · split <;> (show 8 * n.toNat ≤ r.length; omega)

set_option maxHeartbeats 8000000 in
set_option maxRecDepth 10000 in
theorem ftIn (w0 W : World) (A B : Nat) (p : Option Addr) (xs : List Int) (N c : Nat) (hx : N = xs.length) (ho : Octets xs) (hc : N ≤ c) (hc' : c ≤ 9223372036854775807) (hN9 : N ≤ 1000000) (hsz : W.heap.size = w0.heap.size + 1 + 1 + 1 + 1) (hA : AtF w0 A B p xs N c 0 0 (.int .u32 0) (.slice none 0 0) (.slice none 0 0) W) :
    Calls Try.prog 67 (#[.pointer (some ⟨w0.heap.size + 1 + 1, 0, none⟩)] ++ #[.pointer (some ⟨A, 0, none⟩), .pointer (some ⟨B, 0, none⟩)]) W (ReadEnds w0 p N c (rKind 0 xs).a (rKind 0 xs).y (LeftFt w0 A B (rKind 0 xs))) := by
  obtain ⟨U, hU⟩ : ∃ U, U = rKind 0 xs := ⟨_, rfl⟩
  rw [← hU]
  have HA := Lib.hid hA
  have HX := Lib.hid hx
  have HSz := Lib.hid (show w0.heap.size + 1 + 1 + 1 + 1 ≤ W.heap.size by omega)
  have HLt := Lib.hid hA.lt
  have HU : Hid (U = rKind 0 (xs.drop 0)) := Lib.hid (by rw [List.drop_zero]; exact hU)
  have HBy := Lib.hid (fun a v0 v1 v2 W (h : AtF w0 A B p xs N c a 0 v0 v1 v2 W) (ha : a + 1 ≤ N) => byte_at (w0.heap.size + 1 + 1) p xs N c a W hx h.cur h.by8 ho h.apart ha hc hc')
  have HBs := Lib.hid (fun a v0 v1 v2 W (h : AtF w0 A B p xs N c a 0 v0 v1 v2 W) (ha : a ≤ N) (hl : N < a + 1) => byte_short (w0.heap.size + 1 + 1) p N c a W h.cur ha hl (by omega))
  have HFo := Lib.hid (fun a v0 v1 v2 W (h : AtF w0 A B p xs N c a 0 v0 v1 v2 W) (ha : a + 4 ≤ N) => (show Calls Try.prog 70 #[.pointer (some ⟨w0.heap.size + 1 + 1, 0, none⟩)] W (NumOk (w0.heap.size + 1 + 1) p N c a 4 (.int .u32 (((le ((xs.drop a).take 4)).toNat : Nat) : Int)) W) from by
    rw [← le_nat (ho.drop a) 4]
    exact four_at (w0.heap.size + 1 + 1) p xs N c a W hx h.cur h.by8 ho h.apart ha hc hc'))
  have HFs := Lib.hid (fun a v0 v1 v2 W (h : AtF w0 A B p xs N c a 0 v0 v1 v2 W) (ha : a ≤ N) (hl : N < a + 4) => four_short (w0.heap.size + 1 + 1) p N c a W h.cur ha hl (by omega))
  have HFl := Lib.hid (fun a y v0 v1 v2 W (h : AtF w0 A B p xs N c a 0 v0 v1 v2 W) (hy : ¬ y = 0) => fail_at (w0.heap.size + 1 + 1) p N c a y W h.cur hy)
  have HTg := Lib.hid (fun a (n : Nat) v0 v1 v2 W (h : AtF w0 A B p xs N c a 0 v0 v1 v2 W) (ha : a ≤ N) => tget_own (w0.heap.size + 1 + 1) p xs N c a (n : Int) W hx h.cur h.by8 ho h.apart ha hc hc' hN9)
  have HFg := Lib.hid (fun a (n : Nat) v0 v1 v2 W (h : AtF w0 A B p xs N c a 0 v0 v1 v2 W) (ha : a ≤ N) => fget_own (w0.heap.size + 1 + 1) p xs N c a (n : Int) W hx h.cur h.by8 ho h.apart ha hc hc' hN9)
  have HE0 := Lib.hid (fun y v0 v1 v2 W (h : AtF w0 A B p xs N c N y v0 v1 v2 W) => end_whole (w0.heap.size + 1 + 1) p N c y W h.cur (by omega))
  have HE1 := Lib.hid (fun a v0 v1 v2 W (h : AtF w0 A B p xs N c a 0 v0 v1 v2 W) (ha : a < N) => end_more (w0.heap.size + 1 + 1) p N c a W h.cur ha (by omega))
  have HOc := Lib.hid (fun a => (le_bound ((xs.drop a).take 4) ((ho.drop a).take 4)).1)
  clear hA hx ho hc hc' hU hsz hN9
  simp only [List.append_toArray, List.nil_append, List.cons_append]
  go_enter Try.func67, Try.ntmps67
  cases hd : xs.drop 0 with
  | nil =>
    have HS := Lib.hid (HBs.out 0 _ _ _ _ HA.out (Nat.zero_le _) (by have := List.drop_eq_nil_iff.1 hd; have := HX.out; omega))
    have HU : Hid (U = .gone 2 0) := Lib.hid (by rw [HU.out, hd, rKind])
    clear hd
    go_wp2_with fail
    refine HS.out.mono ?_
    rintro e w1 ⟨rfl, hcur, hk⟩
    exact ⟨rfl, AtF.gave (t := .gone 2 0) (HA.out.call hk hcur) (show (2 : Int) ≠ 0 by decide) HU.out⟩
  | cons b r0 =>
  obtain ⟨hl, hg, hr⟩ := drop_head hd
  have HB1 := HBy.out 0 _ _ _ _ HA.out (by have := HX.out; omega)
  rw [hg] at HB1
  have HB1 := Lib.hid HB1
  have HL := Lib.hid (show 0 + 1 ≤ N by have := HX.out; omega)
  have HUb : Hid (U = if b = 4 then rCount (0 + 1) (xs.drop (0 + 1)) else .gone 4 (0 + 1)) := Lib.hid (by rw [HU.out, hd, rKind, hr])
  clear hd hl hg hr
  by_cases hb4 : b = 4
  rotate_left
  · have hne : (b != 4) = true := by rw [bne_iff_ne]; exact hb4
    have HU : Hid (U = .gone 4 (0 + 1)) := Lib.hid (by rw [HUb.out, if_neg hb4])
    clear HUb
    clear hb4
    go_wp2_with fail
    refine HB1.out.mono ?_
    rintro e w1 ⟨rfl, hcur, hk⟩
    have HA := Lib.hid (HA.out.call hk hcur)
    clear hk hcur
    go_wp2_with fail
    refine (HFl.out _ 4 _ _ _ _ HA.out (by decide)).mono ?_
    rintro e w2 ⟨rfl, hcur, hk⟩
    exact ⟨rfl, AtF.gave (t := .gone 4 (0 + 1)) (HA.out.call hk hcur) (show (4 : Int) ≠ 0 by decide) HU.out⟩
  have HU : Hid (U = rCount (0 + 1) (xs.drop (0 + 1))) := Lib.hid (by rw [HUb.out, if_pos hb4])
  clear HUb
  subst hb4
  go_wp2_with fail
  refine HB1.out.mono ?_
  rintro e w1 ⟨rfl, hcur, hk⟩
  have HA := Lib.hid (HA.out.call hk hcur)
  have HSz := Lib.hid (Nat.le_trans HSz.out hk.size)
  obtain ⟨a1, ha1⟩ : ∃ a1, a1 = 0 + 1 := ⟨_, rfl⟩
  rw [← ha1] at HA HU HL
  clear hk hcur HB1 ha1
  by_cases hs1 : N < a1 + 4
  · have HS := Lib.hid (HFs.out a1 _ _ _ _ HA.out HL.out hs1)
    have HU : Hid (U = .gone 2 a1) := Lib.hid (by rw [HU.out, rCount, if_pos (by rw [List.length_drop]; have := HX.out; have := HL.out; omega)])
    clear hs1
    go_wp2_with fail
    refine HS.out.mono ?_
    rintro e w2 ⟨rfl, hcur, hk⟩
    exact ⟨rfl, AtF.gave (t := .gone 2 a1) (HA.out.call hk hcur) (show (2 : Int) ≠ 0 by decide) HU.out⟩
  have HF1 := HFo.out a1 _ _ _ _ HA.out (by omega)
  have HU : Hid (U = rUsed (a1 + 4) (le ((xs.drop a1).take 4)).toNat (xs.drop (a1 + 4))) := Lib.hid (by rw [HU.out, rCount, if_neg (by rw [List.length_drop]; have := HX.out; have := HL.out; omega), List.drop_drop])
  have HL := Lib.hid (show a1 + 4 ≤ N by omega)
  obtain ⟨n, hn⟩ : ∃ n, n = (le ((xs.drop a1).take 4)).toNat := ⟨_, rfl⟩
  rw [← hn] at HF1 HU
  have HF1 := Lib.hid HF1
  clear hn hs1
  go_wp2_with fail
  refine HF1.out.mono ?_
  rintro e w2 ⟨rfl, hcur, hk⟩
  have HA := Lib.hid (HA.out.call hk hcur)
  have HSz := Lib.hid (Nat.le_trans HSz.out hk.size)
  obtain ⟨a2, ha2⟩ : ∃ a2, a2 = a1 + 4 := ⟨_, rfl⟩
  rw [← ha2] at HA HU HL
  clear hk hcur HF1 ha2
  by_cases hn9 : 1048576 < n
  · have hd1 : decide ((1048576 : Int) < (n : Int)) = true := decide_eq_true (by omega)
    have hd2 : decide (1048576 < n) = true := decide_eq_true hn9
    have HU : Hid (U = .gone 3 a2) := Lib.hid (by rw [HU.out, rUsed, if_pos hn9])
    clear hn9
    go_wp2_with fail
    refine (HFl.out _ 3 _ _ _ _ HA.out (by decide)).mono ?_
    rintro e w3 ⟨rfl, hcur, hk⟩
    exact ⟨rfl, AtF.gave (t := .gone 3 a2) (HA.out.call hk hcur) (show (3 : Int) ≠ 0 by decide) HU.out⟩
  have hd1 : decide ((1048576 : Int) < (n : Int)) = false := decide_eq_false (by omega)
  have hd2 : decide (1048576 < n) = false := decide_eq_false hn9
  by_cases hs2 : N < a2 + 4
  · have HS := Lib.hid (HFs.out a2 _ _ _ _ HA.out HL.out hs2)
    have HU : Hid (U = .gone 2 a2) := Lib.hid (by rw [HU.out, rUsed, if_neg hn9, if_pos (by rw [List.length_drop]; have := HX.out; have := HL.out; omega)])
    clear hs2
    go_wp2_with fail
    refine HS.out.mono ?_
    rintro e w3 ⟨rfl, hcur, hk⟩
    exact ⟨rfl, AtF.gave (t := .gone 2 a2) (HA.out.call hk hcur) (show (2 : Int) ≠ 0 by decide) HU.out⟩
  have HF2 := HFo.out a2 _ _ _ _ HA.out (by omega)
  have HU : Hid (U = rRows (a2 + 4) n (le ((xs.drop a2).take 4)).toNat (xs.drop (a2 + 4))) := Lib.hid (by rw [HU.out, rUsed, if_neg hn9, if_neg (by rw [List.length_drop]; have := HX.out; have := HL.out; omega), List.drop_drop])
  have HL := Lib.hid (show a2 + 4 ≤ N by omega)
  obtain ⟨u, hu⟩ : ∃ u, u = (le ((xs.drop a2).take 4)).toNat := ⟨_, rfl⟩
  rw [← hu] at HF2 HU
  have HF2 := Lib.hid HF2
  have wn : IntKind.i64.wrap (n : Int) = (n : Int) := by rw [IntKind.wrap_i64]; omega
  clear hu hs2
  go_wp2_with fail
  refine HF2.out.mono ?_
  rintro e w3 ⟨rfl, hcur, hk⟩
  have hA3 := HA.out.call hk hcur
  have HA := Lib.hid (hA3.putU (.int .u32 (u : Int)))
  have f1 := hA3.cA.free 0
  have g1 := hA3.cA.cell 0 rfl
  simp only [List.getElem_toArray, List.getElem_cons_zero] at g1
  have HSz : Hid (w0.heap.size + 1 + 1 + 1 + 1 ≤ (w3.setCell ⟨A, 0, none⟩ (.int .u32 (u : Int))).heap.size) := Lib.hid (by have := HSz.out; have := hk.size; rw [World.size_setCell]; omega)
  obtain ⟨a3, ha3⟩ : ∃ a3, a3 = a2 + 4 := ⟨_, rfl⟩
  rw [← ha3] at HA HU HL
  clear hk hcur HF2 ha3 hA3
  go_wp2_with fail
  refine (HTg.out a3 n _ _ _ _ HA.out HL.out).mono ?_
  rintro e w4 ⟨hk, ⟨hy, ⟨v, rfl, q, m, d, rfl, hm, hmd, hdd, hq, hat, hnew⟩, hcur⟩ | ⟨hy, rfl, hcur⟩⟩
  rotate_left
  · exact ⟨rfl, AtF.gave (t := .gone (getE (n : Int) (xs.drop a3)).y (a3 + (getE (n : Int) (xs.drop a3)).m)) (HA.out.call hk hcur) hy (by rw [HU.out, rRows, if_pos hy])⟩
  have hA4 := HA.out.call hk hcur
  have HSz4 := Nat.le_trans HSz.out hk.size
  have HU : Hid (U = rFen (a3 + (getE (n : Int) (xs.drop a3)).m) n u (getE (n : Int) (xs.drop a3)).l (xs.drop (a3 + (getE (n : Int) (xs.drop a3)).m))) := Lib.hid (by rw [HU.out, rRows, if_neg (by rw [hy]; decide), List.drop_drop])
  have HL := Lib.hid (show a3 + (getE (n : Int) (xs.drop a3)).m ≤ N by have := getE_m (n : Int) (xs.drop a3); rw [List.length_drop] at this; have := HL.out; have := HX.out; omega)
  obtain ⟨l, hl⟩ : ∃ l, l = (getE (n : Int) (xs.drop a3)).l := ⟨_, rfl⟩
  obtain ⟨a4, ha4⟩ : ∃ a4, a4 = a3 + (getE (n : Int) (xs.drop a3)).m := ⟨_, rfl⟩
  rw [← ha4] at hA4 HU HL
  rw [← hl] at hm hat HU
  have HFe : Hid (FarE (w0.heap.size + 1 + 1 + 1 + 1) (w4.setCell ⟨A, 1, none⟩ (.slice q m d)) q m d l) := Lib.hid (FarE.keep (w := w4) ⟨hm, hmd, hdd, hq, hat, fun h0 a ha => Nat.le_trans HSz.out (hnew h0 a ha)⟩ ((Keeps.refl (Just A) w4).setIn (Just.self A) 1 (.slice q m d)) (fun i hi => by have := HLt.out; unfold Just; omega))
  have HA := Lib.hid (hA4.putT (.slice q m d))
  have f2 := hA4.cA.free 1
  have g2 := hA4.cA.cell 1 rfl
  simp only [List.getElem_toArray, List.getElem_cons_zero, List.getElem_cons_succ] at g2
  have HSz : Hid (w0.heap.size + 1 + 1 + 1 + 1 ≤ (w4.setCell ⟨A, 1, none⟩ (.slice q m d)).heap.size) := Lib.hid (by rw [World.size_setCell]; exact HSz4)
  have hcb : countF (n : Int) ≤ 1000000 := by unfold countF; omega
  have HCt := Lib.hid (fun w => fcount_own (n : Int) w (by omega) (by omega))
  obtain ⟨k, hk9⟩ : ∃ k, k = countF (n : Int) := ⟨_, rfl⟩
  unfold rFen at HU
  rw [← hk9] at HCt HU
  clear hk hcur hA4 ha4 hl hy hm hmd hdd hq hat hnew hk9 HSz4 hcb
  go_wp2_with fail
  refine (HCt.out _).mono ?_
  rintro e w5 ⟨rfl, hk⟩
  have HA := Lib.hid (HA.out.quiet hk)
  have HFe := Lib.hid (HFe.out.keep hk (fun _ _ h => h))
  have HSz := Lib.hid (Nat.le_trans HSz.out hk.size)
  clear hk f1 f2 g1 g2
  go_wp2_with fail
  refine (HFg.out a4 k _ _ _ _ HA.out HL.out).mono ?_
  rintro e w6 ⟨hk, ⟨hy, ⟨v, rfl, q2, m2, d2, rfl, hm, hmd, hdd, hq, hat, hnew⟩, hcur⟩ | ⟨hy, rfl, hcur⟩⟩
  rotate_left
  · exact ⟨rfl, AtF.gave (t := .gone (getF (k : Int) (xs.drop a4)).y (a4 + (getF (k : Int) (xs.drop a4)).m)) (HA.out.call hk hcur) hy (by rw [HU.out, if_pos hy])⟩
  have hA6 := HA.out.call hk hcur
  have HSz6 := Nat.le_trans HSz.out hk.size
  have HU : Hid (U = rEnd (a4 + (getF (k : Int) (xs.drop a4)).m) u l (getF (k : Int) (xs.drop a4)).l (xs.drop (a4 + (getF (k : Int) (xs.drop a4)).m))) := Lib.hid (by rw [HU.out, if_neg (by rw [hy]; decide), List.drop_drop])
  have HL := Lib.hid (show a4 + (getF (k : Int) (xs.drop a4)).m ≤ N by have := getF_m (k : Int) (xs.drop a4); rw [List.length_drop] at this; have := HL.out; have := HX.out; omega)
  obtain ⟨fs, hfs⟩ : ∃ fs, fs = (getF (k : Int) (xs.drop a4)).l := ⟨_, rfl⟩
  obtain ⟨a5, ha5⟩ : ∃ a5, a5 = a4 + (getF (k : Int) (xs.drop a4)).m := ⟨_, rfl⟩
  rw [← ha5] at hA6 HU HL
  rw [← hfs] at hm hat HU
  have HFe := Lib.hid ((HFe.out.keep hk (fun i hi => by unfold Just; omega)).keep ((Keeps.refl (Just B) w6).setIn (Just.self B) 0 (.slice q2 m2 d2)) (fun i hi => by have := HLt.out; unfold Just; omega))
  have HFn : Hid (FarN (w0.heap.size + 1 + 1 + 1 + 1) (w6.setCell ⟨B, 0, none⟩ (.slice q2 m2 d2)) q2 m2 d2 fs) := Lib.hid (FarN.keep (w := w6) ⟨hm, hmd, hdd, hq, hat, fun h0 a ha => Nat.le_trans HSz.out (hnew h0 a ha)⟩ ((Keeps.refl (Just B) w6).setIn (Just.self B) 0 (.slice q2 m2 d2)) (fun i hi => by have := HLt.out; unfold Just; omega))
  have HA := Lib.hid (hA6.putN (.slice q2 m2 d2))
  have f3 := hA6.cB.free 0
  have g3 := hA6.cB.cell 0 rfl
  simp only [List.getElem_toArray, List.getElem_cons_zero] at g3
  clear hk hcur hA6 ha5 hfs hy hm hmd hdd hq hat hnew HSz6
  cases hd : xs.drop a5 with
  | nil =>
    obtain rfl : a5 = N := by have := List.drop_eq_nil_iff.1 hd; have := HX.out; have := HL.out; omega
    have HU : Hid (U = ⟨0, a5, u, l, fs⟩) := Lib.hid (by rw [HU.out, hd, rEnd])
    clear hd
    go_wp2_with fail
    refine (HE0.out _ _ _ _ _ HA.out).mono ?_
    rintro e w7 ⟨rfl, hcur, hk⟩
    have HA := Lib.hid (HA.out.quiet hk)
    have HFe := Lib.hid (HFe.out.keep hk (fun _ _ h => h))
    have HFn := Lib.hid (HFn.out.keep hk (fun _ _ h => h))
    clear hk hcur f3 g3
    go_wp2_with fail
    go_returns
    obtain ⟨y, a, u', l', fs'⟩ := U
    obtain ⟨rfl, rfl, rfl, rfl, rfl⟩ : y = 0 ∧ a = a5 ∧ u' = u ∧ l' = l ∧ fs' = fs := by simpa using HU.out
    exact ⟨.inl rfl, HA.out.beg, HA.out.kp, _, _, _, _, _, _, _, HA.out.cA, HA.out.cB, fun _ => ⟨rfl, HFe.out, HFn.out⟩⟩
  | cons b r =>
    have HU : Hid (U = .gone 3 a5) := Lib.hid (by rw [HU.out, hd, rEnd])
    have hlt : a5 < N := by have := (drop_head hd).1; have := HX.out; omega
    clear hd
    go_wp2_with fail
    refine (HE1.out _ _ _ _ _ HA.out hlt).mono ?_
    rintro e w7 ⟨rfl, hcur, hk⟩
    exact ⟨rfl, AtF.gave (t := .gone 3 a5) (HA.out.call hk hcur) (show (3 : Int) ≠ 0 by decide) HU.out⟩
end Go.Proofs.Ytmifbohdepejaaa

/-
  FenGetOwn; OpenN.
-/
import Derived.Test.YtidhcmamfdipiaaM08
import Derived.Test.YtidhcmamfdipiaaM11
import Derived.Test.YtidhcmamfdipiaaM17
namespace Go.Proofs.Ytidhcmamfdipiaa
open Go.RowKit

/-- Block g has room for d numbers; the first n are those of f. -/
def RowU (wr : World) (g d n : Nat) (f : Nat → Nat) : Prop :=
  ∃ cur, Whole wr g 23 cur ∧ cur.size = d ∧ n ≤ d ∧ ∀ i, i < n → cur[i]? = some (numV (f i))
theorem RowU.lt {wr : World} {g d n : Nat} {f : Nat → Nat} (h : RowU wr g d n f) : g < wr.heap.size := by
  obtain ⟨cur, hw, _⟩ := h
  exact hw.lt
theorem RowU.cell {wr : World} {g d n : Nat} {f : Nat → Nat} (h : RowU wr g d n f) {i : Nat} (hi : i < n) : wr.cell? ⟨g, i, none⟩ = some (.int .u64 ((f i : Nat) : Int)) := by
  obtain ⟨cur, hw, _, _, hc⟩ := h
  exact hw.cell _ (hc i hi)
theorem RowU.free {wr : World} {g d n : Nat} {f : Nat → Nat} (h : RowU wr g d n f) (i : Nat) : wr.frozen? ⟨g, i, none⟩ = false := by
  obtain ⟨cur, hw, _⟩ := h
  exact hw.free i
theorem RowU.keep {w w' : World} {g d n : Nat} {f : Nat → Nat} (h : RowU w g d n f) {S : Nat → Prop} (hk : Keeps S w w') (hs : ¬ S g) : RowU w' g d n f := by
  obtain ⟨cur, hw, h1⟩ := h
  exact ⟨cur, hw.keep hk hs, h1⟩
theorem RowU.congr {w : World} {g d n m : Nat} {f f' : Nat → Nat} (h : RowU w g d n f) (hm : m ≤ n) (he : ∀ i, i < m → f i = f' i) : RowU w g d m f' := by
  obtain ⟨cur, hw, h1, h2, h3⟩ := h
  exact ⟨cur, hw, h1, by omega, fun i hi => by rw [← he i hi]; exact h3 i (by omega)⟩
theorem RowU.put {w : World} {g d n : Nat} {f : Nat → Nat} (h : RowU w g d n f) {k : Nat} (hk : k < n) (x : Nat) :
    RowU (w.setCell ⟨g, k, none⟩ (.int .u64 (x : Int))) g d n (fun i => if i = k then x else f i) := by
  obtain ⟨cur, hw, h1, h2, h3⟩ := h
  refine ⟨_, hw.set _ _, by simpa using h1, h2, fun i hi => ?_⟩
  dsimp only
  by_cases e : i = k
  · subst e
    rw [if_pos rfl, Array.getElem?_setIfInBounds_self_of_lt (by omega)]
    rfl
  · rw [if_neg e, Array.getElem?_setIfInBounds_ne (by omega)]
    exact h3 i hi
/-- The row as numbers that can be read. -/
theorem RowU.nums {w : World} {g d n : Nat} {f : Nat → Nat} (h : RowU w g d n f) {l : List Nat} (hl : l.length ≤ n) (he : ∀ i, i < l.length → l.getD i 0 = f i) : RowN w (some ⟨g, 0, none⟩) l := fun i hi => by
  refine ⟨_, rfl, ?_⟩
  rw [addZero, he i hi]
  exact h.cell (by omega)
theorem RowU.ofMade {w : World} {base g n d : Nat} (h : w.ownsRow base 23 1 (.slice (some ⟨g, 0, none⟩) n d) n (madeCells #[Value.int .u64 0] n).toList) : RowU w g d n (fun _ => 0) := by
  rcases h with ⟨hl, ⟨h0, _⟩ | ⟨g', cap, cur, hv, hb, hg, h1, h2, h3, h4⟩⟩
  · simp at h0
  · simp only [Value.slice.injEq, Option.some.injEq, Addr.mk.injEq, and_true, true_and] at hv
    obtain ⟨rfl, rfl⟩ := hv
    refine ⟨cur, hg, by omega, h1, fun i hi => ?_⟩
    have e : (cur.toList.take (n * 1))[i]? = (madeCells #[Value.int .u64 0] n).toList[i]? := by rw [h4]
    rw [List.getElem?_take_of_lt (by omega), Array.getElem?_toList, Array.getElem?_toList] at e
    rw [e]
    simp [madeCells, hi, Nat.mod_one]
    rfl

theorem le_natF {xs : List Int} (ho : Octets xs) (m : Nat) : le (xs.take m) = (((le (xs.take m)).toNat : Nat) : Int) := by
  have := (le_bound (xs.take m) (fun b hb => ho b (List.mem_of_mem_take hb))).1
  omega
theorem wrap_smallF {x : Nat} (h : x < 9223372036854775808) : wrap64 (x : Int) = (x : Int) := by unfold wrap64; omega
theorem takeF_getD : ∀ (n j : Nat) (xs : List Int), j < n → (takeF n xs).getD j 0 = (le ((xs.drop (8 * j)).take 8)).toNat
  | 0, _, _, h => by omega
  | n + 1, 0, xs, _ => by simp [takeF]
  | n + 1, j + 1, xs, h => by
    rw [takeF, List.getD_cons_succ, takeF_getD n j (xs.drop 8) (by omega), List.drop_drop, show 8 + 8 * j = 8 * (j + 1) by omega]
/-- What the row is behind j numbers. -/
def soFarF (l : List Nat) (j : Nat) : Nat → Nat := fun i => if i < j then l.getD i 0 else 0
theorem soFarF_step (l : List Nat) (j : Nat) (i : Nat) : (if i = j then l.getD j 0 else soFarF l j i) = soFarF l (j + 1) i := by
  unfold soFarF
  by_cases h : i = j
  · subst h
    rw [if_pos rfl, if_pos (by omega)]
  · rw [if_neg h]
    by_cases h2 : i < j
    · rw [if_pos h2, if_pos (by omega)]
    · rw [if_neg h2, if_neg (by omega)]

set_option maxHeartbeats 4000000 in
set_option maxRecDepth 10000 in
theorem fget_own (k : Nat) (p : Option Addr) (xs : List Int) (N c a : Nat) (z : Int) (w : World) (hx : N = xs.length) (h : CurB w k p N c a true 0) (hb : Bytes8 w p xs) (ho : Octets xs) (hp : 0 < xs.length → ∀ q, p = some q → q.block ≠ k) (ha : a ≤ N) (hN : N ≤ c) (hc : c ≤ 9223372036854775807) (hN9 : N ≤ 1000000) :
    Calls Try.prog 21 #[.pointer (some ⟨k, 0, none⟩), .int .i64 z] w (GetFPost k p N c a (getF z (xs.drop a)) w) := by
  unfold getF
  by_cases hz : z ≤ 0
  · rw [if_pos hz]
    have hd : decide (z ≤ 0) = true := decide_eq_true hz
    have H := Lib.hid h
    clear h hb ho hp hz hx
    go_enter Try.func21, Try.ntmps21
    go_wp2_with fail
    go_ret
    exact ⟨Keeps.refl _ _, .inl ⟨rfl, ⟨_, rfl, none, 0, 0, rfl, rfl, Nat.le_refl _, by decide, fun _ => ⟨rfl, rfl⟩, fun i hi => by simp at hi, fun h => by omega⟩, H.out⟩⟩
  · rw [if_neg hz]
    obtain ⟨n, rfl⟩ : ∃ n : Nat, z = (n : Int) := ⟨z.toNat, by omega⟩
    rw [Int.toNat_natCast]
    have hd : decide ((n : Int) ≤ 0) = false := decide_eq_false hz
    have hd2 : decide (n ≤ 0) = false := decide_eq_false (by omega)
    have hd3 : decide (n = 0) = false := decide_eq_false (by omega)
    have hn0 : ¬ n = 0 := by omega
    obtain ⟨M, hM⟩ : ∃ M, M = (xs.drop a).length := ⟨_, rfl⟩
    have hMN : a + M = N := by rw [hM, List.length_drop]; omega
    have HLf := Lib.hid (fun w h => left_at k p N c a 0 w h ha (by omega))
    rw [show (N : Int) - (a : Int) = (M : Int) by omega] at HLf
    rw [← hM]
    have hq : ((M : Int)).tdiv 8 = ((M / 8 : Nat) : Int) := by rw [Int.tdiv_eq_ediv_of_nonneg (by omega)]; omega
    obtain ⟨K, hK⟩ : ∃ K, K = M / 8 := ⟨_, rfl⟩
    rw [← hK] at hq ⊢
    have hq2 : (M : Int) / 8 = (K : Int) := by omega
    have hK9 : K ≤ 1000000 := by rw [hK]; omega
    by_cases hs : K < n
    · rw [if_pos hs]
      have hs1 : decide ((K : Int) < (n : Int)) = true := decide_eq_true (by omega)
      have hs2 : decide (K < n) = true := decide_eq_true hs
      have H := Lib.hid h
      clear h hb ho hp hz hx hM hK hs
      have hwK : wrap64 (K : Int) = (K : Int) := wrap_smallF (by omega)
      go_enter Try.func21, Try.ntmps21
      go_wp2_with fail
      refine (HLf.out _ H.out).mono ?_
      rintro e w1 ⟨rfl, m, rfl⟩
      have H1 : Hid (CurB (w.drewN m) k p N c a true 0) := Lib.hid H.out
      go_wp2_with fail
      clear hwK
      refine (fail_at k p N c a 2 _ H1.out (by decide)).mono ?_
      rintro e w2 ⟨rfl, hcur, hk⟩
      exact ⟨rfl, hk.ofDrewN, .inr ⟨by decide, rfl, hcur⟩⟩
    · rw [if_neg hs]
      have hs1 : decide ((K : Int) < (n : Int)) = false := decide_eq_false (by omega)
      have hs2 : decide (K < n) = false := decide_eq_false hs
      have hfit : a + 8 * n ≤ N := by omega
      obtain ⟨l, hl⟩ : ∃ l, l = takeF n (xs.drop a) := ⟨_, rfl⟩
      rw [← hl]
      have hll : l.length = n := by rw [hl]; exact takeF_length _ _
      obtain ⟨t, ht⟩ : ∃ t : GF, t = if risesF l = true then ⟨8 * n, 0, l⟩ else ⟨8 * n, 8, []⟩ := ⟨_, rfl⟩
      rw [← ht]
      have HT := Lib.hid ht
      clear ht
      have HG : Hid (∀ j, j < n → le ((xs.drop (a + 8 * j)).take 8) = ((l.getD j 0 : Nat) : Int)) := Lib.hid (fun j hj => by
        have hd := takeF_getD n j (xs.drop a) hj
        rw [← hl, List.drop_drop] at hd
        rw [hd]
        exact le_natF (ho.drop (a + 8 * j)) 8)
      have HE := Lib.hid (fun j w (hj : j < n) h hb => eight_at k p xs N c (a + 8 * j) w hx h hb ho hp (by omega) hN hc)
      have H := Lib.hid h
      have HB := Lib.hid hb
      have HP := Lib.hid hp
      have HL := Lib.hid hll
      have hn9 : n ≤ 200000 := by omega
      obtain ⟨i0, hi, hz0, hz1, hz2⟩ := info_parts infoU64
      have HCx := Lib.hid hfit
      clear h hb ho hp hz hx hM hK hs hl hll hq2 hMN hfit
      have hwK : wrap64 (K : Int) = (K : Int) := wrap_smallF (by omega)
      go_enter Try.func21, Try.ntmps21
      go_wp2_with fail
      refine (HLf.out _ H.out).mono ?_
      rintro e w1 ⟨rfl, m, rfl⟩
      obtain ⟨W, hW⟩ : ∃ W, W = w.drewN m := ⟨_, rfl⟩
      have H1 : Hid (CurB W k p N c a true 0) := Lib.hid (by rw [hW]; exact H.out)
      have HB1 : Hid (Bytes8 W p xs) := Lib.hid (by rw [hW]; exact HB.out)
      have HK1 : Hid (Keeps (Just k) w W) := Lib.hid (by rw [hW]; exact (Keeps.refl _ _).drewN _)
      rw [← hW]
      clear hW HLf
      go_wp2_with (at_make; refine wpList_make_full _ rfl _ _ 26 rfl W.heap.size 23 i0 (.int .u64 0) 1 Try.underlying26 hi hz0 hz1 .i64 .i64 (n : Int) (n : Int) n rfl rfl rfl rfl (by rw [hz2]; omega) (by unfold maxLen; omega) (Nat.le_refl _) ?_)
      intro w2 hown hgrow
      clear hwK
      have hR0 := RowU.ofMade hown
      have HK2 := Lib.hid (HK1.out.grown hgrow (fun k hk => by simp at hk))
      have hkW : k < W.heap.size := H1.out.lt
      have HR : Hid (RowU w2 W.heap.size n n (soFarF l 0)) := Lib.hid (hR0.congr (Nat.le_refl _) (fun i hi => by unfold soFarF; rw [if_neg (by omega)]))
      have hNo : Keeps NoBlock W w2 := (Keeps.refl NoBlock W).grown hgrow (fun k hk => by simp at hk)
      have HC2 : Hid (CurB w2 k p N c (a + 8 * 0) true 0) := Lib.hid (H1.out.keep hNo (fun h => h))
      have HB2 : Hid (Bytes8 w2 p xs) := Lib.hid (HB1.out.keep hNo (fun _ _ h => h))
      have hgn : W.heap.size ≠ k := by omega
      have hwg : w.heap.size ≤ W.heap.size := HK1.out.size
      obtain ⟨g, hgd⟩ : ∃ g, g = W.heap.size := ⟨_, rfl⟩
      rw [← hgd] at HR hgn hwg ⊢
      have HPg : Hid (0 < xs.length → ∀ q, p = some q → q.block ≠ g) := Lib.hid (fun h0 q hq => by
        obtain ⟨a', ha', hc⟩ := HB.out h0
        obtain rfl := Option.some.inj (ha'.symm.trans hq)
        have := ltOfCell (hc 0 h0)
        rw [addBlock] at this
        omega)
      have HGn := Lib.hid hgn
      have HWg := Lib.hid hwg
      clear hown hgrow hR0 hNo hgn hwg hgd hkW H1 HB1 HK1
      go_wp2_with fail
      go_loopw [20] (fun i wr => ∃ j : Nat, j ≤ n ∧ i = .int .i64 (j : Int) ∧ Hid (CurB wr k p N c (a + 8 * j) true 0) ∧ Hid (RowU wr g n n (soFarF l j)) ∧ Hid (Keeps (Just k) w wr) ∧ Hid (Bytes8 wr p xs)) (fun i _ => n - (intOf i).toNat)
      case atStart => exact ⟨0, Nat.zero_le _, rfl, HC2, HR, HK2, HB2⟩
      case round =>
        obtain ⟨j, hj, rfl, HC3, HR3, HK3, HB3⟩ := hrel
        by_cases hlt : j < n
        · have hdj : decide ((j : Int) < (n : Int)) = true := decide_eq_true (by omega)
          have HE3 := HE.out j
          rw [HG.out j hlt] at HE3
          have HE3 := Lib.hid HE3
          obtain ⟨r, hr⟩ : ∃ r, r = l.getD j 0 := ⟨_, rfl⟩
          have HStep : Hid (∀ i, (if i = j then r else soFarF l j i) = soFarF l (j + 1) i) := Lib.hid (by rw [hr]; exact soFarF_step l j)
          rw [← hr] at HE3
          clear hr
          go_wp2_with fail
          refine (HE3.out _ hlt HC3.out HB3.out).mono ?_
          rintro e w4 ⟨rfl, hcur, hk⟩
          have HC4 := Lib.hid hcur
          have HR4 := Lib.hid (HR3.out.keep hk HGn.out)
          have HK4 := Lib.hid (HK3.out.trans hk)
          have HB4 := Lib.hid (HB3.out.keepPos hk (fun h0 q hq => HP.out h0 q hq))
          clear hcur hk
          have x0 := HR4.out.cell hlt
          have f0 := HR4.out.free j
          have HRn := Lib.hid (HR4.out.put hlt r)
          have HKn := Lib.hid (HK4.out.set (p := ⟨g, j, none⟩) (.inr HWg.out) (.int .u64 (r : Int)))
          have hSet : Keeps (Just g) w4 (w4.setCell ⟨g, j, none⟩ (.int .u64 (r : Int))) := (Keeps.refl _ _).setIn (Just.self g) _ _
          have HCn := Lib.hid (Whole.keep HC4.out hSet (fun h => HGn.out h.symm))
          have HSet := Lib.hid hSet
          clear hSet
          go_wp2_with fail
          go_roundw
          case rel =>
            refine ⟨j + 1, by omega, by go_num, Lib.hid ?_, Lib.hid ?_, Lib.hid HKn.out, Lib.hid ?_⟩
            · rw [show a + 8 * (j + 1) = a + 8 * j + 8 by omega]
              exact HCn.out
            · exact HRn.out.congr (Nat.le_refl _) (fun i _ => HStep.out i)
            · exact HB4.out.keepPos HSet.out (fun h0 q hq => HPg.out h0 q hq)
          case measure => simp [intOf]; omega
        · have hdj : decide ((j : Int) < (n : Int)) = false := decide_eq_false (by omega)
          obtain rfl : j = n := by omega
          have HEn := Lib.hid (HR3.out.nums (l := l) (by rw [HL.out]; exact Nat.le_refl _) (fun i hi => by unfold soFarF; rw [if_pos (by have := HL.out; omega)]))
          have HRi := Lib.hid (fun w h => sorted64_own (some ⟨g, 0, none⟩) j j l HL.out.symm (by omega) (by omega) w h)
          cases hri : risesF l
          · rw [hri] at HRi
            have HT2 : Hid (t = ⟨8 * j, 8, []⟩) := Lib.hid (by rw [HT.out, if_neg (by rw [hri]; simp)])
            clear hri HT
            go_wp2_with fail
            refine (HRi.out _ HEn.out).mono ?_
            rintro e w6 ⟨rfl, hk⟩
            have HC6 := Lib.hid (HC3.out.keep hk (fun h => h))
            have HK6 := Lib.hid (HK3.out.then hk (fun _ _ h => h.elim))
            clear hk
            go_wp2_with fail
            refine (fail_at k p N c (a + 8 * j) 8 _ HC6.out (by decide)).mono ?_
            rintro e w7 ⟨rfl, hcur, hk⟩
            refine ⟨rfl, ?_⟩
            unfold GetFPost
            rw [HT2.out]
            exact ⟨HK6.out.trans hk, .inr ⟨show (8 : Int) ≠ 0 by decide, rfl, hcur⟩⟩
          · rw [hri] at HRi
            have HT2 : Hid (t = ⟨8 * j, 0, l⟩) := Lib.hid (by rw [HT.out, if_pos hri])
            clear hri HT
            go_wp2_with fail
            refine (HRi.out _ HEn.out).mono ?_
            rintro e w6 ⟨rfl, hk⟩
            have HC6 := Lib.hid (HC3.out.keep hk (fun h => h))
            have HK6 := Lib.hid (HK3.out.then hk (fun _ _ h => h.elim))
            have HE6 := Lib.hid (RowN.keep HEn.out hk (fun _ _ h => h))
            clear hk
            go_wp2_with fail
            go_ret
            unfold GetFPost
            rw [HT2.out]
            exact ⟨HK6.out, .inl ⟨rfl, ⟨_, rfl, _, _, _, rfl, HL.out.symm, Nat.le_refl _, by omega, fun h => by simp at h, HE6.out, fun _ a ha => by obtain rfl := Option.some.inj ha; exact HWg.out⟩, HC6.out⟩⟩
theorem fenby_ok : FenByOk := ⟨fun base g xs p n c l w h1 h2 h3 h4 h5 h6 => fput_own base g xs p n c l w h1 h2 h3 h4 h5 h6, fun k p xs N c a z w h1 h2 h3 h4 h5 h6 h7 h8 h9 => fget_own k p xs N c a z w h1 h2 h3 h4 h5 h6 h7 h8 h9⟩
end Go.Proofs.Ytidhcmamfdipiaa

namespace Go.Proofs.Ytidhcmamfdipiaa
open Go.ChangeShapes Go.WideShapes Go.ChangeAt Go.RowKit

set_option maxRecDepth 100000 in
/-- An argument that is a row of numbers of 64 bits. -/
theorem open_rowN {H : Type} {enc : TypeId × Value → H} {W : World} {base : Nat} {v : Value} {d : DataW H} {ps : List MemPlace} (hv : Value.okWide Try.prog W .any base 26 v) (h : DataW.Trod enc Try.prog W 0 (fun _ => true) true 26 v d ps) :
    ∃ (p : Option Addr) (n c : Nat) (l : List Nat), v = .slice p n c ∧ InN W p n c l := by
  obtain ⟨a0, len, cap, rfl⟩ := okWide_slice Try.underlying26 hv
  obtain ⟨fuel, hf⟩ := h
  rcases open_ints Try.underlying26 Try.underlying23 (by kernel_rfl) hf with ⟨hcs, hx⟩ | ⟨a, len', cap', zs, hcs, _, hl, hm, hz, hx, hcell, hwz⟩
  · simp [Value.cells] at hcs
    obtain ⟨rfl, rfl, rfl⟩ := hcs
    exact ⟨none, 0, 0, [], rfl, rfl, Nat.le_refl _, by omega, fun _ => ⟨rfl, rfl⟩, fun b hb => by simp at hb, fun i hi => by simp at hi⟩
  · simp [Value.cells] at hcs
    obtain ⟨rfl, rfl, rfl⟩ := hcs
    simp only [if_true] at hz
    have hxl : (zs.take len).length = len := by simp; omega
    obtain ⟨l, hl1, hl2⟩ := nat_list (zs.take len) (fun b hb => by
      obtain ⟨x, rfl, hx⟩ := u64_wf (hwz b (List.mem_of_mem_take hb))
      omega)
    have hll : l.length = len := by rw [← hxl, hl1, List.length_map]
    refine ⟨some a, len, cap, l, rfl, hll.symm, by omega, by unfold maxLen at hm; omega, fun h => by simp at h, hl2, fun i hi => ⟨a, rfl, ?_⟩⟩
    rw [hll] at hi
    rw [hcell i (by omega)]
    have e : (zs.take len)[i]? = some ((l.getD i 0 : Nat) : Int) := by
      rw [hl1]
      simp [show i < l.length by omega]
    rw [List.getElem?_take, if_pos hi] at e
    simp [e]
end Go.Proofs.Ytidhcmamfdipiaa

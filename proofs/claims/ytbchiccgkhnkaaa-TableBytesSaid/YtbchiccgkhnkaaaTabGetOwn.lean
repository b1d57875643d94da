/-
  Package table's own Get.
-/
import Derived.Test.YtbchiccgkhnkaaaTabRow
import Derived.Test.YtbchiccgkhnkaaaTabRis
import Derived.Test.YtbchiccgkhnkaaaVarGet
import Derived.Test.YtbchiccgkhnkaaaTabPut
namespace Go.Proofs.Ytbchiccgkhnkaaa
open Go.RowKit

theorem takeE_getD : ∀ (n j : Nat) (xs : List Int), j < n → (takeE n xs).getD j En.none = ⟨(le ((xs.drop (12 * j)).take 8)).toNat, (le ((xs.drop (12 * j + 8)).take 4)).toNat⟩
  | 0, _, _, h => by omega
  | n + 1, 0, xs, _ => by simp [takeE]
  | n + 1, j + 1, xs, h => by
    rw [takeE, List.getD_cons_succ, takeE_getD n j (xs.drop 12) (by omega), List.drop_drop, List.drop_drop, show 12 + 12 * j = 12 * (j + 1) by omega, show 12 + (12 * j + 8) = 12 * (j + 1) + 8 by omega]

theorem le_nat {xs : List Int} (ho : Octets xs) (m : Nat) : le (xs.take m) = (((le (xs.take m)).toNat : Nat) : Int) := by
  have := (le_bound (xs.take m) (fun b hb => ho b (List.mem_of_mem_take hb))).1
  omega
theorem wrap_small {x : Nat} (h : x < 9223372036854775808) : wrap64 (x : Int) = (x : Int) := by unfold wrap64; omega
/-- What the row is behind j entries. -/
def soFar (l : List En) (j : Nat) : Nat → En := fun i => if i < j then l.getD i En.none else En.none
theorem soFar_step (l : List En) (j : Nat) (i : Nat) : (if i = j then l.getD j En.none else soFar l j i) = soFar l (j + 1) i := by
  unfold soFar
  by_cases h : i = j
  · subst h
    rw [if_pos rfl, if_pos (by omega)]
  · rw [if_neg h]
    by_cases h2 : i < j
    · rw [if_pos h2, if_pos (by omega)]
    · rw [if_neg h2, if_neg (by omega)]

set_option maxHeartbeats 4000000 in
set_option maxRecDepth 10000 in
theorem tget_own (k : Nat) (p : Option Addr) (xs : List Int) (N c a : Nat) (z : Int) (w : World) (hx : N = xs.length) (h : CurB w k p N c a true 0) (hb : Bytes8 w p xs) (ho : Octets xs) (hp : 0 < xs.length → ∀ q, p = some q → q.block ≠ k) (ha : a ≤ N) (hN : N ≤ c) (hc : c ≤ 9223372036854775807) (hN9 : N ≤ 1000000) :
    Calls Try.prog 20 #[.pointer (some ⟨k, 0, none⟩), .int .i64 z] w (GetEPost k p N c a (getE z (xs.drop a)) w) := by
  unfold getE
  by_cases hz : z ≤ 0
  · rw [if_pos hz]
    have hd : decide (z ≤ 0) = true := decide_eq_true hz
    have H := Lib.hid h
    clear h hb ho hp hz hx
    go_enter Try.func20, Try.ntmps20
    go_wp2_with fail
    go_ret
    exact ⟨Keeps.refl _ _, .inl ⟨rfl, ⟨_, rfl, none, 0, 0, rfl, rfl, Nat.le_refl _, by decide, fun _ => ⟨rfl, rfl⟩, TwosAt.nil _ _, fun h => by omega⟩, H.out⟩⟩
  · rw [if_neg hz]
    obtain ⟨n, rfl⟩ : ∃ n : Nat, z = (n : Int) := ⟨z.toNat, by omega⟩
    rw [Int.toNat_natCast]
    have hd : decide ((n : Int) ≤ 0) = false := decide_eq_false hz
    have hd2 : decide (n ≤ 0) = false := decide_eq_false (by omega)
    have hd3 : decide (n = 0) = false := decide_eq_false (by omega)
    have hn0 : ¬ n = 0 := by omega
    obtain ⟨M, hM⟩ : ∃ M, M = (xs.drop a).length := ⟨_, rfl⟩
    have hMN : a + M = N := by rw [hM, List.length_drop]; omega
    have HLf := Lib.hid (fun w h => left_at k p N c a 0 w h ha (by omega))
    rw [show (N : Int) - (a : Int) = (M : Int) by omega] at HLf
    rw [← hM]
    have hq : ((M : Int)).tdiv 12 = ((M / 12 : Nat) : Int) := by rw [Int.tdiv_eq_ediv_of_nonneg (by omega)]; omega
    obtain ⟨K, hK⟩ : ∃ K, K = M / 12 := ⟨_, rfl⟩
    rw [← hK] at hq ⊢
    have hq2 : (M : Int) / 12 = (K : Int) := by omega
    have hK9 : K ≤ 1000000 := by rw [hK]; omega
    by_cases hs : K < n
    · rw [if_pos hs]
      have hs1 : decide ((K : Int) < (n : Int)) = true := decide_eq_true (by omega)
      have hs2 : decide (K < n) = true := decide_eq_true hs
      have H := Lib.hid h
      clear h hb ho hp hz hx hM hK hs
      have hwK : wrap64 (K : Int) = (K : Int) := wrap_small (by omega)
      go_enter Try.func20, Try.ntmps20
      go_wp2_with fail
      refine (HLf.out _ H.out).mono ?_
      rintro e w1 ⟨rfl, m, rfl⟩
      have H1 : Hid (CurB (w.drewN m) k p N c a true 0) := Lib.hid H.out
      go_wp2_with fail
      clear hwK
      refine (fail_at k p N c a 2 _ H1.out (by decide)).mono ?_
      rintro e w2 ⟨rfl, hcur, hk⟩
      exact ⟨rfl, hk.ofDrewN, .inr ⟨by decide, rfl, hcur⟩⟩
    · rw [if_neg hs]
      have hs1 : decide ((K : Int) < (n : Int)) = false := decide_eq_false (by omega)
      have hs2 : decide (K < n) = false := decide_eq_false hs
      have hfit : a + 12 * n ≤ N := by omega
      obtain ⟨l, hl⟩ : ∃ l, l = takeE n (xs.drop a) := ⟨_, rfl⟩
      rw [← hl]
      have hll : l.length = n := by rw [hl]; exact takeE_length _ _
      obtain ⟨t, ht⟩ : ∃ t : GE, t = if risesE l = true then ⟨12 * n, 0, l⟩ else ⟨12 * n, 8, []⟩ := ⟨_, rfl⟩
      rw [← ht]
      have HT := Lib.hid ht
      clear ht
      have HG : Hid (∀ j, j < n → le ((xs.drop (a + 12 * j)).take 8) = ((l.getD j En.none).hash : Int) ∧ le ((xs.drop (a + 12 * j + 8)).take 4) = ((l.getD j En.none).at_ : Int)) := Lib.hid (fun j hj => by
        have hd := takeE_getD n j (xs.drop a) hj
        rw [← hl, List.drop_drop, List.drop_drop, show a + (12 * j + 8) = a + 12 * j + 8 by omega] at hd
        rw [hd]
        dsimp only
        have e1 := le_nat (ho.drop (a + 12 * j)) 8
        have e2 := le_nat (ho.drop (a + 12 * j + 8)) 4
        exact ⟨e1, e2⟩)
      have HE := Lib.hid (fun j w (hj : j < n) h hb => eight_at k p xs N c (a + 12 * j) w hx h hb ho hp (by omega) hN hc)
      have HF := Lib.hid (fun j w (hj : j < n) h hb => four_at k p xs N c (a + 12 * j + 8) w hx h hb ho hp (by omega) hN hc)
      have H := Lib.hid h
      have HB := Lib.hid hb
      have HP := Lib.hid hp
      have HL := Lib.hid hll
      have hn9 : n ≤ 100000 := by omega
      obtain ⟨i0, hi, hz0, hz1, hz2⟩ := info_parts infoEnL
      have HCx := Lib.hid hfit
      clear h hb ho hp hz hx hM hK hs hl hll hq2 hMN hfit
      have hwK : wrap64 (K : Int) = (K : Int) := wrap_small (by omega)
      go_enter Try.func20, Try.ntmps20
      go_wp2_with fail
      refine (HLf.out _ H.out).mono ?_
      rintro e w1 ⟨rfl, m, rfl⟩
      obtain ⟨W, hW⟩ : ∃ W, W = w.drewN m := ⟨_, rfl⟩
      have H1 : Hid (CurB W k p N c a true 0) := Lib.hid (by rw [hW]; exact H.out)
      have HB1 : Hid (Bytes8 W p xs) := Lib.hid (by rw [hW]; exact HB.out)
      have HK1 : Hid (Keeps (Just k) w W) := Lib.hid (by rw [hW]; exact (Keeps.refl _ _).drewN _)
      rw [← hW]
      clear hW HLf
      go_wp2_with (at_make; refine wpList_make_full _ rfl _ _ 22 rfl W.heap.size 29 i0 (.agg #[.int .u64 0, .int .u32 0]) 2 Try.underlying22 hi hz0 hz1 .i64 .i64 (n : Int) (n : Int) n rfl rfl rfl rfl (by rw [hz2]; omega) (by unfold maxLen; omega) (Nat.le_refl _) ?_)
      intro w2 hown hgrow
      clear hwK
      have hown2 : w2.ownsRow W.heap.size 29 2 (.slice (some ⟨W.heap.size, 0, none⟩) n n) n (twoFlat enH enA (List.replicate n En.none)) := by rw [← madeTwos n]; exact hown
      have hR0 := RowF.ofOwn hown2 (by simp)
      clear hown2
      have HK2 := Lib.hid (HK1.out.grown hgrow (fun k hk => by simp at hk))
      have hkW : k < W.heap.size := H1.out.lt
      have HR : Hid (RowF w2 W.heap.size n n (soFar l 0)) := Lib.hid (hR0.1.congr (Nat.le_refl _) (fun i hi => by
        have e : soFar l 0 i = En.none := by unfold soFar; rw [if_neg (by omega)]
        rw [e, List.getD_eq_getElem?_getD, List.getElem?_replicate]
        split <;> rfl))
      have hNo : Keeps NoBlock W w2 := (Keeps.refl NoBlock W).grown hgrow (fun k hk => by simp at hk)
      have HC2 : Hid (CurB w2 k p N c (a + 12 * 0) true 0) := Lib.hid (H1.out.keep hNo (fun h => h))
      have HB2 : Hid (Bytes8 w2 p xs) := Lib.hid (HB1.out.keep hNo (fun _ _ h => h))
      have hgn : W.heap.size ≠ k := by omega
      have hwg : w.heap.size ≤ W.heap.size := HK1.out.size
      obtain ⟨g, hgd⟩ : ∃ g, g = W.heap.size := ⟨_, rfl⟩
      rw [← hgd] at HR hgn hwg ⊢
      have HPg : Hid (0 < xs.length → ∀ q, p = some q → q.block ≠ g) := Lib.hid (fun h0 q hq => by
        obtain ⟨a', ha', hc⟩ := HB.out h0
        obtain rfl := Option.some.inj (ha'.symm.trans hq)
        have := ltOfCell (hc 0 h0)
        rw [addBlock] at this
        omega)
      have HGn := Lib.hid hgn
      have HWg := Lib.hid hwg
      clear hown hgrow hR0 hNo hgn hwg hgd hkW H1 HB1 HK1
      go_wp2_with fail
      go_loopw [20] (fun i wr => ∃ j : Nat, j ≤ n ∧ i = .int .i64 (j : Int) ∧ Hid (CurB wr k p N c (a + 12 * j) true 0) ∧ Hid (RowF wr g n n (soFar l j)) ∧ Hid (Keeps (Just k) w wr) ∧ Hid (Bytes8 wr p xs)) (fun i _ => n - (intOf i).toNat)
      case atStart => exact ⟨0, Nat.zero_le _, rfl, HC2, HR, HK2, HB2⟩
      case round =>
        obtain ⟨j, hj, rfl, HC3, HR3, HK3, HB3⟩ := hrel
        by_cases hlt : j < n
        · have hdj : decide ((j : Int) < (n : Int)) = true := decide_eq_true (by omega)
          have HE3 := HE.out j
          have HF3 := HF.out j
          rw [(HG.out j hlt).1] at HE3
          rw [(HG.out j hlt).2] at HF3
          have HE3 := Lib.hid HE3
          have HF3 := Lib.hid HF3
          obtain ⟨r, hr⟩ : ∃ r, r = l.getD j En.none := ⟨_, rfl⟩
          have HStep : Hid (∀ i, (if i = j then r else soFar l j i) = soFar l (j + 1) i) := Lib.hid (by rw [hr]; exact soFar_step l j)
          rw [← hr] at HE3 HF3
          clear hr
          go_wp2_with fail
          refine (HE3.out _ hlt HC3.out HB3.out).mono ?_
          rintro e w4 ⟨rfl, hcur, hk⟩
          have HC4 := Lib.hid hcur
          have HR4 := Lib.hid (HR3.out.keep hk HGn.out)
          have HK4 := Lib.hid (HK3.out.trans hk)
          have HB4 := Lib.hid (HB3.out.keepPos hk (fun h0 q hq => HP.out h0 q hq))
          clear hcur hk
          go_wp2_with fail
          refine (HF3.out _ hlt HC4.out HB4.out).mono ?_
          rintro e w5 ⟨rfl, hcur, hk⟩
          have HC5 := Lib.hid hcur
          have HR5 := Lib.hid (HR4.out.keep hk HGn.out)
          have HK5 := Lib.hid (HK4.out.trans hk)
          have HB5 := Lib.hid (HB4.out.keepPos hk (fun h0 q hq => HP.out h0 q hq))
          clear hcur hk
          have x0 := (HR5.out.cell hlt).1
          have x1 := (HR5.out.cell hlt).2
          have f0 := HR5.out.free (j * 2)
          have f1 := HR5.out.free (j * 2 + 1)
          have HRn := Lib.hid (HR5.out.put hlt r)
          have HKn := Lib.hid (keepsPut HK5.out (.inr HWg.out) (j * 2) (j * 2 + 1) (.int .u64 (r.hash : Int)) (.int .u32 (r.at_ : Int)))
          have hSet : Keeps (Just g) w5 ((w5.setCell ⟨g, j * 2, none⟩ (.int .u64 (r.hash : Int))).setCell ⟨g, j * 2 + 1, none⟩ (.int .u32 (r.at_ : Int))) := keepsPut (Keeps.refl _ _) (.inl (Just.self g)) _ _ _ _
          have HCn := Lib.hid (Whole.keep HC5.out hSet (fun h => HGn.out h.symm))
          have HSet := Lib.hid hSet
          clear hSet
          go_wp2_with fail
          go_roundw
          case rel =>
            refine ⟨j + 1, by omega, by go_num, Lib.hid ?_, Lib.hid ?_, Lib.hid HKn.out, Lib.hid ?_⟩
            · rw [show a + 12 * (j + 1) = a + 12 * j + 8 + 4 by omega]
              exact HCn.out
            · exact HRn.out.congr (Nat.le_refl _) (fun i _ => HStep.out i)
            · exact HB5.out.keepPos HSet.out (fun h0 q hq => HPg.out h0 q hq)
          case measure => simp [intOf]; omega
        · have hdj : decide ((j : Int) < (n : Int)) = false := decide_eq_false (by omega)
          obtain rfl : j = n := by omega
          have HEn := Lib.hid (HR3.out.ens (l := l) (by rw [HL.out]; exact Nat.le_refl _) (fun i hi => by unfold soFar; rw [if_pos (by have := HL.out; omega)]))
          have HRi := Lib.hid (fun w h => rising_own (some ⟨g, 0, none⟩) j j l HL.out.symm (by omega) w h)
          cases hri : risesE l
          · rw [hri] at HRi
            have HT2 : Hid (t = ⟨12 * j, 8, []⟩) := Lib.hid (by rw [HT.out, if_neg (by rw [hri]; simp)])
            clear hri HT
            go_wp2_with fail
            refine (HRi.out _ HEn.out).mono ?_
            rintro e w6 ⟨rfl, hk⟩
            have HC6 := Lib.hid (HC3.out.keep hk (fun h => h))
            have HK6 := Lib.hid (HK3.out.then hk (fun _ _ h => h.elim))
            clear hk
            go_wp2_with fail
            refine (fail_at k p N c (a + 12 * j) 8 _ HC6.out (by decide)).mono ?_
            rintro e w7 ⟨rfl, hcur, hk⟩
            refine ⟨rfl, ?_⟩
            unfold GetEPost
            rw [HT2.out]
            exact ⟨HK6.out.trans hk, .inr ⟨show (8 : Int) ≠ 0 by decide, rfl, hcur⟩⟩
          · rw [hri] at HRi
            have HT2 : Hid (t = ⟨12 * j, 0, l⟩) := Lib.hid (by rw [HT.out, if_pos hri])
            clear hri HT
            go_wp2_with fail
            refine (HRi.out _ HEn.out).mono ?_
            rintro e w6 ⟨rfl, hk⟩
            have HC6 := Lib.hid (HC3.out.keep hk (fun h => h))
            have HK6 := Lib.hid (HK3.out.then hk (fun _ _ h => h.elim))
            have HE6 := Lib.hid (EnsAt.keep HEn.out hk)
            clear hk
            go_wp2_with fail
            go_ret
            unfold GetEPost
            rw [HT2.out]
            exact ⟨HK6.out, .inl ⟨rfl, ⟨_, rfl, _, _, _, rfl, HL.out.symm, Nat.le_refl _, by omega, fun h => by simp at h, HE6.out, fun _ a ha => by obtain rfl := Option.some.inj ha; exact HWg.out⟩, HC6.out⟩⟩
theorem bytes_ok : BytesOk := ⟨fun base g xs p n c l w h1 h2 h3 h4 h5 h6 => put_own base g xs p n c l w h1 h2 h3 h4 h5 h6, fun k p xs N c a z w h1 h2 h3 h4 h5 h6 h7 h8 h9 => tget_own k p xs N c a z w h1 h2 h3 h4 h5 h6 h7 h8 h9⟩
end Go.Proofs.Ytbchiccgkhnkaaa

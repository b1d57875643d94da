/-
  PkGrWalk.
-/
import Derived.Test.YtibojgoeaoinpaaM13
import Derived.Test.YtibojgoeaoinpaaM16
import Derived.Test.YtibojgoeaoinpaaM21
import Derived.Test.YtibojgoeaoinpaaM25
namespace Go.Proofs.Ytibojgoeaoinpaa
open Go.RowKit

set_option maxHeartbeats 4000000 in
set_option maxRecDepth 10000 in
theorem pkgreedy_big (H : PkPlanOk) (e s : Nat) (p : Option Addr) (n c : Nat) (w : World) (hg : 200 < n) :
    Calls Try.prog 5 #[confV e s, .slice p n c] w fun e w' => e = .returned (.bool true) ∧ Keeps NoBlock w w' := by
  have HLv := Lib.hid (fun w => lives14_true H w)
  have HK0 := Lib.hid ((Keeps.refl NoBlock w).alloc (.cells (confCells e s) 24))
  have hgd : decide ((200 : Int) < (n : Int)) = true := decide_eq_true (by omega)
  have hgd2 : decide (200 < n) = true := decide_eq_true (by omega)
  clear H
  unfold confV
  go_enter Try.func5, Try.ntmps5
  go_wp2_with fail
  refine (HLv.out _).mono ?_
  rintro e9 w1 ⟨rfl, hk⟩
  have HK := Lib.hid (HK0.out.trans hk)
  clear hk
  go_wp2_with fail
  refine (HLv.out _).mono ?_
  rintro e9 w2 ⟨rfl, hk⟩
  have HK := Lib.hid (HK.out.trans hk)
  clear hk
  go_wp2_with fail
  go_ret
  exact ⟨rfl, HK.out⟩

theorem add_plus (a : Addr) (m : Nat) : a.add (m + 1) = ⟨a.block, a.off + (m + 1), none⟩ := by
  unfold Addr.add
  rw [if_neg (by omega)]
theorem add_nought (a : Addr) : a.add 0 = a := by cases a; rfl
theorem plan_errors (e s : Nat) (zs : List Int) : (planP e s zs).1 ≠ 0 → (planP e s zs).2 = [] ∧ ((planP e s zs).1 = 1 → checkC e s = 1) := by
  intro h
  unfold planP at h ⊢
  split at h
  · rename_i hm
    rw [if_pos hm]
    refine ⟨runP_none h, fun h1 => ?_⟩
    exfalso
    have : ∀ (zs : List Int) (st : PSt), st.y ≠ 1 → (zs.foldl (stepP e s) st).y ≠ 1 := by
      intro zs
      induction zs with
      | nil => intro st h; exact h
      | cons z zs ih =>
        intro st h
        rw [List.foldl_cons]
        refine ih _ ?_
        unfold stepP
        repeat' split
        all_goals first | exact h | (simp; done) | decide
    exact this zs _ (show (0 : Int) ≠ 1 by decide) h1
  · rename_i hm
    rw [if_neg hm]
    exact ⟨rfl, fun _ => by unfold checkC; rw [if_neg hm]⟩

set_option maxHeartbeats 4000000 in
set_option maxRecDepth 10000 in
theorem pkgreedy_bad (H : PkPlanOk) (e s : Nat) (p : Option Addr) (n c : Nat) (zs : List Int) (w : World) (he : e < 256) (hs : s < 4294967296) (hz : InZ w p n c zs) (hg : n ≤ 200) (hy : (planP e s zs).1 ≠ 0) :
    Calls Try.prog 5 #[confV e s, .slice p n c] w fun e w' => e = .returned (.bool true) ∧ Keeps NoBlock w w' := by
  have HLv := Lib.hid (fun w => lives14_true H w)
  have HC0 := Lib.hid (Whole.new w 24 (confCells e s))
  have HK0 := Lib.hid ((Keeps.refl NoBlock w).alloc (.cells (confCells e s) 24))
  have hgd : decide ((200 : Int) < (n : Int)) = false := decide_eq_false (by omega)
  have hgd2 : decide (200 < n) = false := decide_eq_false (by omega)
  have HPl := Lib.hid (fun w h => H.plan e s p n c zs w he hs h (by omega))
  have HIn := Lib.hid (fun w2 (hk : Keeps NoBlock w w2) => hz.keep hk)
  have HCk := Lib.hid (fun w => check_conf e s w)
  obtain ⟨g1, g2⟩ := plan_errors e s zs hy
  rw [g1] at HPl
  obtain ⟨Y, hY⟩ : ∃ Y, Y = (planP e s zs).1 := ⟨_, rfl⟩
  rw [← hY] at HPl g2 hy
  have hyn : (Y != 0) = true := by rw [bne_iff_ne]; exact hy
  obtain ⟨K, hK⟩ : ∃ K, K = checkC e s := ⟨_, rfl⟩
  rw [← hK] at HCk g2
  have HG2 := Lib.hid g2
  clear H hz he hs hY hK g1 g2 hy
  unfold confV at HPl HCk ⊢
  by_cases h1 : Y = 1
  · have hk1 := HG2.out h1
    subst h1
    subst hk1
    go_enter Try.func5, Try.ntmps5
    go_wp2_with fail
    refine (HLv.out _).mono ?_
    rintro e9 w1 ⟨rfl, hk⟩
    have HK := Lib.hid (HK0.out.trans hk)
    have HC := Lib.hid (HC0.out.keep hk (fun h => h))
    obtain ⟨c0, c1⟩ := conf_at HC.out
    clear hk
    go_wp2_with fail
    refine (HPl.out _ (HIn.out _ HK.out)).mono ?_
    rintro e9 w2 ⟨v, rfl, q, m, d, rfl, hm, _, _, _, _, hk⟩
    obtain rfl : m = 0 := hm
    have HK := Lib.hid (HK.out.trans hk)
    have HC := Lib.hid (HC.out.keep hk (fun h => h))
    clear c0 c1 hk
    obtain ⟨c0, c1⟩ := conf_at HC.out
    go_wp2_with fail
    refine (HCk.out _).mono ?_
    rintro e9 w3 ⟨rfl, hk⟩
    have HK := Lib.hid (HK.out.trans hk)
    clear hk
    go_wp2_with fail
    go_ret
    exact ⟨rfl, HK.out⟩
  · have hn1 : (Y != 1) = true := by rw [bne_iff_ne]; exact h1
    clear h1
    go_enter Try.func5, Try.ntmps5
    go_wp2_with fail
    refine (HLv.out _).mono ?_
    rintro e9 w1 ⟨rfl, hk⟩
    have HK := Lib.hid (HK0.out.trans hk)
    have HC := Lib.hid (HC0.out.keep hk (fun h => h))
    obtain ⟨c0, c1⟩ := conf_at HC.out
    clear hk
    go_wp2_with fail
    refine (HPl.out _ (HIn.out _ HK.out)).mono ?_
    rintro e9 w2 ⟨v, rfl, q, m, d, rfl, hm, _, _, _, _, hk⟩
    obtain rfl : m = 0 := hm
    have HK := Lib.hid (HK.out.trans hk)
    clear c0 c1 hk
    go_wp2_with fail
    go_ret
    exact ⟨rfl, HK.out⟩

set_option maxHeartbeats 6000000 in
set_option maxRecDepth 10000 in
theorem pkgreedy_good (H : PkPlanOk) (HL : PkLargeOk) (HM : FtMostOk) (e s : Nat) (p : Option Addr) (n c : Nat) (zs : List Int) (w : World) (he : e < 256) (hs : s < 4294967296) (hz : InZ w p n c zs) (hg : n ≤ 200) (hy : (planP e s zs).1 = 0) :
    Calls Try.prog 5 #[confV e s, .slice p n c] w fun e w' => e = .returned (.bool true) ∧ Keeps NoBlock w w' := by
  have hm : mayC e s = true := by
    by_cases hm : mayC e s = true
    · exact hm
    · unfold planP at hy
      rw [if_neg hm] at hy
      exact absurd hy (by decide)
  obtain ⟨m1, m2, m3, m4⟩ := mayC_true.1 hm
  have hpl : planP e s zs = (0, (runP e s zs).out) := by
    unfold planP at hy ⊢
    rw [if_pos hm] at hy ⊢
    simp only at hy
    rw [hy]
  have hyr : (runP e s zs).y = 0 := by
    unfold planP at hy
    rw [if_pos hm] at hy
    exact hy
  have HLv := Lib.hid (fun w => lives14_true H w)
  have HC0 := Lib.hid (Whole.new w 24 (confCells e s))
  have HK0 := Lib.hid ((Keeps.refl NoBlock w).alloc (.cells (confCells e s) 24))
  have hgd : decide ((200 : Int) < (n : Int)) = false := decide_eq_false (by omega)
  have hgd2 : decide (200 < n) = false := decide_eq_false (by omega)
  have HPl := Lib.hid (fun w h => H.plan e s p n c zs w he hs h (by omega))
  rw [hpl] at HPl
  have HIn := Lib.hid (fun w2 (hk : Keeps NoBlock w w2) => hz.keep hk)
  have HGr := Lib.hid (fun j (hj : j < zs.length) => greedy_step hm (by have := hz.len; omega) hyr hj)
  have hol := runP_out zs hyr
  have hsz : sizeC e s = 2 ^ e := by unfold sizeC; rw [if_pos hm]
  have HSz := Lib.hid (fun w => size_conf e s w)
  rw [hsz] at HSz
  have HLa := Lib.hid (fun z w (h1 : -9223372036854775808 ≤ z) (h2 : z ≤ 9223372036854775807) (hf : fitsP (emptyP e s (s - 1)) z = true) => (by
    have h := HL.large e s z w he hs h1 h2
    have : largeP e s z = false := by unfold largeP; rw [hm, hf]; rfl
    rw [this] at h
    exact h : Calls Try.prog 20 #[confV e s, .int .i64 z] w fun r w' => r = .returned (.bool false) ∧ Keeps NoBlock w w'))
  have HMo := Lib.hid (fun (k : Nat) w (hk : k ≤ 1000) => HM.most (k : Int) w (by omega) (by omega))
  simp only [Int.toNat_natCast] at HMo
  have HHd := Lib.hid (fun k w (hk : k < 65536) => head9_ref e s k he hs (by omega) w)
  have HSr := Lib.hid (fun k => str_size (sealN (headB e s k)))
  have HLn := Lib.hid hz.len
  have HFi := Lib.hid hz.fine
  have HAt := Lib.hid hz.at_
  have hr0 : (runP e s (zs.take 0)).r = emptyP e s 0 := rfl
  have HR0 := Lib.hid (And.intro (show (runP e s (zs.take 0)).r.used = headLen e s 0 by rw [hr0]; rfl) (show (runP e s (zs.take 0)).r.count = 0 by rw [hr0]; rfl))
  have htwo := two_e m2
  have HPow := Lib.hid (fun r (h : Rm.e r = e) => (show 2 ^ r.e = 2 ^ e by rw [h]))
  obtain ⟨O, hO⟩ : ∃ O, O = (runP e s zs).out := ⟨_, rfl⟩
  rw [← hO] at HPl hol
  have HO := Lib.hid hO
  obtain ⟨PW, hPW⟩ : ∃ PW, PW = 2 ^ e := ⟨_, rfl⟩
  rw [← hPW] at HSz htwo
  simp only [← hPW] at HPow
  have HPW := Lib.hid hPW
  have hoN : n = O.length := by rw [hol]; exact hz.len
  have HON := Lib.hid hoN
  have z0 := HSr.out 0
  have hh0 : headLen e s 0 = (sealN (headB e s 0)).length := rfl
  rw [← hh0] at z0
  obtain ⟨H0, hH0⟩ : ∃ H0, H0 = headLen e s 0 := ⟨_, rfl⟩
  rw [← hH0] at z0 HR0
  have HHz := Lib.hid (fun w => HHd.out 0 w (by decide))
  obtain ⟨T0, hT0⟩ : ∃ T, T = sealN (headB e s 0) := ⟨_, rfl⟩
  rw [← hT0] at HHz z0
  have hs0 : e < 256 ∧ s < 4294967296 := ⟨he, hs⟩
  clear H HL HM hm hpl hyr hz hy hol hsz hr0 hO hPW hoN hh0 hH0 hT0 he hs
  unfold confV at HPl HSz HLa HHd HHz ⊢
  go_enter Try.func5, Try.ntmps5
  go_wp2_with fail
  refine (HLv.out _).mono ?_
  rintro e9 w1 ⟨rfl, hk⟩
  have HK := Lib.hid (HK0.out.trans hk)
  have HC := Lib.hid (HC0.out.keep hk (fun h => h))
  obtain ⟨c0, c1⟩ := conf_at HC.out
  clear hk HK0 HC0 HLv
  go_wp2_with fail
  refine (HPl.out _ (HIn.out _ HK.out)).mono ?_
  rintro e9 w2 ⟨v, rfl, q, m, d, rfl, hmO, _, _, _, hat, hk⟩
  have hmn : m = n := by rw [hmO, ← HON.out]
  subst hmn
  have HK := Lib.hid (HK.out.trans hk)
  have HC := Lib.hid (HC.out.keep hk (fun h => h))
  have HA := Lib.hid hat
  clear c0 c1 hk hmO hat HPl
  obtain ⟨c0, c1⟩ := conf_at HC.out
  go_wp2_with fail
  refine (HHz.out _).mono ?_
  rintro e9 w3 ⟨rfl, hk⟩
  have HK := Lib.hid (HK.out.trans hk)
  have HC := Lib.hid (HC.out.keep hk (fun h => h))
  have HA := Lib.hid (Row32.keep HA.out hk (fun _ _ h => h))
  clear c0 c1 hk HHz
  go_wp2_with fail
  go_loopw [7, 8, 45] (fun u k i wr => ∃ j : Nat, j ≤ m ∧ i = .int .i64 (j : Int) ∧ u = .int .i64 (((runP e s (zs.take j)).r.used : Nat) : Int) ∧ k = .int .i64 (((runP e s (zs.take j)).r.count : Nat) : Int) ∧ Hid (Keeps NoBlock w3 wr)) (fun _ _ i _ => m - (intOf i).toNat)
  case atStart => exact ⟨0, Nat.zero_le _, rfl, by rw [HR0.out.1], by rw [HR0.out.2]; rfl, Lib.hid (Keeps.refl _ _)⟩
  case round =>
    obtain ⟨j, hj, rfl, rfl, rfl, HKr⟩ := hrel
    by_cases hlt : j < m
    rotate_left
    · have hdj : decide ((j : Int) < (m : Int)) = false := decide_eq_false (by omega)
      have hdj2 : decide (j < m) = false := decide_eq_false hlt
      go_wp2_with fail
      go_ret
      exact ⟨rfl, HK.out.trans HKr.out⟩
    have hdj : decide ((j : Int) < (m : Int)) = true := decide_eq_true (by omega)
    have hdj2 : decide (j < m) = true := decide_eq_true hlt
    have hjl : j < zs.length := by rw [← HLn.out]; exact hlt
    have hjo : j < O.length := by rw [← HON.out]; exact hlt
    obtain ⟨gmost, gout, greal, ge, gs, gfew, gfirst, gwas, gway⟩ := HGr.out j hjl
    rw [← HO.out] at gout
    have gwas2 : ∀ k, j = k + 1 → O.getD k 0 = (runP e s (zs.take j)).r.num := fun k hk => by rw [HO.out]; exact gwas k hk
    clear gwas
    obtain ⟨az, raz, z0c⟩ := ((HAt.out.keep (HK.out.trans HKr.out) (fun _ _ h => h)) j hjl)
    subst raz
    obtain ⟨al, ral, l0⟩ := Row32.keep HA.out HKr.out (fun _ _ h => h) j hjo
    subst ral
    obtain ⟨z, hz⟩ : ∃ z, z = zs.getD j 0 := ⟨_, rfl⟩
    rw [← hz] at gmost gway z0c
    unfold intV at z0c
    obtain ⟨r, hr⟩ : ∃ r, r = (runP e s (zs.take j)).r := ⟨_, rfl⟩
    obtain ⟨r2, hr2⟩ : ∃ r, r = (runP e s (zs.take (j + 1))).r := ⟨_, rfl⟩
    rw [← hr] at greal ge gs gfew gfirst gwas2 gway
    rw [← hr2] at gout gway
    rw [← hr]
    have HR2 := Lib.hid hr2
    have hsm := greal.small
    have hpw := HPow.out r ge
    obtain ⟨f1, f2⟩ := fitsP_true.1 gmost
    have hz9 : z ≤ 16777216 := by
      have : 2 ^ (emptyP e s (s - 1)).e = PW := HPow.out _ rfl
      rw [this] at f2
      omega
    obtain ⟨zn, rfl⟩ : ∃ zn : Nat, z = (zn : Int) := ⟨z.toNat, by omega⟩
    have HLz := Lib.hid (fun w => HLa.out (zn : Int) w (by omega) (by omega) gmost)
    obtain ⟨x0, x1⟩ := conf_at (HC.out.keep HKr.out (fun h => h))
    have HCr := Lib.hid (HC.out.keep HKr.out (fun h => h))
    have HKj := Lib.hid HKr.out
    have HJ := Lib.hid (And.intro hj hlt)
    have gmost2 := gmost
    clear hz hr hr2 hjl f2 gmost
    rcases gway with hB | hB
    · by_cases hj0 : j = 0
      · subst hj0
        have hU9 := hsm.2.1
        have hC9 : r.count ≤ 200 := by omega
        have hN9 : r.num < 65536 := by omega
        obtain ⟨hfit, hr2⟩ := hB
        have hnum : r2.num = r.num := by rw [hr2]; rfl
        have hused : r2.used = r.used + zn := by rw [hr2]; show r.used + (zn : Int).toNat = _; rw [Int.toNat_natCast]
        have hcount : r2.count = r.count + 1 := by rw [hr2]; rfl
        have hroom : r.used + zn + mostFt (r.count + 1) ≤ PW := by have := (fitsP_true.1 hfit).2; rw [hpw] at this; omega
        have HMc := Lib.hid (fun w => HMo.out (r.count + 1) w (by omega))
        rw [show ((r.count + 1 : Nat) : Int) = (r.count : Int) + 1 by omega] at HMc
        obtain ⟨MO, hMO⟩ : ∃ MO, MO = mostFt (r.count + 1) := ⟨_, rfl⟩
        rw [← hMO] at HMc hroom
        rw [gout, hnum] at l0
        have HU2 := Lib.hid (And.intro hused hcount)
        have hn0 := (gfirst rfl).1
        rw [add_nought] at l0 z0c
        have HZr := Lib.hid z0c
        have q1 : ((r.num : Int) != (r.num : Int)) = false := by simp
        have q2 : decide ((s : Int) ≤ (r.num : Int)) = false := decide_eq_false (by omega)
        have q3 : decide (s ≤ r.num) = false := decide_eq_false (by omega)
        rw [hn0] at l0 q1 q2 q3
        have q5 : decide ((s : Int) ≤ 0) = false := decide_eq_false (by omega)
        have q6 : decide (s = 0) = false := decide_eq_false (by omega)
        have q7 : ¬ s = 0 := by omega
        have q8 : decide ((s : Int) = 0) = false := decide_eq_false (by omega)
        clear hfit hr2 hnum hused hcount hMO gout gwas2 gfirst greal ge gs gfew hpw gmost2 hjo
        go_upto_region 13 with (fail)
        have HCr := Lib.hid (Whole.drewN HCr.out 1)
        have HZr := Lib.hid (show wr.drew.cell? _ = _ from HZr.out)
        have HKr := Lib.hid HKr.out.drew
        have hS := And.intro (conf_at HCr.out) HZr.out
        go_wp2_with fail
        refine wp_region_held_drew (S := fun w' => (w'.cell? ⟨w.heap.size, 0, none⟩ = some (.int .u8 (e : Int)) ∧ w'.cell? ⟨w.heap.size, 1, none⟩ = some (.int .u32 (s : Int))) ∧ w'.cell? (az) = some (.int .i64 (zn : Int))) (by kernel_rfl) hS (fun hHeld => ?_)
        refine wpAnyH_take (i := 0) (v := ?vT1) rfl ?aT1 ?bT1 ?cT1 ?dT1 (Or.inl ⟨?eT1, ?fT1⟩) hHeld ?gT1
        case fT1 => intro w hSw; (try dsimp only at hSw); go_simp; (try with_reducible rfl)
        case aT1 => kernel_rfl
        case bT1 => kernel_rfl
        case cT1 => kernel_rfl
        case dT1 => exact fun _ _ _ h => h
        case eT1 => rfl
        simp only [Act.put, List.getElem_toArray, List.getElem_cons_zero, List.setIfInBounds_toArray, List.set_cons_zero, List.set_cons_succ]
        refine wpAnyH_take (i := 1) (v := ?vT2) rfl ?aT2 ?bT2 ?cT2 ?dT2 (Or.inl ⟨?eT2, ?fT2⟩) hHeld ?gT2
        case fT2 => intro w hSw; (try dsimp only at hSw); go_simp; (try with_reducible rfl)
        case aT2 => kernel_rfl
        case bT2 => kernel_rfl
        case cT2 => kernel_rfl
        case dT2 => exact fun _ _ _ h => h
        case eT2 => rfl
        simp only [Act.put, List.getElem_toArray, List.getElem_cons_zero, List.getElem_cons_succ, List.setIfInBounds_toArray, List.set_cons_zero, List.set_cons_succ]
        refine wpAnyH_take (i := 2) (v := ?vT3) rfl ?aT3 ?bT3 ?cT3 ?dT3 (Or.inl ⟨?eT3, ?fT3⟩) hHeld ?gT3
        case fT3 => intro w hSw; (try dsimp only at hSw); go_simp; (try with_reducible rfl)
        case aT3 => kernel_rfl
        case bT3 => kernel_rfl
        case cT3 => kernel_rfl
        case dT3 => exact fun _ _ _ h => h
        case eT3 => rfl
        simp only [Act.put, List.getElem_toArray, List.getElem_cons_zero, List.getElem_cons_succ, List.setIfInBounds_toArray, List.set_cons_zero, List.set_cons_succ]
        refine wpAnyH_take (i := 3) (v := ?vT4) rfl ?aT4 ?bT4 ?cT4 ?dT4 (Or.inl ⟨?eT4, ?fT4⟩) hHeld ?gT4
        case fT4 => intro w hSw; (try dsimp only at hSw); go_simp; (try with_reducible rfl)
        case aT4 => kernel_rfl
        case bT4 => kernel_rfl
        case cT4 => kernel_rfl
        case dT4 => exact fun _ _ _ h => h
        case eT4 => rfl
        simp only [Act.put, List.getElem_toArray, List.getElem_cons_zero, List.getElem_cons_succ, List.setIfInBounds_toArray, List.set_cons_zero, List.set_cons_succ]
        refine wpAnyH_take (i := 4) (v := undef) rfl ?aT5 ?bT5 ?cT5 ?dT5 (Or.inr ?eT5) hHeld ?gT5
        case eT5 => exact ⟨rfl, rfl⟩
        case aT5 => kernel_rfl
        case bT5 => kernel_rfl
        case cT5 => kernel_rfl
        case dT5 => exact fun _ _ _ h => h
        simp only [Act.put, List.getElem_toArray, List.getElem_cons_zero, List.getElem_cons_succ, List.setIfInBounds_toArray, List.set_cons_zero, List.set_cons_succ]
        refine wpAnyH_take (i := 5) (v := undef) rfl ?aT6 ?bT6 ?cT6 ?dT6 (Or.inr ?eT6) hHeld ?gT6
        case eT6 => exact ⟨rfl, rfl⟩
        case aT6 => kernel_rfl
        case bT6 => kernel_rfl
        case cT6 => kernel_rfl
        case dT6 => exact fun _ _ _ h => h
        simp only [Act.put, List.getElem_toArray, List.getElem_cons_zero, List.getElem_cons_succ, List.setIfInBounds_toArray, List.set_cons_zero, List.set_cons_succ]
        refine wpAnyH_take (i := 6) (v := undef) rfl ?aT7 ?bT7 ?cT7 ?dT7 (Or.inr ?eT7) hHeld ?gT7
        case eT7 => exact ⟨rfl, rfl⟩
        case aT7 => kernel_rfl
        case bT7 => kernel_rfl
        case cT7 => kernel_rfl
        case dT7 => exact fun _ _ _ h => h
        simp only [Act.put, List.getElem_toArray, List.getElem_cons_zero, List.getElem_cons_succ, List.setIfInBounds_toArray, List.set_cons_zero, List.set_cons_succ]
        refine wpAnyH_take (i := 7) (v := undef) rfl ?aT8 ?bT8 ?cT8 ?dT8 (Or.inr ?eT8) hHeld ?gT8
        case eT8 => exact ⟨rfl, rfl⟩
        case aT8 => kernel_rfl
        case bT8 => kernel_rfl
        case cT8 => kernel_rfl
        case dT8 => exact fun _ _ _ h => h
        simp only [Act.put, List.getElem_toArray, List.getElem_cons_zero, List.getElem_cons_succ, List.setIfInBounds_toArray, List.set_cons_zero, List.set_cons_succ]
        refine wpAnyH_take (i := 8) (v := ?vT9) rfl ?aT9 ?bT9 ?cT9 ?dT9 (Or.inl ⟨?eT9, ?fT9⟩) hHeld ?gT9
        case fT9 => intro w hSw; (try dsimp only at hSw); go_simp; (try with_reducible rfl)
        case aT9 => kernel_rfl
        case bT9 => kernel_rfl
        case cT9 => kernel_rfl
        case dT9 => exact fun _ _ _ h => h
        case eT9 => rfl
        simp only [Act.put, List.getElem_toArray, List.getElem_cons_zero, List.getElem_cons_succ, List.setIfInBounds_toArray, List.set_cons_zero, List.set_cons_succ]
        refine wpAnyH_take (i := 9) (v := ?vT10) rfl ?aT10 ?bT10 ?cT10 ?dT10 (Or.inl ⟨?eT10, ?fT10⟩) hHeld ?gT10
        case fT10 => intro w hSw; (try dsimp only at hSw); go_simp; (try with_reducible rfl)
        case aT10 => kernel_rfl
        case bT10 => kernel_rfl
        case cT10 => kernel_rfl
        case dT10 => exact fun _ _ _ h => h
        case eT10 => rfl
        simp only [Act.put, List.getElem_toArray, List.getElem_cons_zero, List.getElem_cons_succ, List.setIfInBounds_toArray, List.set_cons_zero, List.set_cons_succ]
        refine wpAnyH_take (i := 10) (v := ?vT11) rfl ?aT11 ?bT11 ?cT11 ?dT11 (Or.inl ⟨?eT11, ?fT11⟩) hHeld ?gT11
        case fT11 => intro w hSw; (try dsimp only at hSw); go_simp; (try with_reducible rfl)
        case aT11 => kernel_rfl
        case bT11 => kernel_rfl
        case cT11 => kernel_rfl
        case dT11 => exact fun _ _ _ h => h
        case eT11 => rfl
        simp only [Act.put, List.getElem_toArray, List.getElem_cons_zero, List.getElem_cons_succ, List.setIfInBounds_toArray, List.set_cons_zero, List.set_cons_succ]
        refine wpAnyH_take (i := 11) (v := ?vT12) rfl ?aT12 ?bT12 ?cT12 ?dT12 (Or.inl ⟨?eT12, ?fT12⟩) hHeld ?gT12
        case fT12 => intro w hSw; (try dsimp only at hSw); go_simp; (try with_reducible rfl)
        case aT12 => kernel_rfl
        case bT12 => kernel_rfl
        case cT12 => kernel_rfl
        case dT12 => exact fun _ _ _ h => h
        case eT12 => rfl
        simp only [Act.put, List.getElem_toArray, List.getElem_cons_zero, List.getElem_cons_succ, List.setIfInBounds_toArray, List.set_cons_zero, List.set_cons_succ]
        refine wpAnyH_take (i := 12) (v := ?vT13) rfl ?aT13 ?bT13 ?cT13 ?dT13 (Or.inl ⟨?eT13, ?fT13⟩) hHeld ?gT13
        case fT13 => intro w hSw; (try dsimp only at hSw); go_simp; (try with_reducible rfl)
        case aT13 => kernel_rfl
        case bT13 => kernel_rfl
        case cT13 => kernel_rfl
        case dT13 => exact fun _ _ _ h => h
        case eT13 => rfl
        simp only [Act.put, List.getElem_toArray, List.getElem_cons_zero, List.getElem_cons_succ, List.setIfInBounds_toArray, List.set_cons_zero, List.set_cons_succ]
        refine wpAnyH_take (i := 13) (v := ?vT14) rfl ?aT14 ?bT14 ?cT14 ?dT14 (Or.inl ⟨?eT14, ?fT14⟩) hHeld ?gT14
        case fT14 => intro w hSw; (try dsimp only at hSw); go_simp; (try with_reducible rfl)
        case aT14 => kernel_rfl
        case bT14 => kernel_rfl
        case cT14 => kernel_rfl
        case dT14 => exact fun _ _ _ h => h
        case eT14 => rfl
        simp only [Act.put, List.getElem_toArray, List.getElem_cons_zero, List.getElem_cons_succ, List.setIfInBounds_toArray, List.set_cons_zero, List.set_cons_succ]
        refine wpAnyH_take (i := 14) (v := ?vT15) rfl ?aT15 ?bT15 ?cT15 ?dT15 (Or.inl ⟨?eT15, ?fT15⟩) hHeld ?gT15
        case fT15 => intro w hSw; (try dsimp only at hSw); go_simp; (try with_reducible rfl)
        case aT15 => kernel_rfl
        case bT15 => kernel_rfl
        case cT15 => kernel_rfl
        case dT15 => exact fun _ _ _ h => h
        case eT15 => rfl
        simp only [Act.put, List.getElem_toArray, List.getElem_cons_zero, List.getElem_cons_succ, List.setIfInBounds_toArray, List.set_cons_zero, List.set_cons_succ]
        refine wpAnyH_take (i := 15) (v := ?vT16) rfl ?aT16 ?bT16 ?cT16 ?dT16 (Or.inl ⟨?eT16, ?fT16⟩) hHeld ?gT16
        case fT16 => intro w hSw; (try dsimp only at hSw); go_simp; (try with_reducible rfl)
        case aT16 => kernel_rfl
        case bT16 => kernel_rfl
        case cT16 => kernel_rfl
        case dT16 => exact fun _ _ _ h => h
        case eT16 => rfl
        simp only [Act.put, List.getElem_toArray, List.getElem_cons_zero, List.getElem_cons_succ, List.setIfInBounds_toArray, List.set_cons_zero, List.set_cons_succ]
        refine wpAnyH_take (i := 16) (v := ?vT17) rfl ?aT17 ?bT17 ?cT17 ?dT17 (Or.inl ⟨?eT17, ?fT17⟩) hHeld ?gT17
        case fT17 => intro w hSw; (try dsimp only at hSw); go_simp; (try with_reducible rfl)
        case aT17 => kernel_rfl
        case bT17 => kernel_rfl
        case cT17 => kernel_rfl
        case dT17 => exact fun _ _ _ h => h
        case eT17 => rfl
        simp only [Act.put, List.getElem_toArray, List.getElem_cons_zero, List.getElem_cons_succ, List.setIfInBounds_toArray, List.set_cons_zero, List.set_cons_succ]
        refine wpAnyH_take (i := 17) (v := ?vT18) rfl ?aT18 ?bT18 ?cT18 ?dT18 (Or.inl ⟨?eT18, ?fT18⟩) hHeld ?gT18
        case fT18 => intro w hSw; (try dsimp only at hSw); go_simp; (try with_reducible rfl)
        case aT18 => kernel_rfl
        case bT18 => kernel_rfl
        case cT18 => kernel_rfl
        case dT18 => exact fun _ _ _ h => h
        case eT18 => rfl
        simp only [Act.put, List.getElem_toArray, List.getElem_cons_zero, List.getElem_cons_succ, List.setIfInBounds_toArray, List.set_cons_zero, List.set_cons_succ]
        refine wpAnyH_take (i := 18) (v := ?vT19) rfl ?aT19 ?bT19 ?cT19 ?dT19 (Or.inl ⟨?eT19, ?fT19⟩) hHeld ?gT19
        case fT19 => intro w hSw; (try dsimp only at hSw); go_simp; (try with_reducible rfl)
        case aT19 => kernel_rfl
        case bT19 => kernel_rfl
        case cT19 => kernel_rfl
        case dT19 => exact fun _ _ _ h => h
        case eT19 => rfl
        simp only [Act.put, List.getElem_toArray, List.getElem_cons_zero, List.getElem_cons_succ, List.setIfInBounds_toArray, List.set_cons_zero, List.set_cons_succ]
        refine wpAnyH_take (i := 19) (v := ?vT20) rfl ?aT20 ?bT20 ?cT20 ?dT20 (Or.inl ⟨?eT20, ?fT20⟩) hHeld ?gT20
        case fT20 => intro w hSw; (try dsimp only at hSw); go_simp; (try with_reducible rfl)
        case aT20 => kernel_rfl
        case bT20 => kernel_rfl
        case cT20 => kernel_rfl
        case dT20 => exact fun _ _ _ h => h
        case eT20 => rfl
        simp only [Act.put, List.getElem_toArray, List.getElem_cons_zero, List.getElem_cons_succ, List.setIfInBounds_toArray, List.set_cons_zero, List.set_cons_succ]
        refine wpAnyH_take (i := 20) (v := ?vT21) rfl ?aT21 ?bT21 ?cT21 ?dT21 (Or.inl ⟨?eT21, ?fT21⟩) hHeld ?gT21
        case fT21 => intro w hSw; (try dsimp only at hSw); go_simp; (try with_reducible rfl)
        case aT21 => kernel_rfl
        case bT21 => kernel_rfl
        case cT21 => kernel_rfl
        case dT21 => exact fun _ _ _ h => h
        case eT21 => rfl
        simp only [Act.put, List.getElem_toArray, List.getElem_cons_zero, List.getElem_cons_succ, List.setIfInBounds_toArray, List.set_cons_zero, List.set_cons_succ]
        refine wpAnyH_take (i := 21) (v := ?vT22) rfl ?aT22 ?bT22 ?cT22 ?dT22 (Or.inl ⟨?eT22, ?fT22⟩) hHeld ?gT22
        case fT22 => intro w hSw; (try dsimp only at hSw); go_simp; (try with_reducible rfl)
        case aT22 => kernel_rfl
        case bT22 => kernel_rfl
        case cT22 => kernel_rfl
        case dT22 => exact fun _ _ _ h => h
        case eT22 => rfl
        simp only [Act.put, List.getElem_toArray, List.getElem_cons_zero, List.getElem_cons_succ, List.setIfInBounds_toArray, List.set_cons_zero, List.set_cons_succ]
        refine wpAnyH_take (i := 22) (v := ?vT23) rfl ?aT23 ?bT23 ?cT23 ?dT23 (Or.inl ⟨?eT23, ?fT23⟩) hHeld ?gT23
        case fT23 => intro w hSw; (try dsimp only at hSw); go_simp; (try with_reducible rfl)
        case aT23 => kernel_rfl
        case bT23 => kernel_rfl
        case cT23 => kernel_rfl
        case dT23 => exact fun _ _ _ h => h
        case eT23 => rfl
        simp only [Act.put, List.getElem_toArray, List.getElem_cons_zero, List.getElem_cons_succ, List.setIfInBounds_toArray, List.set_cons_zero, List.set_cons_succ]
        refine wpAnyH_take (i := 23) (v := ?vT24) rfl ?aT24 ?bT24 ?cT24 ?dT24 (Or.inl ⟨?eT24, ?fT24⟩) hHeld ?gT24
        case fT24 => intro w hSw; (try dsimp only at hSw); go_simp; (try with_reducible rfl)
        case aT24 => kernel_rfl
        case bT24 => kernel_rfl
        case cT24 => kernel_rfl
        case dT24 => exact fun _ _ _ h => h
        case eT24 => rfl
        simp only [Act.put, List.getElem_toArray, List.getElem_cons_zero, List.getElem_cons_succ, List.setIfInBounds_toArray, List.set_cons_zero, List.set_cons_succ]
        refine wpAnyH_take (i := 24) (v := ?vT25) rfl ?aT25 ?bT25 ?cT25 ?dT25 (Or.inl ⟨?eT25, ?fT25⟩) hHeld ?gT25
        case fT25 => intro w hSw; (try dsimp only at hSw); go_simp; (try with_reducible rfl)
        case aT25 => kernel_rfl
        case bT25 => kernel_rfl
        case cT25 => kernel_rfl
        case dT25 => exact fun _ _ _ h => h
        case eT25 => rfl
        simp only [Act.put, List.getElem_toArray, List.getElem_cons_zero, List.getElem_cons_succ, List.setIfInBounds_toArray, List.set_cons_zero, List.set_cons_succ]
        refine wpAnyH_take (i := 25) (v := ?vT26) rfl ?aT26 ?bT26 ?cT26 ?dT26 (Or.inl ⟨?eT26, ?fT26⟩) hHeld ?gT26
        case fT26 => intro w hSw; (try dsimp only at hSw); go_simp; (try with_reducible rfl)
        case aT26 => kernel_rfl
        case bT26 => kernel_rfl
        case cT26 => kernel_rfl
        case dT26 => exact fun _ _ _ h => h
        case eT26 => rfl
        simp only [Act.put, List.getElem_toArray, List.getElem_cons_zero, List.getElem_cons_succ, List.setIfInBounds_toArray, List.set_cons_zero, List.set_cons_succ]
        refine wpAnyH_take (i := 26) (v := ?vT27) rfl ?aT27 ?bT27 ?cT27 ?dT27 (Or.inl ⟨?eT27, ?fT27⟩) hHeld ?gT27
        case fT27 => intro w hSw; (try dsimp only at hSw); go_simp; (try with_reducible rfl)
        case aT27 => kernel_rfl
        case bT27 => kernel_rfl
        case cT27 => kernel_rfl
        case dT27 => exact fun _ _ _ h => h
        case eT27 => rfl
        simp only [Act.put, List.getElem_toArray, List.getElem_cons_zero, List.getElem_cons_succ, List.setIfInBounds_toArray, List.set_cons_zero, List.set_cons_succ]
        refine wpAnyH_take (i := 27) (v := ?vT28) rfl ?aT28 ?bT28 ?cT28 ?dT28 (Or.inl ⟨?eT28, ?fT28⟩) hHeld ?gT28
        case fT28 => intro w hSw; (try dsimp only at hSw); go_simp; (try with_reducible rfl)
        case aT28 => kernel_rfl
        case bT28 => kernel_rfl
        case cT28 => kernel_rfl
        case dT28 => exact fun _ _ _ h => h
        case eT28 => rfl
        simp only [Act.put, List.getElem_toArray, List.getElem_cons_zero, List.getElem_cons_succ, List.setIfInBounds_toArray, List.set_cons_zero, List.set_cons_succ]
        refine wpAnyH_take (i := 28) (v := ?vT29) rfl ?aT29 ?bT29 ?cT29 ?dT29 (Or.inl ⟨?eT29, ?fT29⟩) hHeld ?gT29
        case fT29 => intro w hSw; (try dsimp only at hSw); go_simp; (try with_reducible rfl)
        case aT29 => kernel_rfl
        case bT29 => kernel_rfl
        case cT29 => kernel_rfl
        case dT29 => exact fun _ _ _ h => h
        case eT29 => rfl
        simp only [Act.put, List.getElem_toArray, List.getElem_cons_zero, List.getElem_cons_succ, List.setIfInBounds_toArray, List.set_cons_zero, List.set_cons_succ]
        refine wpAnyH_ready (rs := [29]) (by kernel_rfl) (by simp) ?_
        refine (AllReadyH.cons (o := _) rfl (fun K hK => ?_) AllReadyH.nil)
        go_simp
        refine (HLz.out _).mono ?_
        rintro e9 w5 ⟨rfl, hk⟩
        have hk' : Keeps NoBlock wr.drew w5 := by first | exact hk | exact hk.ofDrew | exact hk.ofDrewN
        have HKr := Lib.hid (HKr.out.trans hk')
        have HCr := Lib.hid (HCr.out.keep hk' (fun h => h))
        have HZr := Lib.hid (hk'.cell HZr.out (fun h => h))
        have hS5 := And.intro (conf_at HCr.out) HZr.out
        clear hk hk'
        go_wp2_with fail
        refine hK.out _ _ hS5 (fun _ => ?_)
        clear hK K
        refine wpAnyH_take (i := 30) (v := ?vT30) rfl ?aT30 ?bT30 ?cT30 ?dT30 (Or.inl ⟨?eT30, ?fT30⟩) hS5 ?gT30
        case fT30 => intro w hSw; (try dsimp only at hSw); go_simp; (try with_reducible rfl)
        case aT30 => kernel_rfl
        case bT30 => kernel_rfl
        case cT30 => kernel_rfl
        case dT30 => exact fun _ _ _ h => h
        case eT30 => rfl
        simp only [Act.put, List.getElem_toArray, List.getElem_cons_zero, List.getElem_cons_succ, List.setIfInBounds_toArray, List.set_cons_zero, List.set_cons_succ]
        refine wpAnyH_done (by kernel_rfl) ?_ _
        obtain ⟨wr, rfl⟩ : ∃ x, x = w5 := ⟨_, rfl⟩
        have zc := HZr.out
        have u1 : IntKind.i64.wrap ((r.used : Int) + (zn : Int)) = (r.used : Int) + (zn : Int) := IntWalk.i64_in _ (by omega)
        have u2 : IntKind.i64.wrap ((r.used : Int) + (zn : Int) + (MO : Int)) = (r.used : Int) + (zn : Int) + (MO : Int) := IntWalk.i64_in _ (by omega)
        have u3 : IntKind.i64.wrap ((r.count : Int) + 1) = (r.count : Int) + 1 := IntWalk.i64_in _ (by omega)
        have v4 : decide ((PW : Int) < (r.used : Int) + (zn : Int) + (MO : Int)) = false := decide_eq_false (by omega)
        have v4b : decide (PW < r.used + zn + MO) = false := decide_eq_false (by omega)
        go_upto_region 20 with (fail)
        have s0 := And.intro (conf_at (Whole.drewN HCr.out 1)) (show wr.drew.cell? _ = _ from HZr.out)
        have sN := And.intro (conf_at HCr.out) HZr.out
        go_wp2_with fail
        go_region_held3 (fun w' => (w'.cell? ⟨w.heap.size, 0, none⟩ = some (.int .u8 (e : Int)) ∧ w'.cell? ⟨w.heap.size, 1, none⟩ = some (.int .u32 (s : Int))) ∧ w'.cell? (az) = some (.int .i64 (zn : Int)))
          (first | exact s5 | exact s0 | exact sN)
          (first | (go_at_call 21; refine (HMc.out _).mono ?_; rintro e9 w5 ⟨rfl, hk⟩; have hk' : Keeps NoBlock wr w5 := (by first | exact hk | exact hk.ofDrew | exact hk.ofDrewN); have HKr := Lib.hid (HKr.out.trans hk'); have HCr := Lib.hid (HCr.out.keep hk' (fun h => h)); have HZr := Lib.hid (hk'.cell HZr.out (fun h => h)); have s5 := And.intro (conf_at HCr.out) HZr.out; clear hk hk'; obtain ⟨wr, rfl⟩ : ∃ x, x = w5 := ⟨_, rfl⟩) | (go_at_call 22; refine (HSz.out _).mono ?_; rintro e9 w5 ⟨rfl, hk⟩; have hk' : Keeps NoBlock wr w5 := (by first | exact hk | exact hk.ofDrew | exact hk.ofDrewN); have HKr := Lib.hid (HKr.out.trans hk'); have HCr := Lib.hid (HCr.out.keep hk' (fun h => h)); have HZr := Lib.hid (hk'.cell HZr.out (fun h => h)); have s5 := And.intro (conf_at HCr.out) HZr.out; clear hk hk'; obtain ⟨wr, rfl⟩ : ∃ x, x = w5 := ⟨_, rfl⟩))
        clear s0 sN s5
        have hJ := HJ.out
        go_wp2_with fail
        exact ⟨⟨0 + 1, by omega, by go_num, by rw [← HR2.out, HU2.out.1]; go_num, by rw [← HR2.out, HU2.out.2]; go_num, HKr⟩, by simp [intOf]; omega⟩
      · obtain ⟨k, rfl⟩ : ∃ k, j = k + 1 := ⟨j - 1, by omega⟩
        have hU9 := hsm.2.1
        have hC9 : r.count ≤ 200 := by omega
        have hN9 : r.num < 65536 := by omega
        obtain ⟨hfit, hr2⟩ := hB
        have hnum : r2.num = r.num := by rw [hr2]; rfl
        have hused : r2.used = r.used + zn := by rw [hr2]; show r.used + (zn : Int).toNat = _; rw [Int.toNat_natCast]
        have hcount : r2.count = r.count + 1 := by rw [hr2]; rfl
        have hroom : r.used + zn + mostFt (r.count + 1) ≤ PW := by have := (fitsP_true.1 hfit).2; rw [hpw] at this; omega
        have HMc := Lib.hid (fun w => HMo.out (r.count + 1) w (by omega))
        rw [show ((r.count + 1 : Nat) : Int) = (r.count : Int) + 1 by omega] at HMc
        obtain ⟨MO, hMO⟩ : ∃ MO, MO = mostFt (r.count + 1) := ⟨_, rfl⟩
        rw [← hMO] at HMc hroom
        rw [gout, hnum] at l0
        have HU2 := Lib.hid (And.intro hused hcount)
        obtain ⟨al2, ral2, l1⟩ := Row32.keep HA.out HKr.out (fun _ _ h => h) k (by omega)
        obtain rfl := Option.some.inj ral2
        rw [gwas2 k rfl] at l1
        rw [add_plus] at l0 z0c
        have t1 : decide ((0 : Int) < ((k + 1 : Nat) : Int)) = true := decide_eq_true (by omega)
        have t2 : decide ((0 : Int) < (k : Int) + 1) = true := decide_eq_true (by omega)
        have hmn : (k : Int) < (m : Int) := by omega
        have hmn2 : k < m := by omega
        have hmn3 : (k : Int) + 1 < (m : Int) := by omega
        have hdk3 : decide ((k : Int) + 1 < (m : Int)) = true := decide_eq_true hmn3
        have hm3 : (0 : Int) ≤ (k : Int) + 1 := by omega
        have hm4 : ((k : Int) + 1).toNat = k + 1 := by omega
        have wk1 : IntKind.i64.wrap (k : Int) = (k : Int) := by rw [IntKind.wrap_i64]; omega
        have hm0 : (0 : Int) ≤ (k : Int) := by omega
        have hk0 : (((k + 1 : Nat) : Int) == 0) = false := beq_eq_false_iff_ne.2 (by omega)
        have hk02 : ((k : Int) + 1 == 0) = false := beq_eq_false_iff_ne.2 (by omega)
        have HZr := Lib.hid z0c
        have q1 : ((r.num : Int) != (r.num : Int)) = false := by simp
        have q2 : decide ((s : Int) ≤ (r.num : Int)) = false := decide_eq_false (by omega)
        have q3 : decide (s ≤ r.num) = false := decide_eq_false (by omega)
        clear hfit hr2 hnum hused hcount hMO gout gwas2 gfirst greal ge gs gfew hpw gmost2 hjo
        go_upto_region 13 with (fail)
        have HCr := Lib.hid (Whole.drewN HCr.out 1)
        have HZr := Lib.hid (show wr.drew.cell? _ = _ from HZr.out)
        have HKr := Lib.hid HKr.out.drew
        have hS := And.intro (conf_at HCr.out) HZr.out
        go_wp2_with fail
        refine wp_region_held_drew (S := fun w' => (w'.cell? ⟨w.heap.size, 0, none⟩ = some (.int .u8 (e : Int)) ∧ w'.cell? ⟨w.heap.size, 1, none⟩ = some (.int .u32 (s : Int))) ∧ w'.cell? (⟨az.block, az.off + (k + 1), none⟩) = some (.int .i64 (zn : Int))) (by kernel_rfl) hS (fun hHeld => ?_)
        refine wpAnyH_take (i := 0) (v := ?vT31) rfl ?aT31 ?bT31 ?cT31 ?dT31 (Or.inl ⟨?eT31, ?fT31⟩) hHeld ?gT31
        case fT31 => intro w hSw; (try dsimp only at hSw); go_simp; (try with_reducible rfl)
        case aT31 => kernel_rfl
        case bT31 => kernel_rfl
        case cT31 => kernel_rfl
        case dT31 => exact fun _ _ _ h => h
        case eT31 => rfl
        simp only [Act.put, List.getElem_toArray, List.getElem_cons_zero, List.setIfInBounds_toArray, List.set_cons_zero, List.set_cons_succ]
        refine wpAnyH_take (i := 1) (v := ?vT32) rfl ?aT32 ?bT32 ?cT32 ?dT32 (Or.inl ⟨?eT32, ?fT32⟩) hHeld ?gT32
        case fT32 => intro w hSw; (try dsimp only at hSw); go_simp; (try with_reducible rfl)
        case aT32 => kernel_rfl
        case bT32 => kernel_rfl
        case cT32 => kernel_rfl
        case dT32 => exact fun _ _ _ h => h
        case eT32 => rfl
        simp only [Act.put, List.getElem_toArray, List.getElem_cons_zero, List.getElem_cons_succ, List.setIfInBounds_toArray, List.set_cons_zero, List.set_cons_succ]
        refine wpAnyH_take (i := 2) (v := ?vT33) rfl ?aT33 ?bT33 ?cT33 ?dT33 (Or.inl ⟨?eT33, ?fT33⟩) hHeld ?gT33
        case fT33 => intro w hSw; (try dsimp only at hSw); go_simp; (try with_reducible rfl)
        case aT33 => kernel_rfl
        case bT33 => kernel_rfl
        case cT33 => kernel_rfl
        case dT33 => exact fun _ _ _ h => h
        case eT33 => rfl
        simp only [Act.put, List.getElem_toArray, List.getElem_cons_zero, List.getElem_cons_succ, List.setIfInBounds_toArray, List.set_cons_zero, List.set_cons_succ]
        refine wpAnyH_take (i := 3) (v := ?vT34) rfl ?aT34 ?bT34 ?cT34 ?dT34 (Or.inl ⟨?eT34, ?fT34⟩) hHeld ?gT34
        case fT34 => intro w hSw; (try dsimp only at hSw); go_simp; (try with_reducible rfl)
        case aT34 => kernel_rfl
        case bT34 => kernel_rfl
        case cT34 => kernel_rfl
        case dT34 => exact fun _ _ _ h => h
        case eT34 => rfl
        simp only [Act.put, List.getElem_toArray, List.getElem_cons_zero, List.getElem_cons_succ, List.setIfInBounds_toArray, List.set_cons_zero, List.set_cons_succ]
        refine wpAnyH_take (i := 4) (v := undef) rfl ?aT35 ?bT35 ?cT35 ?dT35 (Or.inr ?eT35) hHeld ?gT35
        case eT35 => exact ⟨rfl, rfl⟩
        case aT35 => kernel_rfl
        case bT35 => kernel_rfl
        case cT35 => kernel_rfl
        case dT35 => exact fun _ _ _ h => h
        simp only [Act.put, List.getElem_toArray, List.getElem_cons_zero, List.getElem_cons_succ, List.setIfInBounds_toArray, List.set_cons_zero, List.set_cons_succ]
        refine wpAnyH_take (i := 5) (v := undef) rfl ?aT36 ?bT36 ?cT36 ?dT36 (Or.inr ?eT36) hHeld ?gT36
        case eT36 => exact ⟨rfl, rfl⟩
        case aT36 => kernel_rfl
        case bT36 => kernel_rfl
        case cT36 => kernel_rfl
        case dT36 => exact fun _ _ _ h => h
        simp only [Act.put, List.getElem_toArray, List.getElem_cons_zero, List.getElem_cons_succ, List.setIfInBounds_toArray, List.set_cons_zero, List.set_cons_succ]
        refine wpAnyH_take (i := 6) (v := undef) rfl ?aT37 ?bT37 ?cT37 ?dT37 (Or.inr ?eT37) hHeld ?gT37
        case eT37 => exact ⟨rfl, rfl⟩
        case aT37 => kernel_rfl
        case bT37 => kernel_rfl
        case cT37 => kernel_rfl
        case dT37 => exact fun _ _ _ h => h
        simp only [Act.put, List.getElem_toArray, List.getElem_cons_zero, List.getElem_cons_succ, List.setIfInBounds_toArray, List.set_cons_zero, List.set_cons_succ]
        refine wpAnyH_take (i := 7) (v := undef) rfl ?aT38 ?bT38 ?cT38 ?dT38 (Or.inr ?eT38) hHeld ?gT38
        case eT38 => exact ⟨rfl, rfl⟩
        case aT38 => kernel_rfl
        case bT38 => kernel_rfl
        case cT38 => kernel_rfl
        case dT38 => exact fun _ _ _ h => h
        simp only [Act.put, List.getElem_toArray, List.getElem_cons_zero, List.getElem_cons_succ, List.setIfInBounds_toArray, List.set_cons_zero, List.set_cons_succ]
        refine wpAnyH_take (i := 8) (v := ?vT39) rfl ?aT39 ?bT39 ?cT39 ?dT39 (Or.inl ⟨?eT39, ?fT39⟩) hHeld ?gT39
        case fT39 => intro w hSw; (try dsimp only at hSw); go_simp; (try with_reducible rfl)
        case aT39 => kernel_rfl
        case bT39 => kernel_rfl
        case cT39 => kernel_rfl
        case dT39 => exact fun _ _ _ h => h
        case eT39 => rfl
        simp only [Act.put, List.getElem_toArray, List.getElem_cons_zero, List.getElem_cons_succ, List.setIfInBounds_toArray, List.set_cons_zero, List.set_cons_succ]
        refine wpAnyH_take (i := 9) (v := ?vT40) rfl ?aT40 ?bT40 ?cT40 ?dT40 (Or.inl ⟨?eT40, ?fT40⟩) hHeld ?gT40
        case fT40 => intro w hSw; (try dsimp only at hSw); go_simp; (try with_reducible rfl)
        case aT40 => kernel_rfl
        case bT40 => kernel_rfl
        case cT40 => kernel_rfl
        case dT40 => exact fun _ _ _ h => h
        case eT40 => rfl
        simp only [Act.put, List.getElem_toArray, List.getElem_cons_zero, List.getElem_cons_succ, List.setIfInBounds_toArray, List.set_cons_zero, List.set_cons_succ]
        refine wpAnyH_take (i := 10) (v := ?vT41) rfl ?aT41 ?bT41 ?cT41 ?dT41 (Or.inl ⟨?eT41, ?fT41⟩) hHeld ?gT41
        case fT41 => intro w hSw; (try dsimp only at hSw); go_simp; (try with_reducible rfl)
        case aT41 => kernel_rfl
        case bT41 => kernel_rfl
        case cT41 => kernel_rfl
        case dT41 => exact fun _ _ _ h => h
        case eT41 => rfl
        simp only [Act.put, List.getElem_toArray, List.getElem_cons_zero, List.getElem_cons_succ, List.setIfInBounds_toArray, List.set_cons_zero, List.set_cons_succ]
        refine wpAnyH_take (i := 11) (v := ?vT42) rfl ?aT42 ?bT42 ?cT42 ?dT42 (Or.inl ⟨?eT42, ?fT42⟩) hHeld ?gT42
        case fT42 => intro w hSw; (try dsimp only at hSw); go_simp; (try with_reducible rfl)
        case aT42 => kernel_rfl
        case bT42 => kernel_rfl
        case cT42 => kernel_rfl
        case dT42 => exact fun _ _ _ h => h
        case eT42 => rfl
        simp only [Act.put, List.getElem_toArray, List.getElem_cons_zero, List.getElem_cons_succ, List.setIfInBounds_toArray, List.set_cons_zero, List.set_cons_succ]
        refine wpAnyH_take (i := 12) (v := ?vT43) rfl ?aT43 ?bT43 ?cT43 ?dT43 (Or.inl ⟨?eT43, ?fT43⟩) hHeld ?gT43
        case fT43 => intro w hSw; (try dsimp only at hSw); go_simp; (try with_reducible rfl)
        case aT43 => kernel_rfl
        case bT43 => kernel_rfl
        case cT43 => kernel_rfl
        case dT43 => exact fun _ _ _ h => h
        case eT43 => rfl
        simp only [Act.put, List.getElem_toArray, List.getElem_cons_zero, List.getElem_cons_succ, List.setIfInBounds_toArray, List.set_cons_zero, List.set_cons_succ]
        refine wpAnyH_take (i := 13) (v := undef) rfl ?aT44 ?bT44 ?cT44 ?dT44 (Or.inr ?eT44) hHeld ?gT44
        case eT44 => exact ⟨rfl, rfl⟩
        case aT44 => kernel_rfl
        case bT44 => kernel_rfl
        case cT44 => kernel_rfl
        case dT44 => exact fun _ _ _ h => h
        simp only [Act.put, List.getElem_toArray, List.getElem_cons_zero, List.getElem_cons_succ, List.setIfInBounds_toArray, List.set_cons_zero, List.set_cons_succ]
        refine wpAnyH_take (i := 14) (v := undef) rfl ?aT45 ?bT45 ?cT45 ?dT45 (Or.inr ?eT45) hHeld ?gT45
        case eT45 => exact ⟨rfl, rfl⟩
        case aT45 => kernel_rfl
        case bT45 => kernel_rfl
        case cT45 => kernel_rfl
        case dT45 => exact fun _ _ _ h => h
        simp only [Act.put, List.getElem_toArray, List.getElem_cons_zero, List.getElem_cons_succ, List.setIfInBounds_toArray, List.set_cons_zero, List.set_cons_succ]
        refine wpAnyH_take (i := 15) (v := ?vT46) rfl ?aT46 ?bT46 ?cT46 ?dT46 (Or.inl ⟨?eT46, ?fT46⟩) hHeld ?gT46
        case fT46 => intro w hSw; (try dsimp only at hSw); go_simp; (try with_reducible rfl)
        case aT46 => kernel_rfl
        case bT46 => kernel_rfl
        case cT46 => kernel_rfl
        case dT46 => exact fun _ _ _ h => h
        case eT46 => rfl
        simp only [Act.put, List.getElem_toArray, List.getElem_cons_zero, List.getElem_cons_succ, List.setIfInBounds_toArray, List.set_cons_zero, List.set_cons_succ]
        refine wpAnyH_take (i := 16) (v := ?vT47) rfl ?aT47 ?bT47 ?cT47 ?dT47 (Or.inl ⟨?eT47, ?fT47⟩) hHeld ?gT47
        case fT47 => intro w hSw; (try dsimp only at hSw); go_simp; (try with_reducible rfl)
        case aT47 => kernel_rfl
        case bT47 => kernel_rfl
        case cT47 => kernel_rfl
        case dT47 => exact fun _ _ _ h => h
        case eT47 => rfl
        simp only [Act.put, List.getElem_toArray, List.getElem_cons_zero, List.getElem_cons_succ, List.setIfInBounds_toArray, List.set_cons_zero, List.set_cons_succ]
        refine wpAnyH_take (i := 17) (v := ?vT48) rfl ?aT48 ?bT48 ?cT48 ?dT48 (Or.inl ⟨?eT48, ?fT48⟩) hHeld ?gT48
        case fT48 => intro w hSw; (try dsimp only at hSw); go_simp; (try with_reducible rfl)
        case aT48 => kernel_rfl
        case bT48 => kernel_rfl
        case cT48 => kernel_rfl
        case dT48 => exact fun _ _ _ h => h
        case eT48 => rfl
        simp only [Act.put, List.getElem_toArray, List.getElem_cons_zero, List.getElem_cons_succ, List.setIfInBounds_toArray, List.set_cons_zero, List.set_cons_succ]
        refine wpAnyH_take (i := 18) (v := ?vT49) rfl ?aT49 ?bT49 ?cT49 ?dT49 (Or.inl ⟨?eT49, ?fT49⟩) hHeld ?gT49
        case fT49 => intro w hSw; (try dsimp only at hSw); go_simp; (try with_reducible rfl)
        case aT49 => kernel_rfl
        case bT49 => kernel_rfl
        case cT49 => kernel_rfl
        case dT49 => exact fun _ _ _ h => h
        case eT49 => rfl
        simp only [Act.put, List.getElem_toArray, List.getElem_cons_zero, List.getElem_cons_succ, List.setIfInBounds_toArray, List.set_cons_zero, List.set_cons_succ]
        refine wpAnyH_take (i := 19) (v := ?vT50) rfl ?aT50 ?bT50 ?cT50 ?dT50 (Or.inl ⟨?eT50, ?fT50⟩) hHeld ?gT50
        case fT50 => intro w hSw; (try dsimp only at hSw); go_simp; (try with_reducible rfl)
        case aT50 => kernel_rfl
        case bT50 => kernel_rfl
        case cT50 => kernel_rfl
        case dT50 => exact fun _ _ _ h => h
        case eT50 => rfl
        simp only [Act.put, List.getElem_toArray, List.getElem_cons_zero, List.getElem_cons_succ, List.setIfInBounds_toArray, List.set_cons_zero, List.set_cons_succ]
        refine wpAnyH_take (i := 20) (v := ?vT51) rfl ?aT51 ?bT51 ?cT51 ?dT51 (Or.inl ⟨?eT51, ?fT51⟩) hHeld ?gT51
        case fT51 => intro w hSw; (try dsimp only at hSw); go_simp; (try with_reducible rfl)
        case aT51 => kernel_rfl
        case bT51 => kernel_rfl
        case cT51 => kernel_rfl
        case dT51 => exact fun _ _ _ h => h
        case eT51 => rfl
        simp only [Act.put, List.getElem_toArray, List.getElem_cons_zero, List.getElem_cons_succ, List.setIfInBounds_toArray, List.set_cons_zero, List.set_cons_succ]
        refine wpAnyH_take (i := 21) (v := ?vT52) rfl ?aT52 ?bT52 ?cT52 ?dT52 (Or.inl ⟨?eT52, ?fT52⟩) hHeld ?gT52
        case fT52 => intro w hSw; (try dsimp only at hSw); go_simp; (try with_reducible rfl)
        case aT52 => kernel_rfl
        case bT52 => kernel_rfl
        case cT52 => kernel_rfl
        case dT52 => exact fun _ _ _ h => h
        case eT52 => rfl
        simp only [Act.put, List.getElem_toArray, List.getElem_cons_zero, List.getElem_cons_succ, List.setIfInBounds_toArray, List.set_cons_zero, List.set_cons_succ]
        refine wpAnyH_take (i := 22) (v := ?vT53) rfl ?aT53 ?bT53 ?cT53 ?dT53 (Or.inl ⟨?eT53, ?fT53⟩) hHeld ?gT53
        case fT53 => intro w hSw; (try dsimp only at hSw); go_simp; (try with_reducible rfl)
        case aT53 => kernel_rfl
        case bT53 => kernel_rfl
        case cT53 => kernel_rfl
        case dT53 => exact fun _ _ _ h => h
        case eT53 => rfl
        simp only [Act.put, List.getElem_toArray, List.getElem_cons_zero, List.getElem_cons_succ, List.setIfInBounds_toArray, List.set_cons_zero, List.set_cons_succ]
        refine wpAnyH_take (i := 23) (v := ?vT54) rfl ?aT54 ?bT54 ?cT54 ?dT54 (Or.inl ⟨?eT54, ?fT54⟩) hHeld ?gT54
        case fT54 => intro w hSw; (try dsimp only at hSw); go_simp; (try with_reducible rfl)
        case aT54 => kernel_rfl
        case bT54 => kernel_rfl
        case cT54 => kernel_rfl
        case dT54 => exact fun _ _ _ h => h
        case eT54 => rfl
        simp only [Act.put, List.getElem_toArray, List.getElem_cons_zero, List.getElem_cons_succ, List.setIfInBounds_toArray, List.set_cons_zero, List.set_cons_succ]
        refine wpAnyH_take (i := 24) (v := ?vT55) rfl ?aT55 ?bT55 ?cT55 ?dT55 (Or.inl ⟨?eT55, ?fT55⟩) hHeld ?gT55
        case fT55 => intro w hSw; (try dsimp only at hSw); go_simp; (try with_reducible rfl)
        case aT55 => kernel_rfl
        case bT55 => kernel_rfl
        case cT55 => kernel_rfl
        case dT55 => exact fun _ _ _ h => h
        case eT55 => rfl
        simp only [Act.put, List.getElem_toArray, List.getElem_cons_zero, List.getElem_cons_succ, List.setIfInBounds_toArray, List.set_cons_zero, List.set_cons_succ]
        refine wpAnyH_take (i := 25) (v := ?vT56) rfl ?aT56 ?bT56 ?cT56 ?dT56 (Or.inl ⟨?eT56, ?fT56⟩) hHeld ?gT56
        case fT56 => intro w hSw; (try dsimp only at hSw); go_simp; (try with_reducible rfl)
        case aT56 => kernel_rfl
        case bT56 => kernel_rfl
        case cT56 => kernel_rfl
        case dT56 => exact fun _ _ _ h => h
        case eT56 => rfl
        simp only [Act.put, List.getElem_toArray, List.getElem_cons_zero, List.getElem_cons_succ, List.setIfInBounds_toArray, List.set_cons_zero, List.set_cons_succ]
        refine wpAnyH_take (i := 26) (v := ?vT57) rfl ?aT57 ?bT57 ?cT57 ?dT57 (Or.inl ⟨?eT57, ?fT57⟩) hHeld ?gT57
        case fT57 => intro w hSw; (try dsimp only at hSw); go_simp; (try with_reducible rfl)
        case aT57 => kernel_rfl
        case bT57 => kernel_rfl
        case cT57 => kernel_rfl
        case dT57 => exact fun _ _ _ h => h
        case eT57 => rfl
        simp only [Act.put, List.getElem_toArray, List.getElem_cons_zero, List.getElem_cons_succ, List.setIfInBounds_toArray, List.set_cons_zero, List.set_cons_succ]
        refine wpAnyH_take (i := 27) (v := ?vT58) rfl ?aT58 ?bT58 ?cT58 ?dT58 (Or.inl ⟨?eT58, ?fT58⟩) hHeld ?gT58
        case fT58 => intro w hSw; (try dsimp only at hSw); go_simp; (try with_reducible rfl)
        case aT58 => kernel_rfl
        case bT58 => kernel_rfl
        case cT58 => kernel_rfl
        case dT58 => exact fun _ _ _ h => h
        case eT58 => rfl
        simp only [Act.put, List.getElem_toArray, List.getElem_cons_zero, List.getElem_cons_succ, List.setIfInBounds_toArray, List.set_cons_zero, List.set_cons_succ]
        refine wpAnyH_take (i := 28) (v := ?vT59) rfl ?aT59 ?bT59 ?cT59 ?dT59 (Or.inl ⟨?eT59, ?fT59⟩) hHeld ?gT59
        case fT59 => intro w hSw; (try dsimp only at hSw); go_simp; (try with_reducible rfl)
        case aT59 => kernel_rfl
        case bT59 => kernel_rfl
        case cT59 => kernel_rfl
        case dT59 => exact fun _ _ _ h => h
        case eT59 => rfl
        simp only [Act.put, List.getElem_toArray, List.getElem_cons_zero, List.getElem_cons_succ, List.setIfInBounds_toArray, List.set_cons_zero, List.set_cons_succ]
        refine wpAnyH_ready (rs := [29]) (by kernel_rfl) (by simp) ?_
        refine (AllReadyH.cons (o := _) rfl (fun K hK => ?_) AllReadyH.nil)
        go_simp
        refine (HLz.out _).mono ?_
        rintro e9 w5 ⟨rfl, hk⟩
        have hk' : Keeps NoBlock wr.drew w5 := by first | exact hk | exact hk.ofDrew | exact hk.ofDrewN
        have HKr := Lib.hid (HKr.out.trans hk')
        have HCr := Lib.hid (HCr.out.keep hk' (fun h => h))
        have HZr := Lib.hid (hk'.cell HZr.out (fun h => h))
        have hS5 := And.intro (conf_at HCr.out) HZr.out
        clear hk hk'
        go_wp2_with fail
        refine hK.out _ _ hS5 (fun _ => ?_)
        clear hK K
        refine wpAnyH_take (i := 30) (v := ?vT60) rfl ?aT60 ?bT60 ?cT60 ?dT60 (Or.inl ⟨?eT60, ?fT60⟩) hS5 ?gT60
        case fT60 => intro w hSw; (try dsimp only at hSw); go_simp; (try with_reducible rfl)
        case aT60 => kernel_rfl
        case bT60 => kernel_rfl
        case cT60 => kernel_rfl
        case dT60 => exact fun _ _ _ h => h
        case eT60 => rfl
        simp only [Act.put, List.getElem_toArray, List.getElem_cons_zero, List.getElem_cons_succ, List.setIfInBounds_toArray, List.set_cons_zero, List.set_cons_succ]
        refine wpAnyH_done (by kernel_rfl) ?_ _
        obtain ⟨wr, rfl⟩ : ∃ x, x = w5 := ⟨_, rfl⟩
        have zc := HZr.out
        have u1 : IntKind.i64.wrap ((r.used : Int) + (zn : Int)) = (r.used : Int) + (zn : Int) := IntWalk.i64_in _ (by omega)
        have u2 : IntKind.i64.wrap ((r.used : Int) + (zn : Int) + (MO : Int)) = (r.used : Int) + (zn : Int) + (MO : Int) := IntWalk.i64_in _ (by omega)
        have u3 : IntKind.i64.wrap ((r.count : Int) + 1) = (r.count : Int) + 1 := IntWalk.i64_in _ (by omega)
        have v4 : decide ((PW : Int) < (r.used : Int) + (zn : Int) + (MO : Int)) = false := decide_eq_false (by omega)
        have v4b : decide (PW < r.used + zn + MO) = false := decide_eq_false (by omega)
        go_upto_region 20 with (fail)
        have s0 := And.intro (conf_at (Whole.drewN HCr.out 1)) (show wr.drew.cell? _ = _ from HZr.out)
        have sN := And.intro (conf_at HCr.out) HZr.out
        go_wp2_with fail
        go_region_held3 (fun w' => (w'.cell? ⟨w.heap.size, 0, none⟩ = some (.int .u8 (e : Int)) ∧ w'.cell? ⟨w.heap.size, 1, none⟩ = some (.int .u32 (s : Int))) ∧ w'.cell? (⟨az.block, az.off + (k + 1), none⟩) = some (.int .i64 (zn : Int)))
          (first | exact s5 | exact s0 | exact sN)
          (first | (go_at_call 21; refine (HMc.out _).mono ?_; rintro e9 w5 ⟨rfl, hk⟩; have hk' : Keeps NoBlock wr w5 := (by first | exact hk | exact hk.ofDrew | exact hk.ofDrewN); have HKr := Lib.hid (HKr.out.trans hk'); have HCr := Lib.hid (HCr.out.keep hk' (fun h => h)); have HZr := Lib.hid (hk'.cell HZr.out (fun h => h)); have s5 := And.intro (conf_at HCr.out) HZr.out; clear hk hk'; obtain ⟨wr, rfl⟩ : ∃ x, x = w5 := ⟨_, rfl⟩) | (go_at_call 22; refine (HSz.out _).mono ?_; rintro e9 w5 ⟨rfl, hk⟩; have hk' : Keeps NoBlock wr w5 := (by first | exact hk | exact hk.ofDrew | exact hk.ofDrewN); have HKr := Lib.hid (HKr.out.trans hk'); have HCr := Lib.hid (HCr.out.keep hk' (fun h => h)); have HZr := Lib.hid (hk'.cell HZr.out (fun h => h)); have s5 := And.intro (conf_at HCr.out) HZr.out; clear hk hk'; obtain ⟨wr, rfl⟩ : ∃ x, x = w5 := ⟨_, rfl⟩))
        clear s0 sN s5
        have hJ := HJ.out
        go_wp2_with fail
        exact ⟨⟨(k + 1) + 1, by omega, by go_num, by rw [← HR2.out, HU2.out.1]; go_num, by rw [← HR2.out, HU2.out.2]; go_num, HKr⟩, by simp [intOf]; omega⟩
    · have hj0 : j ≠ 0 := fun h => hB.2.1 (gfirst h).2
      obtain ⟨k, rfl⟩ : ∃ k, j = k + 1 := ⟨j - 1, by omega⟩
      have hU9 := hsm.2.1
      have hC9 : r.count ≤ 200 := by omega
      have hN9 : r.num < 65536 := by omega
      obtain ⟨hfit, hc0, hns, hr2⟩ := hB
      have hnum : r2.num = r.num + 1 := by rw [hr2]; rfl
      have hused : r2.used = headLen e s (r.num + 1) + zn := by rw [hr2]; show headLen e s (r.num + 1) + (zn : Int).toNat = _; rw [Int.toNat_natCast]
      have hcount : r2.count = 1 := by rw [hr2]; rfl
      have hnot : PW < r.used + zn + mostFt (r.count + 1) := by
        have h1 : ¬ fitsP r (zn : Int) = true := by rw [hfit]; simp
        rw [fitsP_true, hpw] at h1
        omega
      have hroom : headLen e s (r.num + 1) + zn + mostFt 1 ≤ PW := by
        have h1 := fits_empty (e := e) (s := s) (m := r.num + 1) (n := s - 1) (by omega) (by omega) (by omega) gmost2
        have h2 := (fitsP_true.1 h1).2
        rw [HPow.out _ (show (emptyP e s (r.num + 1)).e = e from rfl)] at h2
        have h3 : (emptyP e s (r.num + 1)).used = headLen e s (r.num + 1) := rfl
        have h4 : (emptyP e s (r.num + 1)).count = 0 := rfl
        rw [h3, h4, show 0 + 1 = 1 from rfl] at h2
        omega
      have HMc := Lib.hid (fun w => HMo.out (r.count + 1) w (by omega))
      rw [show ((r.count + 1 : Nat) : Int) = (r.count : Int) + 1 by omega] at HMc
      have HM1 := Lib.hid (fun w => HMo.out 1 w (by decide))
      have hlin := mostFt_lin (r.count + 1)
      have hlin1 := mostFt_lin 1
      obtain ⟨MO, hMO⟩ : ∃ MO, MO = mostFt (r.count + 1) := ⟨_, rfl⟩
      rw [← hMO] at HMc hnot hlin
      obtain ⟨M1, hM1⟩ : ∃ M1, M1 = mostFt 1 := ⟨_, rfl⟩
      rw [← hM1] at HM1 hroom hlin1
      have HHn := Lib.hid (fun w => HHd.out (r.num + 1) w (by omega))
      rw [show ((r.num + 1 : Nat) : Int) = (r.num : Int) + 1 by omega] at HHn
      have zh := HSr.out (r.num + 1)
      have hh1 : headLen e s (r.num + 1) = (sealN (headB e s (r.num + 1))).length := rfl
      rw [← hh1] at zh
      obtain ⟨H1, hH1⟩ : ∃ H, H = headLen e s (r.num + 1) := ⟨_, rfl⟩
      rw [← hH1] at zh hused hroom
      obtain ⟨T1, hT1⟩ : ∃ T, T = sealN (headB e s (r.num + 1)) := ⟨_, rfl⟩
      rw [← hT1] at zh HHn
      rw [gout, hnum] at l0
      have HU2 := Lib.hid (And.intro hused hcount)
      obtain ⟨al2, ral2, l1⟩ := Row32.keep HA.out HKr.out (fun _ _ h => h) k (by omega)
      obtain rfl := Option.some.inj ral2
      rw [gwas2 k rfl] at l1
      rw [add_plus] at l0 z0c
      have t1 : decide ((0 : Int) < ((k + 1 : Nat) : Int)) = true := decide_eq_true (by omega)
      have t2 : decide ((0 : Int) < (k : Int) + 1) = true := decide_eq_true (by omega)
      have hmn : (k : Int) < (m : Int) := by omega
      have hmn2 : k < m := by omega
      have hmn3 : (k : Int) + 1 < (m : Int) := by omega
      have hdk3 : decide ((k : Int) + 1 < (m : Int)) = true := decide_eq_true hmn3
      have hm3 : (0 : Int) ≤ (k : Int) + 1 := by omega
      have hm4 : ((k : Int) + 1).toNat = k + 1 := by omega
      have wk1 : IntKind.i64.wrap (k : Int) = (k : Int) := by rw [IntKind.wrap_i64]; omega
      have hm0 : (0 : Int) ≤ (k : Int) := by omega
      have hk0 : (((k + 1 : Nat) : Int) == 0) = false := beq_eq_false_iff_ne.2 (by omega)
      have hk02 : ((k : Int) + 1 == 0) = false := beq_eq_false_iff_ne.2 (by omega)
      have HZr := Lib.hid z0c
      have q1 : ((r.num : Int) + 1 != (r.num : Int)) = true := by rw [bne_iff_ne]; omega
      have q4 : ((r.num : Int) + 1 != (r.num : Int) + 1) = false := by simp
      have q2 : decide ((s : Int) ≤ (r.num : Int) + 1) = false := decide_eq_false (by omega)
      have q3 : decide (s ≤ r.num + 1) = false := decide_eq_false (by omega)
      rw [show ((r.num + 1 : Nat) : Int) = (r.num : Int) + 1 by omega] at l0
      have wn1 : IntKind.u32.wrap ((r.num : Int) + 1) = (r.num : Int) + 1 := by rw [IntKind.wrap_u32]; omega
      have wn2 : IntKind.u64.wrap ((r.num : Int) + 1) = (r.num : Int) + 1 := by rw [IntKind.wrap_u64]; omega
      clear hfit hr2 hnum hused hcount hMO gout gwas2 gfirst greal ge gs gfew hpw gmost2 hjo hM1 hh1 hH1 hT1 hns
      go_upto_region 13 with (fail)
      have HCr := Lib.hid (Whole.drewN HCr.out 1)
      have HZr := Lib.hid (show wr.drew.cell? _ = _ from HZr.out)
      have HKr := Lib.hid HKr.out.drew
      have hS := And.intro (conf_at HCr.out) HZr.out
      go_wp2_with fail
      refine wp_region_held_drew (S := fun w' => (w'.cell? ⟨w.heap.size, 0, none⟩ = some (.int .u8 (e : Int)) ∧ w'.cell? ⟨w.heap.size, 1, none⟩ = some (.int .u32 (s : Int))) ∧ w'.cell? (⟨az.block, az.off + (k + 1), none⟩) = some (.int .i64 (zn : Int))) (by kernel_rfl) hS (fun hHeld => ?_)
      refine wpAnyH_take (i := 0) (v := ?vT61) rfl ?aT61 ?bT61 ?cT61 ?dT61 (Or.inl ⟨?eT61, ?fT61⟩) hHeld ?gT61
      case fT61 => intro w hSw; (try dsimp only at hSw); go_simp; (try with_reducible rfl)
      case aT61 => kernel_rfl
      case bT61 => kernel_rfl
      case cT61 => kernel_rfl
      case dT61 => exact fun _ _ _ h => h
      case eT61 => rfl
      simp only [Act.put, List.getElem_toArray, List.getElem_cons_zero, List.setIfInBounds_toArray, List.set_cons_zero, List.set_cons_succ]
      refine wpAnyH_take (i := 1) (v := ?vT62) rfl ?aT62 ?bT62 ?cT62 ?dT62 (Or.inl ⟨?eT62, ?fT62⟩) hHeld ?gT62
      case fT62 => intro w hSw; (try dsimp only at hSw); go_simp; (try with_reducible rfl)
      case aT62 => kernel_rfl
      case bT62 => kernel_rfl
      case cT62 => kernel_rfl
      case dT62 => exact fun _ _ _ h => h
      case eT62 => rfl
      simp only [Act.put, List.getElem_toArray, List.getElem_cons_zero, List.getElem_cons_succ, List.setIfInBounds_toArray, List.set_cons_zero, List.set_cons_succ]
      refine wpAnyH_take (i := 2) (v := ?vT63) rfl ?aT63 ?bT63 ?cT63 ?dT63 (Or.inl ⟨?eT63, ?fT63⟩) hHeld ?gT63
      case fT63 => intro w hSw; (try dsimp only at hSw); go_simp; (try with_reducible rfl)
      case aT63 => kernel_rfl
      case bT63 => kernel_rfl
      case cT63 => kernel_rfl
      case dT63 => exact fun _ _ _ h => h
      case eT63 => rfl
      simp only [Act.put, List.getElem_toArray, List.getElem_cons_zero, List.getElem_cons_succ, List.setIfInBounds_toArray, List.set_cons_zero, List.set_cons_succ]
      refine wpAnyH_take (i := 3) (v := ?vT64) rfl ?aT64 ?bT64 ?cT64 ?dT64 (Or.inl ⟨?eT64, ?fT64⟩) hHeld ?gT64
      case fT64 => intro w hSw; (try dsimp only at hSw); go_simp; (try with_reducible rfl)
      case aT64 => kernel_rfl
      case bT64 => kernel_rfl
      case cT64 => kernel_rfl
      case dT64 => exact fun _ _ _ h => h
      case eT64 => rfl
      simp only [Act.put, List.getElem_toArray, List.getElem_cons_zero, List.getElem_cons_succ, List.setIfInBounds_toArray, List.set_cons_zero, List.set_cons_succ]
      refine wpAnyH_take (i := 4) (v := ?vT65) rfl ?aT65 ?bT65 ?cT65 ?dT65 (Or.inl ⟨?eT65, ?fT65⟩) hHeld ?gT65
      case fT65 => intro w hSw; (try dsimp only at hSw); go_simp; (try with_reducible rfl)
      case aT65 => kernel_rfl
      case bT65 => kernel_rfl
      case cT65 => kernel_rfl
      case dT65 => exact fun _ _ _ h => h
      case eT65 => rfl
      simp only [Act.put, List.getElem_toArray, List.getElem_cons_zero, List.getElem_cons_succ, List.setIfInBounds_toArray, List.set_cons_zero, List.set_cons_succ]
      refine wpAnyH_take (i := 5) (v := ?vT66) rfl ?aT66 ?bT66 ?cT66 ?dT66 (Or.inl ⟨?eT66, ?fT66⟩) hHeld ?gT66
      case fT66 => intro w hSw; (try dsimp only at hSw); go_simp; (try with_reducible rfl)
      case aT66 => kernel_rfl
      case bT66 => kernel_rfl
      case cT66 => kernel_rfl
      case dT66 => exact fun _ _ _ h => h
      case eT66 => rfl
      simp only [Act.put, List.getElem_toArray, List.getElem_cons_zero, List.getElem_cons_succ, List.setIfInBounds_toArray, List.set_cons_zero, List.set_cons_succ]
      refine wpAnyH_take (i := 6) (v := ?vT67) rfl ?aT67 ?bT67 ?cT67 ?dT67 (Or.inl ⟨?eT67, ?fT67⟩) hHeld ?gT67
      case fT67 => intro w hSw; (try dsimp only at hSw); go_simp; (try with_reducible rfl)
      case aT67 => kernel_rfl
      case bT67 => kernel_rfl
      case cT67 => kernel_rfl
      case dT67 => exact fun _ _ _ h => h
      case eT67 => rfl
      simp only [Act.put, List.getElem_toArray, List.getElem_cons_zero, List.getElem_cons_succ, List.setIfInBounds_toArray, List.set_cons_zero, List.set_cons_succ]
      refine wpAnyH_take (i := 7) (v := ?vT68) rfl ?aT68 ?bT68 ?cT68 ?dT68 (Or.inl ⟨?eT68, ?fT68⟩) hHeld ?gT68
      case fT68 => intro w hSw; (try dsimp only at hSw); go_simp; (try with_reducible rfl)
      case aT68 => kernel_rfl
      case bT68 => kernel_rfl
      case cT68 => kernel_rfl
      case dT68 => exact fun _ _ _ h => h
      case eT68 => rfl
      simp only [Act.put, List.getElem_toArray, List.getElem_cons_zero, List.getElem_cons_succ, List.setIfInBounds_toArray, List.set_cons_zero, List.set_cons_succ]
      refine wpAnyH_take (i := 8) (v := ?vT69) rfl ?aT69 ?bT69 ?cT69 ?dT69 (Or.inl ⟨?eT69, ?fT69⟩) hHeld ?gT69
      case fT69 => intro w hSw; (try dsimp only at hSw); go_simp; (try with_reducible rfl)
      case aT69 => kernel_rfl
      case bT69 => kernel_rfl
      case cT69 => kernel_rfl
      case dT69 => exact fun _ _ _ h => h
      case eT69 => rfl
      simp only [Act.put, List.getElem_toArray, List.getElem_cons_zero, List.getElem_cons_succ, List.setIfInBounds_toArray, List.set_cons_zero, List.set_cons_succ]
      refine wpAnyH_take (i := 9) (v := ?vT70) rfl ?aT70 ?bT70 ?cT70 ?dT70 (Or.inl ⟨?eT70, ?fT70⟩) hHeld ?gT70
      case fT70 => intro w hSw; (try dsimp only at hSw); go_simp; (try with_reducible rfl)
      case aT70 => kernel_rfl
      case bT70 => kernel_rfl
      case cT70 => kernel_rfl
      case dT70 => exact fun _ _ _ h => h
      case eT70 => rfl
      simp only [Act.put, List.getElem_toArray, List.getElem_cons_zero, List.getElem_cons_succ, List.setIfInBounds_toArray, List.set_cons_zero, List.set_cons_succ]
      refine wpAnyH_take (i := 10) (v := ?vT71) rfl ?aT71 ?bT71 ?cT71 ?dT71 (Or.inl ⟨?eT71, ?fT71⟩) hHeld ?gT71
      case fT71 => intro w hSw; (try dsimp only at hSw); go_simp; (try with_reducible rfl)
      case aT71 => kernel_rfl
      case bT71 => kernel_rfl
      case cT71 => kernel_rfl
      case dT71 => exact fun _ _ _ h => h
      case eT71 => rfl
      simp only [Act.put, List.getElem_toArray, List.getElem_cons_zero, List.getElem_cons_succ, List.setIfInBounds_toArray, List.set_cons_zero, List.set_cons_succ]
      refine wpAnyH_take (i := 11) (v := ?vT72) rfl ?aT72 ?bT72 ?cT72 ?dT72 (Or.inl ⟨?eT72, ?fT72⟩) hHeld ?gT72
      case fT72 => intro w hSw; (try dsimp only at hSw); go_simp; (try with_reducible rfl)
      case aT72 => kernel_rfl
      case bT72 => kernel_rfl
      case cT72 => kernel_rfl
      case dT72 => exact fun _ _ _ h => h
      case eT72 => rfl
      simp only [Act.put, List.getElem_toArray, List.getElem_cons_zero, List.getElem_cons_succ, List.setIfInBounds_toArray, List.set_cons_zero, List.set_cons_succ]
      refine wpAnyH_take (i := 12) (v := ?vT73) rfl ?aT73 ?bT73 ?cT73 ?dT73 (Or.inl ⟨?eT73, ?fT73⟩) hHeld ?gT73
      case fT73 => intro w hSw; (try dsimp only at hSw); go_simp; (try with_reducible rfl)
      case aT73 => kernel_rfl
      case bT73 => kernel_rfl
      case cT73 => kernel_rfl
      case dT73 => exact fun _ _ _ h => h
      case eT73 => rfl
      simp only [Act.put, List.getElem_toArray, List.getElem_cons_zero, List.getElem_cons_succ, List.setIfInBounds_toArray, List.set_cons_zero, List.set_cons_succ]
      refine wpAnyH_take (i := 13) (v := undef) rfl ?aT74 ?bT74 ?cT74 ?dT74 (Or.inr ?eT74) hHeld ?gT74
      case eT74 => exact ⟨rfl, rfl⟩
      case aT74 => kernel_rfl
      case bT74 => kernel_rfl
      case cT74 => kernel_rfl
      case dT74 => exact fun _ _ _ h => h
      simp only [Act.put, List.getElem_toArray, List.getElem_cons_zero, List.getElem_cons_succ, List.setIfInBounds_toArray, List.set_cons_zero, List.set_cons_succ]
      refine wpAnyH_take (i := 14) (v := undef) rfl ?aT75 ?bT75 ?cT75 ?dT75 (Or.inr ?eT75) hHeld ?gT75
      case eT75 => exact ⟨rfl, rfl⟩
      case aT75 => kernel_rfl
      case bT75 => kernel_rfl
      case cT75 => kernel_rfl
      case dT75 => exact fun _ _ _ h => h
      simp only [Act.put, List.getElem_toArray, List.getElem_cons_zero, List.getElem_cons_succ, List.setIfInBounds_toArray, List.set_cons_zero, List.set_cons_succ]
      refine wpAnyH_take (i := 15) (v := ?vT76) rfl ?aT76 ?bT76 ?cT76 ?dT76 (Or.inl ⟨?eT76, ?fT76⟩) hHeld ?gT76
      case fT76 => intro w hSw; (try dsimp only at hSw); go_simp; (try with_reducible rfl)
      case aT76 => kernel_rfl
      case bT76 => kernel_rfl
      case cT76 => kernel_rfl
      case dT76 => exact fun _ _ _ h => h
      case eT76 => rfl
      simp only [Act.put, List.getElem_toArray, List.getElem_cons_zero, List.getElem_cons_succ, List.setIfInBounds_toArray, List.set_cons_zero, List.set_cons_succ]
      refine wpAnyH_take (i := 16) (v := ?vT77) rfl ?aT77 ?bT77 ?cT77 ?dT77 (Or.inl ⟨?eT77, ?fT77⟩) hHeld ?gT77
      case fT77 => intro w hSw; (try dsimp only at hSw); go_simp; (try with_reducible rfl)
      case aT77 => kernel_rfl
      case bT77 => kernel_rfl
      case cT77 => kernel_rfl
      case dT77 => exact fun _ _ _ h => h
      case eT77 => rfl
      simp only [Act.put, List.getElem_toArray, List.getElem_cons_zero, List.getElem_cons_succ, List.setIfInBounds_toArray, List.set_cons_zero, List.set_cons_succ]
      refine wpAnyH_take (i := 17) (v := ?vT78) rfl ?aT78 ?bT78 ?cT78 ?dT78 (Or.inl ⟨?eT78, ?fT78⟩) hHeld ?gT78
      case fT78 => intro w hSw; (try dsimp only at hSw); go_simp; (try with_reducible rfl)
      case aT78 => kernel_rfl
      case bT78 => kernel_rfl
      case cT78 => kernel_rfl
      case dT78 => exact fun _ _ _ h => h
      case eT78 => rfl
      simp only [Act.put, List.getElem_toArray, List.getElem_cons_zero, List.getElem_cons_succ, List.setIfInBounds_toArray, List.set_cons_zero, List.set_cons_succ]
      refine wpAnyH_take (i := 18) (v := ?vT79) rfl ?aT79 ?bT79 ?cT79 ?dT79 (Or.inl ⟨?eT79, ?fT79⟩) hHeld ?gT79
      case fT79 => intro w hSw; (try dsimp only at hSw); go_simp; (try with_reducible rfl)
      case aT79 => kernel_rfl
      case bT79 => kernel_rfl
      case cT79 => kernel_rfl
      case dT79 => exact fun _ _ _ h => h
      case eT79 => rfl
      simp only [Act.put, List.getElem_toArray, List.getElem_cons_zero, List.getElem_cons_succ, List.setIfInBounds_toArray, List.set_cons_zero, List.set_cons_succ]
      refine wpAnyH_take (i := 19) (v := ?vT80) rfl ?aT80 ?bT80 ?cT80 ?dT80 (Or.inl ⟨?eT80, ?fT80⟩) hHeld ?gT80
      case fT80 => intro w hSw; (try dsimp only at hSw); go_simp; (try with_reducible rfl)
      case aT80 => kernel_rfl
      case bT80 => kernel_rfl
      case cT80 => kernel_rfl
      case dT80 => exact fun _ _ _ h => h
      case eT80 => rfl
      simp only [Act.put, List.getElem_toArray, List.getElem_cons_zero, List.getElem_cons_succ, List.setIfInBounds_toArray, List.set_cons_zero, List.set_cons_succ]
      refine wpAnyH_take (i := 20) (v := ?vT81) rfl ?aT81 ?bT81 ?cT81 ?dT81 (Or.inl ⟨?eT81, ?fT81⟩) hHeld ?gT81
      case fT81 => intro w hSw; (try dsimp only at hSw); go_simp; (try with_reducible rfl)
      case aT81 => kernel_rfl
      case bT81 => kernel_rfl
      case cT81 => kernel_rfl
      case dT81 => exact fun _ _ _ h => h
      case eT81 => rfl
      simp only [Act.put, List.getElem_toArray, List.getElem_cons_zero, List.getElem_cons_succ, List.setIfInBounds_toArray, List.set_cons_zero, List.set_cons_succ]
      refine wpAnyH_take (i := 21) (v := ?vT82) rfl ?aT82 ?bT82 ?cT82 ?dT82 (Or.inl ⟨?eT82, ?fT82⟩) hHeld ?gT82
      case fT82 => intro w hSw; (try dsimp only at hSw); go_simp; (try with_reducible rfl)
      case aT82 => kernel_rfl
      case bT82 => kernel_rfl
      case cT82 => kernel_rfl
      case dT82 => exact fun _ _ _ h => h
      case eT82 => rfl
      simp only [Act.put, List.getElem_toArray, List.getElem_cons_zero, List.getElem_cons_succ, List.setIfInBounds_toArray, List.set_cons_zero, List.set_cons_succ]
      refine wpAnyH_take (i := 22) (v := ?vT83) rfl ?aT83 ?bT83 ?cT83 ?dT83 (Or.inl ⟨?eT83, ?fT83⟩) hHeld ?gT83
      case fT83 => intro w hSw; (try dsimp only at hSw); go_simp; (try with_reducible rfl)
      case aT83 => kernel_rfl
      case bT83 => kernel_rfl
      case cT83 => kernel_rfl
      case dT83 => exact fun _ _ _ h => h
      case eT83 => rfl
      simp only [Act.put, List.getElem_toArray, List.getElem_cons_zero, List.getElem_cons_succ, List.setIfInBounds_toArray, List.set_cons_zero, List.set_cons_succ]
      refine wpAnyH_take (i := 23) (v := ?vT84) rfl ?aT84 ?bT84 ?cT84 ?dT84 (Or.inl ⟨?eT84, ?fT84⟩) hHeld ?gT84
      case fT84 => intro w hSw; (try dsimp only at hSw); go_simp; (try with_reducible rfl)
      case aT84 => kernel_rfl
      case bT84 => kernel_rfl
      case cT84 => kernel_rfl
      case dT84 => exact fun _ _ _ h => h
      case eT84 => rfl
      simp only [Act.put, List.getElem_toArray, List.getElem_cons_zero, List.getElem_cons_succ, List.setIfInBounds_toArray, List.set_cons_zero, List.set_cons_succ]
      refine wpAnyH_take (i := 24) (v := ?vT85) rfl ?aT85 ?bT85 ?cT85 ?dT85 (Or.inl ⟨?eT85, ?fT85⟩) hHeld ?gT85
      case fT85 => intro w hSw; (try dsimp only at hSw); go_simp; (try with_reducible rfl)
      case aT85 => kernel_rfl
      case bT85 => kernel_rfl
      case cT85 => kernel_rfl
      case dT85 => exact fun _ _ _ h => h
      case eT85 => rfl
      simp only [Act.put, List.getElem_toArray, List.getElem_cons_zero, List.getElem_cons_succ, List.setIfInBounds_toArray, List.set_cons_zero, List.set_cons_succ]
      refine wpAnyH_take (i := 25) (v := ?vT86) rfl ?aT86 ?bT86 ?cT86 ?dT86 (Or.inl ⟨?eT86, ?fT86⟩) hHeld ?gT86
      case fT86 => intro w hSw; (try dsimp only at hSw); go_simp; (try with_reducible rfl)
      case aT86 => kernel_rfl
      case bT86 => kernel_rfl
      case cT86 => kernel_rfl
      case dT86 => exact fun _ _ _ h => h
      case eT86 => rfl
      simp only [Act.put, List.getElem_toArray, List.getElem_cons_zero, List.getElem_cons_succ, List.setIfInBounds_toArray, List.set_cons_zero, List.set_cons_succ]
      refine wpAnyH_take (i := 26) (v := ?vT87) rfl ?aT87 ?bT87 ?cT87 ?dT87 (Or.inl ⟨?eT87, ?fT87⟩) hHeld ?gT87
      case fT87 => intro w hSw; (try dsimp only at hSw); go_simp; (try with_reducible rfl)
      case aT87 => kernel_rfl
      case bT87 => kernel_rfl
      case cT87 => kernel_rfl
      case dT87 => exact fun _ _ _ h => h
      case eT87 => rfl
      simp only [Act.put, List.getElem_toArray, List.getElem_cons_zero, List.getElem_cons_succ, List.setIfInBounds_toArray, List.set_cons_zero, List.set_cons_succ]
      refine wpAnyH_take (i := 27) (v := ?vT88) rfl ?aT88 ?bT88 ?cT88 ?dT88 (Or.inl ⟨?eT88, ?fT88⟩) hHeld ?gT88
      case fT88 => intro w hSw; (try dsimp only at hSw); go_simp; (try with_reducible rfl)
      case aT88 => kernel_rfl
      case bT88 => kernel_rfl
      case cT88 => kernel_rfl
      case dT88 => exact fun _ _ _ h => h
      case eT88 => rfl
      simp only [Act.put, List.getElem_toArray, List.getElem_cons_zero, List.getElem_cons_succ, List.setIfInBounds_toArray, List.set_cons_zero, List.set_cons_succ]
      refine wpAnyH_take (i := 28) (v := ?vT89) rfl ?aT89 ?bT89 ?cT89 ?dT89 (Or.inl ⟨?eT89, ?fT89⟩) hHeld ?gT89
      case fT89 => intro w hSw; (try dsimp only at hSw); go_simp; (try with_reducible rfl)
      case aT89 => kernel_rfl
      case bT89 => kernel_rfl
      case cT89 => kernel_rfl
      case dT89 => exact fun _ _ _ h => h
      case eT89 => rfl
      simp only [Act.put, List.getElem_toArray, List.getElem_cons_zero, List.getElem_cons_succ, List.setIfInBounds_toArray, List.set_cons_zero, List.set_cons_succ]
      refine wpAnyH_ready (rs := [29]) (by kernel_rfl) (by simp) ?_
      refine (AllReadyH.cons (o := _) rfl (fun K hK => ?_) AllReadyH.nil)
      go_simp
      refine (HLz.out _).mono ?_
      rintro e9 w5 ⟨rfl, hk⟩
      have hk' : Keeps NoBlock wr.drew w5 := by first | exact hk | exact hk.ofDrew | exact hk.ofDrewN
      have HKr := Lib.hid (HKr.out.trans hk')
      have HCr := Lib.hid (HCr.out.keep hk' (fun h => h))
      have HZr := Lib.hid (hk'.cell HZr.out (fun h => h))
      have hS5 := And.intro (conf_at HCr.out) HZr.out
      clear hk hk'
      go_wp2_with fail
      refine hK.out _ _ hS5 (fun _ => ?_)
      clear hK K
      refine wpAnyH_take (i := 30) (v := ?vT90) rfl ?aT90 ?bT90 ?cT90 ?dT90 (Or.inl ⟨?eT90, ?fT90⟩) hS5 ?gT90
      case fT90 => intro w hSw; (try dsimp only at hSw); go_simp; (try with_reducible rfl)
      case aT90 => kernel_rfl
      case bT90 => kernel_rfl
      case cT90 => kernel_rfl
      case dT90 => exact fun _ _ _ h => h
      case eT90 => rfl
      simp only [Act.put, List.getElem_toArray, List.getElem_cons_zero, List.getElem_cons_succ, List.setIfInBounds_toArray, List.set_cons_zero, List.set_cons_succ]
      refine wpAnyH_done (by kernel_rfl) ?_ _
      obtain ⟨wr, rfl⟩ : ∃ x, x = w5 := ⟨_, rfl⟩
      have u1 : IntKind.i64.wrap ((r.used : Int) + (zn : Int)) = (r.used : Int) + (zn : Int) := IntWalk.i64_in _ (by omega)
      have u2 : IntKind.i64.wrap ((r.used : Int) + (zn : Int) + (MO : Int)) = (r.used : Int) + (zn : Int) + (MO : Int) := IntWalk.i64_in _ (by omega)
      have u3 : IntKind.i64.wrap ((r.count : Int) + 1) = (r.count : Int) + 1 := IntWalk.i64_in _ (by omega)
      have u4 : decide ((r.used : Int) + (zn : Int) + (MO : Int) ≤ (PW : Int)) = false := decide_eq_false (by omega)
      have u4b : decide (r.used + zn + MO ≤ PW) = false := decide_eq_false (by omega)
      have u5 : ((r.count : Int) == 0) = false := beq_eq_false_iff_ne.2 (by omega)
      go_upto_region 16 with (fail)
      have s0 := And.intro (conf_at (Whole.drewN HCr.out 1)) (show wr.drew.cell? _ = _ from HZr.out)
      have sN := And.intro (conf_at HCr.out) HZr.out
      go_wp2_with fail
      go_region_held3 (fun w' => (w'.cell? ⟨w.heap.size, 0, none⟩ = some (.int .u8 (e : Int)) ∧ w'.cell? ⟨w.heap.size, 1, none⟩ = some (.int .u32 (s : Int))) ∧ w'.cell? (⟨az.block, az.off + (k + 1), none⟩) = some (.int .i64 (zn : Int)))
        (first | exact s5 | exact s0 | exact sN)
        (first | (go_at_call 21; refine (HMc.out _).mono ?_; rintro e9 w5 ⟨rfl, hk⟩; have hk' : Keeps NoBlock wr w5 := (by first | exact hk | exact hk.ofDrew | exact hk.ofDrewN); have HKr := Lib.hid (HKr.out.trans hk'); have HCr := Lib.hid (HCr.out.keep hk' (fun h => h)); have HZr := Lib.hid (hk'.cell HZr.out (fun h => h)); have s5 := And.intro (conf_at HCr.out) HZr.out; clear hk hk'; obtain ⟨wr, rfl⟩ : ∃ x, x = w5 := ⟨_, rfl⟩) | (go_at_call 22; refine (HSz.out _).mono ?_; rintro e9 w5 ⟨rfl, hk⟩; have hk' : Keeps NoBlock wr w5 := (by first | exact hk | exact hk.ofDrew | exact hk.ofDrewN); have HKr := Lib.hid (HKr.out.trans hk'); have HCr := Lib.hid (HCr.out.keep hk' (fun h => h)); have HZr := Lib.hid (hk'.cell HZr.out (fun h => h)); have s5 := And.intro (conf_at HCr.out) HZr.out; clear hk hk'; obtain ⟨wr, rfl⟩ : ∃ x, x = w5 := ⟨_, rfl⟩))
      clear s0 sN s5
      obtain ⟨x0, x1⟩ := conf_at HCr.out
      go_wp2_with fail
      refine (HHn.out _).mono ?_
      rintro e9 w7 ⟨rfl, hk⟩
      have HKr := Lib.hid (HKr.out.trans hk)
      have HCr := Lib.hid (HCr.out.keep hk (fun h => h))
      have HZr := Lib.hid (hk.cell HZr.out (fun h => h))
      clear hk x0 x1
      obtain ⟨wr, rfl⟩ : ∃ x, x = w7 := ⟨_, rfl⟩
      have zc := HZr.out
      have v1 : IntKind.i64.wrap ((H1 : Int) + (zn : Int)) = (H1 : Int) + (zn : Int) := IntWalk.i64_in _ (by omega)
      have v2 : IntKind.i64.wrap ((H1 : Int) + (zn : Int) + (M1 : Int)) = (H1 : Int) + (zn : Int) + (M1 : Int) := IntWalk.i64_in _ (by omega)
      have v4 : decide ((PW : Int) < (H1 : Int) + (zn : Int) + (M1 : Int)) = false := decide_eq_false (by omega)
      have v4b : decide (PW < H1 + zn + M1) = false := decide_eq_false (by omega)
      go_upto_region 20 with (fail)
      have s0 := And.intro (conf_at (Whole.drewN HCr.out 1)) (show wr.drew.cell? _ = _ from HZr.out)
      have sN := And.intro (conf_at HCr.out) HZr.out
      go_wp2_with fail
      go_region_held3 (fun w' => (w'.cell? ⟨w.heap.size, 0, none⟩ = some (.int .u8 (e : Int)) ∧ w'.cell? ⟨w.heap.size, 1, none⟩ = some (.int .u32 (s : Int))) ∧ w'.cell? (⟨az.block, az.off + (k + 1), none⟩) = some (.int .i64 (zn : Int)))
        (first | exact s5 | exact s0 | exact sN)
        (first | (go_at_call 21; refine (HM1.out _).mono ?_; rintro e9 w5 ⟨rfl, hk⟩; have hk' : Keeps NoBlock wr w5 := (by first | exact hk | exact hk.ofDrew | exact hk.ofDrewN); have HKr := Lib.hid (HKr.out.trans hk'); have HCr := Lib.hid (HCr.out.keep hk' (fun h => h)); have HZr := Lib.hid (hk'.cell HZr.out (fun h => h)); have s5 := And.intro (conf_at HCr.out) HZr.out; clear hk hk'; obtain ⟨wr, rfl⟩ : ∃ x, x = w5 := ⟨_, rfl⟩) | (go_at_call 22; refine (HSz.out _).mono ?_; rintro e9 w5 ⟨rfl, hk⟩; have hk' : Keeps NoBlock wr w5 := (by first | exact hk | exact hk.ofDrew | exact hk.ofDrewN); have HKr := Lib.hid (HKr.out.trans hk'); have HCr := Lib.hid (HCr.out.keep hk' (fun h => h)); have HZr := Lib.hid (hk'.cell HZr.out (fun h => h)); have s5 := And.intro (conf_at HCr.out) HZr.out; clear hk hk'; obtain ⟨wr, rfl⟩ : ∃ x, x = w5 := ⟨_, rfl⟩))
      clear s0 sN s5
      have hJ := HJ.out
      go_wp2_with fail
      exact ⟨⟨(k + 1) + 1, by omega, by go_num, by rw [← HR2.out, HU2.out.1]; go_num, by rw [← HR2.out, HU2.out.2]; go_num, HKr⟩, by simp [intOf]; omega⟩

theorem pkgreedy_walk (H : PkPlanOk) (HL : PkLargeOk) (HM : FtMostOk) (e s : Nat) (p : Option Addr) (n c : Nat) (zs : List Int) (w : World) (he : e < 256) (hs : s < 4294967296) (hz : InZ w p n c zs) :
    Calls Try.prog 5 #[confV e s, .slice p n c] w fun e w' => e = .returned (.bool true) ∧ Keeps NoBlock w w' := by
  by_cases hg : n ≤ 200
  · by_cases hy : (planP e s zs).1 = 0
    · exact pkgreedy_good H HL HM e s p n c zs w he hs hz hg hy
    · exact pkgreedy_bad H e s p n c zs w he hs hz hg hy
  · exact pkgreedy_big H e s p n c w (by omega)
end Go.Proofs.Ytibojgoeaoinpaa

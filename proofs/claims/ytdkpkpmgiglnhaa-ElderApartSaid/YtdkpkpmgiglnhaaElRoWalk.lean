/-
  The law ElderRows: its walk.
-/
import Derived.Test.YtdkpkpmgiglnhaaElSame
namespace Go.Proofs.Ytdkpkpmgiglnhaa
open Go.RowKit

theorem checkAll_take : ∀ {l : List Pr} {j : Nat}, j < l.length → checkAll (l.take (j + 1)) = if checkAll (l.take j) = 0 then checkP (l.getD j Pr.none) else checkAll (l.take j)
  | [], j, h => by simp at h
  | p :: l, 0, _ => by simp [checkAll]; exact fun h => h.symm
  | p :: l, j + 1, h => by
    rw [List.take_succ_cons, List.take_succ_cons]
    unfold checkAll
    by_cases hp : checkP p = 0
    · rw [if_pos hp, if_pos hp, checkAll_take (by simpa using h)]
      simp
    · rw [if_neg hp, if_neg hp, if_neg hp]
theorem little_both {b : Nat} {r : Pr} (h : littleP b r = true) : r.key.length ≤ b ∧ r.val.length ≤ b := by
  unfold littleP at h
  rw [Bool.and_eq_true, decide_eq_true_eq, decide_eq_true_eq] at h
  exact h
theorem text_few : ∀ {l : List Pr} {b : Nat}, l.all (littleP b) = true → (textAll l).length ≤ l.length * (2 * b + 12)
  | [], _, _ => by simp [textAll]
  | p :: l, b, h => by
    rw [List.all_cons, Bool.and_eq_true] at h
    have h1 := little_both h.1
    have h2 := text_few h.2
    show (textP p ++ textAll l).length ≤ _
    rw [List.length_append, textP_length, List.length_cons, Nat.succ_mul]
    omega
theorem few_both {l : List Pr} {n b : Nat} (h : fewP l n b = true) : l.all (littleP b) = true ∧ l.length ≤ n := by
  unfold fewP at h
  rw [Bool.and_eq_true, decide_eq_true_eq] at h
  exact h
theorem textAll_octets : ∀ {l : List Pr}, (∀ r ∈ l, r.Fine) → Octets (textAll l)
  | [], _ => fun b hb => by simp [textAll] at hb
  | p :: l, h => (textP_octets (h p List.mem_cons_self)).app (textAll_octets (fun r hr => h r (List.mem_cons_of_mem _ hr)))
theorem prNeE (p : Pr) (w : World) : (binOp .neq 30 (.agg #[.string (strOfNums p.key), .string (strOfNums p.val)]) (.agg #[.string (strOfNums p.key), .string (strOfNums p.val)])).run Try.prog w = .ok (.bool false) w := by
  simp [go_sem]

theorem elrows_many (H : ElderOk) (p : Option Addr) (n c : Nat) (l : List Pr) (z : Int) (w : World) (hn : n = l.length) (hn9 : n ≤ 9223372036854775807) (hs : ∀ r ∈ l, r.key.length ≤ 9223372036854775807 ∧ r.val.length ≤ 9223372036854775807) (hl : PrsAt w p l) (hg : fewP l 20 300 = false) :
    Calls Try.prog 7 #[.slice p n c, .int .u16 z] w fun e w' => e = .returned (.bool true) ∧ Keeps NoBlock w w' := by
  have HLv := Lib.hid (fun w => lives10_true H w)
  have HFw := Lib.hid (fun w hl => few10_any p n c l 20 300 20 300 rfl rfl hn hn9 hs w hl)
  rw [hg] at HFw
  have HL := Lib.hid hl
  clear H hg hs hl hn
  go_enter Try.func7, Try.ntmps7
  go_wp2_with fail
  refine (HLv.out _).mono ?_
  rintro e w1 ⟨rfl, hk⟩
  have HK := Lib.hid hk
  clear hk
  go_wp2_with fail
  refine (HFw.out _ (HL.out.keep HK.out (fun _ _ h => h))).mono ?_
  rintro e w2 ⟨rfl, hk⟩
  have HK := Lib.hid (HK.out.trans hk)
  clear hk
  go_wp2_with fail
  refine (HLv.out _).mono ?_
  rintro e w3 ⟨rfl, hk⟩
  have HK := Lib.hid (HK.out.trans hk)
  clear hk
  go_wp2_with fail
  go_ret
  exact ⟨rfl, HK.out⟩

set_option maxHeartbeats 8000000 in
set_option maxRecDepth 10000 in
theorem elrows_few (H : ElderOk) (p : Option Addr) (n c : Nat) (l : List Pr) (s : Nat) (z : Int) (hz : z = (s : Int)) (hs16 : s < 65536) (w : World) (hn : n = l.length) (hc : n ≤ c) (hc' : c ≤ 9223372036854775807) (hf : ∀ r ∈ l, r.Fine) (hl : PrsAt w p l) (hg : fewP l 20 300 = true) :
    Calls Try.prog 7 #[.slice p n c, .int .u16 z] w fun e w' => e = .returned (.bool true) ∧ Keeps NoBlock w w' := by
  subst hz
  obtain ⟨hall, hlen⟩ := few_both hg
  have hlit : ∀ r ∈ l, r.key.length ≤ 300 ∧ r.val.length ≤ 300 := fun r hr => little_both (List.all_eq_true.1 hall r hr)
  have hsm : ∀ r ∈ l, r.Small := fun r hr => ⟨hf r hr, by have := (hlit r hr).1; omega, by have := (hlit r hr).2; omega⟩
  have htl := text_few hall
  have htl2 : (textAll l).length ≤ 12240 := by
    have := Nat.mul_le_mul_right (2 * 300 + 12) hlen
    omega
  have HLv := Lib.hid (fun w => lives10_true H w)
  have HFw := Lib.hid (fun w hl => few10_any p n c l 20 300 20 300 rfl rfl hn (by omega) (fun r hr => by have := hlit r hr; omega) w hl)
  rw [hg] at HFw
  have HCr := Lib.hid (fun r (hr : r ∈ l) w => check10_ref r (by have := (hlit r hr).1; omega) (by have := (hlit r hr).2; omega) w)
  have HPa := Lib.hid (fun w hl => H.putall p n c l w hn hc hc' (by omega) hsm (by omega) hl)
  have HCT := Lib.hid (fun j (h : j < l.length) => checkAll_take h)
  have ho := textAll_octets hf
  have HGa := Lib.hid (fun q d w (h1 : (textAll l).length ≤ d) h2 h3 hb8 => H.getall q (textAll l).length d (textAll l) w ⟨rfl, h1, h2, h3, ho, hb8⟩ (by omega))
  have HGp := Lib.hid (fun q d K w (hK : K ≤ (textAll l).length) (h1 : K ≤ d) h2 h3 hb8 => H.getall q K d ((textAll l).take K) w ⟨by rw [List.length_take]; omega, h1, h2, h3, ho.take K, hb8⟩ (by omega))
  have HO := Lib.hid ho
  have HL := Lib.hid hl
  have HN := Lib.hid hn
  have HF := Lib.hid hf
  have HSm := Lib.hid hsm
  have HTl := Lib.hid htl2
  have hn20 : n ≤ 20 := by omega
  clear hall hlen hlit hsm htl htl2 hg hl hn hf ho H
  go_enter Try.func7, Try.ntmps7
  go_wp2_with fail
  refine (HLv.out _).mono ?_
  rintro e w1 ⟨rfl, hk⟩
  have HK1 := Lib.hid hk
  clear hk
  go_wp2_with fail
  refine (HFw.out _ (HL.out.keep HK1.out (fun _ _ h => h))).mono ?_
  rintro e w2 ⟨rfl, hk⟩
  have HK2 := Lib.hid (HK1.out.trans hk)
  clear hk HK1
  go_wp2_with fail
  go_loopw [5, 29] (fun u i wr => ∃ j : Nat, j ≤ n ∧ i = .int .i64 (j : Int) ∧ Hid (u = .int .i64 (checkAll (l.take j))) ∧ Hid (Keeps NoBlock w wr)) (fun _ i _ => n - (intOf i).toNat)
  case atStart => exact ⟨0, Nat.zero_le _, rfl, Lib.hid rfl, HK2⟩
  case round =>
    obtain ⟨j, hj, rfl, HU, HK⟩ := hrel
    obtain ⟨u0, hu0⟩ : ∃ u0, u0 = checkAll (l.take j) := ⟨_, rfl⟩
    rw [← hu0] at HU
    obtain rfl := HU.out
    by_cases hlt : j < n
    · have hdj : decide (j < n) = true := decide_eq_true hlt
      have hjl : j < l.length := by rw [← HN.out]; exact hlt
      obtain ⟨a, rfl, c0, c1⟩ := (HL.out.keep HK.out (fun _ _ h => h)) j hjl
      have hmem : l.getD j Pr.none ∈ l := by simp [hjl]
      have hct := HCT.out j hjl
      rw [← hu0] at hct
      have HCj := Lib.hid (fun w => HCr.out _ hmem w)
      obtain ⟨r, hr⟩ : ∃ r, r = l.getD j Pr.none := ⟨_, rfl⟩
      rw [← hr] at c0 c1 hct HCj
      unfold prV at HCj
      have HCt := Lib.hid hct
      clear hr hmem hjl hct hu0 HU
      by_cases hu : u0 = 0
      · subst hu
        go_wp2_with fail
        refine (HCj.out _).mono ?_
        rintro e w3 ⟨rfl, hk⟩
        have HK3 := Lib.hid ((HK.out.alloc _).trans hk)
        clear hk
        go_wp2_with fail
        go_roundw
        case rel => exact ⟨j + 1, by omega, by go_num, Lib.hid (by rw [HCt.out]; rfl), HK3⟩
        case measure => simp [intOf]; omega
      · go_wp2_with fail
        go_roundw
        case rel => exact ⟨j + 1, by omega, by go_num, Lib.hid (by rw [HCt.out, if_neg hu]), Lib.hid (HK.out.alloc _)⟩
        case measure => simp [intOf]; omega
    · have hdj : decide (j < n) = false := decide_eq_false hlt
      have htake : l.take j = l := List.take_of_length_le (by have := HN.out; omega)
      rw [htake] at hu0
      rw [← hu0] at HPa
      have hcc : (u0 != u0) = false := by simp
      clear htake HCT HCr HU hj
      by_cases hz0 : u0 = 0
      · subst hz0
        have hok := checkAll_ok.1 hu0.symm
        have hps : putsP l = textAll l := by unfold putsP; rw [if_pos hu0.symm]
        have HPt := Lib.hid (fun K (hK : K ≤ (textAll l).length) => allP_part l K hok hK)
        have HOn := Lib.hid (fun K => allP_only ((textAll l).take K).length ((textAll l).take K) (Nat.le_refl _) (HO.out.take K))
        rw [hps] at HPa
        rw [allP_back hok] at HGa
        unfold AllOk NewPrs at HGa HGp
        simp only at HGa
        obtain ⟨T, hT⟩ : ∃ T, T = (textAll l).length := ⟨_, rfl⟩
        have HTT := Lib.hid hT
        rw [← hT] at HGa HTl HPt HGp
        clear hu0 hok hps hT
        go_wp2_with fail
        refine (HPa.out _ (HL.out.keep HK.out (fun _ _ h => h))).mono ?_
        rintro e w3 ⟨v, rfl, q, m, d, rfl, hm, hmd, hd, hq0, hb8, hk⟩
        have hmT : m = T := hm.trans HTT.out.symm
        subst hmT
        have HK3 := Lib.hid (HK.out.trans hk)
        have HB := Lib.hid hb8
        have HQ0 := Lib.hid hq0
        have HTn := Lib.hid hm
        clear hk hm hb8 hq0 HK HPa HTT
        go_wp2_with fail
        refine (HGa.out q d _ hmd hd HQ0.out HB.out).mono ?_
        rintro e w4 ⟨v, rfl, q2, m2, d2, rfl, hm2, hmd2, hd2, hq2, hl2, hk⟩
        have hm2n : m2 = n := hm2.trans HN.out.symm
        subst hm2n
        have HK4 := Lib.hid (HK3.out.trans hk)
        have HL2 := Lib.hid hl2
        have HB4 := Lib.hid (HB.out.keep hk (fun _ _ h => h))
        have hTT : ((m : Int) != (m : Int)) = false := by simp
        have hnn : ((m2 : Int) != (m2 : Int)) = false := by simp
        clear hk hm2 hl2 hq2 HK3 HB HGa
        go_wp2_with fail
        go_loopw [74] (fun i wr => ∃ j : Nat, j ≤ m2 ∧ i = .int .i64 (j : Int) ∧ Hid (Keeps NoBlock w4 wr)) (fun i _ => m2 - (intOf i).toNat)
        case atStart => exact ⟨0, Nat.zero_le _, rfl, Lib.hid (Keeps.refl _ _)⟩
        case round =>
          obtain ⟨j2, hj2, rfl, HKr⟩ := hrel
          by_cases hlt : j2 < m2
          · have hdj : decide (j2 < m2) = true := decide_eq_true hlt
            have hjl : j2 < l.length := by rw [← HN.out]; exact hlt
            obtain ⟨a, rfl, a0, a1⟩ := (HL.out.keep (HK4.out.trans HKr.out) (fun _ _ h => h)) j2 hjl
            obtain ⟨b, rfl, b0, b1⟩ := (HL2.out.keep HKr.out (fun _ _ h => h)) j2 hjl
            obtain ⟨r, hr⟩ : ∃ r, r = l.getD j2 Pr.none := ⟨_, rfl⟩
            rw [← hr] at a0 a1 b0 b1
            have hne := prNeE r
            clear hr hjl
            go_wp2_with fail
            go_quiet (fail)
            go_wp2_with fail
            go_roundw
            case rel => exact ⟨j2 + 1, by omega, by go_num, Lib.hid (by first | exact HKr.out.drewN _ | exact HKr.out)⟩
            case measure => simp [intOf]; omega
          · have hdj : decide (j2 < m2) = false := decide_eq_false hlt
            have HK5 := Lib.hid (HK4.out.trans HKr.out)
            have HB5 := Lib.hid (HB4.out.keep HKr.out (fun _ _ h => h))
            obtain ⟨K, hK⟩ : ∃ K, K = s % (m + 1) := ⟨_, rfl⟩
            have hKm : K ≤ m := by have := Nat.mod_lt s (show m + 1 > 0 by omega); omega
            have hKd : K ≤ d := by omega
            have ht1 : (s : Int).tmod ((m : Int) + 1) = (K : Int) := by
              rw [Int.tmod_eq_emod_of_nonneg (by omega), hK]
              push_cast
              rfl
            have hw0 : IntKind.i64.wrap (s : Int) = (s : Int) := by rw [IntKind.wrap_i64]; omega
            have hw1 : IntKind.i64.wrap ((m : Int) + 1) = (m : Int) + 1 := by rw [IntKind.wrap_i64]; have := HTl.out; omega
            have hw2 : IntKind.i64.wrap (K : Int) = (K : Int) := by rw [IntKind.wrap_i64]; have := HTl.out; omega
            have HKK := Lib.hid hK
            obtain ⟨i, hi, hAl, hAe⟩ := HPt.out K hKm
            obtain ⟨_, hAn, _, hAq⟩ := HOn.out K
            rw [List.length_take, Nat.min_eq_left (by rw [← HTn.out]; exact hKm)] at hAn hAq
            have HGk := Lib.hid (fun q d w h1 h2 h3 hb8 => HGp.out q d K w hKm h1 h2 h3 hb8)
            obtain ⟨A, hA⟩ : ∃ A, A = allP ((textAll l).take K) := ⟨_, rfl⟩
            rw [← hA] at HGk hAl hAe hAn hAq
            have hb0 : ∃ b : Bool, (A.e == 0) = b ∧ ((A.n : Int) == (K : Int)) = b ∧ (b = false → (A.e == 2) = true) := by
              by_cases he : A.e = 0
              · exact ⟨true, by rw [he]; rfl, by rw [hAq.1 he]; simp, fun h => by cases h⟩
              · refine ⟨false, beq_eq_false_iff_ne.2 he, beq_eq_false_iff_ne.2 (fun h => he (hAq.2 (by omega))), fun _ => ?_⟩
                rcases hAe with h | h
                · exact absurd h he
                · rw [h]; rfl
            obtain ⟨b, hb1, hb2, hb3⟩ := hb0
            have hAl2 := congrArg List.length hAl
            rw [List.length_take, Nat.min_eq_left hi] at hAl2
            have HAl := Lib.hid hAl
            have HAl2 := Lib.hid hAl2
            have hin : i ≤ m2 := by rw [HN.out]; exact hi
            have hg1 : decide ((m2 : Int) < (i : Int)) = false := decide_eq_false (by omega)
            have hg2 : decide ((K : Int) < (A.n : Int)) = false := decide_eq_false (by omega)
            have HB6 := Lib.hid (Bytes8.left (ys := (textAll l).drop K) (by rw [List.take_append_drop]; exact HB5.out))
            have HQK : Hid (q = none → K = 0 ∧ d = 0) := Lib.hid (fun h => by have := HQ0.out h; omega)
            clear hA hAl hAe hAn hAq hK hAl2 hi HGp HOn HPt HK4 HB4 HKr
            cases b
            all_goals
              go_wp2_with fail
              refine (HGk.out q d _ hKd hd HQK.out HB6.out).mono ?_
              rintro e w6 ⟨v, rfl, q6, m6, d6, rfl, hm6, hmd6, hd6, hq6, hl6, hk⟩
              have hmi : m6 = i := hm6.trans HAl2.out
              subst hmi
              have HK6 := Lib.hid (HK5.out.trans hk)
              have HL6 := Lib.hid hl6
              have hg3 : decide (m2 < m6) = false := decide_eq_false (by omega)
              have hg4 : decide (K < A.n) = false := decide_eq_false (fun h => by rw [decide_eq_false_iff_not] at hg2; omega)
              clear hk hm6 hl6 hq6
              go_wp2_with fail
              go_loopw [121] (fun i wr => ∃ j : Nat, j ≤ m6 ∧ i = .int .i64 (j : Int) ∧ Hid (Keeps NoBlock w6 wr)) (fun i _ => m6 - (intOf i).toNat)
              case atStart => exact ⟨0, Nat.zero_le _, rfl, Lib.hid (Keeps.refl _ _)⟩
              case round =>
                obtain ⟨j3, hj3, rfl, HKr⟩ := hrel
                by_cases hlt3 : j3 < m6
                · have hdj3 : decide (j3 < m6) = true := decide_eq_true hlt3
                  have hjm : j3 < m2 := by omega
                  have hjl : j3 < l.length := by rw [← HN.out]; omega
                  obtain ⟨a, rfl, a0, a1⟩ := (HL.out.keep (HK6.out.trans HKr.out) (fun _ _ h => h)) j3 hjl
                  obtain ⟨b, rfl, b0, b1⟩ := (HL6.out.keep HKr.out (fun _ _ h => h)) j3 (by rw [HAl2.out]; exact hlt3)
                  have hge : A.l.getD j3 Pr.none = l.getD j3 Pr.none := by rw [HAl.out]; simp [List.getD_eq_getElem?_getD, hlt3]
                  rw [hge] at b0 b1
                  obtain ⟨r, hr⟩ : ∃ r, r = l.getD j3 Pr.none := ⟨_, rfl⟩
                  rw [← hr] at a0 a1 b0 b1
                  have hne := prNeE r
                  clear hr hjl hge
                  go_wp2_with fail
                  go_quiet (fail)
                  go_wp2_with fail
                  go_roundw
                  case rel => exact ⟨j3 + 1, by omega, by go_num, Lib.hid (by first | exact HKr.out.drewN _ | exact HKr.out)⟩
                  case measure => simp [intOf]; omega
                · have hdj3 : decide (j3 < m6) = false := decide_eq_false hlt3
                  try have hb4 := hb3 rfl
                  go_wp2_with fail
                  go_ret
                  exact ⟨rfl, HK6.out.trans HKr.out⟩
      · have hps : putsP l = [] := by unfold putsP; rw [if_neg (by rw [← hu0]; exact hz0)]
        rw [hps] at HPa
        have hzb : (u0 != 0) = true := by rw [bne_iff_ne]; exact hz0
        clear hu0 hps
        go_wp2_with fail
        refine (HPa.out _ (HL.out.keep HK.out (fun _ _ h => h))).mono ?_
        rintro e w3 ⟨v, rfl, q, m, d, rfl, hm, hmd, hd, hq0, hb8, hk⟩
        have hm0 : m = 0 := hm
        subst hm0
        have HK3 := Lib.hid (HK.out.trans hk)
        clear hk hm hb8 hq0
        go_wp2_with fail
        go_ret
        exact ⟨rfl, HK3.out⟩

theorem elrows_walk (H : ElderOk) (p : Option Addr) (n c : Nat) (l : List Pr) (s : Nat) (z : Int) (hz : z = (s : Int)) (hs16 : s < 65536) (w : World) (hn : n = l.length) (hc : n ≤ c) (hc' : c ≤ 9223372036854775807) (hf : ∀ r ∈ l, r.Fine) (hs : ∀ r ∈ l, r.key.length ≤ 9223372036854775807 ∧ r.val.length ≤ 9223372036854775807) (hl : PrsAt w p l) :
    Calls Try.prog 7 #[.slice p n c, .int .u16 z] w fun e w' => e = .returned (.bool true) ∧ Keeps NoBlock w w' := by
  by_cases hg : fewP l 20 300 = true
  · exact elrows_few H p n c l s z hz hs16 w hn hc hc' hf hl hg
  · exact elrows_many H p n c l z w hn (by omega) hs hl (by simpa using hg)
end Go.Proofs.Ytdkpkpmgiglnhaa

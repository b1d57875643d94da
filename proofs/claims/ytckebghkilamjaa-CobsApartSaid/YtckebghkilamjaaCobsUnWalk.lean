/-
  The law CobsUnstuffs: its walk.
-/
import Derived.Test.YtckebghkilamjaaCobsLaws
import Derived.Deep.RegionHeld3
import Derived.BigQuiet
namespace Go.Proofs.Ytckebghkilamjaa
open Go.RowKit

/-- A region's condition may be made stronger on the way. -/
theorem wpAnyH_swap {P : Program} {md : Region.Mode} {ops : Array Oper} {Q : Exit → Act → World → Prop} {S S' : World → Prop} (h : ∀ w, S' w → S w) : ∀ (fuel : Nat) (listed : Array Bool) (a : Act) (w : World), wpAnyH P md ops Q S' fuel listed a w → wpAnyH P md ops Q S fuel listed a w
  | 0, _, _, _, hh => hh
  | fuel + 1, _, _, _, hh => ⟨hh.1, fun i hi => wpOp_mono (fun _ _ h' => ⟨h _ h'.1, wpAnyH_swap h fuel _ _ _ h'.2⟩) (hh.2 i hi)⟩

theorem dec_octets : ∀ (m : Nat) (xs o : List Int), xs.length ≤ m → Solid xs → dec xs = some o → Octets o ∧ o.length ≤ xs.length
  | _, [], o, _, _, h => by
    rw [dec] at h
    obtain rfl := Option.some.inj h
    exact ⟨fun b hb => by simp at hb, Nat.le_refl _⟩
  | 0, n :: r, o, hm, _, _ => by simp at hm
  | m + 1, n :: r, o, hm, hs, h => by
    rw [dec] at h
    split at h
    · simp at h
    · obtain ⟨o', ho', rfl⟩ := Option.map_eq_some_iff.1 h
      have hn := hs n List.mem_cons_self
      have hr : Solid r := fun b hb => hs b (List.mem_cons_of_mem _ hb)
      obtain ⟨h1, h2⟩ := dec_octets m (r.drop (n.toNat - 1)) o' (by simp at hm ⊢; omega) (fun b hb => hr b (List.mem_of_mem_drop hb)) ho'
      refine ⟨?_, ?_⟩
      · intro b hb
        rcases List.mem_append.1 hb with hb | hb
        · rcases List.mem_append.1 hb with hb | hb
          · exact hr.octets b (List.mem_of_mem_take hb)
          · split at hb
            · rw [List.mem_singleton.1 hb]; omega
            · simp at hb
        · exact h1 b hb
      · have : (if n < 255 ∧ r.drop (n.toNat - 1) ≠ [] then [0] else ([] : List Int)).length ≤ 1 := by split <;> simp
        simp only [List.length_append, List.length_take, List.length_drop, List.length_cons] at h2 ⊢
        omega
theorem unst_octets {xs : List Int} (h : Octets xs) : Octets (unst xs).2 ∧ (unst xs).2.length ≤ xs.length := by
  have h00 : Octets [] ∧ ([] : List Int).length ≤ xs.length := ⟨fun b hb => by simp at hb, Nat.zero_le _⟩
  unfold unst
  split
  · exact h00
  · rename_i h0
    split
    · exact h00
    · split
      · exact h00
      · split
        · have hso : Solid xs := fun b hb => by
            have h1 := h b hb
            have h2 : b ≠ 0 := fun e => h0 (e ▸ hb)
            exact ⟨by omega, h1.2⟩
          exact dec_octets xs.length xs _ (Nat.le_refl _) hso (by assumption)
        · exact h00

set_option maxHeartbeats 4000000 in
set_option maxRecDepth 10000 in
theorem unstuffs_small (H : CobsOk) (p : Option Addr) (N c : Nat) (xs : List Int) (z : Int) (w : World) (hx : N = xs.length) (hb : Bytes8 w p xs) (hoc : Octets xs) (hc : N ≤ c) (hc' : c ≤ 9223372036854775807) (hn0 : p = none → N = 0 ∧ c = 0) (hg : N ≤ 400) (hz : 0 ≤ z ∧ z < 65536) :
    Calls Try.prog 4 #[.slice p N c, .int .u16 z] w fun e w' => e = .returned (.bool true) ∧ Keeps NoBlock w w' := by
  obtain ⟨L, hL⟩ : ∃ L : Nat, z % 1100 = (L : Int) := ⟨(z % 1100).toNat, by omega⟩
  have hL1 : L < 1100 := by omega
  have HLv := Lib.hid (fun w => lives5_true H w)
  have HB := Lib.hid hb
  have HLo := Lib.hid (fun w hb => long_any p N c xs z L w hx hb hc hc' hn0 (by omega) hz.1 hL)
  have hxo : Octets (xs ++ solidN L) := fun b hb => (List.mem_append.1 hb).elim (hoc b) ((solidN_solid L).octets b)
  have hX : N + L = (xs ++ solidN L).length := by rw [List.length_append, solidN_length, hx]
  obtain ⟨ys, hys⟩ : ∃ ys, ys = xs ++ solidN L := ⟨_, rfl⟩
  rw [← hys] at HLo hxo hX
  obtain ⟨M, hM⟩ : ∃ M, M = N + L := ⟨_, rfl⟩
  rw [← hM] at HLo hX
  have hM1 : M ≤ 1500 := by omega
  have HX := Lib.hid hX
  have HXO := Lib.hid hxo
  have HUn := Lib.hid (fun (q : Option Addr) (d : Nat) w (hd : M ≤ d) (hd' : d ≤ 9223372036854775807) (hq : q = none → M = 0 ∧ d = 0) hb => H.unstuff q M d ys w hX hd hd' hq hxo (by omega) hb)
  have HRf := Lib.hid (fun w => unstuff_ref ys hxo (by omega) w)
  have HUZ := Lib.hid (fun h => unst_zero (xs := ys) (ys := (unst ys).2) (Prod.ext h rfl))
  have HUO := Lib.hid (unst_octets hxo)
  obtain ⟨cd, hcd⟩ : ∃ cd, cd = (unst ys).1 := ⟨_, rfl⟩
  obtain ⟨os, hos⟩ : ∃ os, os = (unst ys).2 := ⟨_, rfl⟩
  rw [← hcd] at HUn HRf HUZ
  rw [← hos] at HUn HRf HUZ HUO
  have HSt := Lib.hid H.stuff
  have hgN : decide ((400 : Int) < (N : Int)) = false := decide_eq_false (by omega)
  clear H hb hx hoc hn0 hX hxo hM hys hcd hos hz hc hc'
  go_enter Try.func4, Try.ntmps4
  go_wp2_with fail
  refine (HLv.out _).mono ?_
  rintro e w1 ⟨rfl, hk⟩
  have HK1 := Lib.hid hk
  clear hk
  go_wp2_with fail
  refine (HLo.out _ (HB.out.keep HK1.out (fun _ _ h => h))).mono ?_
  rintro e w2 ⟨v, rfl, hcop⟩
  obtain ⟨q, d, rfl, hd, hd', hb, hq0⟩ := hcop.read2 HX.out
  have HK2 := Lib.hid (HK1.out.trans (Keeps.ofBelow (S := NoBlock) hcop.2))
  have HB2 := Lib.hid hb
  clear hcop hb
  go_wp2_with fail
  refine (HUn.out _ _ _ hd hd' hq0 HB2.out).mono ?_
  rintro e w3 ⟨v, rfl, q3, m3, d3, rfl, hm3, hd3, hd3', hq3, hb3, hk⟩
  have HK3 := Lib.hid (HK2.out.trans hk)
  have hb33 := HB2.out.keep hk (fun _ _ h => h)
  have HB33 := Lib.hid hb33
  have hc3 := textOf q M d ys w3 HX.out hb33
  have HM3 := Lib.hid hm3
  have HBy := Lib.hid hb3
  clear hk hb33 hm3 hb3 HB2
  go_wp2_with fail
  refine (HRf.out _).mono ?_
  rintro e w4 ⟨rfl, hk⟩
  have HK4 := Lib.hid (HK3.out.trans hk)
  have HBx := Lib.hid (HB33.out.keep hk (fun _ _ h => h))
  have HBy := Lib.hid (HBy.out.keep hk (fun _ _ h => h))
  clear hk hc3
  by_cases h0 : cd = 0
  · subst h0
    have hse := HUZ.out rfl
    have HSE := Lib.hid hse
    clear hse
    have hm3 : m3 ≤ 1500 := by have := HM3.out; have := HUO.out.2; have := HX.out; omega
    have sN := And.intro (textOf q3 m3 d3 os w4 HM3.out HBy.out) (textOf q M d ys w4 HX.out HBx.out)
    have s0 := And.intro (textOf q3 m3 d3 os w4.drew HM3.out HBy.out) (textOf q M d ys w4.drew HX.out HBx.out)
    go_wp2_with fail
    refine wp_region_held_drew (S := fun w' => (convert 22 9 (.slice q3 m3 d3)).run Try.prog w' = .ok (.string (strOfNums os)) w' ∧ (convert 22 9 (.slice q M d)).run Try.prog w' = .ok (.string (strOfNums ys)) w') (by kernel_rfl) s0 (fun hHeld => ?_)
    refine wpAnyH_take (i := 0) (v := ?vT0) rfl ?aT0 ?bT0 ?cT0 ?dT0 (Or.inl ⟨?eT0, ?fT0⟩) hHeld ?gT0
    case fT0 => intro w hSw; (try dsimp only at hSw); go_simp; (try with_reducible rfl)
    case aT0 => kernel_rfl
    case bT0 => kernel_rfl
    case cT0 => kernel_rfl
    case dT0 => exact fun _ _ _ h => h
    case eT0 => rfl
    simp only [Act.put, List.getElem_toArray, List.getElem_cons_zero, List.setIfInBounds_toArray, List.set_cons_zero, List.set_cons_succ]
    refine wpAnyH_take (i := 1) (v := ?vT1) rfl ?aT1 ?bT1 ?cT1 ?dT1 (Or.inl ⟨?eT1, ?fT1⟩) hHeld ?gT1
    case fT1 => intro w hSw; (try dsimp only at hSw); go_simp; (try with_reducible rfl)
    case aT1 => kernel_rfl
    case bT1 => kernel_rfl
    case cT1 => kernel_rfl
    case dT1 => exact fun _ _ _ h => h
    case eT1 => rfl
    simp only [Act.put, List.getElem_toArray, List.getElem_cons_zero, List.getElem_cons_succ, List.setIfInBounds_toArray, List.set_cons_zero, List.set_cons_succ]
    refine wpAnyH_take (i := 2) (v := ?vT2) rfl ?aT2 ?bT2 ?cT2 ?dT2 (Or.inl ⟨?eT2, ?fT2⟩) hHeld ?gT2
    case fT2 => intro w hSw; (try dsimp only at hSw); go_simp; (try with_reducible rfl)
    case aT2 => kernel_rfl
    case bT2 => kernel_rfl
    case cT2 => kernel_rfl
    case dT2 => exact fun _ _ _ h => h
    case eT2 => rfl
    simp only [Act.put, List.getElem_toArray, List.getElem_cons_zero, List.getElem_cons_succ, List.setIfInBounds_toArray, List.set_cons_zero, List.set_cons_succ]
    refine wpAnyH_take (i := 3) (v := ?vT3) rfl ?aT3 ?bT3 ?cT3 ?dT3 (Or.inl ⟨?eT3, ?fT3⟩) hHeld ?gT3
    case fT3 => intro w hSw; (try dsimp only at hSw); go_simp; (try with_reducible rfl)
    case aT3 => kernel_rfl
    case bT3 => kernel_rfl
    case cT3 => kernel_rfl
    case dT3 => exact fun _ _ _ h => h
    case eT3 => rfl
    simp only [Act.put, List.getElem_toArray, List.getElem_cons_zero, List.getElem_cons_succ, List.setIfInBounds_toArray, List.set_cons_zero, List.set_cons_succ]
    refine wpAnyH_take (i := 4) (v := ?vT4) rfl ?aT4 ?bT4 ?cT4 ?dT4 (Or.inl ⟨?eT4, ?fT4⟩) hHeld ?gT4
    case fT4 => intro w hSw; (try dsimp only at hSw); go_simp; (try with_reducible rfl)
    case aT4 => kernel_rfl
    case bT4 => kernel_rfl
    case cT4 => kernel_rfl
    case dT4 => exact fun _ _ _ h => h
    case eT4 => rfl
    simp only [Act.put, List.getElem_toArray, List.getElem_cons_zero, List.getElem_cons_succ, List.setIfInBounds_toArray, List.set_cons_zero, List.set_cons_succ]
    refine wpAnyH_take (i := 5) (v := ?vT5) rfl ?aT5 ?bT5 ?cT5 ?dT5 (Or.inl ⟨?eT5, ?fT5⟩) hHeld ?gT5
    case fT5 => intro w hSw; (try dsimp only at hSw); go_simp; (try with_reducible rfl)
    case aT5 => kernel_rfl
    case bT5 => kernel_rfl
    case cT5 => kernel_rfl
    case dT5 => exact fun _ _ _ h => h
    case eT5 => rfl
    simp only [Act.put, List.getElem_toArray, List.getElem_cons_zero, List.getElem_cons_succ, List.setIfInBounds_toArray, List.set_cons_zero, List.set_cons_succ]
    refine wpAnyH_take (i := 6) (v := ?vT6) rfl ?aT6 ?bT6 ?cT6 ?dT6 (Or.inl ⟨?eT6, ?fT6⟩) hHeld ?gT6
    case fT6 => intro w hSw; (try dsimp only at hSw); go_simp; (try with_reducible rfl)
    case aT6 => kernel_rfl
    case bT6 => kernel_rfl
    case cT6 => kernel_rfl
    case dT6 => exact fun _ _ _ h => h
    case eT6 => rfl
    simp only [Act.put, List.getElem_toArray, List.getElem_cons_zero, List.getElem_cons_succ, List.setIfInBounds_toArray, List.set_cons_zero, List.set_cons_succ]
    refine wpAnyH_take (i := 7) (v := ?vT7) rfl ?aT7 ?bT7 ?cT7 ?dT7 (Or.inl ⟨?eT7, ?fT7⟩) hHeld ?gT7
    case fT7 => intro w hSw; (try dsimp only at hSw); go_simp; (try with_reducible rfl)
    case aT7 => kernel_rfl
    case bT7 => kernel_rfl
    case cT7 => kernel_rfl
    case dT7 => exact fun _ _ _ h => h
    case eT7 => rfl
    simp only [Act.put, List.getElem_toArray, List.getElem_cons_zero, List.getElem_cons_succ, List.setIfInBounds_toArray, List.set_cons_zero, List.set_cons_succ]
    refine wpAnyH_take (i := 8) (v := ?vT8) rfl ?aT8 ?bT8 ?cT8 ?dT8 (Or.inl ⟨?eT8, ?fT8⟩) hHeld ?gT8
    case fT8 => intro w hSw; (try dsimp only at hSw); go_simp; (try with_reducible rfl)
    case aT8 => kernel_rfl
    case bT8 => kernel_rfl
    case cT8 => kernel_rfl
    case dT8 => exact fun _ _ _ h => h
    case eT8 => rfl
    simp only [Act.put, List.getElem_toArray, List.getElem_cons_zero, List.getElem_cons_succ, List.setIfInBounds_toArray, List.set_cons_zero, List.set_cons_succ]
    refine wpAnyH_take (i := 9) (v := ?vT9) rfl ?aT9 ?bT9 ?cT9 ?dT9 (Or.inl ⟨?eT9, ?fT9⟩) hHeld ?gT9
    case fT9 => intro w hSw; (try dsimp only at hSw); go_simp; (try with_reducible rfl)
    case aT9 => kernel_rfl
    case bT9 => kernel_rfl
    case cT9 => kernel_rfl
    case dT9 => exact fun _ _ _ h => h
    case eT9 => rfl
    simp only [Act.put, List.getElem_toArray, List.getElem_cons_zero, List.getElem_cons_succ, List.setIfInBounds_toArray, List.set_cons_zero, List.set_cons_succ]
    refine wpAnyH_take (i := 10) (v := ?vT10) rfl ?aT10 ?bT10 ?cT10 ?dT10 (Or.inl ⟨?eT10, ?fT10⟩) hHeld ?gT10
    case fT10 => intro w hSw; (try dsimp only at hSw); go_simp; (try with_reducible rfl)
    case aT10 => kernel_rfl
    case bT10 => kernel_rfl
    case cT10 => kernel_rfl
    case dT10 => exact fun _ _ _ h => h
    case eT10 => rfl
    simp only [Act.put, List.getElem_toArray, List.getElem_cons_zero, List.getElem_cons_succ, List.setIfInBounds_toArray, List.set_cons_zero, List.set_cons_succ]
    refine wpAnyH_take (i := 11) (v := ?vT11) rfl ?aT11 ?bT11 ?cT11 ?dT11 (Or.inl ⟨?eT11, ?fT11⟩) hHeld ?gT11
    case fT11 => intro w hSw; (try dsimp only at hSw); go_simp; (try with_reducible rfl)
    case aT11 => kernel_rfl
    case bT11 => kernel_rfl
    case cT11 => kernel_rfl
    case dT11 => exact fun _ _ _ h => h
    case eT11 => rfl
    simp only [Act.put, List.getElem_toArray, List.getElem_cons_zero, List.getElem_cons_succ, List.setIfInBounds_toArray, List.set_cons_zero, List.set_cons_succ]
    refine wpAnyH_take (i := 12) (v := ?vT12) rfl ?aT12 ?bT12 ?cT12 ?dT12 (Or.inl ⟨?eT12, ?fT12⟩) hHeld ?gT12
    case fT12 => intro w hSw; (try dsimp only at hSw); go_simp; (try with_reducible rfl)
    case aT12 => kernel_rfl
    case bT12 => kernel_rfl
    case cT12 => kernel_rfl
    case dT12 => exact fun _ _ _ h => h
    case eT12 => rfl
    simp only [Act.put, List.getElem_toArray, List.getElem_cons_zero, List.getElem_cons_succ, List.setIfInBounds_toArray, List.set_cons_zero, List.set_cons_succ]
    refine wpAnyH_take (i := 13) (v := ?vT13) rfl ?aT13 ?bT13 ?cT13 ?dT13 (Or.inl ⟨?eT13, ?fT13⟩) hHeld ?gT13
    case fT13 => intro w hSw; (try dsimp only at hSw); go_simp; (try with_reducible rfl)
    case aT13 => kernel_rfl
    case bT13 => kernel_rfl
    case cT13 => kernel_rfl
    case dT13 => exact fun _ _ _ h => h
    case eT13 => rfl
    simp only [Act.put, List.getElem_toArray, List.getElem_cons_zero, List.getElem_cons_succ, List.setIfInBounds_toArray, List.set_cons_zero, List.set_cons_succ]
    refine wpAnyH_take (i := 16) (v := ?vT16) rfl ?aT16 ?bT16 ?cT16 ?dT16 (Or.inl ⟨?eT16, ?fT16⟩) hHeld ?gT16
    case fT16 => intro w hSw; (try dsimp only at hSw); go_simp; (try with_reducible rfl)
    case aT16 => kernel_rfl
    case bT16 => kernel_rfl
    case cT16 => kernel_rfl
    case dT16 => exact fun _ _ _ h => h
    case eT16 => rfl
    simp only [Act.put, List.getElem_toArray, List.getElem_cons_zero, List.getElem_cons_succ, List.setIfInBounds_toArray, List.set_cons_zero, List.set_cons_succ]
    refine wpAnyH_take (i := 17) (v := ?vT17) rfl ?aT17 ?bT17 ?cT17 ?dT17 (Or.inl ⟨?eT17, ?fT17⟩) hHeld ?gT17
    case fT17 => intro w hSw; (try dsimp only at hSw); go_simp; (try with_reducible rfl)
    case aT17 => kernel_rfl
    case bT17 => kernel_rfl
    case cT17 => kernel_rfl
    case dT17 => exact fun _ _ _ h => h
    case eT17 => rfl
    simp only [Act.put, List.getElem_toArray, List.getElem_cons_zero, List.getElem_cons_succ, List.setIfInBounds_toArray, List.set_cons_zero, List.set_cons_succ]
    refine wpAnyH_ready (rs := [14]) (by kernel_rfl) (by simp) ?_
    refine AllReadyH.cons (o := _) rfl (fun K hK => ?_) AllReadyH.nil
    go_simp
    refine (HSt.out q3 m3 d3 os _ HM3.out hd3 hd3' hq3 HUO.out.1 (by omega) (by exact HBy.out)).mono ?_
    rintro e w5 ⟨v, rfl, q5, m5, d5, rfl, hm5, _, _, _, hb5, hk5⟩
    rw [HSE.out] at hm5 hb5
    have hc5 := textOf q5 m5 d5 ys w5 hm5 hb5
    have hk5' := hk5.ofDrew
    have HK5 := Lib.hid (HK4.out.trans hk5')
    have hS5 := And.intro (textOf q3 m3 d3 os w5 HM3.out (HBy.out.keep hk5' (fun _ _ h => h))) (textOf q M d ys w5 HX.out (HBx.out.keep hk5' (fun _ _ h => h)))
    clear hk5 hk5' hb5 hm5
    go_wp2_with fail
    refine hK.out _ _ hS5 (fun _ => ?_)
    have hS6 := And.intro hS5 hc5
    clear hK K hS5 hHeld s0 sN hc5
    refine wpAnyH_swap (S' := fun w' => ((convert 22 9 (.slice q3 m3 d3)).run Try.prog w' = .ok (.string (strOfNums os)) w' ∧ (convert 22 9 (.slice q M d)).run Try.prog w' = .ok (.string (strOfNums ys)) w') ∧ (convert 22 9 (.slice q5 m5 d5)).run Try.prog w' = .ok (.string (strOfNums ys)) w') (fun _ h => h.1) _ _ _ _ ?_
    refine wpAnyH_take (i := 15) (v := ?vT15) rfl ?aT15 ?bT15 ?cT15 ?dT15 (Or.inl ⟨?eT15, ?fT15⟩) hS6 ?gT15
    case fT15 => intro w hSw; (try dsimp only at hSw); go_simp; (try with_reducible rfl)
    case aT15 => kernel_rfl
    case bT15 => kernel_rfl
    case cT15 => kernel_rfl
    case dT15 => exact fun _ _ _ h => h
    case eT15 => rfl
    simp only [Act.put, List.getElem_toArray, List.getElem_cons_zero, List.getElem_cons_succ, List.setIfInBounds_toArray, List.set_cons_zero, List.set_cons_succ]
    refine wpAnyH_take (i := 18) (v := ?vT18) rfl ?aT18 ?bT18 ?cT18 ?dT18 (Or.inl ⟨?eT18, ?fT18⟩) hS6 ?gT18
    case fT18 => intro w hSw; (try dsimp only at hSw); go_simp; (try with_reducible rfl)
    case aT18 => kernel_rfl
    case bT18 => kernel_rfl
    case cT18 => kernel_rfl
    case dT18 => exact fun _ _ _ h => h
    case eT18 => rfl
    simp only [Act.put, List.getElem_toArray, List.getElem_cons_zero, List.getElem_cons_succ, List.setIfInBounds_toArray, List.set_cons_zero, List.set_cons_succ]
    refine wpAnyH_take (i := 19) (v := ?vT19) rfl ?aT19 ?bT19 ?cT19 ?dT19 (Or.inl ⟨?eT19, ?fT19⟩) hS6 ?gT19
    case fT19 => intro w hSw; (try dsimp only at hSw); go_simp; (try with_reducible rfl)
    case aT19 => kernel_rfl
    case bT19 => kernel_rfl
    case cT19 => kernel_rfl
    case dT19 => exact fun _ _ _ h => h
    case eT19 => rfl
    simp only [Act.put, List.getElem_toArray, List.getElem_cons_zero, List.getElem_cons_succ, List.setIfInBounds_toArray, List.set_cons_zero, List.set_cons_succ]
    refine wpAnyH_take (i := 20) (v := ?vT20) rfl ?aT20 ?bT20 ?cT20 ?dT20 (Or.inl ⟨?eT20, ?fT20⟩) hS6 ?gT20
    case fT20 => intro w hSw; (try dsimp only at hSw); go_simp; (try with_reducible rfl)
    case aT20 => kernel_rfl
    case bT20 => kernel_rfl
    case cT20 => kernel_rfl
    case dT20 => exact fun _ _ _ h => h
    case eT20 => rfl
    simp only [Act.put, List.getElem_toArray, List.getElem_cons_zero, List.getElem_cons_succ, List.setIfInBounds_toArray, List.set_cons_zero, List.set_cons_succ]
    refine wpAnyH_take (i := 21) (v := ?vT21) rfl ?aT21 ?bT21 ?cT21 ?dT21 (Or.inl ⟨?eT21, ?fT21⟩) hS6 ?gT21
    case fT21 => intro w hSw; (try dsimp only at hSw); go_simp; (try with_reducible rfl)
    case aT21 => kernel_rfl
    case bT21 => kernel_rfl
    case cT21 => kernel_rfl
    case dT21 => exact fun _ _ _ h => h
    case eT21 => rfl
    simp only [Act.put, List.getElem_toArray, List.getElem_cons_zero, List.getElem_cons_succ, List.setIfInBounds_toArray, List.set_cons_zero, List.set_cons_succ]
    refine wpAnyH_done (by kernel_rfl) ?_ _
    go_wp2_with fail
    go_ret
    exact ⟨rfl, HK5.out⟩
  · have hb0 : (cd != 0) = true := by rw [bne_iff_ne]; exact h0
    have hcv : ∀ n, (convert 22 9 (.slice q3 m3 d3)).run Try.prog (w4.drewN n) = .ok (.string (strOfNums os)) (w4.drewN n) := fun n => textOf q3 m3 d3 os (w4.drewN n) HM3.out HBy.out
    go_wp2_with fail
    go_quiet (fail)
    go_wp2_with fail
    go_ret
    exact ⟨rfl, HK4.out.drewN _⟩

set_option maxRecDepth 10000 in
theorem unstuffs_walk (H : CobsOk) (p : Option Addr) (N c : Nat) (xs : List Int) (z : Int) (w : World) (hx : N = xs.length) (hb : Bytes8 w p xs) (hoc : Octets xs) (hc : N ≤ c) (hc' : c ≤ 9223372036854775807) (hn0 : p = none → N = 0 ∧ c = 0) (hz : 0 ≤ z ∧ z < 65536) :
    Calls Try.prog 4 #[.slice p N c, .int .u16 z] w fun e w' => e = .returned (.bool true) ∧ Keeps NoBlock w w' := by
  by_cases hg : N ≤ 400
  · exact unstuffs_small H p N c xs z w hx hb hoc hc hc' hn0 hg hz
  · have hgN : decide ((400 : Int) < (N : Int)) = true := decide_eq_true (by omega)
    have HLv := Lib.hid (fun w => lives5_true H w)
    clear H hx hb hoc hn0 hz
    go_enter Try.func4, Try.ntmps4
    go_wp2_with fail
    refine (HLv.out _).mono ?_
    rintro e w1 ⟨rfl, hk⟩
    have HK := Lib.hid hk
    clear hk
    go_wp2_with fail
    refine (HLv.out _).mono ?_
    rintro e w2 ⟨rfl, hk2⟩
    have HK2 := Lib.hid (HK.out.trans hk2)
    clear hk2
    go_wp2_with fail
    go_ret
    exact ⟨rfl, HK2.out⟩
end Go.Proofs.Ytckebghkilamjaa

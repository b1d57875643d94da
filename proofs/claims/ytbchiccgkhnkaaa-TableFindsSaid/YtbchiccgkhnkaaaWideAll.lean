/-
  Package wide: what the blocks come to, Sum and Len of a State.
-/
import Derived.Test.YtbchiccgkhnkaaaWideWrite
import Derived.StillTailTactics
namespace Go.Proofs.Ytbchiccgkhnkaaa
open Go.RowKit

set_option maxRecDepth 100000 in
theorem index_row4 (v : Nat → Int) {j : Nat} (hj : j < 4) (w : World) :
    (Instr.index 109 (.agg #[Value.int .u64 (v 0), Value.int .u64 (v 1), Value.int .u64 (v 2), Value.int .u64 (v 3)]) (.int .i64 (j : Int))).run Try.prog w = .ok (.int .u64 (v j)) w := by
  have : j = 0 ∨ j = 1 ∨ j = 2 ∨ j = 3 := by omega
  rcases this with rfl | rfl | rfl | rfl <;> rfl

set_option maxHeartbeats 2000000 in
set_option maxRecDepth 10000 in
theorem blocks_wide (g : Nat) (s : Int) (xs : List Int) (w : World) (hh : Holds w g s xs) (hs : U64 s) (hlen : xs.length ≤ 140737488355328) :
    Calls Try.prog 85 #[.pointer (some ⟨g, 0, none⟩)] w fun e w' => e = .returned (.int .u64 (wblocks s xs)) ∧ ∃ n, w' = w.drewN n := by
  obtain ⟨ps, ⟨hl, _, hwh⟩, _⟩ := hh
  obtain ⟨L, hL⟩ : ∃ L, L = xs.length := ⟨_, rfl⟩
  have hwb : wblocks s xs = if L < 32 then IntKind.u64.wrap (s + 2870177450012600261) else wmerged (wnums (wseed s) xs (L / 32)) 4 := by rw [hL]; rfl
  have hvb : ∀ j, j < 4 → U64 (wnums (wseed s) xs (xs.length / 32) j) := fun j hj => wnums_bound (fun j _ => wseed_bound hs j) xs _ j hj
  rw [← hL] at hwh hlen hvb
  obtain ⟨v, hv⟩ : ∃ v, v = wnums (wseed s) xs (L / 32) := ⟨_, rfl⟩
  rw [← hv] at hwh hvb hwb
  rw [hwb]
  have c37 := hwh.cell 37 (scells_size _ _ _ hl)
  have c0 := hwh.cell 0 (scells_seed _ _ _ _)
  have hs0 := hs.1
  have hs1 := hs.2
  have HW := Lib.hid hwh
  have HV := Lib.hid hvb
  clear hwb hvb hv hL hwh hs
  by_cases h32 : L < 32
  · rw [if_pos h32]
    have hdl : decide ((L : Int) < 32) = true := decide_eq_true (by omega)
    go_enter Try.func85, Try.ntmps85
    go_wp2_with fail
    go_ret
    exact ⟨rfl, 0, rfl⟩
  · rw [if_neg h32]
    have hdl : decide ((L : Int) < 32) = false := decide_eq_false (by omega)
    have d0 := HW.out.cell 1 (scells_num s v ps L (j := 0) (by decide))
    have d1 := HW.out.cell 2 (scells_num s v ps L (j := 1) (by decide))
    have d2 := HW.out.cell 3 (scells_num s v ps L (j := 2) (by decide))
    have d3 := HW.out.cell 4 (scells_num s v ps L (j := 3) (by decide))
    have HT0 := Lib.hid (fun w => wrotl (v 0) 1 1 (by decide) (by decide) rfl (HV.out 0 (by decide)) w)
    have HT1 := Lib.hid (fun w => wrotl (v 1) 7 7 (by decide) (by decide) rfl (HV.out 1 (by decide)) w)
    have HT2 := Lib.hid (fun w => wrotl (v 2) 12 12 (by decide) (by decide) rfl (HV.out 2 (by decide)) w)
    have HT3 := Lib.hid (fun w => wrotl (v 3) 18 18 (by decide) (by decide) rfl (HV.out 3 (by decide)) w)
    go_enter Try.func85, Try.ntmps85
    go_wp2_with fail
    refine wp_region_still_lit (by kernel_rfl) (by kernel_rfl) ?_
    still_step
    still_step
    still_step
    still_step
    still_step
    still_call ((HT0.out _).mono fun e w5 h => ⟨h.1, h.2.symm⟩)
    still_step
    still_step
    still_step
    still_step
    still_step
    still_call ((HT1.out _).mono fun e w5 h => ⟨h.1, h.2.symm⟩)
    still_step
    still_step
    still_step
    still_step
    still_step
    still_step
    still_call ((HT2.out _).mono fun e w5 h => ⟨h.1, h.2.symm⟩)
    still_step
    still_step
    still_step
    still_step
    still_step
    still_step
    still_call ((HT3.out _).mono fun e w5 h => ⟨h.1, h.2.symm⟩)
    still_step
    still_step
    refine wpStill_nil ?_
    change Exit.then _ _ _ _ w.drew
    obtain ⟨W0, hW0⟩ : ∃ W0, W0 = w.drew := ⟨_, rfl⟩
    rw [← hW0]
    have HWE := Lib.hid hW0
    have d0 : W0.cell? ⟨g, 1, none⟩ = some (.int .u64 (v 0)) := by rw [hW0]; exact d0
    have d1 : W0.cell? ⟨g, 2, none⟩ = some (.int .u64 (v 1)) := by rw [hW0]; exact d1
    have d2 : W0.cell? ⟨g, 3, none⟩ = some (.int .u64 (v 2)) := by rw [hW0]; exact d2
    have d3 : W0.cell? ⟨g, 4, none⟩ = some (.int .u64 (v 3)) := by rw [hW0]; exact d3
    clear hW0
    go_wp2_with fail
    go_loop [3, 47] (fun h i => ∃ j : Nat, j ≤ 4 ∧ i = .int .i64 (j : Int) ∧ h = .int .u64 (wmerged v j)) (fun _ i => 4 - (intOf i).toNat)
    case atStart => exact ⟨0, by omega, rfl, rfl⟩
    case round =>
      obtain ⟨j, hj4, rfl, rfl⟩ := hrel
      by_cases hlt4 : j < 4
      · have HI := Lib.hid (fun w => winto_wide 0 (v j) ⟨by decide, by decide⟩ (HV.out j hlt4) w)
        have ha1 : (0 : Int) ≤ (j : Int) := by omega
        have ha2 : (j : Int) < 4 := by omega
        have hg := index_row4 v hlt4 W0
        go_wp2_with fail
        refine (HI.out _).mono ?_
        rintro e w' ⟨rfl, rfl⟩
        go_wp2_with fail
        go_round
        case rel => exact ⟨j + 1, by omega, rfl, rfl⟩
        case measure => simp [intOf]; omega
      · obtain rfl : j = 4 := by omega
        go_wp2_with fail
        go_ret
        exact ⟨rfl, 1, HWE.out⟩

set_option maxHeartbeats 2000000 in
set_option maxRecDepth 10000 in
theorem ssum_wide (g : Nat) (s : Int) (xs : List Int) (w : World) (hh : Holds w g s xs) (hs : U64 s) (ho : Octets xs) (hlen : xs.length ≤ 140737488355328) :
    Calls Try.prog 72 #[.pointer (some ⟨g, 0, none⟩)] w fun e w' => e = .returned (.int .u64 (wxxh s xs)) ∧ Keeps NoBlock w w' := by
  have HBl := Lib.hid (fun w hh => blocks_wide g s xs w hh hs hlen)
  have HHo := Lib.hid hh
  obtain ⟨ps, ⟨hl, hpo, hwh⟩, htk⟩ := hh
  have hspec : wxxh s xs = wend (weights (IntKind.u64.wrap (wblocks s xs + (xs.length : Int))) (wleft xs)) := rfl
  have hb0 := wblocks_bound s xs
  have hll := wleft_length xs
  have hlo := ho.wleft
  have hb1 : Bytes8 w (some ⟨g, 5, none⟩) (wleft xs) := by
    have h1 := (show StAt w g s (wnums (wseed s) xs (xs.length / 32)) ps xs.length from ⟨hl, hpo, hwh⟩).bytes.piece (q := some ⟨g, 5, none⟩) 0 (xs.length % 32) (by omega) (fun _ => rfl)
    rw [List.drop_zero, htk] at h1
    exact h1
  obtain ⟨L, hL⟩ : ∃ L, L = xs.length := ⟨_, rfl⟩
  obtain ⟨r, hr⟩ : ∃ r, r = L % 32 := ⟨_, rfl⟩
  have c37 := hwh.cell 37 (scells_size _ _ _ hl)
  rw [← hL] at hspec hll hlen c37
  rw [← hr] at hll
  obtain ⟨B, hB⟩ : ∃ B, B = wblocks s xs := ⟨_, rfl⟩
  obtain ⟨Y, hY⟩ : ∃ Y, Y = wleft xs := ⟨_, rfl⟩
  rw [← hB] at hspec hb0 HBl
  rw [← hY] at hspec hll hlo hb1
  obtain ⟨h1, hh1⟩ : ∃ h1, h1 = IntKind.u64.wrap (B + (L : Int)) := ⟨_, rfl⟩
  have hu1 := wmod_bound (B + (L : Int))
  rw [← hh1] at hspec hu1
  have HS0 := Lib.hid hspec
  have HB1 := Lib.hid hb1
  have HLo := Lib.hid hlo
  have HLl := Lib.hid hll
  have HU1 := Lib.hid hu1
  have HH1 := Lib.hid hh1
  have B0 := hb0.1
  have B1 := hb0.2
  have hrem : (L : Int) % 32 = (r : Int) := by omega
  have hr31 : r ≤ 31 := by omega
  have hr0 : (0 : Int) ≤ (r : Int) := by omega
  have hr32 : (r : Int) ≤ 32 := by omega
  clear hspec hb1 hlo hll hu1 hh1 hb0 hB hY hL hr hwh hl hpo htk hs ho
  go_enter Try.func72, Try.ntmps72
  go_wp2_with fail
  go_quiet ((go_at_call 85; exact Calls.quiet_of (HBl.out _ (by exact HHo.out))))
  obtain ⟨n1, hn1⟩ : ∃ n1, n1 = nq := ⟨_, rfl⟩
  rw [← hn1]
  clear hn1
  go_wp2_with fail
  go_quiet (fail)
  go_wp2_with fail
  obtain ⟨W1, hW1⟩ : ∃ W1, W1 = (w.drewN n1).drewN nq := ⟨_, rfl⟩
  have HK1 : Hid (Keeps NoBlock w W1) := Lib.hid (by rw [hW1]; exact ((Keeps.refl _ w).drewN _).drewN _)
  have HBy : Hid (Bytes8 W1 (some ⟨g, 5, none⟩) Y) := Lib.hid (by rw [hW1]; exact HB1.out)
  rw [← hW1, ← HH1.out]
  clear hW1 c37
  go_loopw [3, 4] (fun s3 s4 wr => ∃ (h : Int) (ys : List Int) (q : Option Addr) (m d : Nat), s4 = .slice q m d ∧ s3 = .int .u64 h ∧ m = ys.length ∧ m ≤ d ∧ d ≤ 32 ∧ Hid (U64 h) ∧ Hid (Octets ys) ∧ Hid (Bytes8 W1 q ys) ∧ Hid (weights h ys = weights h1 Y) ∧ Keeps NoBlock W1 wr) (fun _ s4 _ => lenOf s4)
  case atStart => exact ⟨_, Y, _, r, 32, rfl, rfl, HLl.out.symm, by omega, Nat.le_refl _, HU1, HLo, HBy, Lib.hid rfl, Keeps.refl _ _⟩
  case round =>
    clear HBy hrem hr31 hr0 hr32 B0 B1
    obtain ⟨h, ys, q, m, d, rfl, rfl, hm, hmd, hdc, hu, hy, hyb, ht, hk⟩ := hrel
    have HM := Lib.hid hm
    have HK2 := Lib.hid hk
    clear hm hk
    have hu0 := hu.out.1
    have hu1 := hu.out.2
    by_cases h8 : 8 ≤ m
    · have hdm : decide ((8 : Int) ≤ (m : Int)) = true := decide_eq_true (by omega)
      have HF := Lib.hid (fun w' (hb : Bytes8 w' q ys) => eight_wide q m d ys HM.out h8 hmd hy.out w' hb)
      obtain ⟨y, hyd⟩ : ∃ y, y = four8 ys 0 := ⟨_, rfl⟩
      have hyb8 := four8_bound hy.out 0
      have HG := Lib.hid (weights_go (h := h) (xs := ys) (by have := HM.out; omega))
      rw [← hyd] at hyb8 HF HG
      have HI := Lib.hid (fun w => winto_wide 0 y ⟨by decide, by decide⟩ hyb8 w)
      have HT := Lib.hid (fun w => wrotl (xr h (win 0 y)) 27 27 (by decide) (by decide) rfl (xr_bound _ _) w)
      have he : weight h y = IntKind.u64.wrap (IntKind.u64.wrap (wrot 27 (xr h (win 0 y)) * 11400714785074694791) + 9650029242287828579) := rfl
      have HE := Lib.hid he
      have hbk := (hyb.out.piece (q := if d = 8 then q else Option.map (fun x => { block := x.block, off := x.off + 8 }) q) 8 (m - 8) (by have := HM.out; omega) (fun h => by rw [if_neg (by omega)]; cases q <;> simp [Addr.add]))
      rw [List.take_of_length_le (by rw [List.length_drop]; have := HM.out; omega)] at hbk
      have HBk := Lib.hid hbk
      clear hyd hyb8 he hbk
      go_wp2_with fail
      refine (HF.out _ (hyb.out.keep HK2.out (fun _ _ h => h))).mono ?_
      rintro e w' ⟨rfl, n5, rfl⟩
      go_wp2_with fail
      refine (HI.out _).mono ?_
      rintro e w' ⟨rfl, rfl⟩
      go_wp2_with fail
      refine (HT.out _).mono ?_
      rintro e w' ⟨rfl, rfl⟩
      go_wp2_with fail
      refine ⟨⟨_, ys.drop 8, _, _, _, rfl, rfl, by rw [List.length_drop, HM.out], by omega, by omega, Lib.hid (wmod_bound _), Lib.hid (hy.out.drop 8), HBk, Lib.hid ?_, HK2.out.drewN _⟩, ?_⟩
      · rw [← HE.out, ← HG.out]
        exact ht.out
      · show m - 8 < m
        omega
    · have HG := Lib.hid (weights_end (h := h) (xs := ys) (by have := HM.out; omega))
      obtain ⟨T, hT⟩ : ∃ T, T = weights h1 Y := ⟨_, rfl⟩
      rw [← hT] at HS0 ht
      rw [HG.out] at ht
      have hdm : decide ((8 : Int) ≤ (m : Int)) = false := decide_eq_false (by omega)
      clear hT HG
      obtain ⟨W2, rfl⟩ : ∃ W2, W2 = wr := ⟨_, rfl⟩
      go_wp2_with fail
      go_loopw [3, 4] (fun s3 s4 wr => ∃ (h : Int) (ys : List Int) (q : Option Addr) (m d : Nat), s4 = .slice q m d ∧ s3 = .int .u64 h ∧ m = ys.length ∧ m ≤ d ∧ d ≤ 32 ∧ Hid (U64 h) ∧ Hid (Octets ys) ∧ Hid (Bytes8 W1 q ys) ∧ Hid (wfours h ys = T) ∧ Keeps NoBlock W1 wr) (fun _ s4 _ => lenOf s4)
      case atStart => exact ⟨_, ys, _, m, d, rfl, rfl, HM.out, hmd, hdc, hu, hy, hyb, ht, HK2.out⟩
      case round =>
        clear hdm h8 ht hyb hy hu hu0 hu1 HM HK2 hmd hdc
        obtain ⟨h, ys, q, m, d, rfl, rfl, hm, hmd, hdc, hu, hy, hyb, ht, hk⟩ := hrel
        have HM := Lib.hid hm
        have HK2 := Lib.hid hk
        clear hm hk
        have hu0 := hu.out.1
        have hu1 := hu.out.2
        by_cases h4 : 4 ≤ m
        · have hdm : decide ((4 : Int) ≤ (m : Int)) = true := decide_eq_true (by omega)
          have HF := Lib.hid (fun w' (hb : Bytes8 w' q ys) => four_wide q m d ys HM.out h4 hy.out w' hb)
          obtain ⟨y, hyd⟩ : ∃ y, y = four4 ys 0 := ⟨_, rfl⟩
          have hyb8 := four4_u64 hy.out 0
          have HG := Lib.hid (wfours_go (h := h) (xs := ys) (by have := HM.out; omega))
          rw [← hyd] at hyb8 HF HG
          have hy0 := hyb8.1
          have hy1 := hyb8.2
          have HT := Lib.hid (fun w => wrotl (xr h (IntKind.u64.wrap (y * 11400714785074694791))) 23 23 (by decide) (by decide) rfl (xr_bound _ _) w)
          have he : wfour h y = IntKind.u64.wrap (IntKind.u64.wrap (wrot 23 (xr h (IntKind.u64.wrap (y * 11400714785074694791))) * 14029467366897019727) + 1609587929392839161) := rfl
          have HE := Lib.hid he
          have hbk := (hyb.out.piece (q := if d = 4 then q else Option.map (fun x => { block := x.block, off := x.off + 4 }) q) 4 (m - 4) (by have := HM.out; omega) (fun h => by rw [if_neg (by omega)]; cases q <;> simp [Addr.add]))
          rw [List.take_of_length_le (by rw [List.length_drop]; have := HM.out; omega)] at hbk
          have HBk := Lib.hid hbk
          clear hyd hyb8 he hbk
          go_wp2_with fail
          refine (HF.out _ (hyb.out.keep HK2.out (fun _ _ h => h))).mono ?_
          rintro e w' ⟨rfl, n5, rfl⟩
          go_wp2_with fail
          refine (HT.out _).mono ?_
          rintro e w' ⟨rfl, rfl⟩
          go_wp2_with fail
          refine ⟨⟨_, ys.drop 4, _, _, _, rfl, rfl, by rw [List.length_drop, HM.out], by omega, by omega, Lib.hid (wmod_bound _), Lib.hid (hy.out.drop 4), HBk, Lib.hid ?_, HK2.out.drewN _⟩, ?_⟩
          · rw [← HE.out, ← HG.out]
            exact ht.out
          · show m - 4 < m
            omega
        · have HG := Lib.hid (wfours_end (h := h) (xs := ys) (by have := HM.out; omega))
          rw [HG.out] at ht
          have hdm : decide ((4 : Int) ≤ (m : Int)) = false := decide_eq_false (by omega)
          obtain ⟨W3, rfl⟩ : ∃ W3, W3 = wr := ⟨_, rfl⟩
          have HBz := Lib.hid (hyb.out.keep HK2.out (fun _ _ h => h))
          go_wp2_with fail
          go_loop [3, 51] (fun s3 i => ∃ k : Nat, k ≤ m ∧ i = .int .i64 (k : Int) ∧ s3 = .int .u64 ((ys.take k).foldl wone h)) (fun _ i => m - (intOf i).toNat)
          case atStart => exact ⟨0, Nat.zero_le _, rfl, rfl⟩
          case round =>
            obtain ⟨k, hk, rfl, rfl⟩ := hrel
            have hfb := fold_wone (ys.take k) h hu.out
            by_cases hlt : k < m
            · have HN2 := Lib.hid (fold_wnext ys h k (by have := HM.out; omega))
              have hgb := hy.out.getD k
              obtain ⟨a, rfl, hcell⟩ := HBz.out (by have := HM.out; omega)
              have c0 := hcell k (by have := HM.out; omega)
              obtain ⟨z, hq⟩ : ∃ z, z = (ys.take k).foldl wone h := ⟨_, rfl⟩
              obtain ⟨b, hb⟩ : ∃ b, b = ys.getD k 0 := ⟨_, rfl⟩
              rw [← hq] at hfb HN2 ⊢
              rw [← hb] at hgb HN2 c0
              have hq0 := hfb.1
              have hq1 := hfb.2
              have hb0 := hgb.1
              have hb1 := hgb.2
              have HT := Lib.hid (fun w => wrotl (xr z (IntKind.u64.wrap (b * 2870177450012600261))) 11 11 (by decide) (by decide) rfl (xr_bound _ _) w)
              have he : wone z b = IntKind.u64.wrap (wrot 11 (xr z (IntKind.u64.wrap (b * 2870177450012600261))) * 11400714785074694791) := rfl
              have HE := Lib.hid he
              have hdk : decide ((k : Int) < (m : Int)) = true := decide_eq_true (by omega)
              clear hq hb hfb hgb he hcell
              go_wp2_with fail
              refine (HT.out _).mono ?_
              rintro e w' ⟨rfl, rfl⟩
              go_wp2_with fail
              exact ⟨⟨k + 1, by omega, rfl, by rw [HN2.out, HE.out]⟩, by simp [intOf]; omega⟩
            · obtain rfl : k = m := by omega
              rw [List.take_of_length_le (Nat.le_of_eq HM.out.symm), ht.out] at hfb ⊢
              have HX := Lib.hid (fun w => wmix_wide T hfb w)
              have HK3 := Lib.hid (HK1.out.trans HK2.out)
              clear hfb
              go_wp2_with fail
              refine (HX.out _).mono ?_
              rintro e w' ⟨rfl, rfl⟩
              go_wp2_with fail
              go_ret
              exact ⟨by rw [HS0.out]; rfl, HK3.out⟩

/-- Sum of bytes, by a seed. -/
theorem sum_wide (s : Int) (hs : U64 s) (p : Option Addr) (N c : Nat) (xs : List Int) (hx : N = xs.length) (hc : N ≤ c) (hc' : c ≤ 9223372036854775807) (hn0 : p = none → N = 0 ∧ c = 0) (ho : Octets xs) (hl : N ≤ 140737488355328) (w : World) (hb : Bytes8 w p xs) :
    Calls Try.prog 54 #[.int .u64 s, .slice p N c] w fun e w' => e = .returned (.int .u64 (wxxh s xs)) ∧ Keeps NoBlock w w' := by
  have HN := Lib.hid (new_wide s hs w)
  have HWr := Lib.hid (fun w1 (hh : Holds w1 w.heap.size s []) (hb1 : Bytes8 w1 p xs) => write_wide w.heap.size s [] p N c xs w1 hh hs (fun b hb => by simp at hb) hx hc hc' hn0 ho hb1 (fun hp a ha h => by
      obtain ⟨a', ha', hc⟩ := hb (by omega)
      obtain rfl := Option.some.inj (ha'.symm.trans ha)
      have := ltOfCell (hc 0 (by omega))
      rw [addBlock] at this
      omega) (by simp; omega))
  have HSu := Lib.hid (fun w1 (hh : Holds w1 w.heap.size s xs) => ssum_wide w.heap.size s xs w1 hh hs ho (by omega))
  have HB := Lib.hid hb
  clear hb ho hn0 hs hx hc hc' hl
  go_enter Try.func54, Try.ntmps54
  go_wp2_with fail
  refine HN.out.mono ?_
  rintro e w1 ⟨rfl, hh1, hk1⟩
  have HK1 := Lib.hid hk1
  have HH1 := Lib.hid hh1
  have HB1 := Lib.hid (HB.out.keep hk1 (fun _ _ h => h))
  clear hk1 hh1
  go_wp2_with fail
  refine (HWr.out _ HH1.out HB1.out).mono ?_
  rintro e w2 ⟨rfl, hh2, hk2⟩
  have HH2 : Hid (Holds w2 w.heap.size s xs) := Lib.hid hh2
  have HK2 := Lib.hid (HK1.out.then hk2 (fun i hi h => by unfold Just at h; omega))
  clear hk2 hh2
  go_wp2_with fail
  refine (HSu.out _ HH2.out).mono ?_
  rintro e w3 ⟨rfl, hk3⟩
  have HK3 := Lib.hid (HK2.out.trans hk3)
  clear hk3
  go_wp2_with fail
  go_ret
  exact ⟨rfl, HK3.out⟩
end Go.Proofs.Ytbchiccgkhnkaaa

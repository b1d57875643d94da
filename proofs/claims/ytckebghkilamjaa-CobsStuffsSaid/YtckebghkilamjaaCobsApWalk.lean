/-
  The law CobsApart: its walk.
-/
import Derived.Test.YtckebghkilamjaaCobsUnWalk
import Derived.Deep.CutRange
import Derived.Deep.DeepCutAuto
namespace Go.Proofs.Ytckebghkilamjaa
open Go.RowKit

theorem getD_app3 (S T : List Int) (k : Nat) : (S ++ [0] ++ T).getD k 0 = if k < S.length then S.getD k 0 else if k = S.length then 0 else T.getD (k - (S.length + 1)) 0 := by
  by_cases h : k < S.length
  · rw [if_pos h]
    simp [List.getD, List.getElem?_append_left h]
  · rw [if_neg h]
    by_cases h2 : k = S.length
    · rw [if_pos h2, h2]
      simp [List.getD]
    · rw [if_neg h2]
      have e : (S ++ [0] ++ T)[k]? = T[k - (S.length + 1)]? := by
        rw [List.getElem?_append_right (by simp; omega)]
        simp
      show ((S ++ [0] ++ T)[k]?).getD 0 = _
      rw [e]
      rfl
theorem solid_getD {S : List Int} (h : Solid S) (k : Nat) (hk : k < S.length) : S.getD k 0 ≠ 0 := by
  have e : S.getD k 0 = S[k] := by simp [hk]
  rw [e]
  have := (h _ (List.getElem_mem hk)).1
  omega

set_option maxHeartbeats 4000000 in
set_option maxRecDepth 10000 in
theorem apart5_small (H : CobsOk) (p : Option Addr) (N c : Nat) (xs : List Int) (p2 : Option Addr) (N2 c2 : Nat) (ys : List Int) (w : World) (hx : N = xs.length) (hb : Bytes8 w p xs) (hoc : Octets xs) (hc : N ≤ c) (hc' : c ≤ 9223372036854775807) (hn0 : p = none → N = 0 ∧ c = 0) (hg : N ≤ 400)
    (hy : N2 = ys.length) (hb2 : Bytes8 w p2 ys) (hoy : Octets ys) (hd : N2 ≤ c2) (hd' : c2 ≤ 9223372036854775807) (hm0 : p2 = none → N2 = 0 ∧ c2 = 0) (hg2 : N2 ≤ 400) :
    Calls Try.prog 6 #[.slice p N c, .slice p2 N2 c2] w fun e w' => e = .returned (.bool true) ∧ Keeps NoBlock w w' := by
  obtain ⟨i0, hi, hz0, hz1, hz2⟩ := info_parts infoByte
  have HLv := Lib.hid (fun w => lives5_true H w)
  have HB := Lib.hid hb
  have HB2 := Lib.hid hb2
  have HX := Lib.hid hx
  have HY := Lib.hid hy
  have HS1 := Lib.hid (fun w hb => H.stuff p N c xs w hx hc hc' hn0 hoc (by omega) hb)
  have HS2 := Lib.hid (fun w hb => H.stuff p2 N2 c2 ys w hy hd hd' hm0 hoy (by omega) hb)
  have HUn := Lib.hid H.unstuff
  have HU1 := Lib.hid (unst_stuff hoc)
  have HU2 := Lib.hid (unst_stuff hoy)
  have HI := Lib.hid (fun h => stuff_inj (xs := xs) (ys := ys) h)
  have HSo1 := Lib.hid (stuff_solid hoc)
  have HSo2 := Lib.hid (stuff_solid hoy)
  have hl1 := stuff_most xs
  have hl2 := stuff_most ys
  have hq1 := mostOf_le xs.length
  have hq2 := mostOf_le ys.length
  have hl1' : (stuff xs).length ≤ 801 := by omega
  have hl2' : (stuff ys).length ≤ 801 := by omega
  have hp1 := stuff_pos xs
  have hp2 := stuff_pos ys
  obtain ⟨S, hS⟩ : ∃ S, S = stuff xs := ⟨_, rfl⟩
  obtain ⟨T, hT⟩ : ∃ T, T = stuff ys := ⟨_, rfl⟩
  have HEqx := Lib.hid (show (S = T) ↔ (xs = ys) from ⟨fun h => HI.out (by rw [← hS, ← hT, h]), fun h => by rw [hS, hT, h]⟩)
  rw [← hS] at HS1 HU1 HSo1 hl1' hp1
  rw [← hT] at HS2 HU2 HSo2 hl2' hp2
  have HP1 := Lib.hid (List.length_pos_iff.2 hp1)
  have HP2 := Lib.hid (List.length_pos_iff.2 hp2)
  have HOx := Lib.hid hoc
  have HOy := Lib.hid hoy
  have hgN : decide ((400 : Int) < (N : Int)) = false := decide_eq_false (by omega)
  have hgN2 : decide ((400 : Int) < (N2 : Int)) = false := decide_eq_false (by omega)
  clear H hb hb2 hx hy hoc hoy hn0 hm0 hl1 hl2 hq1 hq2 hS hT HI hp1 hp2
  go_enter Try.func6, Try.ntmps6
  go_wp2_with fail
  refine (HLv.out _).mono ?_
  rintro e w1 ⟨rfl, hk⟩
  have HK1 := Lib.hid hk
  clear hk
  go_wp2_with fail
  refine (HS1.out _ (HB.out.keep HK1.out (fun _ _ h => h))).mono ?_
  rintro e w2 ⟨v, rfl, q3, m3, d3, rfl, hm3, hd3, hd3', hq3, hb3, hk⟩
  have HK2 := Lib.hid (HK1.out.trans hk)
  have HB3 := Lib.hid hb3
  have HM3 := Lib.hid hm3
  have hm3' : m3 ≤ 801 := by omega
  clear hk hb3 hm3
  go_wp2_with fail
  refine (HS2.out _ (HB2.out.keep HK2.out (fun _ _ h => h))).mono ?_
  rintro e w3 ⟨v, rfl, q4, m4, d4, rfl, hm4, hd4, hd4', hq4, hb4, hk⟩
  have HK3 := Lib.hid (HK2.out.trans hk)
  have HB3 := Lib.hid (HB3.out.keep hk (fun _ _ h => h))
  have HB4 := Lib.hid hb4
  have hc1 := textOf p N c xs w3 HX.out (HB.out.keep HK3.out (fun _ _ h => h))
  have hc2 := textOf p2 N2 c2 ys w3 HY.out (HB2.out.keep HK3.out (fun _ _ h => h))
  have hc3 := textOf q3 m3 d3 S w3 HM3.out HB3.out
  have hc4 := textOf q4 m4 d4 T w3 hm4 hb4
  have hcmp1 : ((strOfNums S).toList == (strOfNums T).toList) = decide (xs = ys) := by
    rw [text_beq]
    exact decide_eq_decide.2 ⟨fun h => HEqx.out.1 (strOf_inj HSo1.out.octets HSo2.out.octets h), fun h => by rw [HEqx.out.2 h]⟩
  have hcmp2 : ((strOfNums xs).toList == (strOfNums ys).toList) = decide (xs = ys) := by
    rw [text_beq]
    exact decide_eq_decide.2 ⟨fun h => strOf_inj HOx.out HOy.out h, fun h => by rw [h]⟩
  have HM4 := Lib.hid hm4
  have hm4' : m4 ≤ 801 := by omega
  clear hk hb4 hm4 hl1' hl2'
  go_upto_region 6 with (fail)
  have hm30 : 0 < m3 := by rw [HM3.out]; exact HP1.out
  have hm40 : 0 < m4 := by rw [HM4.out]; exact HP2.out
  obtain ⟨a3, rfl⟩ : ∃ a, q3 = some a := by cases q3 with
    | none => have := (hq3 rfl).1; omega
    | some a => exact ⟨a, rfl⟩
  obtain ⟨a4, rfl⟩ : ∃ a, q4 = some a := by cases q4 with
    | none => have := (hq4 rfl).1; omega
    | some a => exact ⟨a, rfl⟩
  clear hc1 hc2 hc3 hc4 hcmp1 hcmp2 hq3 hq4
  go_cut [7] (fun s7 wx => Copied w3 (m3 + 1 + m4) (S ++ [0] ++ T) s7 wx)
  case first =>
    go_wp2_with (at_builtin; refine wpList_append_own _ rfl _ _ 22 rfl w3.heap.size 5 i0 (.int .u8 0) 1 1 Try.underlying22 hi hz0 hz1 hz2 rfl (by decide) _ _ _ rfl (World.ownsRow_made w3 #[] 0 (Nat.le_refl _) (Nat.zero_le _) rfl) a3 m3 d3 (S.map (Value.int .u8)) rfl ?qc1 ?qc2 ?qc3 ?qc4 ?qc5 ?qc6 ?_)
    case qc1 => have := HM3.out; simp; omega
    case qc2 =>
      intro j u hj
      have hjn : j < S.length := by
        have := (List.getElem?_eq_some_iff.1 hj).1
        simpa using this
      obtain ⟨a', ha', hcell⟩ := HB3.out (by omega)
      obtain rfl := Option.some.inj ha'
      refine Lib.cell?_alloc_some _ ?_
      rw [hcell j hjn]
      have e : (S.map (Value.int .u8))[j]? = some (Value.int .u8 (S.getD j 0)) := by simp [List.getElem?_eq_getElem hjn]
      rw [e] at hj
      exact hj
    case qc3 => intro u hu; obtain ⟨x, _, rfl⟩ := List.mem_map.1 hu; rfl
    case qc4 => unfold maxLen; omega
    case qc5 => omega
    case qc6 => simp
    intro v1 wg1 hown hgrow hnil
    have hbel : Below w3.heap.size w3 wg1 := ((Below.refl _ w3).alloc (Nat.le_refl _) _).grown hgrow (by simp) (by intro k hk; simp [Value.ownBlock] at hk; omega)
    have HC1 := Lib.hid (show Copied w3 m3 S v1 wg1 from ⟨by simpa using hown, hbel⟩)
    clear hown hgrow hnil hbel
    go_wp2_with (at_builtin; refine wpList_append_own _ rfl _ _ 22 rfl w3.heap.size 5 i0 (.int .u8 0) 1 1 Try.underlying22 hi hz0 hz1 hz2 rfl (by decide) _ _ _ rfl (HC1.out.1.alloc _) ⟨wg1.heap.size, 0, none⟩ 1 1 [.int .u8 0] rfl ?qd1 ?qd2 ?qd3 ?qd4 ?qd5 ?qd6 ?_)
    case qd1 => rfl
    case qd2 =>
      intro k u hk
      match k, hk with
      | 0, hk =>
        obtain rfl : Value.int .u8 0 = u := by simpa using hk
        exact Whole.cell (Whole.new wg1 _ _) 0 rfl
    case qd3 => intro u hu; simp at hu; subst hu; rfl
    case qd4 => unfold maxLen; omega
    case qd5 => omega
    case qd6 => have := HC1.out.2.size; simp; omega
    intro v2 wg2 hown hgrow _
    have hbel : Below w3.heap.size w3 wg2 := (HC1.out.2.alloc HC1.out.2.size _).grown hgrow (by have := HC1.out.2.size; simp; omega) (by intro k hk; exact own_base HC1.out.1 hk)
    have HC2 := Lib.hid (show Copied w3 (m3 + 1) (S ++ [0]) v2 wg2 from ⟨by rw [List.map_append]; simpa using hown, hbel⟩)
    clear hown hgrow hbel
    have hb4k : Bytes8 wg2 (some a4) T := HB4.out.keep (Keeps.ofBelow (S := NoBlock) HC2.out.2) (fun _ _ h => h)
    have HB4k := Lib.hid hb4k
    clear hb4k
    go_wp2_with (at_builtin; refine wpList_append_own _ rfl _ _ 22 rfl w3.heap.size 5 i0 (.int .u8 0) 1 1 Try.underlying22 hi hz0 hz1 hz2 rfl (by decide) _ _ _ rfl HC2.out.1 a4 m4 d4 (T.map (Value.int .u8)) rfl ?qe1 ?qe2 ?qe3 ?qe4 ?qe5 ?qe6 ?_)
    case qe1 => have := HM4.out; simp; omega
    case qe2 =>
      intro j u hj
      have hjn : j < T.length := by
        have := (List.getElem?_eq_some_iff.1 hj).1
        simpa using this
      obtain ⟨a', ha', hcell⟩ := HB4k.out (by omega)
      obtain rfl := Option.some.inj ha'
      rw [hcell j hjn]
      have e : (T.map (Value.int .u8))[j]? = some (Value.int .u8 (T.getD j 0)) := by simp [List.getElem?_eq_getElem hjn]
      rw [e] at hj
      exact hj
    case qe3 => intro u hu; obtain ⟨x, _, rfl⟩ := List.mem_map.1 hu; rfl
    case qe4 => unfold maxLen; omega
    case qe5 => omega
    case qe6 => exact HC2.out.2.size
    intro v3 wg3 hown hgrow hnil
    have hbel : Below w3.heap.size w3 wg3 := HC2.out.2.grown hgrow HC2.out.2.size (by intro k hk; exact own_base HC2.out.1 hk)
    have HC3 := Lib.hid (show Copied w3 (m3 + 1 + m4) (S ++ [0] ++ T) v3 wg3 from ⟨by rw [List.map_append]; simpa [Nat.add_assoc] using hown, hbel⟩)
    clear hown hgrow hnil hbel
    go_wp2_with fail
    go_meet
    case rel => exact HC3.out
  case rest =>
    have hX3 : m3 + 1 + m4 = (S ++ [0] ++ T).length := by simp [HM3.out, HM4.out]; omega
    obtain ⟨q, d, rfl, hd5, hd5', hq, hq0⟩ := hcut.read2 hX3
    obtain ⟨a5, rfl⟩ : ∃ a, q = some a := by cases q with
      | none => have := (hq0 rfl).1; omega
      | some a => exact ⟨a, rfl⟩
    have hkc := Keeps.ofBelow (S := NoBlock) hcut.2
    have HK9 := Lib.hid (HK3.out.trans hkc)
    obtain ⟨M, hM⟩ : ∃ M, M = m3 + 1 + m4 := ⟨_, rfl⟩
    have HMe := Lib.hid hM
    have HX3 := Lib.hid (hM.trans hX3)
    have HBq := Lib.hid hq
    rw [← hM] at hd5 ⊢
    have hM2 : M ≤ 1700 := by omega
    have hM3 : m3 < M := by omega
    clear hcut hkc hX3 hq hq0 hM HB3 HB4
    obtain ⟨W9, rfl⟩ : ∃ W9, W9 = wc := ⟨_, rfl⟩
    go_wp2_with fail
    go_loop [8, 9, 10, 52] (fun s8 _ _ i => ∃ k : Nat, k ≤ M ∧ i = .int .i64 (k : Int) ∧ s8 = .int .i64 (if k ≤ m3 then (-1 : Int) else (m3 : Int))) (fun _ _ _ i => M - (intOf i).toNat)
    case atStart => exact ⟨0, Nat.zero_le _, rfl, by rw [if_pos (Nat.zero_le _)]⟩
    case round =>
      obtain ⟨k, hk, rfl, rfl⟩ := hrel
      by_cases hlt : k < M
      · have hdk : decide ((k : Int) < (M : Int)) = true := decide_eq_true (by omega)
        have ha1 : (0 : Int) ≤ (k : Int) := by omega
        have ha2 : (k : Int) < (M : Int) := by omega
        obtain ⟨a', ha', hcell⟩ := HBq.out (by have := HX3.out; omega)
        obtain rfl := Option.some.inj ha'
        have c0 := hcell k (by have := HX3.out; omega)
        rw [getD_app3, ← HM3.out] at c0
        clear hcell ha'
        by_cases h1 : k < m3
        · rw [if_pos h1] at c0
          have hne := solid_getD HSo1.out k (by have := HM3.out; omega)
          obtain ⟨b, hb⟩ : ∃ b, b = S.getD k 0 := ⟨_, rfl⟩
          rw [← hb] at c0 hne
          have hbz : (b == 0) = false := by rw [beq_eq_false_iff_ne]; exact hne
          rw [if_pos (by omega)]
          clear hb hne
          go_wp2_with fail
          exact ⟨⟨k + 1, by omega, rfl, by rw [if_pos (by omega)]⟩, by simp [intOf]; omega⟩
        · rw [if_neg h1] at c0
          by_cases h2 : k = m3
          · rw [if_pos h2] at c0
            rw [if_pos (by omega)]
            subst h2
            go_wp2_with fail
            exact ⟨⟨k + 1, by omega, rfl, by rw [if_neg (by omega)]⟩, by simp [intOf]; omega⟩
          · rw [if_neg h2] at c0
            have hne := solid_getD HSo2.out (k - (m3 + 1)) (by have := HM4.out; have := HMe.out; omega)
            obtain ⟨b, hb⟩ : ∃ b, b = T.getD (k - (m3 + 1)) 0 := ⟨_, rfl⟩
            rw [← hb] at c0 hne
            have hbz : (b == 0) = false := by rw [beq_eq_false_iff_ne]; exact hne
            rw [if_neg (by omega)]
            clear hb hne
            go_wp2_with fail
            exact ⟨⟨k + 1, by omega, rfl, by rw [if_neg (by omega)]⟩, by simp [intOf]; omega⟩
      · obtain rfl : k = M := by omega
        have hdk : decide ((k : Int) < (k : Int)) = false := decide_eq_false (by omega)
        rw [if_neg (by omega)]
        have hb1 : (0 : Int) ≤ (m3 : Int) := by omega
        have hb2 : (m3 : Int) ≤ (d : Int) := by omega
        have hb2' : m3 ≤ d := by omega
        have hbS : Bytes8 W9 (some a5) S := by
          have h1 := HBq.out.piece (q := some a5) 0 m3 (by have := HX3.out; omega) (fun _ => rfl)
          rw [List.drop_zero, List.append_assoc, List.take_append_of_le_length (by have := HM3.out; omega), List.take_of_length_le (by have := HM3.out; omega)] at h1
          exact h1
        have hbT : Bytes8 W9 (some (a5.add (m3 + 1))) T := by
          have h1 := HBq.out.piece (q := some (a5.add (m3 + 1))) (m3 + 1) m4 (by have := HX3.out; have := HMe.out; omega) (fun _ => rfl)
          rw [List.drop_append_of_le_length (by simp; have := HM3.out; omega), List.drop_eq_nil_of_le (by simp; have := HM3.out; omega), List.nil_append, List.take_of_length_le (by have := HM4.out; omega)] at h1
          exact h1
        rw [show a5.add (m3 + 1) = ⟨a5.block, a5.off + (m3 + 1), none⟩ by simp [Addr.add]] at hbT
        have HbT := Lib.hid hbT
        have HC1 := Lib.hid (HUn.out (some a5) m3 d S W9 HM3.out hb2' hd5' (fun h => by simp at h) HSo1.out.octets (by omega) hbS)
        rw [HU1.out] at HC1
        clear hbS hbT
        have hmk : k - (m3 + 1) = m4 := by have := HMe.out; omega
        have hb3 : (m3 : Int) + 1 ≤ (k : Int) := by omega
        have hb4 : (k : Int) ≤ (d : Int) := by omega
        have hb5 : (0 : Int) ≤ (m3 : Int) + 1 := by omega
        have hb6 : IntKind.i64.wrap ((m3 : Int) + 1) = (m3 : Int) + 1 := by rw [IntKind.wrap_i64]; omega
        have hb7 : ((m3 : Int) + 1).toNat = m3 + 1 := by omega
        have hb8 : ¬ d = m3 + 1 := by have := HMe.out; omega
        have hb9 : (m3 : Int) + 1 ≤ (d : Int) := by omega
        go_wp2_with fail
        refine HC1.out.mono ?_
        rintro e w10 ⟨v, rfl, q10, m10, d10, rfl, hm10, _, _, _, hb10, hk⟩
        have HK10 := Lib.hid (HK9.out.trans hk)
        have HbT := Lib.hid (HbT.out.keep hk (fun _ _ h => h))
        have HB10 := Lib.hid hb10
        have HM10 := Lib.hid hm10
        clear hk hb10 hm10 HC1
        go_wp2_with fail
        have HC2 := Lib.hid (HUn.out (some ⟨a5.block, a5.off + (m3 + 1), none⟩) m4 (d - (m3 + 1)) T w10 HM4.out (by have := HMe.out; omega) (by omega) (fun h => by simp at h) HSo2.out.octets (by omega) HbT.out)
        rw [HU2.out] at HC2
        refine HC2.out.mono ?_
        rintro e w11 ⟨v, rfl, q11, m11, d11, rfl, hm11, _, _, _, hb11, hk⟩
        have HK11 := Lib.hid (HK10.out.trans hk)
        have hc10 := textOf q10 m10 d10 xs w11 HM10.out (HB10.out.keep hk (fun _ _ h => h))
        have hc11 := textOf q11 m11 d11 ys w11 hm11 hb11
        have hc1 := textOf p N c xs w11 HX.out (HB.out.keep HK11.out (fun _ _ h => h))
        have hc2 := textOf p2 N2 c2 ys w11 HY.out (HB2.out.keep HK11.out (fun _ _ h => h))
        have HM11 := Lib.hid hm11
        clear hk hb11 hm11 HC2
        go_wp2_with fail
        go_ret
        exact ⟨rfl, HK11.out⟩

set_option maxRecDepth 10000 in
theorem apart5_walk (H : CobsOk) (p : Option Addr) (N c : Nat) (xs : List Int) (p2 : Option Addr) (N2 c2 : Nat) (ys : List Int) (w : World) (hx : N = xs.length) (hb : Bytes8 w p xs) (hoc : Octets xs) (hc : N ≤ c) (hc' : c ≤ 9223372036854775807) (hn0 : p = none → N = 0 ∧ c = 0)
    (hy : N2 = ys.length) (hb2 : Bytes8 w p2 ys) (hoy : Octets ys) (hd : N2 ≤ c2) (hd' : c2 ≤ 9223372036854775807) (hm0 : p2 = none → N2 = 0 ∧ c2 = 0) :
    Calls Try.prog 6 #[.slice p N c, .slice p2 N2 c2] w fun e w' => e = .returned (.bool true) ∧ Keeps NoBlock w w' := by
  by_cases hgo : N ≤ 400 ∧ N2 ≤ 400
  · exact apart5_small H p N c xs p2 N2 c2 ys w hx hb hoc hc hc' hn0 hgo.1 hy hb2 hoy hd hd' hm0 hgo.2
  · have HLv := Lib.hid (fun w => lives5_true H w)
    clear H hx hb hoc hn0 hy hb2 hoy hm0
    by_cases hg : N ≤ 400
    · have hgN : decide ((400 : Int) < (N : Int)) = false := decide_eq_false (by omega)
      have hgN2 : decide ((400 : Int) < (N2 : Int)) = true := decide_eq_true (by omega)
      go_enter Try.func6, Try.ntmps6
      go_wp2_with fail
      refine (HLv.out _).mono ?_
      rintro e w1 ⟨rfl, hk⟩
      have HK := Lib.hid hk
      clear hk
      go_wp2_with fail
      refine (HLv.out _).mono ?_
      rintro e w2 ⟨rfl, hk2⟩
      have HK2 := Lib.hid (HK.out.trans hk2)
      clear hk2
      go_wp2_with fail
      go_ret
      exact ⟨rfl, HK2.out⟩
    · have hgN : decide ((400 : Int) < (N : Int)) = true := decide_eq_true (by omega)
      go_enter Try.func6, Try.ntmps6
      go_wp2_with fail
      refine (HLv.out _).mono ?_
      rintro e w1 ⟨rfl, hk⟩
      have HK := Lib.hid hk
      clear hk
      go_wp2_with fail
      refine (HLv.out _).mono ?_
      rintro e w2 ⟨rfl, hk2⟩
      have HK2 := Lib.hid (HK.out.trans hk2)
      clear hk2
      go_wp2_with fail
      go_ret
      exact ⟨rfl, HK2.out⟩
end Go.Proofs.Ytckebghkilamjaa

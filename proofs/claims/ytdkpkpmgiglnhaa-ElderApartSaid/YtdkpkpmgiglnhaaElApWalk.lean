/-
  The law ElderApart: its walk.
-/
import Derived.Test.YtdkpkpmgiglnhaaElRoWalk
import Derived.Test.YtdkpkpmgiglnhaaAlikeG
import Derived.Test.YtdkpkpmgiglnhaaGrow
import Derived.Test.YtdkpkpmgiglnhaaTextEq
namespace Go.Proofs.Ytdkpkpmgiglnhaa
open Go.RowKit

instance : DecidableEq Pr := fun a b => decidable_of_iff (a.key = b.key ∧ a.val = b.val) ⟨fun h => by cases a; cases b; simp at h; rw [h.1, h.2], fun h => by rw [h]; exact ⟨rfl, rfl⟩⟩

theorem prEqB {a b : Pr} (ha : a.Fine) (hb : b.Fine) (w : World) : (binOp .eql 30 (.agg #[.string (strOfNums a.key), .string (strOfNums a.val)]) (.agg #[.string (strOfNums b.key), .string (strOfNums b.val)])).run Try.prog w = .ok (.bool (decide (a = b))) w := by
  obtain ⟨ak, av⟩ := a
  obtain ⟨bk, bv⟩ := b
  by_cases h : (⟨ak, av⟩ : Pr) = ⟨bk, bv⟩
  · rw [← h, decide_eq_true rfl]
    exact prEqE _ w
  · rw [decide_eq_false h]
    by_cases h1 : ak = bk
    · subst h1
      have h2 : strOfNums av ≠ strOfNums bv := fun e => h (congrArg (Pr.mk ak) (strOf_inj ha.val hb.val e))
      simp [go_sem, text_beq, h2]
    · have h2 : strOfNums ak ≠ strOfNums bk := fun e => h1 (strOf_inj ha.key hb.key e)
      simp [go_sem, text_beq, h2]

theorem elapart_many (H : ElderOk) (p q : Option Addr) (n c k d : Nat) (l m : List Pr) (w : World) (hn : n = l.length) (hk0 : k = m.length) (hn9 : n ≤ 9223372036854775807) (hk9 : k ≤ 9223372036854775807) (hs : ∀ r ∈ l, r.key.length ≤ 9223372036854775807 ∧ r.val.length ≤ 9223372036854775807) (ht : ∀ r ∈ m, r.key.length ≤ 9223372036854775807 ∧ r.val.length ≤ 9223372036854775807) (hl : PrsAt w p l) (hm : PrsAt w q m) (hg : (fewP l 10 300 && fewP m 10 300) = false) :
    Calls Try.prog 3 #[.slice p n c, .slice q k d] w fun e w' => e = .returned (.bool true) ∧ Keeps NoBlock w w' := by
  have HLv := Lib.hid (fun w => lives10_true H w)
  have HFw := Lib.hid (fun w hl => few10_any p n c l 10 300 10 300 rfl rfl hn hn9 hs w hl)
  have HFm := Lib.hid (fun w hl => few10_any q k d m 10 300 10 300 rfl rfl hk0 hk9 ht w hl)
  have HL := Lib.hid hl
  have HM := Lib.hid hm
  clear H hs ht hl hm hn hk0
  cases h1 : fewP l 10 300 with
  | false =>
    rw [h1] at HFw
    clear h1 hg
    go_enter Try.func3, Try.ntmps3
    go_wp2_with fail
    refine (HLv.out _).mono ?_
    rintro e w1 ⟨rfl, hk⟩
    have HK := Lib.hid hk
    clear hk
    go_wp2_with fail
    refine (HFw.out _ (HL.out.keep HK.out (fun _ _ h => h))).mono ?_
    rintro e w2 ⟨rfl, hk⟩
    have HK := Lib.hid (HK.out.trans hk)
    clear hk
    go_wp2_with fail
    refine (HLv.out _).mono ?_
    rintro e w3 ⟨rfl, hk⟩
    have HK := Lib.hid (HK.out.trans hk)
    clear hk
    go_wp2_with fail
    go_ret
    exact ⟨rfl, HK.out⟩
  | true =>
    rw [h1, Bool.true_and] at hg
    rw [h1] at HFw
    rw [hg] at HFm
    clear h1 hg
    go_enter Try.func3, Try.ntmps3
    go_wp2_with fail
    refine (HLv.out _).mono ?_
    rintro e w1 ⟨rfl, hk⟩
    have HK := Lib.hid hk
    clear hk
    go_wp2_with fail
    refine (HFw.out _ (HL.out.keep HK.out (fun _ _ h => h))).mono ?_
    rintro e w2 ⟨rfl, hk⟩
    have HK := Lib.hid (HK.out.trans hk)
    clear hk
    go_wp2_with fail
    refine (HFm.out _ (HM.out.keep HK.out (fun _ _ h => h))).mono ?_
    rintro e w2 ⟨rfl, hk⟩
    have HK := Lib.hid (HK.out.trans hk)
    clear hk
    go_wp2_with fail
    refine (HLv.out _).mono ?_
    rintro e w3 ⟨rfl, hk⟩
    have HK := Lib.hid (HK.out.trans hk)
    clear hk
    go_wp2_with fail
    go_ret
    exact ⟨rfl, HK.out⟩

/-- What PutAll is asked for of a row. -/
def PutsOk (p : Option Addr) (n c : Nat) (l : List Pr) : Prop := ∀ w, PrsAt w p l → Calls Try.prog 10 #[.slice p n c] w fun e w' => ∃ v, e = .returned (.tuple #[v, .int .i64 (checkAll l)]) ∧ NewBytes w (putsP l) v w'

set_option maxHeartbeats 8000000 in
set_option maxRecDepth 10000 in
theorem elapart_few (H : ElderOk) (p q : Option Addr) (n c k d : Nat) (l m : List Pr) (w : World) (hn : n = l.length) (hk0 : k = m.length) (hc : n ≤ c) (hc' : c ≤ 9223372036854775807) (hd : k ≤ d) (hd' : d ≤ 9223372036854775807)
    (hfl : ∀ r ∈ l, r.Fine) (hfm : ∀ r ∈ m, r.Fine) (hl : PrsAt w p l) (hm : PrsAt w q m) (hg1 : fewP l 10 300 = true) (hg2 : fewP m 10 300 = true) :
    Calls Try.prog 3 #[.slice p n c, .slice q k d] w fun e w' => e = .returned (.bool true) ∧ Keeps NoBlock w w' := by
  obtain ⟨hal, hll⟩ := few_both hg1
  obtain ⟨ham, hlm⟩ := few_both hg2
  have hlit : ∀ r ∈ l, r.key.length ≤ 300 ∧ r.val.length ≤ 300 := fun r hr => little_both (List.all_eq_true.1 hal r hr)
  have hmit : ∀ r ∈ m, r.key.length ≤ 300 ∧ r.val.length ≤ 300 := fun r hr => little_both (List.all_eq_true.1 ham r hr)
  have hsl : ∀ r ∈ l, r.Small := fun r hr => ⟨hfl r hr, by have := (hlit r hr).1; omega, by have := (hlit r hr).2; omega⟩
  have hsm : ∀ r ∈ m, r.Small := fun r hr => ⟨hfm r hr, by have := (hmit r hr).1; omega, by have := (hmit r hr).2; omega⟩
  have htl : (textAll l).length ≤ 6120 := by
    have h1 := text_few hal
    have := Nat.mul_le_mul_right (2 * 300 + 12) hll
    omega
  have htm : (textAll m).length ≤ 6120 := by
    have h1 := text_few ham
    have := Nat.mul_le_mul_right (2 * 300 + 12) hlm
    omega
  have hol := textAll_octets hfl
  have hom := textAll_octets hfm
  have HLv := Lib.hid (fun w => lives10_true H w)
  have HFw := Lib.hid (fun w hl => few10_any p n c l 10 300 10 300 rfl rfl hn (by omega) (fun r hr => by have := hlit r hr; omega) w hl)
  have HFm := Lib.hid (fun w hl => few10_any q k d m 10 300 10 300 rfl rfl hk0 (by omega) (fun r hr => by have := hmit r hr; omega) w hl)
  rw [hg1] at HFw
  rw [hg2] at HFm
  have HPl : Hid (PutsOk p n c l) := Lib.hid (fun w hl => H.putall p n c l w hn hc hc' (by omega) hsl (by omega) hl)
  have HPm : Hid (PutsOk q k d m) := Lib.hid (fun w hl => H.putall q k d m w hk0 hd hd' (by omega) hsm (by omega) hl)
  unfold PutsOk at HPl HPm
  have HGa := Lib.hid (fun q d w (h1 : (textAll l ++ textAll m).length ≤ d) h2 h3 hb8 => H.getall q (textAll l ++ textAll m).length d (textAll l ++ textAll m) w ⟨rfl, h1, h2, h3, hol.app hom, hb8⟩ (by rw [List.length_append]; omega))
  have HL := Lib.hid hl
  have HM := Lib.hid hm
  have HN := Lib.hid hn
  have HN2 := Lib.hid hk0
  have HFl := Lib.hid hfl
  have HFm2 := Lib.hid hfm
  have HOl := Lib.hid hol
  have HOm := Lib.hid hom
  have HTl := Lib.hid htl
  have HTm := Lib.hid htm
  have hn10 : n ≤ 10 := by omega
  have hk10 : k ≤ 10 := by omega
  obtain ⟨u, hu⟩ : ∃ u, u = checkAll l := ⟨_, rfl⟩
  obtain ⟨v, hv⟩ : ∃ v, v = checkAll m := ⟨_, rfl⟩
  rw [← hu] at HPl
  rw [← hv] at HPm
  clear H hal hll ham hlm hlit hmit hsl hsm htl htm hol hom hg1 hg2 hl hm hn hk0 hfl hfm
  by_cases hb : u = 0 ∧ v = 0
  · obtain ⟨hu0, hv0⟩ := hb
    subst hu0
    subst hv0
    have hokl := checkAll_ok.1 hu.symm
    have hokm := checkAll_ok.1 hv.symm
    have hpl : putsP l = textAll l := by unfold putsP; rw [if_pos hu.symm]
    have hpm : putsP m = textAll m := by unfold putsP; rw [if_pos hv.symm]
    rw [hpl] at HPl
    rw [hpm] at HPm
    rw [allP_text l (textAll m) hokl, allP_back hokm] at HGa
    unfold AllOk NewPrs at HGa
    simp only at HGa
    have hinj : decide (strOfNums (textAll l) = strOfNums (textAll m)) = decide (l = m) := by
      congr 1
      apply propext
      exact ⟨fun h => textAll_inj hokl hokm (strOf_inj HOl.out HOm.out h), fun h => by rw [h]⟩
    have hal0 : alikeG l m 0 = ((n : Int) == (k : Int)) := by
      rw [alikeG_zero, HN.out, HN2.out, Bool.eq_iff_iff, decide_eq_true_iff, beq_iff_eq]
      omega
    have HA0 := Lib.hid hal0
    have HIn := Lib.hid hinj
    rw [List.length_append] at HGa
    obtain ⟨T, hT⟩ : ∃ T, T = (textAll l).length := ⟨_, rfl⟩
    obtain ⟨U, hU⟩ : ∃ U, U = (textAll m).length := ⟨_, rfl⟩
    rw [← hT, ← hU] at HGa
    rw [← hT] at HTl
    rw [← hU] at HTm
    have HTT := Lib.hid hT
    have HUU := Lib.hid hU
    clear hu hv hokl hokm hpl hpm hinj hal0 hT hU
    go_enter Try.func3, Try.ntmps3
    go_wp2_with fail
    refine (HLv.out _).mono ?_
    rintro e w1 ⟨rfl, hk⟩
    have HK := Lib.hid hk
    clear hk
    go_wp2_with fail
    refine (HFw.out _ (HL.out.keep HK.out (fun _ _ h => h))).mono ?_
    rintro e w2 ⟨rfl, hk⟩
    have HK := Lib.hid (HK.out.trans hk)
    clear hk
    go_wp2_with fail
    refine (HFm.out _ (HM.out.keep HK.out (fun _ _ h => h))).mono ?_
    rintro e w3 ⟨rfl, hk⟩
    have HK := Lib.hid (HK.out.trans hk)
    clear hk HFw HFm HLv
    go_wp2_with fail
    refine (HPl.out _ (HL.out.keep HK.out (fun _ _ h => h))).mono ?_
    rintro e w4 ⟨va, rfl, q1, m1, d1, rfl, hm1, hmd1, hd1, hq1, hb1, hk⟩
    have h1T : m1 = T := hm1.trans HTT.out.symm
    subst h1T
    have HB1 := Lib.hid hb1
    have HQ1 := Lib.hid hq1
    have HK := Lib.hid (HK.out.trans hk)
    clear hk hm1 hb1 hq1
    go_wp2_with fail
    refine (HPm.out _ (HM.out.keep HK.out (fun _ _ h => h))).mono ?_
    rintro e w5 ⟨va, rfl, q2, m2, d2, rfl, hm2, hmd2, hd2, hq2, hb2, hk⟩
    have h2U : m2 = U := hm2.trans HUU.out.symm
    subst h2U
    have HB1 := Lib.hid (HB1.out.keep hk (fun _ _ h => h))
    have HB2 := Lib.hid hb2
    have HQ2 := Lib.hid hq2
    have HK := Lib.hid (HK.out.trans hk)
    clear hk hm2 hb2 hq2 HPl HPm
    have HL5 := Lib.hid (HL.out.keep HK.out (fun _ _ h => h))
    have HM5 := Lib.hid (HM.out.keep HK.out (fun _ _ h => h))
    clear HL HM
    go_wp2_with fail
    go_loopw [9, 10] (fun sm i wr => ∃ j : Nat, j ≤ n ∧ i = .int .i64 (j : Int) ∧ (∃ b : Bool, sm = .bool b ∧ Hid (b = alikeG l m j)) ∧ Hid (Keeps NoBlock w5 wr)) (fun _ i _ => n - (intOf i).toNat)
    case atStart => exact ⟨0, Nat.zero_le _, rfl, ⟨_, rfl, Lib.hid HA0.out.symm⟩, Lib.hid (Keeps.refl _ _)⟩
    case round =>
      obtain ⟨j, hj, rfl, ⟨b, rfl, HB⟩, HKr⟩ := hrel
      by_cases hgo : b = true ∧ j < n
      · obtain ⟨rfl, hlt⟩ := hgo
        have hdj : decide (j < n) = true := decide_eq_true hlt
        have hjl : j < l.length := by rw [← HN.out]; exact hlt
        have hjm : j < m.length := by rw [← alikeG_len HB.out.symm]; exact hjl
        have hjk : j < k := by rw [HN2.out]; exact hjm
        obtain ⟨a, rfl, a0, a1⟩ := (HL5.out.keep HKr.out (fun _ _ h => h)) j hjl
        obtain ⟨a2, rfl, b0, b1⟩ := (HM5.out.keep HKr.out (fun _ _ h => h)) j hjm
        have hal := alikeG_succ Pr.none hjl HB.out.symm
        have hf1 : (l.getD j Pr.none).Fine := HFl.out _ (by simp [hjl])
        have hf2 : (m.getD j Pr.none).Fine := HFm2.out _ (by simp [hjm])
        obtain ⟨r, hr⟩ : ∃ r, r = l.getD j Pr.none := ⟨_, rfl⟩
        obtain ⟨s, hs⟩ : ∃ s, s = m.getD j Pr.none := ⟨_, rfl⟩
        rw [← hr] at a0 a1 hal hf1
        rw [← hs] at b0 b1 hal hf2
        have heq := prEqB hf1 hf2
        have HAl := Lib.hid hal
        clear hr hs hjl hjm hal hf1 hf2
        go_wp2_with fail
        go_quiet (fail)
        go_wp2_with fail
        go_roundw
        case rel => exact ⟨j + 1, by omega, by go_num, ⟨_, rfl, Lib.hid HAl.out.symm⟩, Lib.hid (by first | exact HKr.out.drewN _ | exact HKr.out)⟩
        case measure => simp [intOf]; omega
      · have hbd : b = decide (l = m) := by
          cases b with
          | true =>
            have hge : ¬ j < n := fun h => hgo ⟨rfl, h⟩
            rw [HB.out, alikeG_all (by have := HN.out; omega)]
          | false =>
            have := alikeG_not (l := l) (m := m) (j := l.length) (by have := HN.out; omega) HB.out.symm
            rw [alikeG_all (Nat.le_refl _)] at this
            exact this.symm
        have hcc : ((strOfNums (textAll l)).toList == (strOfNums (textAll m)).toList) = b := by rw [text_beq, HIn.out, hbd]
        have hbb : (b != b) = false := by cases b <;> rfl
        have s1 := textOf q1 m1 d1 (textAll l) wr HTT.out (HB1.out.keep HKr.out (fun _ _ h => h))
        have s2 := textOf q2 m2 d2 (textAll m) wr HUU.out (HB2.out.keep HKr.out (fun _ _ h => h))
        have HK6 := Lib.hid (HK.out.trans HKr.out)
        have HB1 := Lib.hid (HB1.out.keep HKr.out (fun _ _ h => h))
        have HB2 := Lib.hid (HB2.out.keep HKr.out (fun _ _ h => h))
        have HOw := Lib.hid (show (wr.alloc (.cells #[] 5)).ownsRow wr.heap.size 5 1 (.slice (some ⟨wr.heap.size, 0, none⟩) 0 0) 0 (([] : List Int).map (Value.int .u8)) from World.ownsRow_made wr #[] 0 (Nat.le_refl _) (Nat.zero_le _) rfl)
        have HBa : Hid (Bytes8 (wr.alloc (.cells #[] 5)) q1 (textAll l)) := Lib.hid (HB1.out.keep ((Keeps.refl NoBlock wr).alloc _) (fun _ _ h => h))
        have hdj : b = true → decide (j < n) = false := fun h => decide_eq_false fun g => hgo ⟨h, g⟩
        clear hgo hbd HB HL5 HM5 HFl HFm2 HA0 HIn
        cases b
        all_goals
          try have hdj := hdj rfl
          go_wp2_with (at_builtin; refine wpList_append_bytes rfl _ _ rfl wr.heap.size _ 0 [] rfl HOw.out q1 m1 d1 (textAll l) rfl HQ1.out HTT.out HBa.out (by have := HTl.out; omega) (by simp) ?_)
          intro v1 w6 hown hb6
          have HOw6 : Hid (w6.ownsRow wr.heap.size 5 1 v1 m1 ((textAll l).map (Value.int .u8))) := Lib.hid (by simpa using hown)
          have hbel : Below wr.heap.size wr w6 := ((Below.refl _ wr).alloc (Nat.le_refl _) _).trans hb6
          have HB2b := Lib.hid (HB2.out.keep (Keeps.ofBelow (S := NoBlock) hbel) (fun _ _ h => h))
          have HBl := Lib.hid hbel
          clear hown hb6 hbel
          go_wp2_with (at_builtin; refine wpList_append_bytes rfl _ _ rfl wr.heap.size _ m1 (textAll l) rfl HOw6.out q2 m2 d2 (textAll m) rfl HQ2.out HUU.out HB2b.out (by have := HTl.out; have := HTm.out; omega) HBl.out.size ?_)
          intro v2 w7 hown2 hb7
          obtain ⟨q3, d3, rfl, hd3, hd3', hb3, hn3⟩ := Copied.read2 (w0 := wr) (wx := w7) (N := m1 + m2) (xs := textAll l ++ textAll m) (v := v2) ⟨by simpa using hown2, HBl.out.trans hb7⟩ (by rw [List.length_append, HTT.out, HUU.out])
          have HK7 := Lib.hid (HK6.out.trans (Keeps.ofBelow (S := NoBlock) (HBl.out.trans hb7)))
          have HB3 := Lib.hid hb3
          have HN3 := Lib.hid hn3
          clear hown2 hb7 hb3 hn3
          go_wp2_with fail
          refine (HGa.out q3 d3 _ hd3 hd3' HN3.out HB3.out).mono ?_
          rintro e w8 ⟨v3, rfl, q6, m6, d6, rfl, hm6, hmd6, hd6, hq6, hl6, hk⟩
          have hmn : m6 = n + k := by rw [hm6, List.length_append, HN.out, HN2.out]
          subst hmn
          have HK8 := Lib.hid (HK7.out.trans hk)
          have hw1 : IntKind.i64.wrap ((m1 : Int) + (m2 : Int)) = (m1 : Int) + (m2 : Int) := by rw [IntKind.wrap_i64]; have := HTl.out; have := HTm.out; omega
          have hw2 : IntKind.i64.wrap ((n : Int) + (k : Int)) = (n : Int) + (k : Int) := by rw [IntKind.wrap_i64]; omega
          have hc1 : (((m1 + m2 : Nat) : Int) == (m1 : Int) + (m2 : Int)) = true := by simp
          have hc2 : (((n + k : Nat) : Int) == (n : Int) + (k : Int)) = true := by simp
          clear hm6 hl6 hk hq6
          go_wp2_with fail
          go_ret
          exact ⟨rfl, HK8.out⟩
  · have hne : (u != 0 || v != 0) = true := by
      by_cases h1 : u = 0
      · have h2 : v ≠ 0 := fun h => hb ⟨h1, h⟩
        simp [h2]
      · simp [h1]
    have hv2 : u = 0 → (v != 0) = true := fun h => by rw [bne_iff_ne]; exact fun g => hb ⟨h, g⟩
    clear hu hv hb HGa HOl HOm HTl HTm HFl HFm2
    go_enter Try.func3, Try.ntmps3
    go_wp2_with fail
    refine (HLv.out _).mono ?_
    rintro e w1 ⟨rfl, hk⟩
    have HK := Lib.hid hk
    clear hk
    go_wp2_with fail
    refine (HFw.out _ (HL.out.keep HK.out (fun _ _ h => h))).mono ?_
    rintro e w2 ⟨rfl, hk⟩
    have HK := Lib.hid (HK.out.trans hk)
    clear hk
    go_wp2_with fail
    refine (HFm.out _ (HM.out.keep HK.out (fun _ _ h => h))).mono ?_
    rintro e w3 ⟨rfl, hk⟩
    have HK := Lib.hid (HK.out.trans hk)
    clear hk HFw HFm HLv
    go_wp2_with fail
    refine (HPl.out _ (HL.out.keep HK.out (fun _ _ h => h))).mono ?_
    rintro e w4 ⟨va, rfl, q1, m1, d1, rfl, hm1, hmd1, hd1, hq1, hb1, hk⟩
    have HK := Lib.hid (HK.out.trans hk)
    clear hk hm1 hb1 hq1
    go_wp2_with fail
    refine (HPm.out _ (HM.out.keep HK.out (fun _ _ h => h))).mono ?_
    rintro e w5 ⟨va, rfl, q2, m2, d2, rfl, hm2, hmd2, hd2, hq2, hb2, hk⟩
    have HK := Lib.hid (HK.out.trans hk)
    clear hk hm2 hb2 hq2 HPl HPm HL HM
    by_cases h1 : u = 0
    · have hv3 := hv2 h1
      subst h1
      clear hv2 hne
      go_wp2_with fail
      go_ret
      exact ⟨rfl, HK.out⟩
    · have hu3 : (u != 0) = true := bne_iff_ne.2 h1
      clear hv2 hne
      go_wp2_with fail
      go_ret
      exact ⟨rfl, HK.out⟩

theorem elapart_walk (H : ElderOk) (p q : Option Addr) (n c k d : Nat) (l m : List Pr) (w : World) (hn : n = l.length) (hk0 : k = m.length) (hc : n ≤ c) (hc' : c ≤ 9223372036854775807) (hd : k ≤ d) (hd' : d ≤ 9223372036854775807)
    (hfl : ∀ r ∈ l, r.Fine) (hfm : ∀ r ∈ m, r.Fine) (hs : ∀ r ∈ l, r.key.length ≤ 9223372036854775807 ∧ r.val.length ≤ 9223372036854775807) (ht : ∀ r ∈ m, r.key.length ≤ 9223372036854775807 ∧ r.val.length ≤ 9223372036854775807) (hl : PrsAt w p l) (hm : PrsAt w q m) :
    Calls Try.prog 3 #[.slice p n c, .slice q k d] w fun e w' => e = .returned (.bool true) ∧ Keeps NoBlock w w' := by
  by_cases hg : (fewP l 10 300 && fewP m 10 300) = true
  · rw [Bool.and_eq_true] at hg
    exact elapart_few H p q n c k d l m w hn hk0 hc hc' hd hd' hfl hfm hl hm hg.1 hg.2
  · exact elapart_many H p q n c k d l m w hn hk0 (by omega) (by omega) hs ht hl hm (by simpa using hg)
end Go.Proofs.Ytdkpkpmgiglnhaa

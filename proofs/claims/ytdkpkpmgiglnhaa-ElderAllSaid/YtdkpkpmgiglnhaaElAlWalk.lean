/-
  The law ElderAll: its walk.
-/
import Derived.Test.YtdkpkpmgiglnhaaElSame
namespace Go.Proofs.Ytdkpkpmgiglnhaa
open Go.RowKit

theorem small_all {xs : List Int} (ho : Octets xs) (hl : xs.length ≤ 1500) : ∀ p ∈ (allP xs).l, p.Small := fun p hp => by
  obtain ⟨h1, h2, h3, h4⟩ := allP_only xs.length xs (Nat.le_refl _) ho
  obtain ⟨hc, hf⟩ := h3 p hp
  obtain ⟨a, b, c⟩ := checkP_ok.1 hc
  have hmem : ∀ (l : List Pr), p ∈ l → (textP p).length ≤ (textAll l).length := fun l => by
    induction l with
    | nil => intro h; simp at h
    | cons q l ih =>
      intro h
      show _ ≤ (textP q ++ textAll l).length
      rw [List.length_append]
      rcases List.mem_cons.1 h with rfl | h
      · omega
      · have := ih h
        omega
  have hh := hmem _ hp
  rw [h1, List.length_take, textP_length] at hh
  exact ⟨hf, by omega, by omega⟩
theorem few_all {l : List Pr} : l.length ≤ (textAll l).length := by
  induction l with
  | nil => simp [textAll]
  | cons p l ih =>
    show l.length + 1 ≤ (textP p ++ textAll l).length
    rw [List.length_append, textP_length]
    omega

set_option maxHeartbeats 8000000 in
set_option maxRecDepth 10000 in
theorem elall_small (H : ElderOk) (p : Option Addr) (N c : Nat) (xs : List Int) (w : World) (hin : In8 w p N c xs) (hg : N ≤ 1500) :
    Calls Try.prog 6 #[.slice p N c] w fun e w' => e = .returned (.bool true) ∧ Keeps NoBlock w w' := by
  obtain ⟨i0, hi, hz0, hz1, hz2⟩ := info_parts infoByte
  have HLv := Lib.hid (fun w => lives10_true H w)
  obtain ⟨hx, hN, hc, hn0, ho, hb⟩ := hin
  obtain ⟨o1, o2, o3, o4⟩ := allP_only xs.length xs (Nat.le_refl _) ho
  have hsm := small_all ho (by omega)
  have htl : (textAll (allP xs).l).length = (allP xs).n := by rw [o1, List.length_take]; omega
  have hfew := few_all (l := (allP xs).l)
  have hchk := checkAll_ok.2 (fun p hp => (o3 p hp).1)
  have HGa := Lib.hid (fun q d w (h1 : N ≤ d) (h2 : d ≤ 9223372036854775807) (h3 : q = none → N = 0 ∧ d = 0) hb8 => H.getall q N d xs w ⟨hx, h1, h2, h3, ho, hb8⟩ (by omega))
  have HRa := Lib.hid (fun w => getall_ref xs ho (by omega) w)
  have HPa := Lib.hid (fun q n d w (h0 : n = (allP xs).l.length) (h1 : n ≤ d) (h2 : d ≤ 9223372036854775807) hl => H.putall q n d (allP xs).l w h0 h1 h2 (by omega) hsm (by omega) hl)
  rw [hchk] at HPa
  have hps : putsP (allP xs).l = xs.take (allP xs).n := by unfold putsP; rw [if_pos hchk, o1]
  rw [hps] at HPa
  have hb2 : ((allP xs).e == 0) = ((((allP xs).n : Nat) : Int) == (N : Int)) := by
    rw [Bool.eq_iff_iff, beq_iff_eq, beq_iff_eq, o4, hx]
    omega
  have hnN : (allP xs).n ≤ N := by omega
  obtain ⟨A, hA⟩ : ∃ A, A = allP xs := ⟨_, rfl⟩
  rw [← hA] at HGa HRa HPa hb2 hnN hfew htl
  have HX := Lib.hid hx
  have HB0 := Lib.hid hb
  have HN0 := Lib.hid hn0
  have HFew := Lib.hid (show A.l.length ≤ 1500 by omega)
  have hgd : decide ((1500 : Int) < (N : Int)) = false := decide_eq_false (by omega)
  have hl2 : xs.length ≤ 1500 := by omega
  have HL2 := Lib.hid hl2
  clear H ho hx hb hn0 o1 o2 o3 o4 hsm htl hfew hchk hps hA hl2
  unfold AllOk at HGa HRa
  go_enter Try.func6, Try.ntmps6
  go_wp2_with fail
  refine (HLv.out _).mono ?_
  rintro e w1 ⟨rfl, hk⟩
  have HK1 := Lib.hid hk
  have HB1 := Lib.hid (HB0.out.keep hk (fun _ _ h => h))
  clear hk HB0
  go_upto_region 3 with (fail)
  go_cut [3] (fun s3 wx => Copied w1 N xs s3 wx)
  case first =>
    cases p with
    | none =>
      obtain ⟨rfl, rfl⟩ := HN0.out rfl
      go_wp2_with (at_builtin; refine wpList_append_own_none rfl _ _ 25 rfl w1.heap.size 5 i0 1 Try.underlying25 hi _ _ _ rfl (World.ownsRow_made w1 #[] 0 (Nat.le_refl _) (Nat.zero_le _) rfl) rfl ?_)
      go_meet
      case rel =>
        have hxs : xs = [] := List.length_eq_zero_iff.1 HX.out.symm
        subst hxs
        exact ⟨World.ownsRow_made w1 #[] 0 (Nat.le_refl _) (Nat.zero_le _) rfl, (Below.refl _ w1).alloc (Nat.le_refl _) _⟩
    | some a =>
      go_wp2_with (at_builtin; refine wpList_append_own _ rfl _ _ 25 rfl w1.heap.size 5 i0 (.int .u8 0) 1 1 Try.underlying25 hi hz0 hz1 hz2 rfl (by decide) _ _ _ rfl (World.ownsRow_made w1 #[] 0 (Nat.le_refl _) (Nat.zero_le _) rfl) a N c (xs.map (Value.int .u8)) rfl ?qc1 ?qc2 ?qc3 ?qc4 ?qc5 ?qc6 ?_)
      case qc1 => have := HX.out; simp; omega
      case qc2 =>
        intro j u hj
        have hjn : j < xs.length := by
          have := (List.getElem?_eq_some_iff.1 hj).1
          simpa using this
        obtain ⟨a', ha', hcell⟩ := HB1.out (by omega)
        obtain rfl := Option.some.inj ha'
        refine Lib.cell?_alloc_some _ ?_
        rw [hcell j hjn]
        have e : (xs.map (Value.int .u8))[j]? = some (Value.int .u8 (xs.getD j 0)) := by simp [List.getElem?_eq_getElem hjn]
        rw [e] at hj
        exact hj
      case qc3 => intro u hu; obtain ⟨x, _, rfl⟩ := List.mem_map.1 hu; rfl
      case qc4 => unfold maxLen; omega
      case qc5 => omega
      case qc6 => simp
      intro v' wg hown hgrow hnil
      have hbel : Below w1.heap.size w1 wg := ((Below.refl _ w1).alloc (Nat.le_refl _) _).grown hgrow (by simp) (by intro k hk; simp [Value.ownBlock] at hk; omega)
      have HC := Lib.hid (show Copied w1 N xs v' wg from ⟨by simpa using hown, hbel⟩)
      clear hown hgrow hnil hbel
      go_wp2_with fail
      go_meet
      case rel => exact HC.out
  case rest =>
    obtain ⟨q, d, rfl, hd, hd', hq, hq0⟩ := hcut.read2 HX.out
    have hkc := Keeps.ofBelow (S := NoBlock) hcut.2
    have HK9 := Lib.hid (HK1.out.trans hkc)
    have HBp := Lib.hid (HB1.out.keep hkc (fun _ _ h => h))
    have HBq := Lib.hid hq
    have HQ0 := Lib.hid hq0
    clear hcut hkc hq hq0 HB1 HK1
    go_wp2_with fail
    refine (HGa.out q d _ hd hd' HQ0.out HBq.out).mono ?_
    rintro e w2 ⟨v, rfl, q2, m2, d2, rfl, hm2, hmd2, hd2, hq2, hl2, hk⟩
    have HM2 := Lib.hid hm2
    have HL := Lib.hid hl2
    have HK9 := Lib.hid (HK9.out.trans hk)
    have HBp := Lib.hid (HBp.out.keep hk (fun _ _ h => h))
    have HBq := Lib.hid (HBq.out.keep hk (fun _ _ h => h))
    clear hk hm2 hl2 hq2
    have t1 := textOf p N c xs w2 HX.out HBp.out
    go_wp2_with fail
    refine (HRa.out _).mono ?_
    rintro e w3 ⟨v, rfl, q3, m3, d3, rfl, hm3, hmd3, hd3, hq3, hl3, hk⟩
    have hmm : m3 = m2 := by rw [hm3, HM2.out]
    subst hmm
    have HL := Lib.hid (HL.out.keep hk (fun _ _ h => h))
    have HL3 := Lib.hid hl3
    have HK9 := Lib.hid (HK9.out.trans hk)
    have HBp := Lib.hid (HBp.out.keep hk (fun _ _ h => h))
    have HBq := Lib.hid (HBq.out.keep hk (fun _ _ h => h))
    clear hk hm3 hl3 hq3 t1
    have hm15 : m3 ≤ 1500 := by rw [HM2.out]; exact HFew.out
    have HSm := Lib.hid (fun w hp hq => same10_go q2 q3 m3 d2 d3 A.l w HM2.out (by omega) hp hq)
    have hee : (A.e != A.e) = false := by simp
    have hnn : ((A.n : Int) != (A.n : Int)) = false := by simp
    go_wp2_with fail
    refine (HSm.out _ HL.out HL3.out).mono ?_
    rintro e w4 ⟨rfl, hk⟩
    have HL := Lib.hid (HL.out.keep hk (fun _ _ h => h))
    have HK9 := Lib.hid (HK9.out.trans hk)
    have HBp := Lib.hid (HBp.out.keep hk (fun _ _ h => h))
    have HBq := Lib.hid (HBq.out.keep hk (fun _ _ h => h))
    clear hk
    have t1 := textOf p N c xs w4 HX.out HBp.out
    have t2 := textOf q N d xs w4 HX.out HBq.out
    go_wp2_with fail
    refine (HPa.out q2 m3 d2 _ HM2.out hmd2 hd2 HL.out).mono ?_
    rintro e w5 ⟨v, rfl, q5, m5, d5, rfl, hm5, _, _, _, hb5, hk⟩
    have HK9 := Lib.hid (HK9.out.trans hk)
    have HBp := Lib.hid (HBp.out.keep hk (fun _ _ h => h))
    have HB5 := Lib.hid hb5
    have HM5 := Lib.hid hm5
    have hbt : Bytes8 w5 p (xs.take A.n) := Bytes8.left (ys := xs.drop A.n) (by rw [List.take_append_drop]; exact HBp.out)
    have HBt := Lib.hid hbt
    have htn : A.n = (xs.take A.n).length := by rw [List.length_take]; have := HX.out; omega
    have HTn := Lib.hid htn
    clear hk hm5 hb5 hbt htn t1 t2
    have hAN : (A.n : Int) ≤ (N : Int) := by omega
    have hAc : A.n ≤ c := by omega
    have s0 := And.intro (textOf q5 m5 d5 _ w5.drew HM5.out HB5.out) (textOf p A.n c _ w5.drew HTn.out HBt.out)
    have sN := And.intro (textOf q5 m5 d5 _ w5 HM5.out HB5.out) (textOf p A.n c _ w5 HTn.out HBt.out)
    obtain ⟨X, hX⟩ : ∃ X, X = xs.take A.n := ⟨_, rfl⟩
    rw [← hX] at s0 sN
    clear hX
    have hAc2 : (A.n : Int) ≤ (c : Int) := by omega
    by_cases hz : A.e = 0
    · have hb3 : ((A.n : Int) == (N : Int)) = true := by rw [← hb2]; rw [hz]; rfl
      have hz2 : (A.e == 0) = true := by rw [hz]; rfl
      clear hb2 hz
      go_wp2_with fail
      go_region_held3 (fun w' => (convert 25 9 (.slice q5 m5 d5)).run Try.prog w' = .ok (.string (strOfNums X)) w' ∧ (convert 25 9 (.slice p A.n c)).run Try.prog w' = .ok (.string (strOfNums X)) w')
        (first | exact s0 | exact sN)
        (fail)
      go_wp2_with fail
      go_ret
      exact ⟨rfl, by first | exact HK9.out.drewN _ | exact HK9.out⟩
    · have hb3 : ((A.n : Int) == (N : Int)) = false := by rw [← hb2]; exact beq_eq_false_iff_ne.2 hz
      have hz2 : (A.e == 0) = false := beq_eq_false_iff_ne.2 hz
      clear hb2 hz
      go_wp2_with fail
      go_region_held3 (fun w' => (convert 25 9 (.slice q5 m5 d5)).run Try.prog w' = .ok (.string (strOfNums X)) w' ∧ (convert 25 9 (.slice p A.n c)).run Try.prog w' = .ok (.string (strOfNums X)) w')
        (first | exact s0 | exact sN)
        (fail)
      go_wp2_with fail
      go_ret
      exact ⟨rfl, by first | exact HK9.out.drewN _ | exact HK9.out⟩

theorem elall_walk (H : ElderOk) (p : Option Addr) (N c : Nat) (xs : List Int) (w : World) (hin : In8 w p N c xs) :
    Calls Try.prog 6 #[.slice p N c] w fun e w' => e = .returned (.bool true) ∧ Keeps NoBlock w w' := by
  by_cases hg : N ≤ 1500
  · exact elall_small H p N c xs w hin hg
  · have HLv := Lib.hid (fun w => lives10_true H w)
    obtain ⟨_, _, hc, _, _, _⟩ := hin
    have hgd : decide ((1500 : Int) < (N : Int)) = true := decide_eq_true (by omega)
    clear H
    go_enter Try.func6, Try.ntmps6
    go_wp2_with fail
    refine (HLv.out _).mono ?_
    rintro e w1 ⟨rfl, hk⟩
    have HK := Lib.hid hk
    clear hk
    go_wp2_with fail
    refine (HLv.out _).mono ?_
    rintro e w2 ⟨rfl, hk⟩
    have HK := Lib.hid (HK.out.trans hk)
    clear hk
    go_wp2_with fail
    go_ret
    exact ⟨rfl, HK.out⟩
end Go.Proofs.Ytdkpkpmgiglnhaa

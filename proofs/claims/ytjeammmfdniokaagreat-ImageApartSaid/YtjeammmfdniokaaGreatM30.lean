/-
  ImOwnEnc; ImOwnPl; ImOwnSame; DeNum; DeNum2; ImLaws3.
-/
import Derived.Test.YtjeammmfdniokaaGreatM16
import Derived.Test.YtjeammmfdniokaaGreatM18
import Derived.Test.YtjeammmfdniokaaGreatM20
import Derived.Test.YtjeammmfdniokaaGreatM21
import Derived.Test.YtjeammmfdniokaaGreatM25
import Derived.Test.YtjeammmfdniokaaGreatM26
import Derived.Test.YtjeammmfdniokaaGreatM29
namespace Go.Proofs.YtjeammmfdniokaaGreat
open Go.RowKit

theorem part_small {e s i : Nat} {q : List Rec} (h : PartIn e s i q) (hf : ∀ r ∈ q, r.Fine) (hw : q.length < 1000 ∨ e ≤ 13) : q.length < 1000 := by
  rcases hw with hw | hw
  · exact hw
  obtain ⟨r, h1, rfl, rfl, rfl⟩ := h.room
  have h2 := h1.real.room (by rw [h1.count]; have := h.full; omega)
  have h3 := Nat.pow_le_pow_right (n := 2) (by decide) hw
  have h4 := recsB_least q hf
  have h5 := h1.used
  unfold outS at h5
  rw [List.length_append] at h5
  omega
/-- What is known of each part. -/
theorem parts_good {e s : Nat} {l : List Rec} {sp : List (Nat × Nat)} (h : (planI e s l).1 = 0) (h9 : l.length ≤ 10000) (hf : ∀ r ∈ l, r.Fine) (hw : l.length < 1000 ∨ e ≤ 13) (hp : partsGo [] l (planI e s l).2 = sp.map (segL l)) (hi : ∀ x ∈ sp, x.1 + x.2 ≤ l.length) {j : Nat} (hj : j < sp.length) :
    (sp.getD j (0, 0)).1 + (sp.getD j (0, 0)).2 ≤ l.length ∧ PartIn e s j (segL l (sp.getD j (0, 0))) ∧ (segL l (sp.getD j (0, 0))).length < 1000 ∧ (∀ r ∈ segL l (sp.getD j (0, 0)), checkR r = 0 ∧ fitsP (emptyP e s (s - 1)) ((recB r).length : Int) = true) ∧ (sp.map (segL l)).getD j [] = segL l (sp.getD j (0, 0)) ∧ j < s := by
  have hx : sp.getD j (0, 0) = sp[j] := by simp [hj]
  have h1 := hi sp[j] (List.getElem_mem hj)
  have h2 := (plan_parts h9 h).2 j (segL l sp[j]) (by rw [hp]; simp [hj])
  have h3 := segL_length h1
  rw [hx]
  refine ⟨h1, h2, part_small h2 (fun r hr => hf r (segL_mem hr)) (hw.imp (fun h => by omega) id), fun r hr => plan_tells h r (segL_mem hr), by simp [hj], ?_⟩
  obtain ⟨r, h4, h5, h6, h7⟩ := h2.room
  have := (mayHead_true.1 h4.real.may).2.2.2.2
  rw [h6, h7] at this
  exact this

set_option maxHeartbeats 8000000 in
set_option maxRecDepth 10000 in
theorem imencode_own {At : BAt} (HB : SgBuild At) (HNw : SgNewOk At) (HAd : SgAddOk At) (HOp : SgOpenOk At) (HSl : SgSealOk At) (e s : Nat) (p : Option Addr) (n c : Nat) (l : List Rec) (w : World) (he : e < 256) (hs : s < 4294967296) (hn9 : n ≤ 10000) (hw : n < 1000 ∨ e ≤ 13) (h : InR w p n c l) :
    Calls Tryz.prog 10 #[confV e s, .slice p n c] w fun r w' => ∃ u, r = .returned (.tuple #[u, .int .i64 (encI e s l).1]) ∧ OwnB w (encI e s l).2 u w' ∧ Keeps NoBlock w w' := by
  have HP := Lib.hid (fun w h => impart_own e s p n c l w he hs hn9 h)
  have HI := Lib.hid h
  have HK := Lib.hid ((Keeps.refl NoBlock w).alloc (.cells (confCells e s) 27))
  have HC := Lib.hid (Whole.new w 27 (confCells e s))
  have hE : encI e s l = if (planI e s l).1 ≠ 0 then ((planI e s l).1, []) else (0, segsGo e s (partsGo [] l (planI e s l).2).length 0 (partsGo [] l (planI e s l).2)) := rfl
  have hnl := h.len
  have HGd := Lib.hid (fun (hy : (planI e s l).1 = 0) sp hp hi j (hj : j < sp.length) => parts_good (e := e) (s := s) (l := l) (sp := sp) hy (by omega) h.fine (by rw [← hnl]; exact hw) hp hi hj)
  have HMy := Lib.hid (fun (hy : (planI e s l).1 = 0) => (plan_parts (e := e) (s := s) (l := l) (by omega) hy).1)
  have HBd := Lib.hid (fun j a m c q w hq hp hn hc => imbuild_own HB HNw HAd e s j (some a) m c q w hq hp hn hc)
  have HWh := Lib.hid (fun F v j q b w h hp h9 hq => imwhole_own HB HOp HSl F v e s j q b w h hp h9 hq)
  have HPt := Lib.hid (fun F v w i l (h : At w F v e s i l) => HB.ptr h)
  have HSz := Lib.hid (fun w => size_conf e s w)
  have HNl := Lib.hid hnl
  clear h HB HNw HAd HOp HSl he hs hw hnl
  unfold PartOut at HP
  obtain ⟨T, hT⟩ : ∃ T, T = planI e s l := ⟨_, rfl⟩
  rw [← hT] at HP hE HGd HMy
  obtain ⟨R, hR⟩ : ∃ R, R = encI e s l := ⟨_, rfl⟩
  rw [← hR] at hE ⊢
  clear hT hR
  obtain ⟨y, ks⟩ := T
  simp only at HP hE HGd HMy
  by_cases hy : y = 0
  rotate_left
  · have HE := Lib.hid (hE.trans (if_pos hy))
    have HY := Lib.hid hy
    have hz0 : (y != 0) = true := by rw [bne_iff_ne]; exact hy
    unfold confV at HP ⊢
    clear hy hE HGd HMy
    go_enter Tryz.func10, Tryz.ntmps10
    go_wp2_with fail
    refine (HP.out _ (HI.out.keep HK.out)).mono ?_
    rintro e9 w1 ⟨v1, rfl, hv1⟩
    rcases hv1 with ⟨-, rfl, hk⟩ | ⟨h0, -⟩
    rotate_left
    · exact absurd h0 HY.out
    have HK := Lib.hid (HK.out.trans hk)
    clear hk
    go_wp2_with fail
    rw [HE.out]
    exact bodyPost_ret (results_tmp2 rfl _ _ _) rfl ⟨_, rfl, OwnP.nilP _ _, HK.out⟩
  subst hy
  have HE := Lib.hid (hE.trans (if_neg (by simp)))
  unfold confV at HP HSz HBd ⊢
  clear hE
  obtain ⟨i0, hi, hz0, hz1, hz2⟩ := info_parts infoByte
  have hmay := HMy.out rfl
  have h24 := (mayC_true.1 hmay).2.1
  obtain ⟨Z, hZ⟩ : ∃ Z, Z = sizeC e s := ⟨_, rfl⟩
  have hZ9 : Z ≤ 16777216 := by
    rw [hZ]
    unfold sizeC
    rw [if_pos hmay]
    exact (two_e h24).2
  rw [← hZ] at HSz
  have H24 := Lib.hid (two_e h24).2
  clear hZ hmay HMy h24
  go_enter Tryz.func10, Tryz.ntmps10
  go_wp2_with fail
  refine (HP.out _ (HI.out.keep HK.out)).mono ?_
  rintro e9 w1 ⟨v1, rfl, hv1⟩
  rcases hv1 with ⟨h0, -⟩ | ⟨-, sp, qr, M, dr, rfl, hpg, hin, hM, hMl, -, -, hrow, hk⟩
  · exact absurd rfl h0
  have HK1 := Lib.hid (HK.out.trans hk)
  have HC1 := Lib.hid (HC.out.keep hk (fun h => h))
  have HRw := Lib.hid hrow
  have HGj := Lib.hid (fun j (hj : j < sp.length) => HGd.out (by trivial) sp hpg hin j hj)
  rw [hpg, List.length_map, ← hM] at HE
  have HMs := Lib.hid hM
  have hM9 : M ≤ 10000 := by have := HNl.out; omega
  clear hk hrow hpg hin hM hMl HGd HP HK HC
  have g0 := HC1.out.cell 0 rfl
  have g1 := HC1.out.cell 1 rfl
  simp only [confCells, List.getElem_toArray, List.getElem_cons_zero, List.getElem_cons_succ] at g0 g1
  go_wp2_with fail
  refine (HSz.out _).mono ?_
  rintro e9 w2 ⟨rfl, hk⟩
  have HK2 := Lib.hid (HK1.out.trans hk)
  have HC2 := Lib.hid (HC1.out.keep hk (fun h => h))
  have HR2 := Lib.hid (OnesAt.keep HRw.out hk (fun _ _ h => h))
  clear hk g0 g1
  obtain ⟨K, hK⟩ : ∃ K, K = M * Z := ⟨_, rfl⟩
  have hK9 : K ≤ 167772160000 := by rw [hK]; exact Nat.le_trans (Nat.mul_le_mul hM9 hZ9) (by decide)
  have hKI : (M : Int) * (Z : Int) = (K : Int) := by rw [hK]; push_cast; rfl
  have hwK : IntKind.i64.wrap ((M : Int) * (Z : Int)) = (K : Int) := by rw [hKI, IntKind.wrap_i64]; omega
  have hwK2 : wrap64 ((M : Int) * (Z : Int)) = (K : Int) := by rw [hKI]; unfold wrap64; omega
  clear hK
  go_wp2_with (at_make; refine wpList_make_own _ rfl _ _ 29 rfl w2.heap.size 5 i0 (.int .u8 0) 1 Tryz.underlying29 hi hz0 hz1 .i64 .i64 (K : Int) K rfl rfl rfl (by rw [hz2]; omega) (by unfold maxLen; omega) (Nat.le_refl _) ?_)
  intro w3 hown hgrow
  have hk3 : Keeps NoBlock w2 w3 := (Keeps.refl NoBlock w2).grown hgrow (fun k hk => by simp at hk)
  have HK3 := Lib.hid hk3
  have HO3 : Hid (OwnP w3 w2.heap.size (.slice (some ⟨w2.heap.size, 0, none⟩) 0 K) (segsGo e s M 0 ((sp.map (segL l)).take 0)).length ((segsGo e s M 0 ((sp.map (segL l)).take 0)).map (Value.int .u8))) := Lib.hid (OwnP.ofRow hown)
  have HBs := Lib.hid (show w.heap.size ≤ w2.heap.size from HK2.out.size)
  obtain ⟨base, hbase⟩ : ∃ b, b = w2.heap.size := ⟨_, rfl⟩
  have HBe := Lib.hid hbase
  rw [← hbase] at HO3 HBs ⊢
  clear hown hgrow hk3 hbase hwK hwK2 hKI HSz HK1 HC1 HRw
  go_wp2_with fail
  go_loopw [8, 32] (fun v i wr => ∃ j : Nat, j ≤ M ∧ i = .int .i64 (j : Int) ∧ Hid (OwnP wr base v (segsGo e s M 0 ((sp.map (segL l)).take j)).length ((segsGo e s M 0 ((sp.map (segL l)).take j)).map (Value.int .u8))) ∧ Hid ((segsGo e s M 0 ((sp.map (segL l)).take j)).length ≤ j * 16777216) ∧ Hid (Keeps NoBlock w2 wr)) (fun _ i _ => M - (intOf i).toNat)
  case atStart => exact ⟨0, Nat.zero_le _, rfl, HO3, Lib.hid (by simp [segsGo]), HK3⟩
  case round =>
    clear HO3
    obtain ⟨j, hj, rfl, HO, HLg, HKr⟩ := hrel
    by_cases hlt : j < M
    rotate_left
    · have hdj : decide ((j : Int) < (M : Int)) = false := decide_eq_false (by omega)
      have hdj2 : decide (j < M) = false := decide_eq_false hlt
      have hall : (sp.map (segL l)).take j = sp.map (segL l) := List.take_of_length_le (by rw [List.length_map]; have := HMs.out; omega)
      rw [hall] at HO
      have HKn := Lib.hid (HK2.out.trans HKr.out)
      clear hall HLg
      go_wp2_with fail
      rw [HE.out]
      exact bodyPost_ret (results_tmp2 rfl _ _ _) rfl ⟨_, rfl, OwnP.base HO.out HBs.out, HKn.out⟩
    have hdj : decide ((j : Int) < (M : Int)) = true := decide_eq_true (by omega)
    have hdj2 : decide (j < M) = true := decide_eq_true hlt
    have hjM : (j : Int) < (M : Int) := by omega
    have hjs : j < sp.length := by rw [← HMs.out]; exact hlt
    obtain ⟨hin, hpart, hshort, hgood, hget, hjS⟩ := HGj.out j hjs
    obtain ⟨qa, rfl, x0⟩ := (OnesAt.keep HR2.out HKr.out (fun _ _ h => h)) j hjs
    have HC9 := Lib.hid (HC2.out.keep HKr.out (fun h => h))
    have hIn := ((HI.out.keep HK2.out).keep HKr.out).cut hin
    have hst := segsGo_take (e := e) (s := s) (m := M) (ps := sp.map (segL l)) (j := j) (by rw [List.length_map]; exact hjs)
    rw [hget] at hst
    unfold spanV at x0
    obtain ⟨x, hx⟩ : ∃ x, x = sp.getD j (0, 0) := ⟨_, rfl⟩
    rw [← hx] at x0 hIn hin hpart hshort hgood hst
    have hfull := hpart.full
    rw [segL_length hin] at hfull
    have hfine : ∀ r ∈ segL l x, r.Fine ∧ checkR r = 0 := fun r hr => ⟨hIn.fine r hr, (hgood r hr).1⟩
    obtain ⟨a, hpa, -⟩ := hIn.at_ 0 (by rw [segL_length hin]; exact hfull)
    rw [hpa] at x0 hIn
    have hlen := hIn.len
    obtain ⟨q, hq⟩ : ∃ q, q = segL l x := ⟨_, rfl⟩
    rw [← hq] at hIn hpart hshort hgood hst hfine hlen
    obtain ⟨m', hm'⟩ : ∃ m', m' = x.2 := ⟨_, rfl⟩
    obtain ⟨c', hc'⟩ : ∃ c', c' = c - x.1 := ⟨_, rfl⟩
    rw [← hm', ← hc'] at x0 hIn
    rw [← hm'] at hlen
    have HBj := Lib.hid (HBd.out j a m' c' q wr hIn hpart (by omega) hgood)
    obtain ⟨b, hb⟩ : ∃ b, b = decide (j + 1 = M) := ⟨_, rfl⟩
    have hbb : decide (j + 1 < M) = !b := by
      rw [hb]
      by_cases h1 : j + 1 = M
      · rw [decide_eq_true h1, decide_eq_false (by omega)]; rfl
      · rw [decide_eq_false h1, decide_eq_true (by omega)]; rfl
    rw [hbb] at hst
    have HWj := Lib.hid (fun F v w h => HWh.out F v j q b w h hpart hshort hfine)
    have htl := (hpart.length (!b)).1
    obtain ⟨Y, hY⟩ : ∃ Y, Y = textS e s j q (!b) := ⟨_, rfl⟩
    rw [← hY] at hst htl HWj
    obtain ⟨O, hO⟩ : ∃ O, O = segsGo e s M 0 ((sp.map (segL l)).take j) := ⟨_, rfl⟩
    rw [← hO] at HO HLg hst
    have hb1 : ((j : Int) == (M : Int) - 1) = b := by
      rw [hb, Bool.eq_iff_iff, beq_iff_eq, decide_eq_true_iff]
      omega
    have hb2 : decide ((j : Int) = (M : Int) - 1) = b := by
      rw [hb, decide_eq_decide]
      omega
    have hwj : IntKind.u32.wrap (j : Int) = (j : Int) := by rw [IntKind.wrap_u32]; omega
    have hwj2 : (j : Int) % 4294967296 = (j : Int) := by omega
    have HSt := Lib.hid hst
    have HTl := Lib.hid (show Y.length ≤ 16777216 ∧ 0 < Y.length from ⟨by rw [htl]; exact H24.out, by rw [htl]; exact Nat.one_le_two_pow⟩)
    have HRs := Lib.hid (show ∀ k, u8.ownBlock = some k → base ≤ k ∧ k < wr.heap.size from fun k hk => OwnP.lt HO.out k hk)
    have g0 := HC9.out.cell 0 rfl
    have g1 := HC9.out.cell 1 rfl
    simp only [confCells, List.getElem_toArray, List.getElem_cons_zero, List.getElem_cons_succ] at g0 g1
    clear hin hpart hshort hgood hget hjS hIn hst hx hfull hfine hpa hlen hq hm' hc' hb hbb htl hY hO hjs
    go_wp2_with fail
    refine HBj.out.mono ?_
    rintro e9 w5 ⟨F, v5, u5, rfl, hk, hat, hF, q5, m5, d5, rfl, -, -, -, -, -, -⟩
    obtain ⟨gb, rfl⟩ := HPt.out _ _ _ _ _ hat
    have HA5 := Lib.hid hat
    have HF5 := Lib.hid hF
    have HO5 := Lib.hid (OwnP.kept HO.out (fun k hk1 => hk.block k (HRs.out k hk1).2 (fun h => h)))
    have HK5 := Lib.hid (HKr.out.trans hk)
    have HZ5 := Lib.hid hk.size
    clear hk hat hF g0 g1 x0 HBj
    go_wp2_with fail
    refine (HWj.out _ _ _ HA5.out).mono ?_
    rintro e9 w6 ⟨u6, rfl, hk, hou, -⟩
    have HO6 := Lib.hid (OwnP.kept HO5.out (fun k hk1 => hk.block k (by have := (HRs.out k hk1).2; have := HZ5.out; omega) (fun hf => by have := HF5.out k hf; have := (HRs.out k hk1).2; omega)))
    have HK6 := Lib.hid (HK5.out.then hk (fun k hk1 hf => by have := HF5.out k hf; have := HKr.out.size; omega))
    obtain ⟨q6, d6, rfl, -, -, h8, -, -⟩ := hou.read
    obtain ⟨a6, rfl, hc6⟩ := h8 HTl.out.2
    have HC6 := Lib.hid hc6
    clear hk hou h8 hc6 HWj
    go_wp2_with (at_builtin; refine wpList_append_P rfl _ _ rfl base u8 O.length (O.map (Value.int .u8)) rfl HO6.out a6 Y.length d6 (Y.map (Value.int .u8)) rfl (by rw [List.length_map, Nat.mul_one]) ?na1 ?na2 ?na3 ?na4 ?na5 ?_)
    case na1 =>
      intro k u hu
      have hk : k < Y.length := by
        have := (List.getElem?_eq_some_iff.1 hu).1
        rwa [List.length_map] at this
      rw [HC6.out k hk, ← hu]
      simp [hk]
    case na2 =>
      intro u hu
      obtain ⟨z, -, rfl⟩ := List.mem_map.1 hu
      rfl
    case na3 =>
      have h1 := HLg.out
      have h2 := HTl.out.1
      have h3 : j * 16777216 ≤ 10000 * 16777216 := Nat.mul_le_mul_right _ (by omega)
      unfold maxLen
      omega
    case na4 =>
      have h1 := HLg.out
      have h2 := HTl.out.1
      have h3 : j * 16777216 ≤ 10000 * 16777216 := Nat.mul_le_mul_right _ (by omega)
      omega
    case na5 =>
      rw [HBe.out]
      exact HK6.out.size
    intro v' w7 ho7 hg7
    have HO7 : Hid (OwnP w7 base v' (segsGo e s M 0 ((sp.map (segL l)).take (j + 1))).length ((segsGo e s M 0 ((sp.map (segL l)).take (j + 1))).map (Value.int .u8))) := Lib.hid (by rw [HSt.out, List.length_append, List.map_append]; exact ho7)
    have HL7 : Hid ((segsGo e s M 0 ((sp.map (segL l)).take (j + 1))).length ≤ (j + 1) * 16777216) := Lib.hid (by rw [HSt.out, List.length_append]; have := HLg.out; have := HTl.out.1; omega)
    have HK7 := Lib.hid (HK6.out.grown hg7 (fun k hk => .inr (by rw [← HBe.out]; exact (HRs.out k hk).1)))
    clear ho7 hg7
    go_wp2_with fail
    exact ⟨⟨j + 1, by omega, by go_num, HO7, HL7, HK7⟩, by simp [intOf]; omega⟩
end Go.Proofs.YtjeammmfdniokaaGreat

namespace Go.Proofs.YtjeammmfdniokaaGreat
open Go.RowKit

theorem placesGo_snoc (e s : Nat) : ∀ (ps : List (List Rec)) (i : Nat) (p : List Rec), placesGo e s i (ps ++ [p]) = placesGo e s i ps ++ (placesS e s (i + ps.length) p).map (fun a => (i + ps.length, a))
  | [], i, p => by simp [placesGo]
  | a :: ps, i, p => by
    rw [List.cons_append, placesGo, placesGo, placesGo_snoc e s ps (i + 1) p, List.length_cons, List.append_assoc, show i + 1 + ps.length = i + (ps.length + 1) by omega]
theorem placesGo_take {e s : Nat} {ps : List (List Rec)} {j : Nat} (hj : j < ps.length) : placesGo e s 0 (ps.take (j + 1)) = placesGo e s 0 (ps.take j) ++ (placesS e s j (ps.getD j [])).map (fun a => (j, a)) := by
  rw [List.take_succ_eq_append_getElem hj, placesGo_snoc, List.length_take, Nat.min_eq_left (by omega), Nat.zero_add]
  simp [hj]

set_option maxHeartbeats 8000000 in
set_option maxRecDepth 10000 in
theorem implaces_own {At : BAt} (HB : SgBuild At) (HNw : SgNewOk At) (HAd : SgAddOk At) (e s : Nat) (p : Option Addr) (n c : Nat) (l : List Rec) (w : World) (he : e < 256) (hs : s < 4294967296) (hn9 : n ≤ 10000) (hw : n < 1000 ∨ e ≤ 13) (h : InR w p n c l) :
    Calls Tryz.prog 12 #[confV e s, .slice p n c] w fun r w' => ∃ u, r = .returned (.tuple #[u, .int .i64 (planI e s l).1]) ∧ NewTwos p32A p32B (0, 0) w (placesI e s l) u w' := by
  have HP := Lib.hid (fun w h => impart_own e s p n c l w he hs hn9 h)
  have HI := Lib.hid h
  have HK := Lib.hid ((Keeps.refl NoBlock w).alloc (.cells (confCells e s) 27))
  have HC := Lib.hid (Whole.new w 27 (confCells e s))
  have hE : placesI e s l = if (planI e s l).1 ≠ 0 then [] else placesGo e s 0 (partsGo [] l (planI e s l).2) := rfl
  have hnl := h.len
  have HGd := Lib.hid (fun (hy : (planI e s l).1 = 0) sp hp hi j (hj : j < sp.length) => parts_good (e := e) (s := s) (l := l) (sp := sp) hy (by omega) h.fine (by rw [← hnl]; exact hw) hp hi hj)
  have HMy := Lib.hid (fun (hy : (planI e s l).1 = 0) => (plan_parts (e := e) (s := s) (l := l) (by omega) hy).1)
  have HBd := Lib.hid (fun j a m c q w hq hp hn hc => imbuild_own HB HNw HAd e s j (some a) m c q w hq hp hn hc)
  have HNl := Lib.hid hnl
  clear h HB HNw HAd he hs hw hnl
  unfold PartOut at HP
  obtain ⟨T, hT⟩ : ∃ T, T = planI e s l := ⟨_, rfl⟩
  rw [← hT] at HP hE HGd HMy ⊢
  obtain ⟨R, hR⟩ : ∃ R, R = placesI e s l := ⟨_, rfl⟩
  rw [← hR] at hE ⊢
  clear hT hR
  obtain ⟨y, ks⟩ := T
  simp only at HP hE HGd HMy ⊢
  by_cases hy : y = 0
  rotate_left
  · have HE := Lib.hid (hE.trans (if_pos hy))
    have HY := Lib.hid hy
    have hz0 : (y != 0) = true := by rw [bne_iff_ne]; exact hy
    unfold confV at HP ⊢
    clear hy hE HGd HMy
    go_enter Tryz.func12, Tryz.ntmps12
    go_wp2_with fail
    refine (HP.out _ (HI.out.keep HK.out)).mono ?_
    rintro e9 w1 ⟨v1, rfl, hv1⟩
    rcases hv1 with ⟨-, rfl, hk⟩ | ⟨h0, -⟩
    rotate_left
    · exact absurd h0 HY.out
    have HK := Lib.hid (HK.out.trans hk)
    clear hk
    go_wp2_with fail
    rw [HE.out]
    exact bodyPost_ret (results_tmp2 rfl _ _ _) rfl ⟨_, rfl, NewTwos.ofNil _ _ HK.out⟩
  subst hy
  have HE := Lib.hid (hE.trans (if_neg (by simp)))
  unfold confV at HP HBd ⊢
  clear hE
  obtain ⟨i0, hi, hz0, hz1, hz2⟩ := info_parts infoPl
  go_enter Tryz.func12, Tryz.ntmps12
  go_wp2_with fail
  refine (HP.out _ (HI.out.keep HK.out)).mono ?_
  rintro e9 w1 ⟨v1, rfl, hv1⟩
  rcases hv1 with ⟨h0, -⟩ | ⟨-, sp, qr, M, dr, rfl, hpg, hin, hM, hMl, -, -, hrow, hk⟩
  · exact absurd rfl h0
  have HK1 := Lib.hid (HK.out.trans hk)
  have HC1 := Lib.hid (HC.out.keep hk (fun h => h))
  have HRw := Lib.hid hrow
  have HGj := Lib.hid (fun j (hj : j < sp.length) => HGd.out (by trivial) sp hpg hin j hj)
  rw [hpg] at HE
  have HMs := Lib.hid hM
  have hM9 : M ≤ 10000 := by have := HNl.out; omega
  clear hk hrow hpg hin hM hMl HGd HP HK HC
  go_wp2_with (at_make; refine wpList_make_own _ rfl _ _ 36 rfl w1.heap.size 42 i0 (.agg #[.int .u32 0, .int .u32 0]) 2 Tryz.underlying36 hi hz0 hz1 .i64 .i64 (n : Int) n rfl rfl rfl (by rw [hz2]; omega) (by unfold maxLen; omega) (Nat.le_refl _) ?_)
  intro w3 hown hgrow
  have HT3 : Hid (TwosSoFar p32A p32B 42 w1 (placesGo e s 0 ((sp.map (segL l)).take 0)) (.slice (some ⟨w1.heap.size, 0, none⟩) 0 n) w3) := Lib.hid ⟨hown, (Below.refl _ w1).grown hgrow (Nat.le_refl _) (fun k hk => by simp at hk)⟩
  clear hown hgrow
  go_wp2_with fail
  go_loopw [8, 28] (fun v i wr => ∃ j : Nat, j ≤ M ∧ i = .int .i64 (j : Int) ∧ Hid (TwosSoFar p32A p32B 42 w1 (placesGo e s 0 ((sp.map (segL l)).take j)) v wr) ∧ Hid ((placesGo e s 0 ((sp.map (segL l)).take j)).length ≤ j * 1000)) (fun _ i _ => M - (intOf i).toNat)
  case atStart => exact ⟨0, Nat.zero_le _, rfl, HT3, Lib.hid (by simp [placesGo])⟩
  case round =>
    clear HT3
    obtain ⟨j, hj, rfl, HT, HLg⟩ := hrel
    have HKr := Lib.hid HT.out.keeps
    by_cases hlt : j < M
    rotate_left
    · have hdj : decide ((j : Int) < (M : Int)) = false := decide_eq_false (by omega)
      have hdj2 : decide (j < M) = false := decide_eq_false hlt
      have hall : (sp.map (segL l)).take j = sp.map (segL l) := List.take_of_length_le (by rw [List.length_map]; have := HMs.out; omega)
      rw [hall] at HT
      have HNt : Hid (NewTwos p32A p32B (0, 0) w (placesGo e s 0 (sp.map (segL l))) u8 wr) := Lib.hid (by
        obtain ⟨q9, m9, d9, h1, h2, h3, h4, h5, h6, h7⟩ := HT.out.new (dd := (0, 0))
        exact ⟨q9, m9, d9, h1, h2, h3, h4, h5, h6, HK1.out.trans h7⟩)
      clear hall HLg
      go_wp2_with fail
      rw [HE.out]
      exact bodyPost_ret (results_tmp2 rfl _ _ _) rfl ⟨_, rfl, HNt.out⟩
    have hdj : decide ((j : Int) < (M : Int)) = true := decide_eq_true (by omega)
    have hdj2 : decide (j < M) = true := decide_eq_true hlt
    have hjM : (j : Int) < (M : Int) := by omega
    have hjs : j < sp.length := by rw [← HMs.out]; exact hlt
    obtain ⟨hin, hpart, hshort, hgood, hget, hjS⟩ := HGj.out j hjs
    obtain ⟨qa, rfl, x0⟩ := (OnesAt.keep HRw.out HKr.out (fun _ _ h => h)) j hjs
    have HC9 := Lib.hid (HC1.out.keep HKr.out (fun h => h))
    have hIn := ((HI.out.keep HK1.out).keep HKr.out).cut hin
    have hst := placesGo_take (e := e) (s := s) (ps := sp.map (segL l)) (j := j) (by rw [List.length_map]; exact hjs)
    rw [hget] at hst
    unfold spanV at x0
    obtain ⟨x, hx⟩ : ∃ x, x = sp.getD j (0, 0) := ⟨_, rfl⟩
    rw [← hx] at x0 hIn hin hpart hshort hgood hst
    have hfull := hpart.full
    rw [segL_length hin] at hfull
    obtain ⟨a, hpa, -⟩ := hIn.at_ 0 (by rw [segL_length hin]; exact hfull)
    rw [hpa] at x0 hIn
    have hlen := hIn.len
    obtain ⟨q, hq⟩ : ∃ q, q = segL l x := ⟨_, rfl⟩
    rw [← hq] at hIn hpart hshort hgood hst hlen
    obtain ⟨m', hm'⟩ : ∃ m', m' = x.2 := ⟨_, rfl⟩
    obtain ⟨c', hc'⟩ : ∃ c', c' = c - x.1 := ⟨_, rfl⟩
    rw [← hm', ← hc'] at x0 hIn
    rw [← hm'] at hlen
    have HBj := Lib.hid (HBd.out j a m' c' q wr hIn hpart (by omega) hgood)
    have hpl := places_length e s j q
    obtain ⟨Y, hY⟩ : ∃ Y, Y = (placesS e s j q).map (fun a => (j, a)) := ⟨_, rfl⟩
    have hYl : Y.length = q.length := by rw [hY, List.length_map, hpl]
    rw [← hY] at hst HBj
    obtain ⟨O, hO⟩ : ∃ O, O = placesGo e s 0 ((sp.map (segL l)).take j) := ⟨_, rfl⟩
    rw [← hO] at HT HLg hst
    have hwj : IntKind.u32.wrap (j : Int) = (j : Int) := by rw [IntKind.wrap_u32]; omega
    have hwj2 : (j : Int) % 4294967296 = (j : Int) := by omega
    have HSt := Lib.hid hst
    have HYl := Lib.hid (show Y.length ≤ 1000 by omega)
    have g0 := HC9.out.cell 0 rfl
    have g1 := HC9.out.cell 1 rfl
    simp only [confCells, List.getElem_toArray, List.getElem_cons_zero, List.getElem_cons_succ] at g0 g1
    clear hin hpart hshort hgood hget hjS hIn hst hx hfull hpa hlen hq hm' hc' hpl hYl hY hO hjs
    go_wp2_with fail
    refine HBj.out.mono ?_
    rintro e9 w5 ⟨F, v5, u5, rfl, hk, -, -, q5, m5, d5, rfl, hm5, -, -, hq5, ht5, -⟩
    have HT5 := Lib.hid (HT.out.keep hk)
    have HTa := Lib.hid ht5
    have HQ5 := Lib.hid hq5
    have HM5 := Lib.hid hm5
    have hO9 : O.length ≤ 10000000 := by have h1 := HLg.out; omega
    have hm9 : m5 ≤ 1000 := by rw [hm5]; exact HYl.out
    clear hk ht5 hq5 hm5 g0 g1 x0 HBj HT
    go_wp2_with (at_builtin; refine wpList_append_twos (v0 := p32A) (v1 := p32B) (dd := (0, 0)) rfl _ _ 36 rfl 42 i0 (.agg #[.int .u32 0, .int .u32 0]) 8 Tryz.underlying36 hi hz0 hz1 hz2 rfl u8 O rfl HT5.out q5 m5 d5 Y rfl HQ5.out HM5.out HTa.out (fun _ => rfl) (fun _ => rfl) (by omega) (by omega) ?_)
    intro v' w7 ht7
    have HT7 : Hid (TwosSoFar p32A p32B 42 w1 (placesGo e s 0 ((sp.map (segL l)).take (j + 1))) v' w7) := Lib.hid (by rw [HSt.out]; exact ht7)
    have HL7 : Hid ((placesGo e s 0 ((sp.map (segL l)).take (j + 1))).length ≤ (j + 1) * 1000) := Lib.hid (by rw [HSt.out, List.length_append]; have := HLg.out; have := HYl.out; omega)
    clear ht7
    go_wp2_with fail
    exact ⟨⟨j + 1, by omega, by go_num, HT7, HL7⟩, by simp [intOf]; omega⟩

set_option maxHeartbeats 2000000 in
set_option maxRecDepth 10000 in
theorem imsegs_own (e s : Nat) (p : Option Addr) (n c : Nat) (l : List Rec) (w : World) (he : e < 256) (hs : s < 4294967296) (hn9 : n ≤ 10000) (h : InR w p n c l) :
    Calls Tryz.prog 13 #[confV e s, .slice p n c] w fun r w' => r = .returned (.tuple #[.int .u32 (countI e s l : Int), .int .i64 (planI e s l).1]) ∧ Keeps NoBlock w w' := by
  have HP := Lib.hid (fun w h => impart_own e s p n c l w he hs hn9 h)
  have HI := Lib.hid h
  have HNl := Lib.hid h.len
  have HK := Lib.hid ((Keeps.refl NoBlock w).alloc (.cells (confCells e s) 27))
  have hE : countI e s l = if (planI e s l).1 ≠ 0 then 0 else (partsGo [] l (planI e s l).2).length := rfl
  clear h he hs
  unfold PartOut at HP
  obtain ⟨T, hT⟩ : ∃ T, T = planI e s l := ⟨_, rfl⟩
  rw [← hT] at HP hE ⊢
  obtain ⟨R, hR⟩ : ∃ R, R = countI e s l := ⟨_, rfl⟩
  rw [← hR] at hE ⊢
  clear hT hR
  obtain ⟨y, ks⟩ := T
  simp only at HP hE ⊢
  by_cases hy : y = 0
  rotate_left
  · have HE := Lib.hid (hE.trans (if_pos hy))
    have HY := Lib.hid hy
    have hz0 : (y != 0) = true := by rw [bne_iff_ne]; exact hy
    unfold confV at HP ⊢
    clear hy hE
    go_enter Tryz.func13, Tryz.ntmps13
    go_wp2_with fail
    refine (HP.out _ (HI.out.keep HK.out)).mono ?_
    rintro e9 w1 ⟨v1, rfl, hv1⟩
    rcases hv1 with ⟨-, rfl, hk⟩ | ⟨h0, -⟩
    rotate_left
    · exact absurd h0 HY.out
    have HK := Lib.hid (HK.out.trans hk)
    clear hk
    go_wp2_with fail
    rw [HE.out]
    exact bodyPost_ret (results_tmp2 rfl _ _ _) rfl ⟨rfl, HK.out⟩
  subst hy
  have HE := Lib.hid (hE.trans (if_neg (by simp)))
  unfold confV at HP ⊢
  clear hE
  go_enter Tryz.func13, Tryz.ntmps13
  go_wp2_with fail
  refine (HP.out _ (HI.out.keep HK.out)).mono ?_
  rintro e9 w1 ⟨v1, rfl, hv1⟩
  rcases hv1 with ⟨h0, -⟩ | ⟨-, sp, qr, M, dr, rfl, hpg, -, hM, hMl, -, -, -, hk⟩
  · exact absurd rfl h0
  have HK1 := Lib.hid (HK.out.trans hk)
  rw [hpg, List.length_map, ← hM] at HE
  have hM9 : M ≤ 10000 := by have := HNl.out; omega
  have hwM : IntKind.u32.wrap (M : Int) = (M : Int) := by rw [IntKind.wrap_u32]; omega
  have hwM2 : (M : Int) % 4294967296 = (M : Int) := by omega
  clear hk hpg hM hMl HP HK
  go_wp2_with fail
  rw [HE.out]
  exact bodyPost_ret (results_tmp2 rfl _ _ _) rfl ⟨rfl, HK1.out⟩
end Go.Proofs.YtjeammmfdniokaaGreat

namespace Go.Proofs.YtjeammmfdniokaaGreat
open Go.RowKit

set_option maxHeartbeats 4000000 in
set_option maxRecDepth 10000 in
theorem equalrecs_own (p : Option Addr) (n c : Nat) (l : List Rec) (q : Option Addr) (m d : Nat) (k : List Rec) (hn : n = l.length) (hm : m = k.length) (hn9 : n ≤ 1000000) (hf : ∀ r ∈ l, r.Fine) (hg : ∀ r ∈ k, r.Fine) (w : World) (hl : RecsAt w p l) (hk : RecsAt w q k) :
    Calls Tryz.prog 30 #[.slice p n c, .slice q m d] w fun e w' => e = .returned (.bool (decide (l = k))) ∧ Keeps NoBlock w w' := by
  have mixed : Tryz.prog.follows .mixedOrders = true := by kernel_rfl
  by_cases hnm : n = m
  rotate_left
  · have h0 : decide (l = k) = false := decide_eq_false (fun h => hnm (by rw [hn, hm, h]))
    have hz : ((n : Int) != (m : Int)) = true := by rw [bne_iff_ne]; omega
    have hz2 : ¬ (n : Int) = (m : Int) := by omega
    rw [h0]
    clear hl hk hf hg hn hm h0
    go_enter Tryz.func30, Tryz.ntmps30
    go_wp2_with fail
    go_ret
    exact ⟨rfl, Keeps.refl _ _⟩
  subst hnm
  have HL := Lib.hid hl
  have HKk := Lib.hid hk
  have HN := Lib.hid (And.intro hn hm)
  have HFn := Lib.hid (And.intro hf hg)
  clear hl hk hn hm hf hg
  go_enter Tryz.func30, Tryz.ntmps30
  go_wp2_with fail
  go_loopw [13] (fun i wr => ∃ j : Nat, j ≤ n ∧ i = .int .i64 (j : Int) ∧ Hid (l.take j = k.take j) ∧ Hid (Keeps NoBlock w wr)) (fun i _ => n - (intOf i).toNat)
  case atStart => exact ⟨0, Nat.zero_le _, rfl, Lib.hid rfl, Lib.hid (Keeps.refl _ _)⟩
  case round =>
    obtain ⟨j, hj, rfl, HT, HK⟩ := hrel
    by_cases hlt : j < n
    · have hdj : decide ((j : Int) < (n : Int)) = true := decide_eq_true (by omega)
      have hdj2 : decide (j < n) = true := decide_eq_true hlt
      have hjl : j < l.length := by rw [← HN.out.1]; exact hlt
      have hjk : j < k.length := by rw [← HN.out.2]; exact hlt
      obtain ⟨a, rfl, x0, x1, x2, x3⟩ := (HL.out.keep HK.out (fun _ _ h => h)) j hjl
      obtain ⟨b, rfl, y0, y1, y2, y3⟩ := (HKk.out.keep HK.out (fun _ _ h => h)) j hjk
      have hcmp := recDiff (HFn.out.1 _ (show l.getD j Rec.none ∈ l by simp [hjl])) (HFn.out.2 _ (show k.getD j Rec.none ∈ k by simp [hjk]))
      have HMr := Lib.hid (take_more16 hjl hjk HT.out)
      have HLs := Lib.hid (show l.getD j Rec.none ≠ k.getD j Rec.none → l ≠ k from fun h1 h2 => h1 (by rw [h2]))
      obtain ⟨r1, hr1⟩ : ∃ r, r = l.getD j Rec.none := ⟨_, rfl⟩
      obtain ⟨r2, hr2⟩ : ∃ r, r = k.getD j Rec.none := ⟨_, rfl⟩
      rw [← hr1] at x0 x1 x2 x3 hcmp HMr HLs
      rw [← hr2] at y0 y1 y2 y3 hcmp HMr HLs
      unfold recV at hcmp
      have hjL : (j : Int) < (n : Int) := by omega
      clear hr1 hr2 hjl hjk
      by_cases hne : r1 = r2
      · rw [decide_eq_false (show ¬ r1 ≠ r2 from fun h => h hne)] at hcmp
        have HE := Lib.hid (HMr.out hne)
        clear hne
        go_wp2_with fail
        go_quiet (fail)
        go_wp2_with fail
        go_roundw
        case rel => exact ⟨j + 1, by omega, by go_num, HE, Lib.hid (by first | exact HK.out.drewN _ | exact HK.out)⟩
        case measure => simp [intOf]; omega
      · rw [decide_eq_true (show r1 ≠ r2 from hne)] at hcmp
        have HE := Lib.hid (show decide (l = k) = false from decide_eq_false (HLs.out hne))
        clear hne
        go_wp2_with fail
        go_quiet (fail)
        go_wp2_with fail
        go_ret
        rw [HE.out]
        exact ⟨rfl, by first | exact HK.out.drewN _ | exact HK.out⟩
    · have hdj : decide ((j : Int) < (n : Int)) = false := decide_eq_false (by omega)
      have hdj2 : decide (j < n) = false := decide_eq_false hlt
      have HE : Hid (decide (l = k) = true) := Lib.hid (decide_eq_true (by
        have h1 := HT.out
        rw [List.take_of_length_le (by have := HN.out.1; omega), List.take_of_length_le (by have := HN.out.2; omega)] at h1
        exact h1))
      go_wp2_with fail
      go_ret
      rw [HE.out]
      exact ⟨rfl, HK.out⟩

set_option maxHeartbeats 2000000 in
theorem imsame_own (p : Option Addr) (n c : Nat) (l : List Rec) (q : Option Addr) (m d : Nat) (k : List Rec) (w : World) (hn9 : n ≤ 10000) (h : InR w p n c l) (g : InR w q m d k) :
    Calls Tryz.prog 16 #[.slice p n c, .slice q m d] w fun r w' => r = .returned (.bool (decide (l = k))) ∧ Keeps NoBlock w w' := by
  have HE := Lib.hid (equalrecs_own p n c l q m d k h.len g.len (by omega) h.fine g.fine w h.at_ g.at_)
  clear h g hn9
  go_enter Tryz.func16, Tryz.ntmps16
  go_wp2_with fail
  refine HE.out.mono ?_
  rintro e9 w1 ⟨rfl, hk⟩
  have HK := Lib.hid hk
  clear hk
  go_wp2_with fail
  go_ret
  exact ⟨rfl, HK.out⟩
end Go.Proofs.YtjeammmfdniokaaGreat

namespace Go.Proofs.YtjeammmfdniokaaGreat

def guessC (cs : List (List Int)) : List Rec := cs.filterMap fun c => if (getR c).1 = 0 then some (getR c).2 else none
def guessI (ys : List Int) : List Rec := guessC (chunksGo [] ys)

theorem stuff_full {xs t : List Int} (h : stuff xs = 255 :: t) : 254 ≤ t.length ∧ ∃ o, xs = t.take 254 ++ o := by
  have hd := dec_stuff xs
  rw [h, dec] at hd
  split at hd
  · simp at hd
  · rename_i hl
    have h1 : (255 : Int).toNat = 255 := rfl
    rw [h1] at hl
    refine ⟨by omega, ?_⟩
    obtain ⟨o, _, ho⟩ := Option.map_eq_some_iff.1 hd
    rw [h1] at ho
    exact ⟨_, by rw [← ho, List.append_assoc]⟩
/-- A head's chunk is no record's, whatever erased bytes stand ahead of it. -/
theorem head_none {e s n : Nat} (he : e < 256) (hs : s < 18446744073709551616) (hn : n < 18446744073709551616) (k : Nat) : (getR (List.replicate k 255 ++ chunkN (headB e s n))).1 ≠ 0 := by
  have hlen : (chunkN (headB e s n)).length ≤ 32 := by
    have h1 := (headLen_le (e := e) hs hn).2
    have h2 := (seal_length (headB e s n)).1
    unfold headLen at h1
    omega
  cases k with
  | zero =>
    show (getR (chunkN (headB e s n))).1 ≠ 0
    unfold getR
    rw [open_chunk (headB_octets he)]
    simp only [ne_eq, not_true_eq_false, if_false]
    unfold headB
    rw [readR]
    unfold readKind
    rw [if_pos (by decide)]
    decide
  | succ k =>
    have hoct : Octets (List.replicate (k + 1) (255 : Int) ++ chunkN (headB e s n)) := by
      intro b hb
      rcases List.mem_append.1 hb with hb | hb
      · rw [(List.mem_replicate.1 hb).2]; decide
      · exact (chunk_solid (headB_octets he)).octets b hb
    obtain ⟨ys, hys⟩ : ∃ ys, ys = List.replicate (k + 1) (255 : Int) ++ chunkN (headB e s n) := ⟨_, rfl⟩
    rw [← hys] at hoct ⊢
    unfold getR
    by_cases h0 : (openN ys).1 = 0
    · rw [if_neg (by rw [h0]; simp)]
      obtain ⟨hc, _⟩ := open_only hoct (show openN ys = (0, (openN ys).2) from Prod.ext h0 rfl)
      obtain ⟨b, hb⟩ : ∃ b, b = (openN ys).2 := ⟨_, rfl⟩
      rw [← hb] at hc ⊢
      rw [hys, List.replicate_succ, List.cons_append] at hc
      obtain ⟨h1, o, h2⟩ := stuff_full (show stuff (b ++ sumB b) = 255 :: (List.replicate k 255 ++ chunkN (headB e s n)) from hc.symm)
      rw [List.length_append, List.length_replicate] at h1
      obtain ⟨m, rfl⟩ : ∃ m, k = m + 1 := ⟨k - 1, by omega⟩
      rw [List.replicate_succ, List.cons_append, List.take_succ_cons, List.cons_append] at h2
      cases b with
      | nil => decide
      | cons x b =>
        rw [List.cons_append] at h2
        have hx : x = 255 := (List.cons.inj h2).1
        subst hx
        rw [readR]
        unfold readKind
        rw [if_pos (by decide)]
        decide
    · rw [if_pos h0]
      exact h0
theorem chunksGo_sealC {xs : List Int} (h : Octets xs) (cur r : List Int) : chunksGo cur (sealN xs ++ r) = (cur ++ chunkN xs) :: chunksGo [] r := by
  unfold sealN
  rw [List.append_assoc]
  exact chunksGo_solid (chunkN xs) cur r (chunk_solid h)
theorem chunksGo_pad : ∀ (k : Nat) (cur r : List Int), chunksGo cur (List.replicate k 255 ++ r) = chunksGo (cur ++ List.replicate k 255) r
  | 0, cur, r => by simp
  | k + 1, cur, r => by
    rw [List.replicate_succ, List.cons_append, chunksGo, if_neg (by decide), chunksGo_pad k, List.append_assoc]
    rfl
theorem guess_recs : ∀ (l : List Rec), (∀ x ∈ l, x.Fine ∧ checkR x = 0) → guessC (l.map (fun x => chunkN (bodyR x))) = l
  | [], _ => rfl
  | x :: l, h => by
    obtain ⟨h1, h2⟩ := h x List.mem_cons_self
    have hg := getR_put h1 h2 (bodyR_octets h1)
    have ih := guess_recs l (fun y hy => h y (List.mem_cons_of_mem _ hy))
    unfold guessC at ih ⊢
    rw [List.map_cons, List.filterMap_cons, hg]
    simp only [if_true]
    rw [ih]
theorem guess_app (a b : List (List Int)) : guessC (a ++ b) = guessC a ++ guessC b := List.filterMap_append
theorem guess_bad {c : List Int} (h : (getR c).1 ≠ 0) (cs : List (List Int)) : guessC (c :: cs) = guessC cs := by
  unfold guessC
  rw [List.filterMap_cons, if_neg h]
/-- One segment's chunks, behind erased bytes. -/
theorem guess_seg {e s n : Nat} (he : e < 256) (hs : s < 18446744073709551616) (hn : n < 18446744073709551616) {l : List Rec} (h : ∀ x ∈ l, x.Fine ∧ checkR x = 0) (b : Bool) (k : Nat) (more : List Int) :
    ∃ K, guessC (chunksGo (List.replicate k 255) (textS e s n l b ++ more)) = l ++ guessC (chunksGo (List.replicate K 255) more) := by
  unfold textS framesS outS
  obtain ⟨K, hK⟩ : ∃ K, K = 2 ^ e - (sealN (headB e s n) ++ recsB l ++ (if b = true then footS e s n l else [])).length := ⟨_, rfl⟩
  rw [← hK]
  refine ⟨K, ?_⟩
  clear hK
  cases b with
  | false =>
    rw [if_neg (by simp), List.append_nil, List.append_assoc, List.append_assoc, chunksGo_sealC (headB_octets he), chunksGo_recs l _ (fun x hx => (h x hx).1), chunksGo_pad, guess_bad (head_none he hs hn k), guess_app, guess_recs l h]
    rfl
  | true =>
    rw [if_pos rfl, List.append_assoc, List.append_assoc, List.append_assoc, chunksGo_sealC (headB_octets he), chunksGo_recs l _ (fun x hx => (h x hx).1)]
    unfold footS
    rw [chunksGo_sealC bodyFt_octets, chunksGo_pad, guess_bad (head_none he hs hn k), guess_app, guess_recs l h, List.nil_append, guess_bad (get_foot _)]
    rfl
theorem guess_segs {e s : Nat} (he : e < 256) (hs : s < 18446744073709551616) (m : Nat) : ∀ (ps : List (List Rec)) (i k : Nat), i + ps.length < 18446744073709551616 → (∀ p ∈ ps, ∀ x ∈ p, x.Fine ∧ checkR x = 0) →
    guessC (chunksGo (List.replicate k 255) (segsGo e s m i ps)) = ps.flatten
  | [], i, k, _, _ => rfl
  | p :: ps, i, k, hi, h => by
    rw [segsGo]
    obtain ⟨K, hK⟩ := guess_seg (e := e) (s := s) (n := i) he hs (by simp at hi; omega) (h p List.mem_cons_self) (decide (i + 1 < m)) k (segsGo e s m (i + 1) ps)
    rw [hK, guess_segs he hs m ps (i + 1) K (by simp at hi; omega) (fun q hq => h q (List.mem_cons_of_mem _ hq)), List.flatten_cons]
/-- Of an image just its records are guessed. -/
theorem guess_image {e s : Nat} (he : e < 256) (hs : s < 4294967296) {l : List Rec} (hl : l.length < 4294967296) (hf : ∀ x ∈ l, x.Fine ∧ checkR x = 0) (h : (planI e s l).1 = 0) : guessI (encI e s l).2 = l := by
  obtain ⟨h1, h2⟩ := parts_all h
  unfold encI
  rw [if_neg (by rw [h]; simp)]
  simp only
  obtain ⟨ps, hps⟩ : ∃ ps, ps = partsGo [] l (planI e s l).2 := ⟨_, rfl⟩
  rw [← hps] at h1 h2 ⊢
  have hlen : ∀ (qs : List (List Rec)), (∀ p ∈ qs, p ≠ []) → qs.length ≤ qs.flatten.length := by
    intro qs
    induction qs with
    | nil => intro _; simp
    | cons q qs ih =>
      intro hq
      have := ih (fun p hp => hq p (List.mem_cons_of_mem _ hp))
      have := List.length_pos_iff.2 (hq q List.mem_cons_self)
      rw [List.flatten_cons, List.length_append, List.length_cons]
      omega
  have hn := hlen ps h2
  rw [h1] at hn
  have := guess_segs (e := e) (s := s) he (by omega) ps.length ps 0 0 (by omega) (fun p hp x hx => hf x (by rw [← h1]; exact List.mem_flatten.2 ⟨p, hp, hx⟩))
  rw [h1] at this
  exact this
end Go.Proofs.YtjeammmfdniokaaGreat

namespace Go.Proofs.YtjeammmfdniokaaGreat

def decI (e s : Nat) (ys : List Int) : Int × List Rec :=
  if (countC e s ys.length).2 ≠ 0 then ((countC e s ys.length).2, [])
  else if encI e s (guessI ys) = (0, ys) then (0, guessI ys) else (4, [])

theorem plan_checks {e s : Nat} {l : List Rec} (h : (planI e s l).1 = 0) : ∀ r ∈ l, checkR r = 0 := by
  unfold planI at h
  split at h
  · split at h
    · rename_i hr; exact absurd h hr
    · rename_i hr
      have hr0 : risingR l = 0 := by simpa using hr
      unfold risingR at hr0
      split at hr0
      · rename_i hb; exact absurd hr0 hb
      · rename_i hb
        exact firstBad_zero.1 (by simpa using hb)
  · exact absurd h (by decide)
theorem enc_ok {e s : Nat} {l : List Rec} : (encI e s l).1 = 0 ↔ (planI e s l).1 = 0 := by
  unfold encI
  by_cases h : (planI e s l).1 ≠ 0
  · rw [if_pos h]
  · rw [if_neg h]
    simp only [true_iff]
    simpa using h
theorem parts_few {e s : Nat} {l : List Rec} (h9 : l.length ≤ 10000) (h : (planI e s l).1 = 0) : (partsGo [] l (planI e s l).2).length ≤ s := by
  obtain ⟨_, hp⟩ := plan_parts h9 h
  obtain ⟨ps, hps⟩ : ∃ ps, ps = partsGo [] l (planI e s l).2 := ⟨_, rfl⟩
  rw [← hps] at hp ⊢
  rcases Nat.eq_zero_or_pos ps.length with h0 | h0
  · omega
  · obtain ⟨r, h1, h2, h3, h4⟩ := (hp (ps.length - 1) _ (List.getElem?_eq_getElem (by omega))).room
    have := h1.real.small
    omega
/-- Every image is decoded. -/
theorem dec_enc {e s : Nat} (he : e < 256) (hs : s < 4294967296) {l : List Rec} (h9 : l.length ≤ 10000) (hf : ∀ r ∈ l, r.Fine) (h : (encI e s l).1 = 0) : decI e s (encI e s l).2 = (0, l) := by
  have hp := enc_ok.1 h
  have hc := plan_checks hp
  have hg := guess_image he hs (by omega) (fun x hx => ⟨hf x hx, hc x hx⟩) hp
  have hm := (plan_parts h9 hp).1
  have hle := image_length h9 hp
  have hfew := parts_few h9 hp
  have hcount : (countC e s (encI e s l).2.length).2 = 0 := by
    rw [hle]
    unfold countC
    have hpos : 0 < 2 ^ e := Nat.two_pow_pos e
    have h1 : ¬ s * 2 ^ e < (partsGo [] l (planI e s l).2).length * 2 ^ e := Nat.not_lt.2 (Nat.mul_le_mul_right _ hfew)
    rw [if_pos hm, if_neg h1, if_pos (Nat.mul_mod_left _ _)]
  unfold decI
  rw [if_neg (by rw [hcount]; simp), hg, if_pos (show encI e s l = (0, (encI e s l).2) from Prod.ext h rfl)]
end Go.Proofs.YtjeammmfdniokaaGreat

namespace Go.Proofs.YtjeammmfdniokaaGreat
open Go.RowKit

/-- The contract of Same. -/
structure ImSameOk : Prop where
  same : ∀ (p : Option Addr) (n c : Nat) (l : List Rec) (q : Option Addr) (m d : Nat) (k : List Rec) (w : World), n ≤ 10000 → m ≤ 10000 → InR w p n c l → InR w q m d k →
    Calls Tryz.prog 16 #[.slice p n c, .slice q m d] w fun r w' => r = .returned (.bool (decide (l = k))) ∧ Keeps NoBlock w w'

theorem enc_apart {e s : Nat} (he : e < 256) (hs : s < 4294967296) {l k : List Rec} (h9 : l.length ≤ 10000) (g9 : k.length ≤ 10000) (hf : ∀ r ∈ l, r.Fine) (hg : ∀ r ∈ k, r.Fine) (h1 : (encI e s l).1 = 0) (h2 : (encI e s k).1 = 0) :
    (encI e s l).2 = (encI e s k).2 ↔ l = k := by
  constructor
  · intro h
    have a := dec_enc he hs h9 hf h1
    have b := dec_enc he hs g9 hg h2
    rw [h, b] at a
    exact (Prod.mk.inj a).2.symm
  · intro h
    rw [h]
end Go.Proofs.YtjeammmfdniokaaGreat

/-
  The law ElderPuts: its walk.
-/
import Derived.Test.YtdkpkpmgiglnhaaElFew
namespace Go.Proofs.Ytdkpkpmgiglnhaa
open Go.RowKit

theorem small_pair {r : Pr} {b : Nat} (hb : b ≤ 100000) (hf : r.Fine) (h : littleP b r = true) : r.Small := by
  unfold littleP at h
  rw [Bool.and_eq_true, decide_eq_true_eq, decide_eq_true_eq] at h
  exact ⟨hf, by omega, by omega⟩
theorem prEqE (p : Pr) (w : World) : (binOp .eql 30 (.agg #[.string (strOfNums p.key), .string (strOfNums p.val)]) (.agg #[.string (strOfNums p.key), .string (strOfNums p.val)])).run Try.prog w = .ok (.bool true) w := by
  simp [go_sem]

set_option maxHeartbeats 8000000 in
set_option maxRecDepth 10000 in
theorem elputs_great (H : ElderOk) (r : Pr) (hb1 : r.key.length ≤ 9223372036854775807) (hb2 : r.val.length ≤ 9223372036854775807) (p : Option Addr) (N c : Nat) (ys : List Int) (w : World) (hin : In8 w p N c ys) (hg : littleP 5000 r = false ∨ 100 < N) :
    Calls Try.prog 4 #[prV r, .slice p N c] w fun e w' => e = .returned (.bool true) ∧ Keeps NoBlock w w' := by
  have HLv := Lib.hid (fun w => lives10_true H w)
  have HFw := Lib.hid (fun (w : World) (a : Addr) hl => few10_any (some a) 1 1 [r] 1 5000 1 5000 rfl rfl rfl (by decide) (fun s hs => by rw [List.mem_singleton.1 hs]; exact ⟨hb1, hb2⟩) w hl)
  rw [fewP_one] at HFw
  have HCh := Lib.hid hin.at_
  have hcap := hin.cap; have hroom := hin.room
  clear H hb1 hb2 hin
  cases hl : littleP 5000 r with
  | false =>
    rw [hl] at HFw
    clear hl hg
    unfold prV
    go_enter Try.func4, Try.ntmps4
    go_wp2_with fail
    refine (HLv.out _).mono ?_
    rintro e w1 ⟨rfl, hk⟩
    have HR : Hid (Whole w1 w.heap.size 30 (prCells r)) := Lib.hid ((Whole.new w _ _).keep hk (fun h => h))
    have HCh := Lib.hid ((HCh.out.keep ((Keeps.refl NoBlock w).alloc _) (fun _ _ h => h)).keep hk (fun _ _ h => h))
    have HK := Lib.hid (((Keeps.refl NoBlock w).alloc _).trans hk)
    clear hk
    obtain ⟨c0, c1⟩ := PrAt.ofWhole HR.out
    go_wp2_with fail
    refine (HFw.out _ _ (PrsAt.one w1 _ r)).mono ?_
    rintro e w2 ⟨rfl, hk2⟩
    have hk : Keeps NoBlock w1 w2 := ((Keeps.refl NoBlock w1).alloc _).trans hk2
    clear hk2
    have HR := Lib.hid (HR.out.keep hk (fun h => h))
    have HCh := Lib.hid (HCh.out.keep hk (fun _ _ h => h))
    have HK := Lib.hid (HK.out.trans hk)
    clear hk c0 c1
    obtain ⟨c0, c1⟩ := PrAt.ofWhole HR.out
    go_wp2_with fail
    refine (HLv.out _).mono ?_
    rintro e w3 ⟨rfl, hk⟩
    have HK := Lib.hid (HK.out.trans hk)
    clear hk c0 c1
    go_wp2_with fail
    go_ret
    exact ⟨rfl, HK.out⟩
  | true =>
    have hgd : decide ((100 : Int) < (N : Int)) = true := decide_eq_true (by rcases hg with h | h; (rw [hl] at h; exact absurd h (by simp)); omega)
    rw [hl] at HFw
    clear hl hg
    unfold prV
    go_enter Try.func4, Try.ntmps4
    go_wp2_with fail
    refine (HLv.out _).mono ?_
    rintro e w1 ⟨rfl, hk⟩
    have HR : Hid (Whole w1 w.heap.size 30 (prCells r)) := Lib.hid ((Whole.new w _ _).keep hk (fun h => h))
    have HCh := Lib.hid ((HCh.out.keep ((Keeps.refl NoBlock w).alloc _) (fun _ _ h => h)).keep hk (fun _ _ h => h))
    have HK := Lib.hid (((Keeps.refl NoBlock w).alloc _).trans hk)
    clear hk
    obtain ⟨c0, c1⟩ := PrAt.ofWhole HR.out
    go_wp2_with fail
    refine (HFw.out _ _ (PrsAt.one w1 _ r)).mono ?_
    rintro e w2 ⟨rfl, hk2⟩
    have hk : Keeps NoBlock w1 w2 := ((Keeps.refl NoBlock w1).alloc _).trans hk2
    clear hk2
    have HR := Lib.hid (HR.out.keep hk (fun h => h))
    have HCh := Lib.hid (HCh.out.keep hk (fun _ _ h => h))
    have HK := Lib.hid (HK.out.trans hk)
    clear hk c0 c1
    obtain ⟨c0, c1⟩ := PrAt.ofWhole HR.out
    go_wp2_with fail
    refine (HLv.out _).mono ?_
    rintro e w3 ⟨rfl, hk⟩
    have HK := Lib.hid (HK.out.trans hk)
    clear hk c0 c1
    go_wp2_with fail
    go_ret
    exact ⟨rfl, HK.out⟩

set_option maxHeartbeats 8000000 in
set_option maxRecDepth 10000 in
theorem elputs_bad (H : ElderOk) (r : Pr) (hf : r.Fine) (hb1 : r.key.length ≤ 9223372036854775807) (hb2 : r.val.length ≤ 9223372036854775807) (p : Option Addr) (N c : Nat) (ys : List Int) (w : World) (hin : In8 w p N c ys) (hg : N ≤ 100) (hl : littleP 5000 r = true) (hc : checkP r ≠ 0) :
    Calls Try.prog 4 #[prV r, .slice p N c] w fun e w' => e = .returned (.bool true) ∧ Keeps NoBlock w w' := by
  have HLv := Lib.hid (fun w => lives10_true H w)
  have HFw := Lib.hid (fun (w : World) (a : Addr) hl => few10_any (some a) 1 1 [r] 1 5000 1 5000 rfl rfl rfl (by decide) (fun s hs => by rw [List.mem_singleton.1 hs]; exact ⟨hb1, hb2⟩) w hl)
  rw [fewP_one] at HFw
  have hsm := small_pair (by decide) hf hl
  have HPu := Lib.hid (fun w => H.put_ r w hsm)
  have HC := Lib.hid (fun w => H.check r w hsm)
  have HC2 := Lib.hid (fun w => check10_ref r hb1 hb2 w)
  have HX := Lib.hid hin.len
  have HCh := Lib.hid hin.at_
  have hcap := hin.cap; have hroom := hin.room
  have hgd : decide ((100 : Int) < (N : Int)) = false := decide_eq_false (by omega)
  rw [hl] at HFw
  have hpe : putP r = [] := by unfold putP; rw [if_neg hc]
  rw [hpe] at HPu
  obtain ⟨z, hz⟩ : ∃ z, z = checkP r := ⟨_, rfl⟩
  rw [← hz] at HPu HC HC2 hc
  have hzb : (z != 0) = true := by rw [bne_iff_ne]; exact hc
  have hzz : (z != z) = false := by simp
  unfold prV at HPu HC HC2
  clear H hf hsm hpe hz hl hb1 hb2 hin hg hc
  unfold prV
  go_enter Try.func4, Try.ntmps4
  go_wp2_with fail
  refine (HLv.out _).mono ?_
  rintro e w1 ⟨rfl, hk⟩
  have HR : Hid (Whole w1 w.heap.size 30 (prCells r)) := Lib.hid ((Whole.new w _ _).keep hk (fun h => h))
  have HCh := Lib.hid ((HCh.out.keep ((Keeps.refl NoBlock w).alloc _) (fun _ _ h => h)).keep hk (fun _ _ h => h))
  have HK := Lib.hid (((Keeps.refl NoBlock w).alloc _).trans hk)
  clear hk
  obtain ⟨c0, c1⟩ := PrAt.ofWhole HR.out
  go_wp2_with fail
  refine (HFw.out _ _ (PrsAt.one w1 _ r)).mono ?_
  rintro e w2 ⟨rfl, hk2⟩
  have hk : Keeps NoBlock w1 w2 := ((Keeps.refl NoBlock w1).alloc _).trans hk2
  clear hk2
  have HR := Lib.hid (HR.out.keep hk (fun h => h))
  have HCh := Lib.hid (HCh.out.keep hk (fun _ _ h => h))
  have HK := Lib.hid (HK.out.trans hk)
  clear hk c0 c1
  obtain ⟨c0, c1⟩ := PrAt.ofWhole HR.out
  go_wp2_with fail
  refine (HPu.out _).mono ?_
  rintro e w3 ⟨v, rfl, q, m, d, rfl, hm, hmd, hd, hq0, hb8, hk⟩
  have HBy := Lib.hid hb8
  have HM := Lib.hid hm
  clear hb8 hq0 hm
  have HR := Lib.hid (HR.out.keep hk (fun h => h))
  have HCh := Lib.hid (HCh.out.keep hk (fun _ _ h => h))
  have HK := Lib.hid (HK.out.trans hk)
  clear hk c0 c1
  obtain ⟨c0, c1⟩ := PrAt.ofWhole HR.out
  go_wp2_with fail
  refine (HC2.out _).mono ?_
  rintro e w4 ⟨rfl, hk⟩
  have HR := Lib.hid (HR.out.keep hk (fun h => h))
  have HCh := Lib.hid (HCh.out.keep hk (fun _ _ h => h))
  have HK := Lib.hid (HK.out.trans hk)
  have HBy := Lib.hid (HBy.out.keep hk (fun _ _ h => h))
  clear hk c0 c1
  obtain ⟨c0, c1⟩ := PrAt.ofWhole HR.out
  go_wp2_with fail
  refine (HC.out _).mono ?_
  rintro e w5 ⟨rfl, hk⟩
  have HR := Lib.hid (HR.out.keep hk (fun h => h))
  have HCh := Lib.hid (HCh.out.keep hk (fun _ _ h => h))
  have HK := Lib.hid (HK.out.trans hk)
  have HBy := Lib.hid (HBy.out.keep hk (fun _ _ h => h))
  clear hk c0 c1
  obtain ⟨c0, c1⟩ := PrAt.ofWhole HR.out
  have hm0 : m = 0 := HM.out
  subst hm0
  go_wp2_with fail
  go_ret
  exact ⟨rfl, HK.out⟩
  
set_option maxHeartbeats 8000000 in
set_option maxRecDepth 10000 in
theorem elputs_good (H : ElderOk) (r : Pr) (hf : r.Fine) (hb1 : r.key.length ≤ 9223372036854775807) (hb2 : r.val.length ≤ 9223372036854775807) (p : Option Addr) (N c : Nat) (ys : List Int) (w : World) (hin : In8 w p N c ys) (hg : N ≤ 100) (hl : littleP 5000 r = true) (hc : checkP r = 0) :
    Calls Try.prog 4 #[prV r, .slice p N c] w fun e w' => e = .returned (.bool true) ∧ Keeps NoBlock w w' := by
  obtain ⟨i0, hi, hz0, hz1, hz2⟩ := info_parts infoByte
  have HLv := Lib.hid (fun w => lives10_true H w)
  have HFw := Lib.hid (fun (w : World) (a : Addr) hl => few10_any (some a) 1 1 [r] 1 5000 1 5000 rfl rfl rfl (by decide) (fun s hs => by rw [List.mem_singleton.1 hs]; exact ⟨hb1, hb2⟩) w hl)
  rw [fewP_one] at HFw
  have hsm := small_pair (by decide) hf hl
  have HPu := Lib.hid (fun w => H.put_ r w hsm)
  have HC := Lib.hid (fun w => H.check r w hsm)
  have HC2 := Lib.hid (fun w => check10_ref r hb1 hb2 w)
  have HX := Lib.hid hin.len
  have HCh := Lib.hid hin.at_
  have hcap := hin.cap; have hroom := hin.room
  have hgd : decide ((100 : Int) < (N : Int)) = false := decide_eq_false (by omega)
  rw [hl] at HFw
  have hpe : putP r = textP r := by unfold putP; rw [if_pos hc]
  rw [hpe] at HPu
  rw [hc] at HPu HC HC2
  have hto := textP_octets hf
  have htl := textP_length r
  obtain ⟨hk1, hk2, hv2⟩ := checkP_ok.1 hc
  have hv5 : r.val.length ≤ 100000 := hsm.val
  have HRf := Lib.hid (fun w => text10_ref r hf (by omega) (by omega) w)
  have HG := Lib.hid (fun q m d w hi hm => H.get q m d (textP r ++ ys) w hi hm)
  rw [getP_text hc ys] at HG
  simp only at HG
  have hoo := hto.app hin.oct
  have hN0 := hin.bare
  obtain ⟨B, hB⟩ : ∃ B, B = textP r := ⟨_, rfl⟩
  rw [← hB] at HPu HRf HG hto htl hoo
  have HBo := Lib.hid hto
  have HOo := Lib.hid hoo
  have HBl := Lib.hid (show B.length ≤ 104108 by omega)
  have HBp := Lib.hid (show 1 ≤ B.length by omega)
  have HN0 := Lib.hid hN0
  have HE := prEqE r
  have hzz : ((0 : Int) != 0) = false := by simp
  unfold prV at HPu HC HC2 HRf HG
  clear H hf hsm hpe hl hb1 hb2 hin hc hB hto htl hoo hk1 hk2 hv2 hv5 hN0
  unfold prV
  go_enter Try.func4, Try.ntmps4
  go_wp2_with fail
  refine (HLv.out _).mono ?_
  rintro e w1 ⟨rfl, hk⟩
  have HR : Hid (Whole w1 w.heap.size 30 (prCells r)) := Lib.hid ((Whole.new w _ _).keep hk (fun h => h))
  have HCh := Lib.hid ((HCh.out.keep ((Keeps.refl NoBlock w).alloc _) (fun _ _ h => h)).keep hk (fun _ _ h => h))
  have HK := Lib.hid (((Keeps.refl NoBlock w).alloc _).trans hk)
  clear hk
  obtain ⟨c0, c1⟩ := PrAt.ofWhole HR.out
  go_wp2_with fail
  refine (HFw.out _ _ (PrsAt.one w1 _ r)).mono ?_
  rintro e w2 ⟨rfl, hk2⟩
  have hk : Keeps NoBlock w1 w2 := ((Keeps.refl NoBlock w1).alloc _).trans hk2
  clear hk2
  have HR := Lib.hid (HR.out.keep hk (fun h => h))
  have HCh := Lib.hid (HCh.out.keep hk (fun _ _ h => h))
  have HK := Lib.hid (HK.out.trans hk)
  clear hk c0 c1
  obtain ⟨c0, c1⟩ := PrAt.ofWhole HR.out
  go_wp2_with fail
  refine (HPu.out _).mono ?_
  rintro e w3 ⟨v, rfl, q, m, d, rfl, hm, hmd, hd, hq0, hb8, hk⟩
  have HBy := Lib.hid hb8
  have HM := Lib.hid hm
  clear hb8 hq0 hm
  have HR := Lib.hid (HR.out.keep hk (fun h => h))
  have HCh := Lib.hid (HCh.out.keep hk (fun _ _ h => h))
  have HK := Lib.hid (HK.out.trans hk)
  clear hk c0 c1
  obtain ⟨c0, c1⟩ := PrAt.ofWhole HR.out
  go_wp2_with fail
  refine (HC2.out _).mono ?_
  rintro e w4 ⟨rfl, hk⟩
  have HR := Lib.hid (HR.out.keep hk (fun h => h))
  have HCh := Lib.hid (HCh.out.keep hk (fun _ _ h => h))
  have HK := Lib.hid (HK.out.trans hk)
  have HBy := Lib.hid (HBy.out.keep hk (fun _ _ h => h))
  clear hk c0 c1
  obtain ⟨c0, c1⟩ := PrAt.ofWhole HR.out
  go_wp2_with fail
  refine (HC.out _).mono ?_
  rintro e w5 ⟨rfl, hk⟩
  have HR := Lib.hid (HR.out.keep hk (fun h => h))
  have HCh := Lib.hid (HCh.out.keep hk (fun _ _ h => h))
  have HK := Lib.hid (HK.out.trans hk)
  have HBy := Lib.hid (HBy.out.keep hk (fun _ _ h => h))
  clear hk c0 c1
  obtain ⟨c0, c1⟩ := PrAt.ofWhole HR.out
  have hm1 : 1 ≤ m := by rw [HM.out]; exact HBp.out
  have hmx : m ≤ 104108 := by rw [HM.out]; exact HBl.out
  obtain ⟨a, rfl, hcell⟩ := HBy.out (by have := HBp.out; omega)
  clear hcell
  go_wp2_with (at_builtin; refine wpList_append_own _ rfl _ _ 25 rfl w5.heap.size 5 i0 (.int .u8 0) 1 1 Try.underlying25 hi hz0 hz1 hz2 rfl (by decide) _ _ _ rfl (World.ownsRow_made w5 #[] 0 (Nat.le_refl _) (Nat.zero_le _) rfl) a m d (B.map (Value.int .u8)) rfl ?qc1 ?qc2 ?qc3 ?qc4 ?qc5 ?qc6 ?_)
  case qc1 => have := HM.out; simp; omega
  case qc2 =>
    intro j u hj
    have hjn : j < B.length := by
      have := (List.getElem?_eq_some_iff.1 hj).1
      simpa using this
    obtain ⟨a', ha', hcell⟩ := HBy.out (by omega)
    obtain rfl := Option.some.inj ha'
    refine Lib.cell?_alloc_some _ ?_
    rw [hcell j hjn]
    have e : (B.map (Value.int .u8))[j]? = some (Value.int .u8 (B.getD j 0)) := by simp [List.getElem?_eq_getElem hjn]
    rw [e] at hj
    exact hj
  case qc3 => intro u hu; obtain ⟨x, _, rfl⟩ := List.mem_map.1 hu; rfl
  case qc4 => unfold maxLen; omega
  case qc5 => omega
  case qc6 => simp
  intro v1 wg hown hgrow hnil
  have hbel : Below w5.heap.size w5 wg := ((Below.refl _ w5).alloc (Nat.le_refl _) _).grown hgrow (by simp) (by intro k hk; simp [Value.ownBlock] at hk; omega)
  have HCo := Lib.hid (show Copied w5 m B v1 wg from ⟨by simpa using hown, hbel⟩)
  clear hown hgrow hnil hbel
  have HCg := Lib.hid (HCh.out.keep (Keeps.ofBelow (S := NoBlock) HCo.out.2) (fun _ _ h => h))
  cases p with
  | none =>
    obtain ⟨rfl, rfl⟩ := HN0.out rfl
    go_wp2_with (at_builtin; refine wpList_append_own_none rfl _ _ 25 rfl w5.heap.size 5 i0 1 Try.underlying25 hi _ _ _ rfl HCo.out.1 rfl ?_)
    have hys : ys = [] := List.length_eq_zero_iff.1 HX.out.symm
    subst hys
    have HC3 : Hid (Copied w5 (m + 0) (B ++ []) v1 wg) := by rw [List.append_nil]; exact HCo
    obtain ⟨q3, d3, rfl, hd3, hd3', hb3, hn3⟩ := HC3.out.read2 (by rw [List.length_append, HM.out, HX.out])
    have hk := Keeps.ofBelow (S := NoBlock) HC3.out.2
    have HB3 := Lib.hid hb3
    have HN3 := Lib.hid hn3
    have HR := Lib.hid (HR.out.keep hk (fun h => h))
    have HBy := Lib.hid (HBy.out.keep hk (fun _ _ h => h))
    have HK := Lib.hid (HK.out.trans hk)
    clear hk hb3 hn3 c0 c1
    go_wp2_with fail
    refine (HG.out q3 _ d3 _ (by exact ⟨by rw [List.length_append, HM.out, HX.out], hd3, hd3', HN3.out, HOo.out, HB3.out⟩) (by omega)).mono ?_
    rintro e w6 ⟨rfl, hk⟩
    have hR := HR.out.keep hk (fun h => h)
    have hBy := HBy.out.keep hk (fun _ _ h => h)
    have hK := HK.out.trans hk
    obtain ⟨W, hW⟩ : ∃ W, W = w6.alloc (.cells #[.string (strOfNums r.key), .string (strOfNums r.val)] 30) := ⟨_, rfl⟩
    have HR : Hid (Whole W _ _ (prCells r)) := Lib.hid (by rw [hW]; exact hR.alloc _)
    have HBy : Hid (Bytes8 W (some a) B) := Lib.hid (by rw [hW]; exact hBy.keep ((Keeps.refl NoBlock w6).alloc _) (fun _ _ h => h))
    have HK : Hid (Keeps NoBlock w W) := Lib.hid (by rw [hW]; exact hK.alloc _)
    have HXr : Hid (Whole W w6.heap.size 30 (prCells r)) := Lib.hid (by rw [hW]; exact Whole.new w6 _ (prCells r))
    clear hk hR hBy hK
    go_upto_region 9 with (fail)
    rw [← hW]
    clear hW
    rw [← HM.out]
    have s0 := And.intro (textOf (some a) m d B W.drew HM.out HBy.out) (And.intro (PrAt.ofWhole (w := W.drew) HR.out) (PrAt.ofWhole (w := W.drew) HXr.out))
    have sN := And.intro (textOf (some a) m d B W HM.out HBy.out) (And.intro (PrAt.ofWhole HR.out) (PrAt.ofWhole HXr.out))
    unfold PrAt at s0 sN
    go_wp2_with fail
    go_region_held3 (fun w' => (convert 25 9 (.slice (some a) m d)).run Try.prog w' = .ok (.string (strOfNums B)) w' ∧ (w'.cell? ⟨w.heap.size, 0, none⟩ = some (.string (strOfNums r.key)) ∧ w'.cell? ⟨w.heap.size, 1, none⟩ = some (.string (strOfNums r.val))) ∧ w'.cell? ⟨w6.heap.size, 0, none⟩ = some (.string (strOfNums r.key)) ∧ w'.cell? ⟨w6.heap.size, 1, none⟩ = some (.string (strOfNums r.val)))
      (first | exact s5 | exact s0 | exact sN)
      (first | (go_at_call 16; refine (HRf.out _).mono ?_; rintro e w7 ⟨rfl, hk⟩; have hk' : Keeps NoBlock W w7 := (by first | exact hk | exact hk.ofDrew | exact hk.ofDrewN); have HK := Lib.hid (HK.out.trans hk'); have HR := Lib.hid (HR.out.keep hk' (fun h => h)); have HXr := Lib.hid (HXr.out.keep hk' (fun h => h)); have HBy := Lib.hid (HBy.out.keep hk' (fun _ _ h => h)); have s5 := And.intro (textOf (some a) m d B w7 HM.out HBy.out) (And.intro (PrAt.ofWhole HR.out) (PrAt.ofWhole HXr.out)); unfold PrAt at s5; clear hk hk'))
    all_goals
      go_wp2_with fail
      go_ret
      exact ⟨rfl, by first | exact HK.out | exact HK.out.drewN _⟩
  | some a2 =>
    go_wp2_with (at_builtin; refine wpList_append_own _ rfl _ _ 25 rfl w5.heap.size 5 i0 (.int .u8 0) 1 1 Try.underlying25 hi hz0 hz1 hz2 rfl (by decide) _ _ _ rfl HCo.out.1 a2 N c (ys.map (Value.int .u8)) rfl ?qc1 ?qc2 ?qc3 ?qc4 ?qc5 ?qc6 ?_)
    case qc1 => have := HX.out; simp; omega
    case qc2 =>
      intro j u hj
      have hjn : j < ys.length := by
        have := (List.getElem?_eq_some_iff.1 hj).1
        simpa using this
      obtain ⟨a', ha', hcell⟩ := HCg.out (by omega)
      obtain rfl := Option.some.inj ha'
      rw [hcell j hjn]
      have e : (ys.map (Value.int .u8))[j]? = some (Value.int .u8 (ys.getD j 0)) := by simp [List.getElem?_eq_getElem hjn]
      rw [e] at hj
      exact hj
    case qc3 => intro u hu; obtain ⟨x, _, rfl⟩ := List.mem_map.1 hu; rfl
    case qc4 => unfold maxLen; omega
    case qc5 => omega
    case qc6 => exact HCo.out.2.size
    intro v3 wg3 hown hgrow hnil
    have hbel : Below w5.heap.size w5 wg3 := HCo.out.2.grown hgrow HCo.out.2.size (by intro k hk; exact own_base HCo.out.1 hk)
    have HC3 := Lib.hid (show Copied w5 (m + N) (B ++ ys) v3 wg3 from ⟨by rw [List.map_append]; simpa using hown, hbel⟩)
    clear hown hgrow hnil hbel
    obtain ⟨q3, d3, rfl, hd3, hd3', hb3, hn3⟩ := HC3.out.read2 (by rw [List.length_append, HM.out, HX.out])
    have hk := Keeps.ofBelow (S := NoBlock) HC3.out.2
    have HB3 := Lib.hid hb3
    have HN3 := Lib.hid hn3
    have HR := Lib.hid (HR.out.keep hk (fun h => h))
    have HBy := Lib.hid (HBy.out.keep hk (fun _ _ h => h))
    have HK := Lib.hid (HK.out.trans hk)
    clear hk hb3 hn3 c0 c1
    go_wp2_with fail
    refine (HG.out q3 _ d3 _ (by exact ⟨by rw [List.length_append, HM.out, HX.out], hd3, hd3', HN3.out, HOo.out, HB3.out⟩) (by omega)).mono ?_
    rintro e w6 ⟨rfl, hk⟩
    have hR := HR.out.keep hk (fun h => h)
    have hBy := HBy.out.keep hk (fun _ _ h => h)
    have hK := HK.out.trans hk
    obtain ⟨W, hW⟩ : ∃ W, W = w6.alloc (.cells #[.string (strOfNums r.key), .string (strOfNums r.val)] 30) := ⟨_, rfl⟩
    have HR : Hid (Whole W _ _ (prCells r)) := Lib.hid (by rw [hW]; exact hR.alloc _)
    have HBy : Hid (Bytes8 W (some a) B) := Lib.hid (by rw [hW]; exact hBy.keep ((Keeps.refl NoBlock w6).alloc _) (fun _ _ h => h))
    have HK : Hid (Keeps NoBlock w W) := Lib.hid (by rw [hW]; exact hK.alloc _)
    have HXr : Hid (Whole W w6.heap.size 30 (prCells r)) := Lib.hid (by rw [hW]; exact Whole.new w6 _ (prCells r))
    clear hk hR hBy hK
    go_upto_region 9 with (fail)
    rw [← hW]
    clear hW
    rw [← HM.out]
    have s0 := And.intro (textOf (some a) m d B W.drew HM.out HBy.out) (And.intro (PrAt.ofWhole (w := W.drew) HR.out) (PrAt.ofWhole (w := W.drew) HXr.out))
    have sN := And.intro (textOf (some a) m d B W HM.out HBy.out) (And.intro (PrAt.ofWhole HR.out) (PrAt.ofWhole HXr.out))
    unfold PrAt at s0 sN
    go_wp2_with fail
    go_region_held3 (fun w' => (convert 25 9 (.slice (some a) m d)).run Try.prog w' = .ok (.string (strOfNums B)) w' ∧ (w'.cell? ⟨w.heap.size, 0, none⟩ = some (.string (strOfNums r.key)) ∧ w'.cell? ⟨w.heap.size, 1, none⟩ = some (.string (strOfNums r.val))) ∧ w'.cell? ⟨w6.heap.size, 0, none⟩ = some (.string (strOfNums r.key)) ∧ w'.cell? ⟨w6.heap.size, 1, none⟩ = some (.string (strOfNums r.val)))
      (first | exact s5 | exact s0 | exact sN)
      (first | (go_at_call 16; refine (HRf.out _).mono ?_; rintro e w7 ⟨rfl, hk⟩; have hk' : Keeps NoBlock W w7 := (by first | exact hk | exact hk.ofDrew | exact hk.ofDrewN); have HK := Lib.hid (HK.out.trans hk'); have HR := Lib.hid (HR.out.keep hk' (fun h => h)); have HXr := Lib.hid (HXr.out.keep hk' (fun h => h)); have HBy := Lib.hid (HBy.out.keep hk' (fun _ _ h => h)); have s5 := And.intro (textOf (some a) m d B w7 HM.out HBy.out) (And.intro (PrAt.ofWhole HR.out) (PrAt.ofWhole HXr.out)); unfold PrAt at s5; clear hk hk'))
    all_goals
      go_wp2_with fail
      go_ret
      exact ⟨rfl, by first | exact HK.out | exact HK.out.drewN _⟩

theorem elputs_walk (H : ElderOk) (r : Pr) (hf : r.Fine) (hb1 : r.key.length ≤ 9223372036854775807) (hb2 : r.val.length ≤ 9223372036854775807) (p : Option Addr) (N c : Nat) (ys : List Int) (w : World) (hin : In8 w p N c ys) :
    Calls Try.prog 4 #[prV r, .slice p N c] w fun e w' => e = .returned (.bool true) ∧ Keeps NoBlock w w' := by
  by_cases hg : N ≤ 100
  · cases hl : littleP 5000 r with
    | false => exact elputs_great H r hb1 hb2 p N c ys w hin (.inl hl)
    | true =>
      by_cases hc : checkP r = 0
      · exact elputs_good H r hf hb1 hb2 p N c ys w hin hg hl hc
      · exact elputs_bad H r hf hb1 hb2 p N c ys w hin hg hl hc
  · exact elputs_great H r hb1 hb2 p N c ys w hin (.inr (by omega))
end Go.Proofs.Ytdkpkpmgiglnhaa

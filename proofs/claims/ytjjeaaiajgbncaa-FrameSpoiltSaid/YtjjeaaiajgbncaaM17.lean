/-
  FrSpWalk; RecBdWalk; RecRdsWalk; FrRecWalk; RecRsWalk; OpenS.
-/
import Derived.Lib.SmallJoins
import Derived.Deep.Slices
import Derived.Test.YtjjeaaiajgbncaaM02
import Derived.Test.YtjjeaaiajgbncaaM03
import Derived.Test.YtjjeaaiajgbncaaM09
import Derived.Test.YtjjeaaiajgbncaaM10
import Derived.Test.YtjjeaaiajgbncaaM16
namespace Go.Proofs.Ytjjeaaiajgbncaa
open Go.RowKit

theorem bytes_set {w : World} {g N : Nat} {C : List Int} {cur : Array Value} (hw : Whole w g 5 cur) (hc : ∀ i, i < N → cur[i]? = some (.int .u8 (C.getD i 0))) (hN : N = C.length) (i : Nat) (hi : i < N) (x : Int) :
    Bytes8 (w.setCell ⟨g, i, none⟩ (.int .u8 x)) (some ⟨g, 0, none⟩) (C.set i x) :=
  (hw.set i (.int .u8 x)).bytes (C.set i x) (fun j hj => by
    rw [List.length_set, ← hN] at hj
    have hsz : i < cur.size := (Array.getElem?_eq_some_iff.1 (hc i hi)).1
    by_cases e : i = j
    · subst e
      simp [hsz, ← hN, hi]
    · have h1 := hc j hj
      simp only [List.getD_eq_getElem?_getD] at h1 ⊢
      rw [List.getElem?_set_ne e, ← h1]
      simp [e])

set_option maxHeartbeats 8000000 in
set_option maxRecDepth 10000 in
theorem frspoilt_small (H : FrameOk) (p : Option Addr) (N c : Nat) (xs : List Int) (z0 x : Int) (w : World) (hin : In8 w p N c xs) (hg : N ≤ 600) (h0 : 0 ≤ z0 ∧ z0 < 65536) (hxb : 0 ≤ x ∧ x < 256) :
    Calls Try.prog 7 #[.slice p N c, .int .u16 z0, .int .u8 x] w fun e w' => e = .returned (.bool true) ∧ Keeps NoBlock w w' := by
  obtain ⟨i0, hi, hz0, hz1, hz2⟩ := info_parts infoByte
  obtain ⟨hx, hN, hc, hn0, ho, hb⟩ := hin
  have HLv := Lib.hid (fun w => lives9_true H w)
  have HSl := Lib.hid (fun w hb8 => H.shut p N c xs w ⟨hx, hN, hc, hn0, ho, hb8⟩ (by omega))
  obtain ⟨hlen, hmost⟩ := seal_length xs
  have hlong := chunk_long xs
  have hsz : sizeN N ≤ 2000 := by unfold sizeN mostOf; split <;> omega
  rw [← hx] at hmost
  have hco := (chunk_solid ho).octets
  have hFC : sealN xs = chunkN xs ++ [0] := rfl
  obtain ⟨M, hM⟩ : ∃ M, M = (chunkN xs).length := ⟨_, rfl⟩
  have hM0 : M ≤ 2000 := by omega
  have hM9 : 9 ≤ M := by omega
  obtain ⟨i, hi2⟩ : ∃ i : Nat, z0.tmod (M : Int) = (i : Int) := ⟨(z0 % (M : Int)).toNat, by rw [Int.tmod_eq_emod_of_nonneg h0.1]; have := Int.emod_nonneg z0 (show (M : Int) ≠ 0 by omega); omega⟩
  have hiM : i < M := by
    have h1 := Int.emod_lt_of_pos z0 (show (0 : Int) < (M : Int) by omega)
    rw [Int.tmod_eq_emod_of_nonneg h0.1] at hi2
    omega
  have hset : Octets ((chunkN xs).set i x) := fun b hb => by
    rcases List.mem_or_eq_of_mem_set hb with h | h
    · exact hco b h
    · rw [h]; exact hxb
  have HOp := Lib.hid (fun q m d w hi hm => H.open_ q m d ((chunkN xs).set i x) w hi hm)
  have hsame : (chunkN xs).getD i 0 = x → openN ((chunkN xs).set i x) = (0, xs) := fun h => by
    have e : (chunkN xs).set i x = chunkN xs := by
      have hil : i < (chunkN xs).length := by omega
      have : x = (chunkN xs)[i] := by
        rw [← h, List.getD_eq_getElem?_getD, List.getElem?_eq_getElem hil]
        rfl
      rw [this, List.set_getElem_self]
    rw [e]
    exact open_chunk ho
  have hother : (chunkN xs).getD i 0 ≠ x → ¬ ((openN ((chunkN xs).set i x)).1 = 0 ∧ (openN ((chunkN xs).set i x)).2 = xs) := fun h hh => by
    have h1 := (open_only hset (Prod.ext hh.1 hh.2)).1
    have hil : i < (chunkN xs).length := by omega
    have h2 := congrArg (fun l => l.getD i 0) h1
    simp only [List.getD_eq_getElem?_getD] at h2
    rw [List.getElem?_set_self hil] at h2
    apply h
    rw [List.getD_eq_getElem?_getD, ← h2]
    rfl
  have hbd := open_bound hset
  rw [List.length_set, ← hM] at hbd
  obtain ⟨C, hC⟩ : ∃ C, C = chunkN xs := ⟨_, rfl⟩
  rw [← hC] at hM hFC HOp hset hsame hother hlen hbd
  obtain ⟨F, hF⟩ : ∃ F, F = sealN xs := ⟨_, rfl⟩
  rw [← hF] at HSl hFC hlen
  obtain ⟨z, hz⟩ : ∃ z, z = (openN (C.set i x)).1 := ⟨_, rfl⟩
  obtain ⟨T, hT⟩ : ∃ T, T = (openN (C.set i x)).2 := ⟨_, rfl⟩
  have hsm : C.getD i 0 = x → z = 0 ∧ T = xs := fun h => by rw [hz, hT, hsame h]; exact ⟨rfl, rfl⟩
  rw [← hz, ← hT] at hother HOp
  rw [← hT] at hbd
  have HSm := Lib.hid hsm; have HOt := Lib.hid hother
  have HFC := Lib.hid hFC
  have HM := Lib.hid hM
  have HLen := Lib.hid hlen
  have HX := Lib.hid hx
  have HB0 := Lib.hid hb
  have HSe := Lib.hid hset
  have HI := Lib.hid hi2
  have HTl := Lib.hid hbd.2
  have HTo := Lib.hid hbd.1
  have HXo := Lib.hid ho
  have hgd : decide ((600 : Int) < (N : Int)) = false := decide_eq_false (by omega)
  clear H ho hx hb hn0 hC hF hz hT hsm hother hsame hset hFC hM hlen hmost hlong hsz hco hbd hi2
  go_enter Try.func7, Try.ntmps7
  go_wp2_with fail
  refine (HLv.out _).mono ?_
  rintro e w1 ⟨rfl, hk⟩
  have HK1 := Lib.hid hk
  have HB1 := Lib.hid (HB0.out.keep hk (fun _ _ h => h))
  clear hk
  go_wp2_with fail
  refine (HSl.out _ HB1.out).mono ?_
  rintro e w2 ⟨v, rfl, qf, L, df, rfl, hLF, hLd, hdf, hqf, hbf, hk⟩
  have HK2 := Lib.hid (HK1.out.trans hk)
  have HB2 := Lib.hid (HB1.out.keep hk (fun _ _ h => h))
  have hML : L = M + 1 := by rw [hLF, HLen.out, HM.out]
  have hsub : (L : Int) - 1 = (M : Int) := by omega
  obtain ⟨a, rfl, hcell⟩ := hbf (by rw [HLen.out]; omega)
  have HBC : Hid (Bytes8 w2 (some a) C) := Lib.hid (Bytes8.left (ys := [0]) (by rw [← HFC.out]; exact hbf))
  have hMd : M ≤ df := by omega
  have hML2 : M ≤ L := by omega
  have hL0 : L ≤ 2001 := by omega
  clear hk hbf hLF hcell hqf hML
  go_upto_region 4 with (fail)
  go_cut [8] (fun s8 wx => Copied w2 M C s8 wx)
  case first =>
    go_wp2_with (at_builtin; refine wpList_append_own _ rfl _ _ 22 rfl w2.heap.size 5 i0 (.int .u8 0) 1 1 Try.underlying22 hi hz0 hz1 hz2 rfl (by decide) _ _ _ rfl (World.ownsRow_made w2 #[] 0 (Nat.le_refl _) (Nat.zero_le _) rfl) a M df (C.map (Value.int .u8)) rfl ?qc1 ?qc2 ?qc3 ?qc4 ?qc5 ?qc6 ?_)
    case qc1 => have := HM.out; simp; omega
    case qc2 =>
      intro j u hj
      have hjn : j < C.length := by
        have := (List.getElem?_eq_some_iff.1 hj).1
        simpa using this
      obtain ⟨a', ha', hcell⟩ := HBC.out (by omega)
      obtain rfl := Option.some.inj ha'
      refine Lib.cell?_alloc_some _ ?_
      rw [hcell j hjn]
      have e : (C.map (Value.int .u8))[j]? = some (Value.int .u8 (C.getD j 0)) := by simp [List.getElem?_eq_getElem hjn]
      rw [e] at hj
      exact hj
    case qc3 => intro u hu; obtain ⟨x, _, rfl⟩ := List.mem_map.1 hu; rfl
    case qc4 => unfold maxLen; omega
    case qc5 => omega
    case qc6 => simp
    intro v' wg hown hgrow hnil
    have hbel : Below w2.heap.size w2 wg := ((Below.refl _ w2).alloc (Nat.le_refl _) _).grown hgrow (by simp) (by intro k hk; simp [Value.ownBlock] at hk; omega)
    have HC := Lib.hid (show Copied w2 M C v' wg from ⟨by simpa using hown, hbel⟩)
    clear hown hgrow hnil hbel
    go_wp2_with fail
    go_meet
    case rel => exact HC.out
  case rest =>
    obtain ⟨g, d, cur, rfl, hd, hd', hgn, hw, hcur⟩ := hcut.whole HM.out (by omega)
    have hkc := Keeps.ofBelow (S := NoBlock) hcut.2
    have HKc := Lib.hid (HK2.out.trans hkc)
    have HBp := Lib.hid (HB2.out.keep hkc (fun _ _ h => h))
    have c1 : wc.cell? ⟨g, i, none⟩ = some (.int .u8 (C.getD i 0)) := hw.cell i (hcur i hiM)
    have f1 := hw.free i
    have HBn := Lib.hid (bytes_set hw hcur HM.out i hiM x)
    have hit := HI.out
    have hks := hkc.setNew hgn i (.int .u8 x)
    have HKs := Lib.hid (HK2.out.trans hks)
    have HBs := Lib.hid (HB2.out.keep hks (fun _ _ h => h))
    clear hcut hkc hw hcur HB1 HB0 hks HBp HKc
    obtain ⟨was, hwas⟩ : ∃ was, was = C.getD i 0 := ⟨_, rfl⟩
    rw [← hwas] at c1
    have HWas := Lib.hid hwas
    clear hwas
    go_upto_region 10 with (fail)
    obtain ⟨W, hW⟩ : ∃ W, W = wc.setCell ⟨g, i, none⟩ (.int .u8 x) := ⟨_, rfl⟩
    rw [← hW] at HBn HKs HBs ⊢
    clear hW c1 f1
    go_wp2_with fail
    refine (HOp.out (some ⟨g, 0, none⟩) M d _ (by exact ⟨by rw [List.length_set]; exact HM.out, hd, hd', fun h => by simp at h, HSe.out, HBn.out⟩) (by omega)).mono ?_
    rintro e w6 ⟨v, rfl, q6, m6, d6, rfl, hm6, _, _, _, hb6, hk⟩
    have HK9 := Lib.hid (HKs.out.trans hk)
    have HB6 := Lib.hid (HBs.out.keep hk (fun _ _ h => h))
    have t1 := textOf p N c xs w6 HX.out HB6.out
    have t2 := textOf q6 m6 d6 T w6 hm6 hb6
    clear hk hm6 hb6
    by_cases hwx : was = x
    · have hwb : (was == x) = true := by rw [hwx]; simp
      obtain ⟨hz, hT⟩ := HSm.out (by rw [← HWas.out, hwx])
      rw [hT] at t2
      clear hwx hT
      subst hz
      go_wp2_with fail
      go_ret
      exact ⟨rfl, HK9.out⟩
    · have hwb : (was == x) = false := beq_eq_false_iff_ne.2 hwx
      have hno := HOt.out (by rw [← HWas.out]; exact hwx)
      clear hwx
      by_cases hz : z = 0
      · have hne : T ≠ xs := fun h => hno ⟨hz, h⟩
        have hbq : ((strOfNums T).toList == (strOfNums xs).toList) = false := by
          rw [text_beq]
          exact decide_eq_false (fun h => hne (strOf_inj HTo.out HXo.out h))
        clear hno hne
        subst hz
        go_wp2_with fail
        go_ret
        exact ⟨rfl, HK9.out⟩
      · have hzb : (z != 0) = true := by rw [bne_iff_ne]; exact hz
        clear hno hz
        go_wp2_with fail
        go_ret
        exact ⟨rfl, HK9.out⟩

theorem frspoilt_walk (H : FrameOk) (p : Option Addr) (N c : Nat) (xs : List Int) (z0 x : Int) (w : World) (hin : In8 w p N c xs) (h0 : 0 ≤ z0 ∧ z0 < 65536) (hxb : 0 ≤ x ∧ x < 256) :
    Calls Try.prog 7 #[.slice p N c, .int .u16 z0, .int .u8 x] w fun e w' => e = .returned (.bool true) ∧ Keeps NoBlock w w' := by
  by_cases hg : N ≤ 600
  · exact frspoilt_small H p N c xs z0 x w hin hg h0 hxb
  · have HLv := Lib.hid (fun w => lives9_true H w)
    obtain ⟨_, _, hc, _, _, _⟩ := hin
    have hgd : decide ((600 : Int) < (N : Int)) = true := decide_eq_true (by omega)
    clear H
    go_enter Try.func7, Try.ntmps7
    go_wp2_with fail
    refine (HLv.out _).mono ?_
    rintro e w1 ⟨rfl, hk⟩
    have HK := Lib.hid hk
    clear hk
    go_wp2_with fail
    refine (HLv.out _).mono ?_
    rintro e w2 ⟨rfl, hk⟩
    have HK := Lib.hid (HK.out.trans hk)
    clear hk
    go_wp2_with fail
    go_ret
    exact ⟨rfl, HK.out⟩
end Go.Proofs.Ytjjeaaiajgbncaa

namespace Go.Proofs.Ytjjeaaiajgbncaa
open Go.RowKit

/-- A record in new memory is a row of one. -/
theorem RecsAt.one (w : World) (t : TypeId) (r : Rec) : RecsAt (w.alloc (.cells (recCells r) t)) (some ⟨w.heap.size, 0, none⟩) [r] := fun i hi => by
  have : i = 0 := by simp at hi; omega
  subst this
  have h := RecAt.ofWhole (r := r) (Whole.new w t (recCells r))
  exact ⟨_, rfl, h.1, h.2.1, h.2.2.1, h.2.2.2⟩

theorem fewR_one {r : Rec} {b : Nat} : fewR [r] 1 b = littleR b r := by
  unfold fewR
  simp
theorem little_modest {r : Rec} (hf : r.Fine) (h : littleR 5000 r = true) : r.Modest := by
  unfold littleR at h
  rw [Bool.and_eq_true, decide_eq_true_eq, decide_eq_true_eq] at h
  exact ⟨hf, by omega, by omega⟩

theorem recEq (r : Rec) (w : World) : (binOp .eql 35 (recV r) (recV r)).run Try.prog w = .ok (.bool true) w := by
  unfold recV
  simp [go_sem]

theorem bodyR_len {r : Rec} (h : r.Modest) : (bodyR r).length ≤ 5000000 := by
  have h1 := vnum_ten h.fine.seq
  have h2 := vnum_ten (x := r.key.length) (by have := h.key; omega)
  have h3 := vnum_ten (x := r.val.length) (by have := h.val; omega)
  have hk := h.key
  have hv := h.val
  unfold bodyR textB
  split
  · simp only [List.length_cons, List.length_append]
    omega
  · simp only [List.length_cons, List.length_append]
    omega

end Go.Proofs.Ytjjeaaiajgbncaa

namespace Go.Proofs.Ytjjeaaiajgbncaa
open Go.RowKit

theorem none_modest : Rec.none.Modest := ⟨⟨by decide, fun _ hb => by simp [Rec.none] at hb, fun _ hb => by simp [Rec.none] at hb⟩, by decide, by decide⟩
theorem bodyR_parts (r : Rec) : r.key.length ≤ (bodyR r).length ∧ (r.del = false → r.val.length ≤ (bodyR r).length) := by
  unfold bodyR textB
  cases r.del
  · constructor
    · simp only [Bool.false_eq_true, if_false, List.length_cons, List.length_append]; omega
    · intro _; simp only [Bool.false_eq_true, if_false, List.length_cons, List.length_append]; omega
  · constructor
    · simp only [if_true, List.length_cons, List.length_append]; omega
    · intro h; cases h
theorem checkR_gone {r : Rec} (h : checkR r = 0) (hd : r.del = true) : r.val.length = 0 := by
  unfold checkR at h
  repeat' split at h
  all_goals first
    | omega
    | (rename_i h3 _; simp only [hd, true_and] at h3; omega)
theorem readR_modest {xs : List Int} (ho : Octets xs) (hl : xs.length ≤ 500) : (readR xs).2.Modest := by
  by_cases h : (readR xs).1 = 0
  · obtain ⟨hf, hc, hb⟩ := readR_only ho (show readR xs = (0, (readR xs).2) by rw [← h])
    have hp := bodyR_parts (readR xs).2
    rw [hb] at hp
    refine ⟨hf, by omega, ?_⟩
    cases hd : (readR xs).2.del with
    | true => have := checkR_gone hc hd; omega
    | false => have := hp.2 hd; omega
  · rw [readR_none h]
    exact none_modest

theorem recNe (r : Rec) (w : World) : (binOp .neq 35 (recV r) (recV r)).run Try.prog w = .ok (.bool false) w := by
  unfold recV
  simp [go_sem]

end Go.Proofs.Ytjjeaaiajgbncaa

namespace Go.Proofs.Ytjjeaaiajgbncaa
open Go.RowKit

theorem little_frame {r : Rec} (hf : r.Fine) (h : littleR 600 r = true) : r.Little := by
  unfold littleR at h
  rw [Bool.and_eq_true, decide_eq_true_eq, decide_eq_true_eq] at h
  exact ⟨hf, by omega, by omega⟩
theorem Rec.Little.modest {r : Rec} (h : r.Little) : r.Modest := ⟨h.fine, by have := h.key; omega, by have := h.val; omega⟩
theorem body_few {r : Rec} (h : r.Little) : (bodyR r).length ≤ 200031 := by
  have := bodyR_length h.fine (by have := h.key; omega) (by have := h.val; omega)
  have := h.key
  have := h.val
  omega
theorem getR_none {ys : List Int} (h : (getR ys).1 ≠ 0) : (getR ys).2 = Rec.none := by
  unfold getR at h ⊢
  by_cases h1 : (openN ys).1 ≠ 0
  · rw [if_pos h1]
  · rw [if_neg h1] at h ⊢
    exact readR_none h

set_option maxHeartbeats 8000000 in
set_option maxRecDepth 10000 in
theorem frrec_great (H : FrameOk) (r : Rec) (hb1 : r.key.length ≤ 9223372036854775807) (hb2 : r.val.length ≤ 9223372036854775807) (p : Option Addr) (N c : Nat) (ys : List Int) (w : World) (hin : In8 w p N c ys) (hg : littleR 600 r = false ∨ 600 < N) :
    Calls Try.prog 5 #[recV r, .slice p N c] w fun e w' => e = .returned (.bool true) ∧ Keeps NoBlock w w' := by
  have HLv := Lib.hid (fun w => lives9_true H w)
  have HFw := Lib.hid (fun (w : World) (a : Addr) hl => few_any (some a) 1 1 [r] 1 600 1 600 rfl rfl rfl (by decide) (fun s hs => by rw [List.mem_singleton.1 hs]; exact ⟨hb1, hb2⟩) w hl)
  rw [fewR_one] at HFw
  have HCh := Lib.hid hin.at_
  have hcap := hin.cap; have hroom := hin.room
  clear H hb1 hb2 hin
  cases hl : littleR 600 r with
  | false =>
    rw [hl] at HFw
    clear hl hg
    unfold recV
    go_enter Try.func5, Try.ntmps5
    go_wp2_with fail
    refine (HLv.out _).mono ?_
    rintro e w1 ⟨rfl, hk⟩
    have HR : Hid (Whole w1 w.heap.size 35 (recCells r)) := Lib.hid ((Whole.new w _ _).keep hk (fun h => h))
    have HCh := Lib.hid ((HCh.out.keep ((Keeps.refl NoBlock w).alloc _) (fun _ _ h => h)).keep hk (fun _ _ h => h))
    have HK := Lib.hid (((Keeps.refl NoBlock w).alloc _).trans hk)
    clear hk
    obtain ⟨c0, c1, c2, c3⟩ := RecAt.ofWhole HR.out
    go_wp2_with fail
    refine (HFw.out _ _ (RecsAt.one w1 _ r)).mono ?_
    rintro e w2 ⟨rfl, hk2⟩
    have hk : Keeps NoBlock w1 w2 := ((Keeps.refl NoBlock w1).alloc _).trans hk2
    clear hk2
    have HR := Lib.hid (HR.out.keep hk (fun h => h))
    have HCh := Lib.hid (HCh.out.keep hk (fun _ _ h => h))
    have HK := Lib.hid (HK.out.trans hk)
    clear hk c0 c1 c2 c3
    obtain ⟨c0, c1, c2, c3⟩ := RecAt.ofWhole HR.out
    go_wp2_with fail
    refine (HLv.out _).mono ?_
    rintro e w3 ⟨rfl, hk⟩
    have HK := Lib.hid (HK.out.trans hk)
    clear hk c0 c1 c2 c3
    go_wp2_with fail
    go_ret
    exact ⟨rfl, HK.out⟩
  | true =>
    have hgd : decide ((600 : Int) < (N : Int)) = true := decide_eq_true (by rcases hg with h | h; (rw [hl] at h; exact absurd h (by simp)); omega)
    rw [hl] at HFw
    clear hl hg
    unfold recV
    go_enter Try.func5, Try.ntmps5
    go_wp2_with fail
    refine (HLv.out _).mono ?_
    rintro e w1 ⟨rfl, hk⟩
    have HR : Hid (Whole w1 w.heap.size 35 (recCells r)) := Lib.hid ((Whole.new w _ _).keep hk (fun h => h))
    have HCh := Lib.hid ((HCh.out.keep ((Keeps.refl NoBlock w).alloc _) (fun _ _ h => h)).keep hk (fun _ _ h => h))
    have HK := Lib.hid (((Keeps.refl NoBlock w).alloc _).trans hk)
    clear hk
    obtain ⟨c0, c1, c2, c3⟩ := RecAt.ofWhole HR.out
    go_wp2_with fail
    refine (HFw.out _ _ (RecsAt.one w1 _ r)).mono ?_
    rintro e w2 ⟨rfl, hk2⟩
    have hk : Keeps NoBlock w1 w2 := ((Keeps.refl NoBlock w1).alloc _).trans hk2
    clear hk2
    have HR := Lib.hid (HR.out.keep hk (fun h => h))
    have HCh := Lib.hid (HCh.out.keep hk (fun _ _ h => h))
    have HK := Lib.hid (HK.out.trans hk)
    clear hk c0 c1 c2 c3
    obtain ⟨c0, c1, c2, c3⟩ := RecAt.ofWhole HR.out
    go_wp2_with fail
    refine (HLv.out _).mono ?_
    rintro e w3 ⟨rfl, hk⟩
    have HK := Lib.hid (HK.out.trans hk)
    clear hk c0 c1 c2 c3
    go_wp2_with fail
    go_ret
    exact ⟨rfl, HK.out⟩

set_option maxHeartbeats 8000000 in
set_option maxRecDepth 10000 in
theorem frrec_bad (H : FrameOk) (r : Rec) (hf : r.Fine) (hb1 : r.key.length ≤ 9223372036854775807) (hb2 : r.val.length ≤ 9223372036854775807) (p : Option Addr) (N c : Nat) (ys : List Int) (w : World) (hin : In8 w p N c ys) (hg : N ≤ 600) (hl : littleR 600 r = true) (hc : checkR r ≠ 0) :
    Calls Try.prog 5 #[recV r, .slice p N c] w fun e w' => e = .returned (.bool true) ∧ Keeps NoBlock w w' := by
  have HLv := Lib.hid (fun w => lives9_true H w)
  have HFw := Lib.hid (fun (w : World) (a : Addr) hl => few_any (some a) 1 1 [r] 1 600 1 600 rfl rfl rfl (by decide) (fun s hs => by rw [List.mem_singleton.1 hs]; exact ⟨hb1, hb2⟩) w hl)
  rw [fewR_one] at HFw
  have hlit := little_frame hf hl
  have hmod := hlit.modest
  have hys := hin.oct
  have HPr := Lib.hid (fun w => H.putrec r w hlit)
  have HC2 := Lib.hid (fun w => check7_ref r (by have := hlit.key; omega) (by have := hlit.val; omega) w)
  have HG2 := Lib.hid (fun w (hb8 : Bytes8 w p ys) => H.getrec p N c ys w ⟨hin.len, hin.cap, hin.room, hin.bare, hys, hb8⟩ (by omega))
  have HW2 := Lib.hid (fun w => getrec9_ref ys hys (by have := hin.len; omega) w)
  unfold readOut7 at HW2
  obtain ⟨g, hg2⟩ : ∃ g, g = (getR ys).1 := ⟨_, rfl⟩
  obtain ⟨y, hy2⟩ : ∃ y, y = (getR ys).2 := ⟨_, rfl⟩
  rw [← hg2, ← hy2] at HG2 HW2
  clear hg2 hy2
  have HEy := recEq y
  have HX := Lib.hid hin.len
  have HCh := Lib.hid hin.at_
  have hcap := hin.cap; have hroom := hin.room
  have hgd : decide ((600 : Int) < (N : Int)) = false := decide_eq_false (by omega)
  rw [hl] at HFw
  have hpe : putR r = [] := by unfold putR; rw [if_neg hc]
  rw [hpe] at HPr
  obtain ⟨z, hz⟩ : ∃ z, z = checkR r := ⟨_, rfl⟩
  rw [← hz] at HPr HC2 hc
  have hzb : (z == 0) = false := beq_eq_false_iff_ne.2 hc
  have hzz : (z != z) = false := by simp
  unfold recV at HPr HC2 HG2 HW2 HEy
  clear H hf hmod hlit hpe hz hl hb1 hb2 hys hin hg hc
  unfold recV
  go_enter Try.func5, Try.ntmps5
  go_wp2_with fail
  refine (HLv.out _).mono ?_
  rintro e w1 ⟨rfl, hk⟩
  have HR : Hid (Whole w1 w.heap.size 35 (recCells r)) := Lib.hid ((Whole.new w _ _).keep hk (fun h => h))
  have HCh := Lib.hid ((HCh.out.keep ((Keeps.refl NoBlock w).alloc _) (fun _ _ h => h)).keep hk (fun _ _ h => h))
  have HK := Lib.hid (((Keeps.refl NoBlock w).alloc _).trans hk)
  clear hk
  obtain ⟨c0, c1, c2, c3⟩ := RecAt.ofWhole HR.out
  go_wp2_with fail
  refine (HFw.out _ _ (RecsAt.one w1 _ r)).mono ?_
  rintro e w2 ⟨rfl, hk2⟩
  have hk : Keeps NoBlock w1 w2 := ((Keeps.refl NoBlock w1).alloc _).trans hk2
  clear hk2
  have HR := Lib.hid (HR.out.keep hk (fun h => h))
  have HCh := Lib.hid (HCh.out.keep hk (fun _ _ h => h))
  have HK := Lib.hid (HK.out.trans hk)
  clear hk c0 c1 c2 c3
  obtain ⟨c0, c1, c2, c3⟩ := RecAt.ofWhole HR.out
  go_wp2_with fail
  refine (HPr.out _).mono ?_
  rintro e w3 ⟨v, rfl, q, m, d, rfl, hm, hmd, hd, hq0, hb8, hk⟩
  have HBy := Lib.hid hb8
  have HM := Lib.hid hm
  have HQ := Lib.hid hq0
  clear hb8 hq0 hm
  have HR := Lib.hid (HR.out.keep hk (fun h => h))
  have HCh := Lib.hid (HCh.out.keep hk (fun _ _ h => h))
  have HK := Lib.hid (HK.out.trans hk)
  clear hk c0 c1 c2 c3
  obtain ⟨c0, c1, c2, c3⟩ := RecAt.ofWhole HR.out
  go_wp2_with fail
  refine (HC2.out _).mono ?_
  rintro e w4 ⟨rfl, hk⟩
  have HR := Lib.hid (HR.out.keep hk (fun h => h))
  have HCh := Lib.hid (HCh.out.keep hk (fun _ _ h => h))
  have HK := Lib.hid (HK.out.trans hk)
  have HBy := Lib.hid (HBy.out.keep hk (fun _ _ h => h))
  clear hk c0 c1 c2 c3
  obtain ⟨c0, c1, c2, c3⟩ := RecAt.ofWhole HR.out
  have hm0 : m = 0 := HM.out
  subst hm0
  go_wp2_with fail
  refine (HG2.out _ HCh.out).mono ?_
  rintro e w8 ⟨rfl, hk⟩
  have hCh := HCh.out.keep hk (fun _ _ h => h)
  have hK := HK.out.trans hk
  obtain ⟨V, hV⟩ : ∃ V, V = w8.alloc (.cells #[.bool y.del, .int .u64 (y.seq : Int), .string (strOfNums y.key), .string (strOfNums y.val)] 35) := ⟨_, rfl⟩
  have HCh : Hid (Bytes8 V p ys) := Lib.hid (by rw [hV]; exact hCh.keep ((Keeps.refl NoBlock w8).alloc _) (fun _ _ h => h))
  have HK : Hid (Keeps NoBlock w V) := Lib.hid (by rw [hV]; exact hK.alloc _)
  have HY : Hid (Whole V w8.heap.size 35 (recCells y)) := Lib.hid (by rw [hV]; exact Whole.new w8 _ (recCells y))
  clear hk hCh hK c0 c1 c2 c3
  go_upto_region 11 with (fail)
  rw [← hV]
  clear hV
  have t1 := textOf p N c ys V HX.out HCh.out
  go_wp2_with fail
  refine (HW2.out _).mono ?_
  rintro e w9 ⟨rfl, hk⟩
  have hY := HY.out.keep hk (fun h => h)
  have hK := HK.out.trans hk
  obtain ⟨U, hU⟩ : ∃ U, U = w9.alloc (.cells #[.bool y.del, .int .u64 (y.seq : Int), .string (strOfNums y.key), .string (strOfNums y.val)] 35) := ⟨_, rfl⟩
  have HY : Hid (Whole U w8.heap.size 35 (recCells y)) := Lib.hid (by rw [hU]; exact hY.alloc _)
  have HZ : Hid (Whole U w9.heap.size 35 (recCells y)) := Lib.hid (by rw [hU]; exact Whole.new w9 _ (recCells y))
  have HK : Hid (Keeps NoBlock w U) := Lib.hid (by rw [hU]; exact hK.alloc _)
  clear hk hY hK t1
  go_upto_region 12 with (fail)
  rw [← hU]
  clear hU
  obtain ⟨y0, y1, y2, y3⟩ := RecAt.ofWhole HY.out
  obtain ⟨u0, u1, u2, u3⟩ := RecAt.ofWhole HZ.out
  go_wp2_with fail
  go_ret
  exact ⟨rfl, HK.out⟩

set_option maxHeartbeats 8000000 in
set_option maxRecDepth 10000 in
theorem frrec_good (H : FrameOk) (r : Rec) (hf : r.Fine) (hb1 : r.key.length ≤ 9223372036854775807) (hb2 : r.val.length ≤ 9223372036854775807) (p : Option Addr) (N c : Nat) (ys : List Int) (w : World) (hin : In8 w p N c ys) (hg : N ≤ 600) (hl : littleR 600 r = true) (hc : checkR r = 0) :
    Calls Try.prog 5 #[recV r, .slice p N c] w fun e w' => e = .returned (.bool true) ∧ Keeps NoBlock w w' := by
  have HLv := Lib.hid (fun w => lives9_true H w)
  have HFw := Lib.hid (fun (w : World) (a : Addr) hl => few_any (some a) 1 1 [r] 1 600 1 600 rfl rfl rfl (by decide) (fun s hs => by rw [List.mem_singleton.1 hs]; exact ⟨hb1, hb2⟩) w hl)
  rw [fewR_one] at HFw
  have hlit := little_frame hf hl
  have hmod := hlit.modest
  have hys := hin.oct
  have HPr := Lib.hid (fun w => H.putrec r w hlit)
  have HC2 := Lib.hid (fun w => check7_ref r (by have := hlit.key; omega) (by have := hlit.val; omega) w)
  have HG2 := Lib.hid (fun w (hb8 : Bytes8 w p ys) => H.getrec p N c ys w ⟨hin.len, hin.cap, hin.room, hin.bare, hys, hb8⟩ (by omega))
  have HW2 := Lib.hid (fun w => getrec9_ref ys hys (by have := hin.len; omega) w)
  unfold readOut7 at HW2
  obtain ⟨g, hg2⟩ : ∃ g, g = (getR ys).1 := ⟨_, rfl⟩
  obtain ⟨y, hy2⟩ : ∃ y, y = (getR ys).2 := ⟨_, rfl⟩
  rw [← hg2, ← hy2] at HG2 HW2
  clear hg2 hy2
  have HEy := recEq y
  have HX := Lib.hid hin.len
  have HCh := Lib.hid hin.at_
  have hcap := hin.cap; have hroom := hin.room
  have hgd : decide ((600 : Int) < (N : Int)) = false := decide_eq_false (by omega)
  rw [hl] at HFw
  have hpe : putR r = sealN (bodyR r) := by unfold putR; rw [if_pos hc]
  rw [hpe] at HPr
  rw [hc] at HPr HC2
  have hbo := bodyR_octets hf
  have hbf := body_few hlit
  have HRf := Lib.hid (fun w => record9_ref r hf (by have := hlit.key; omega) (by have := hlit.val; omega) w)
  obtain ⟨hlen, hmost⟩ := seal_length (bodyR r)
  have hsz : sizeN (bodyR r).length ≤ 300000 := by unfold sizeN mostOf; split <;> omega
  have HG1 := Lib.hid (fun q m d w hi hm => H.getrec q m d (chunkN (bodyR r)) w hi hm)
  rw [getR_put hf hc hbo] at HG1
  simp only at HG1
  have hco := (chunk_solid hbo).octets
  have hFC : sealN (bodyR r) = chunkN (bodyR r) ++ [0] := rfl
  have hpos := chunk_pos (bodyR r)
  obtain ⟨C, hC⟩ : ∃ C, C = chunkN (bodyR r) := ⟨_, rfl⟩
  rw [← hC] at hlen HG1 hco hFC hpos
  obtain ⟨F, hF⟩ : ∃ F, F = sealN (bodyR r) := ⟨_, rfl⟩
  rw [← hF] at HPr HRf hlen hmost hFC
  have HFC := Lib.hid hFC
  have HLen := Lib.hid hlen
  have HCo := Lib.hid hco
  have HE := recEq r
  have HNe := recNe r
  have hzz : ((0 : Int) != 0) = false := by simp
  have HLz := Lib.hid (show F.length ≤ 300000 by omega)
  unfold recV at HPr HC2 HG1 HG2 HW2 HEy HE HNe HRf
  clear H hf hmod hlit hpe hl hb1 hb2 hys hin hg hc hC hF hco hFC hlen hmost hsz hbo hbf
  unfold recV
  go_enter Try.func5, Try.ntmps5
  go_wp2_with fail
  refine (HLv.out _).mono ?_
  rintro e w1 ⟨rfl, hk⟩
  have HR : Hid (Whole w1 w.heap.size 35 (recCells r)) := Lib.hid ((Whole.new w _ _).keep hk (fun h => h))
  have HCh := Lib.hid ((HCh.out.keep ((Keeps.refl NoBlock w).alloc _) (fun _ _ h => h)).keep hk (fun _ _ h => h))
  have HK := Lib.hid (((Keeps.refl NoBlock w).alloc _).trans hk)
  clear hk
  obtain ⟨c0, c1, c2, c3⟩ := RecAt.ofWhole HR.out
  go_wp2_with fail
  refine (HFw.out _ _ (RecsAt.one w1 _ r)).mono ?_
  rintro e w2 ⟨rfl, hk2⟩
  have hk : Keeps NoBlock w1 w2 := ((Keeps.refl NoBlock w1).alloc _).trans hk2
  clear hk2
  have HR := Lib.hid (HR.out.keep hk (fun h => h))
  have HCh := Lib.hid (HCh.out.keep hk (fun _ _ h => h))
  have HK := Lib.hid (HK.out.trans hk)
  clear hk c0 c1 c2 c3
  obtain ⟨c0, c1, c2, c3⟩ := RecAt.ofWhole HR.out
  go_wp2_with fail
  refine (HPr.out _).mono ?_
  rintro e w3 ⟨v, rfl, q, m, d, rfl, hm, hmd, hd, hq0, hb8, hk⟩
  have HBy := Lib.hid hb8
  have HM := Lib.hid hm
  have HQ := Lib.hid hq0
  clear hb8 hq0 hm
  have HR := Lib.hid (HR.out.keep hk (fun h => h))
  have HCh := Lib.hid (HCh.out.keep hk (fun _ _ h => h))
  have HK := Lib.hid (HK.out.trans hk)
  clear hk c0 c1 c2 c3
  obtain ⟨c0, c1, c2, c3⟩ := RecAt.ofWhole HR.out
  go_wp2_with fail
  refine (HC2.out _).mono ?_
  rintro e w4 ⟨rfl, hk⟩
  have HR := Lib.hid (HR.out.keep hk (fun h => h))
  have HCh := Lib.hid (HCh.out.keep hk (fun _ _ h => h))
  have HK := Lib.hid (HK.out.trans hk)
  have HBy := Lib.hid (HBy.out.keep hk (fun _ _ h => h))
  clear hk c0 c1 c2 c3
  obtain ⟨c0, c1, c2, c3⟩ := RecAt.ofWhole HR.out
  obtain ⟨M, hM⟩ : ∃ M, M = C.length := ⟨_, rfl⟩
  have HMC := Lib.hid hM
  have hML : m = M + 1 := by rw [HM.out, HLen.out, hM]
  have hsub : (m : Int) - 1 = (M : Int) := by omega
  have hm3 : m ≤ 300000 := by have := HLz.out; have := HM.out; omega
  have hM1 : 1 ≤ M := by omega
  have hM2 : ¬ M = 0 := by omega
  have hMm : M ≤ m := by omega
  have hMd : M ≤ d := by omega
  clear hM hML
  obtain ⟨a, rfl, hcell⟩ := HBy.out (by rw [HLen.out]; omega)
  clear hcell
  go_wp2_with fail
  refine (HG1.out (some a) M d _ (by exact ⟨HMC.out, hMd, hd, fun h => by simp at h, HCo.out, Bytes8.left (ys := [0]) (by rw [← HFC.out]; exact HBy.out)⟩) (by omega)).mono ?_
  rintro e w6 ⟨rfl, hk⟩
  have HR := Lib.hid (HR.out.keep hk (fun h => h))
  have HCh := Lib.hid (HCh.out.keep hk (fun _ _ h => h))
  have HK := Lib.hid (HK.out.trans hk)
  have HBy := Lib.hid (HBy.out.keep hk (fun _ _ h => h))
  clear hk c0 c1 c2 c3
  obtain ⟨c0, c1, c2, c3⟩ := RecAt.ofWhole HR.out
  obtain ⟨W, hW⟩ : ∃ W, W = w6.alloc (.cells #[.bool r.del, .int .u64 (r.seq : Int), .string (strOfNums r.key), .string (strOfNums r.val)] 35) := ⟨_, rfl⟩
  have hk : Keeps NoBlock w6 W := by rw [hW]; exact (Keeps.refl _ _).alloc _
  have HXr : Hid (Whole W w6.heap.size 35 (recCells r)) := Lib.hid (by rw [hW]; exact Whole.new w6 _ (recCells r))
  have HBy := Lib.hid (HBy.out.keep hk (fun _ _ h => h))
  have HCh := Lib.hid (HCh.out.keep hk (fun _ _ h => h))
  have HR := Lib.hid (HR.out.keep hk (fun h => h))
  have HK := Lib.hid (HK.out.trans hk)
  go_upto_region 8 with (fail)
  rw [← hW]
  clear hW hk c0 c1 c2 c3
  have s0 := And.intro (textOf (some a) m d F W.drew HM.out HBy.out) (And.intro (RecAt.ofWhole (w := W.drew) HR.out) (RecAt.ofWhole (w := W.drew) HXr.out))
  have sN := And.intro (textOf (some a) m d F W HM.out HBy.out) (And.intro (RecAt.ofWhole HR.out) (RecAt.ofWhole HXr.out))
  unfold RecAt at s0 sN
  go_wp2_with fail
  go_region_held3 (fun w' => (convert 22 9 (.slice (some a) m d)).run Try.prog w' = .ok (.string (strOfNums F)) w' ∧ (w'.cell? ⟨w.heap.size, 0, none⟩ = some (.bool r.del) ∧ w'.cell? ⟨w.heap.size, 1, none⟩ = some (.int .u64 (r.seq : Int)) ∧ w'.cell? ⟨w.heap.size, 2, none⟩ = some (.string (strOfNums r.key)) ∧ w'.cell? ⟨w.heap.size, 3, none⟩ = some (.string (strOfNums r.val))) ∧ w'.cell? ⟨w6.heap.size, 0, none⟩ = some (.bool r.del) ∧ w'.cell? ⟨w6.heap.size, 1, none⟩ = some (.int .u64 (r.seq : Int)) ∧ w'.cell? ⟨w6.heap.size, 2, none⟩ = some (.string (strOfNums r.key)) ∧ w'.cell? ⟨w6.heap.size, 3, none⟩ = some (.string (strOfNums r.val)))
    (first | exact s5 | exact s0 | exact sN)
    (first | (go_at_call 18; refine (HRf.out _).mono ?_; rintro e w7 ⟨rfl, hk⟩; have hk' : Keeps NoBlock W w7 := (by first | exact hk | exact hk.ofDrew | exact hk.ofDrewN); have HK := Lib.hid (HK.out.trans hk'); have HR := Lib.hid (HR.out.keep hk' (fun h => h)); have HCh := Lib.hid (HCh.out.keep hk' (fun _ _ h => h)); have HXr := Lib.hid (HXr.out.keep hk' (fun h => h)); have HBy := Lib.hid (HBy.out.keep hk' (fun _ _ h => h)); have s5 := And.intro (textOf (some a) m d F w7 HM.out HBy.out) (And.intro (RecAt.ofWhole HR.out) (RecAt.ofWhole HXr.out)); unfold RecAt at s5; clear hk hk'))
  obtain ⟨c0, c1, c2, c3⟩ := RecAt.ofWhole HR.out
  go_wp2_with fail
  refine (HG2.out _ HCh.out).mono ?_
  rintro e w8 ⟨rfl, hk⟩
  have hCh := HCh.out.keep hk (fun _ _ h => h)
  have hK := HK.out.trans hk
  obtain ⟨V, hV⟩ : ∃ V, V = w8.alloc (.cells #[.bool y.del, .int .u64 (y.seq : Int), .string (strOfNums y.key), .string (strOfNums y.val)] 35) := ⟨_, rfl⟩
  have HCh : Hid (Bytes8 V p ys) := Lib.hid (by rw [hV]; exact hCh.keep ((Keeps.refl NoBlock w8).alloc _) (fun _ _ h => h))
  have HK : Hid (Keeps NoBlock w V) := Lib.hid (by rw [hV]; exact hK.alloc _)
  have HY : Hid (Whole V w8.heap.size 35 (recCells y)) := Lib.hid (by rw [hV]; exact Whole.new w8 _ (recCells y))
  clear hk hCh hK c0 c1 c2 c3
  go_upto_region 11 with (fail)
  rw [← hV]
  clear hV
  have t1 := textOf p N c ys V HX.out HCh.out
  go_wp2_with fail
  refine (HW2.out _).mono ?_
  rintro e w9 ⟨rfl, hk⟩
  have hY := HY.out.keep hk (fun h => h)
  have hK := HK.out.trans hk
  obtain ⟨U, hU⟩ : ∃ U, U = w9.alloc (.cells #[.bool y.del, .int .u64 (y.seq : Int), .string (strOfNums y.key), .string (strOfNums y.val)] 35) := ⟨_, rfl⟩
  have HY : Hid (Whole U w8.heap.size 35 (recCells y)) := Lib.hid (by rw [hU]; exact hY.alloc _)
  have HZ : Hid (Whole U w9.heap.size 35 (recCells y)) := Lib.hid (by rw [hU]; exact Whole.new w9 _ (recCells y))
  have HK : Hid (Keeps NoBlock w U) := Lib.hid (by rw [hU]; exact hK.alloc _)
  clear hk hY hK t1
  go_upto_region 12 with (fail)
  rw [← hU]
  clear hU
  obtain ⟨y0, y1, y2, y3⟩ := RecAt.ofWhole HY.out
  obtain ⟨u0, u1, u2, u3⟩ := RecAt.ofWhole HZ.out
  go_wp2_with fail
  go_ret
  exact ⟨rfl, HK.out⟩

theorem frrec_walk (H : FrameOk) (r : Rec) (hf : r.Fine) (hb1 : r.key.length ≤ 9223372036854775807) (hb2 : r.val.length ≤ 9223372036854775807) (p : Option Addr) (N c : Nat) (ys : List Int) (w : World) (hin : In8 w p N c ys) :
    Calls Try.prog 5 #[recV r, .slice p N c] w fun e w' => e = .returned (.bool true) ∧ Keeps NoBlock w w' := by
  by_cases hg : N ≤ 600
  · cases hl : littleR 600 r with
    | false => exact frrec_great H r hb1 hb2 p N c ys w hin (.inl hl)
    | true =>
      by_cases hc : checkR r = 0
      · exact frrec_good H r hf hb1 hb2 p N c ys w hin hg hl hc
      · exact frrec_bad H r hf hb1 hb2 p N c ys w hin hg hl hc
  · exact frrec_great H r hb1 hb2 p N c ys w hin (.inr (by omega))
end Go.Proofs.Ytjjeaaiajgbncaa

namespace Go.Proofs.Ytjjeaaiajgbncaa
open Go.RowKit

theorem infoRec : (Try.prog.info? 35).map (fun i => (i.zero, i.size, i.bytes)) = some (some (.agg #[.bool false, .int .u64 0, .string ⟨#[]⟩, .string ⟨#[]⟩]), 4, 48) := by kernel_rfl

def recFour (r : Rec) : List Value := [.bool r.del, .int .u64 (r.seq : Int), .string (strOfNums r.key), .string (strOfNums r.val)]
def recFlat (l : List Rec) : List Value := l.flatMap recFour
theorem recFlat_len (l : List Rec) : (recFlat l).length = l.length * 4 := by
  induction l with
  | nil => rfl
  | cons r l ih =>
    rw [recFlat, List.flatMap_cons, List.length_append, ← recFlat, ih]
    simp [recFour]
    omega
theorem recFlat_append (a b : List Rec) : recFlat (a ++ b) = recFlat a ++ recFlat b := List.flatMap_append
theorem recFlat_at : ∀ (l : List Rec) (i j : Nat), i < l.length → j < 4 → (recFlat l)[i * 4 + j]? = (recFour (l.getD i Rec.none))[j]?
  | [], i, j, h, _ => by simp at h
  | r :: l, 0, j, _, hj => by
    rw [recFlat, List.flatMap_cons, List.getElem?_append_left (by simp [recFour]; omega)]
    simp
  | r :: l, i + 1, j, h, hj => by
    rw [recFlat, List.flatMap_cons, List.getElem?_append_right (by simp [recFour]; omega), ← recFlat]
    have e : (i + 1) * 4 + j - (recFour r).length = i * 4 + j := by simp [recFour]; omega
    rw [e, recFlat_at l i j (by simpa using h) hj]
    simp

theorem RecsAt.ofOwn {w : World} {base n : Nat} {v : Value} {l : List Rec} (h : w.ownsRow base 35 4 v n (recFlat l)) (hn : n = l.length) :
    ∃ p c, v = .slice p n c ∧ n ≤ c ∧ c ≤ 9223372036854775807 ∧ RecsAt w p l := by
  have h' := h
  rcases h with ⟨_, ⟨rfl, rfl⟩ | ⟨g, cap, cur, rfl, hg, hh, hc1, hc2, hc3, hc4⟩⟩
  · exact ⟨none, 0, rfl, Nat.le_refl _, by decide, fun i hi => by omega⟩
  · refine ⟨_, cap, rfl, hc1, by unfold maxLen at hc2; omega, fun i hi => ?_⟩
    have hc := h'.cells (g := g) rfl
    have ha : ∀ j u, j < 4 → (recFour (l.getD i Rec.none))[j]? = some u → w.cell? ⟨g, i * 4 + j, none⟩ = some u := fun j u hj hu => by
      have := hc (i * 4 + j) u (by rw [recFlat_at l i j hi hj]; exact hu)
      rw [Addr.add_lit, Nat.zero_add] at this
      exact this
    refine ⟨⟨g, 0, none⟩, rfl, ?_, ?_, ?_, ?_⟩
    all_goals simp only [Addr.add_lit, Nat.zero_add]
    · exact ha 0 _ (by decide) rfl
    · exact ha 1 _ (by decide) rfl
    · exact ha 2 _ (by decide) rfl
    · exact ha 3 _ (by decide) rfl

/-- The records picked so far. -/
def PartAt (w0 : World) (l : List Rec) (j : Nat) (v : Value) (wr : World) : Prop :=
  ∃ m : List Rec, m.Sublist (l.take j) ∧ wr.ownsRow w0.heap.size 35 4 v m.length (recFlat m) ∧ Below w0.heap.size w0 wr

end Go.Proofs.Ytjjeaaiajgbncaa

namespace Go.Proofs.Ytjjeaaiajgbncaa
open Go.Joins Go.ChangeShapes Go.WideShapes Go.ChangeAt Go.RowKit Go.Deep

theorem nums_of_str (s : ByteArray) : ∃ xs, s = strOfNums xs ∧ Octets xs ∧ xs.length = s.size := by
  refine ⟨s.data.toList.map fun b => (b.toNat : Int), ?_, fun b hb => ?_, by rw [List.length_map]; rfl⟩
  · apply ByteArray.ext
    apply Array.ext'
    rw [strOfNums_data, List.map_map]
    have e : ((fun n : Int => UInt8.ofNat n.toNat) ∘ fun b : UInt8 => (b.toNat : Int)) = id := by
      funext b
      simp
    rw [e, List.map_id]
  · obtain ⟨x, _, rfl⟩ := List.mem_map.1 hb
    have := x.toNat_lt
    omega

theorem plusPlain {w : World} {p : Addr} {v : Value} (j : Nat) (h : w.cell? p = some v) : p.add j = ⟨p.block, p.off + j, none⟩ := by
  obtain ⟨b, o, s⟩ := p
  cases s with
  | none => unfold Addr.add; split <;> simp_all
  | some x =>
    unfold World.cell? at h
    split at h <;> simp at h
end Go.Proofs.Ytjjeaaiajgbncaa

/-
  The law RecordReads: its walk.
-/
import Derived.Test.YtnfgmgonpecdmaaRecNone
import Derived.Test.YtnfgmgonpecdmaaRecBdWalk
namespace Go.Proofs.Ytnfgmgonpecdmaa
open Go.RowKit

theorem none_modest : Rec.none.Modest := ⟨⟨by decide, fun _ hb => by simp [Rec.none] at hb, fun _ hb => by simp [Rec.none] at hb⟩, by decide, by decide⟩
theorem bodyR_parts (r : Rec) : r.key.length ≤ (bodyR r).length ∧ (r.del = false → r.val.length ≤ (bodyR r).length) := by
  unfold bodyR textB
  cases r.del
  · constructor
    · simp only [Bool.false_eq_true, if_false, List.length_cons, List.length_append]; omega
    · intro _; simp only [Bool.false_eq_true, if_false, List.length_cons, List.length_append]; omega
  · constructor
    · simp only [if_true, List.length_cons, List.length_append]; omega
    · intro h; cases h
theorem checkR_gone {r : Rec} (h : checkR r = 0) (hd : r.del = true) : r.val.length = 0 := by
  unfold checkR at h
  repeat' split at h
  all_goals first
    | omega
    | (rename_i h3 _; simp only [hd, true_and] at h3; omega)
theorem readR_modest {xs : List Int} (ho : Octets xs) (hl : xs.length ≤ 500) : (readR xs).2.Modest := by
  by_cases h : (readR xs).1 = 0
  · obtain ⟨hf, hc, hb⟩ := readR_only ho (show readR xs = (0, (readR xs).2) by rw [← h])
    have hp := bodyR_parts (readR xs).2
    rw [hb] at hp
    refine ⟨hf, by omega, ?_⟩
    cases hd : (readR xs).2.del with
    | true => have := checkR_gone hc hd; omega
    | false => have := hp.2 hd; omega
  · rw [readR_none h]
    exact none_modest

theorem recNe (r : Rec) (w : World) : (binOp .neq 24 (recV r) (recV r)).run Try.prog w = .ok (.bool false) w := by
  unfold recV
  simp [go_sem]

set_option maxHeartbeats 4000000 in
set_option maxRecDepth 10000 in
theorem recreads_walk (H : RecordOk) (p : Option Addr) (N c : Nat) (xs : List Int) (w : World) (hx : N = xs.length) (hb : Bytes8 w p xs) (ho : Octets xs) (hN : N ≤ c) (hc : c ≤ 9223372036854775807) (hn0 : p = none → N = 0 ∧ c = 0) :
    Calls Try.prog 4 #[.slice p N c] w fun e w' => e = .returned (.bool true) ∧ Keeps NoBlock w w' := by
  have HLv := Lib.hid (fun w => lives7_true H w)
  by_cases hg : N ≤ 500
  · have hmod := readR_modest ho (by omega)
    have HRd := Lib.hid (fun w hb8 => H.read p N c xs w hx hN hc hn0 ho (by omega) hb8)
    have HR2 := Lib.hid (fun w => read7_ref xs ho (by omega) w)
    have HB := Lib.hid (fun w => H.body (readR xs).2 w hmod)
    have HNe := recNe (readR xs).2
    have hend : (readR xs).1 = 0 → checkR (readR xs).2 = 0 ∧ bodyE (readR xs).2 = xs := fun h => by
      obtain ⟨_, hc, hb⟩ := readR_only ho (show readR xs = (0, (readR xs).2) by rw [← h])
      refine ⟨hc, ?_⟩
      unfold bodyE
      rw [if_pos hc]
      exact hb
    have HX := Lib.hid hx
    have HB0 := Lib.hid hb
    have hgd : decide ((500 : Int) < (N : Int)) = false := decide_eq_false (by omega)
    unfold readOut7 at HR2
    obtain ⟨z, hz⟩ : ∃ z, z = (readR xs).1 := ⟨_, rfl⟩
    obtain ⟨r, hr⟩ : ∃ r, r = (readR xs).2 := ⟨_, rfl⟩
    rw [← hz] at HRd HR2 hend
    rw [← hr] at HRd HR2 hend HB HNe
    clear H hmod ho hx hb hN hc hn0 hz hr
    unfold recV at HRd HR2 HB HNe
    go_enter Try.func4, Try.ntmps4
    go_wp2_with fail
    refine (HLv.out _).mono ?_
    rintro e w1 ⟨rfl, hk⟩
    have HK := Lib.hid hk
    have HBy := Lib.hid (HB0.out.keep hk (fun _ _ h => h))
    clear hk
    go_wp2_with fail
    refine (HRd.out _ HBy.out).mono ?_
    rintro e w2 ⟨rfl, hk⟩
    have HK := Lib.hid (HK.out.trans hk)
    have HBy := Lib.hid (HBy.out.keep hk (fun _ _ h => h))
    clear hk
    go_wp2_with fail
    obtain ⟨W, hW⟩ : ∃ W, W = w2.alloc (.cells #[.bool r.del, .int .u64 (r.seq : Int), .string (strOfNums r.key), .string (strOfNums r.val)] 24) := ⟨_, rfl⟩
    have hk : Keeps NoBlock w2 W := by rw [hW]; exact (Keeps.refl _ _).alloc _
    have HR : Hid (Whole W w2.heap.size 24 (recCells r)) := Lib.hid (by rw [hW]; exact Whole.new w2 _ (recCells r))
    rw [← hW]
    have HBy := Lib.hid (HBy.out.keep hk (fun _ _ h => h))
    have HK := Lib.hid (HK.out.trans hk)
    clear hk hW
    rw [textOf p N c xs W HX.out HBy.out]
    go_wp2_with fail
    refine (HR2.out _).mono ?_
    rintro e w3 ⟨rfl, hk⟩
    have HR := Lib.hid (HR.out.keep hk (fun h => h))
    have HBy := Lib.hid (HBy.out.keep hk (fun _ _ h => h))
    have HK := Lib.hid (HK.out.trans hk)
    clear hk
    have hk : Keeps NoBlock w3 (w3.alloc (.cells #[.bool r.del, .int .u64 (r.seq : Int), .string (strOfNums r.key), .string (strOfNums r.val)] 24)) := (Keeps.refl _ _).alloc _
    have HR' : Hid (Whole (w3.alloc (.cells #[.bool r.del, .int .u64 (r.seq : Int), .string (strOfNums r.key), .string (strOfNums r.val)] 24)) w3.heap.size 24 (recCells r)) := Lib.hid (Whole.new w3 _ (recCells r))
    have HR := Lib.hid (HR.out.keep hk (fun h => h))
    have HBy := Lib.hid (HBy.out.keep hk (fun _ _ h => h))
    have HK := Lib.hid (HK.out.trans hk)
    clear hk
    obtain ⟨c0, c1, c2, c3⟩ := RecAt.ofWhole HR.out
    obtain ⟨d0, d1, d2, d3⟩ := RecAt.ofWhole HR'.out
    go_wp2_with fail
    refine (HB.out _).mono ?_
    rintro e w4 ⟨v, rfl, q, m, d, rfl, hm, hmd, hd, hq0, hb8, hk⟩
    have HK := Lib.hid (HK.out.trans hk)
    have HBy := Lib.hid (HBy.out.keep hk (fun _ _ h => h))
    have t1 := textOf p N c xs w4 HX.out HBy.out
    have t2 := textOf q m d _ w4 hm hb8
    clear hk hm hb8 hq0 c0 c1 c2 c3 d0 d1 d2 d3
    by_cases hz : z = 0
    · obtain ⟨hc, hb⟩ := hend hz
      rw [hb] at t2
      rw [hc, hz]
      clear hend
      go_wp2_with fail
      go_ret
      exact ⟨rfl, HK.out⟩
    · have hzd : decide (z = 0) = false := decide_eq_false hz
      clear hend
      go_wp2_with fail
      go_ret
      exact ⟨rfl, HK.out⟩
  · have hgd : decide ((500 : Int) < (N : Int)) = true := decide_eq_true (by omega)
    clear H hx hb ho hN hc hn0
    go_enter Try.func4, Try.ntmps4
    go_wp2_with fail
    refine (HLv.out _).mono ?_
    rintro e w1 ⟨rfl, hk⟩
    have HK := Lib.hid hk
    clear hk
    go_wp2_with fail
    refine (HLv.out _).mono ?_
    rintro e w2 ⟨rfl, hk⟩
    have HK := Lib.hid (HK.out.trans hk)
    clear hk
    go_wp2_with fail
    go_ret
    exact ⟨rfl, HK.out⟩
end Go.Proofs.Ytnfgmgonpecdmaa

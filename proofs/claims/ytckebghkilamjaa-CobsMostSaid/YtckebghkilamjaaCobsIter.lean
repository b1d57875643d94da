/-
  Package cobs: groups, an iterator.
-/
import Derived.Test.YtckebghkilamjaaCobsFirst
import Derived.RangeFuncBox
import Derived.RangeFuncNested
import Derived.RangeFuncBound
import Derived.RangeFuncCalls
import Derived.RangeFuncLeaves
import Derived.Shelf.Abstract
import Derived.Shelf.RegionOpen
import Derived.OwnWalkIn
import Derived.TacticsInMore
import Derived.LoopNIn
import Derived.LoopIn
import Derived.Maps.AppendAt
namespace Go.Proofs.Ytckebghkilamjaa
open Go.RowKit Go.Shelf
attribute [local go_sem] Oper.semAt_some

/-- A group, where it lies in the world w. -/
structure Grp (w : World) where
  q : Option Addr
  n : Nat
  d : Nat
  g : List Int
  hn : n = g.length
  hd : n ≤ d
  hd' : d ≤ 9223372036854775807
  hq : q = none → n = 0 ∧ d = 0
  hb : Bytes8 w q g
  h254 : n ≤ 254
  ho : Octets g

theorem Bytes8.below {w W : World} {p : Option Addr} {xs : List Int} (h : Bytes8 w p xs) (hB : Below w.heap.size w W) : Bytes8 W p xs :=
  h.keep (Keeps.ofBelow (S := NoBlock) hB) (fun _ _ h => h)

theorem tail_bytes {w : World} {q q' : Option Addr} {R : List Int} {m : Nat} (h : Bytes8 w q R) (hm : m = R.length) (j : Nat) (hj : j ≤ m) (hq : 0 < m - j → q' = q.map (·.add j)) : Bytes8 w q' (R.drop j) := by
  have h1 := h.piece (q := q') j (m - j) (by omega) hq
  rwa [List.take_of_length_le (by rw [List.length_drop]; omega)] at h1

def sliceLen : Value → Nat
  | .slice _ n _ => n
  | _ => 0

set_option maxRecDepth 100000 in
set_option maxHeartbeats 2000000 in
theorem iter_cobs (n : Nat) (hn : 1 ≤ n) (l B : Nat) (w0 : World) (p : Option Addr) (N c : Nat) (xs : List Int) (hx : N = xs.length) (hc : N ≤ c) (hc' : c ≤ 9223372036854775807) (ho : Octets xs) (hb : Bytes8 w0 p xs) (hn0 : p = none → N = 0 ∧ c = 0)
    (J Jx : List (Grp w0) → World → Prop)
    (hY : ∀ pre x W, J pre W → pre.length < N + 1 → YieldAt Fence.wide (n - 1) Try.prog l #[.slice x.q x.n x.d] W fun e W' =>
      (e = .returned (.bool true) ∧ J (pre ++ [x]) W' ∧ Below w0.heap.size W W') ∨ (e = .returned (.bool false) ∧ Jx (pre ++ [x]) W'))
    (W : World) (hB : W.cell? ⟨B, 0, none⟩ = some (.slice p N c)) (hW : Below w0.heap.size w0 W) (h0 : J [] W) :
    CallsIn Fence.wide n Try.prog 17 #[.func (.yield l) #[] #[], .pointer (some ⟨B, 0, none⟩)] W fun e W' => (∃ v, e = .returned v) ∧
      ((∃ ys, ys.map Grp.g = groupsOf xs ∧ J ys W') ∨ (∃ pre, Jx pre W')) := by
  have HX := Lib.hid hx
  have HO := Lib.hid ho
  have HBY := Lib.hid hb
  have HN0 := Lib.hid hn0
  have HWB := Lib.hid hW
  clear hx ho hb hn0 hW
  refine callsIn_of_wp Try.func17 rfl trivial ?_ rfl
  simp only [Try.ntmps17, List.size_toArray, List.length_cons, List.length_nil, Nat.reduceAdd, Nat.reduceSub, Array.replicate_succ, Array.replicate_zero, List.push_toArray, List.append_toArray, List.nil_append, List.cons_append]
  gi_wp2
  gi_loopw [3] (fun v wr => ∃ (pre : List (Grp w0)) (R : List Int) (q : Option Addr) (m d : Nat), v = .slice q m d ∧ m = R.length ∧ m ≤ d ∧ d ≤ 9223372036854775807 ∧ (q = none → m = 0 ∧ d = 0) ∧ Octets R ∧ Bytes8 w0 q R ∧ pre.map Grp.g ++ groupsOf R = groupsOf xs ∧ pre.length + m ≤ N ∧ J pre wr ∧ Below w0.heap.size w0 wr)
    (fun v _ => sliceLen v)
  case atStart =>
    exact ⟨[], xs, p, N, c, rfl, HX.out, hc, hc', HN0.out, HO.out, HBY.out, rfl, by simp, h0, HWB.out⟩
  case round =>
    obtain ⟨pre, R, q, m, d, rfl, hm, hd, hd', hq, hoR, hbR, hg, hlen, hJ, hBel⟩ := hrel
    obtain ⟨k, hk⟩ : ∃ k, k = firstN R := ⟨_, rfl⟩
    have hkm : k ≤ m := by rw [hk, hm]; exact firstN_le R
    have hk254 : k ≤ 254 := by rw [hk]; exact firstN_full R
    have HF := Lib.hid (first_cobs q m d R wr hm hd hd' hoR (hbR.below hBel) hq)
    rw [← hk] at HF
    obtain ⟨x, hxq, hxn, hxd, hxg⟩ : ∃ x : Grp w0, x.q = q ∧ x.n = k ∧ x.d = d ∧ x.g = R.take k :=
      ⟨{ q := q, n := k, d := d, g := R.take k, hn := by rw [List.length_take]; omega, hd := by omega, hd' := hd', hq := fun h => by have := hq h; omega, hb := by
          have := hbR.piece (q := q) 0 k (by omega) (fun h => by cases q <;> simp [Addr.add])
          rwa [List.drop_zero] at this, h254 := hk254, ho := hoR.take _ }, rfl, rfl, rfl, rfl⟩
    obtain ⟨fn, tmps, assign, body, hy, hR⟩ := hY pre x wr hJ (by omega)
    rw [hxq, hxn, hxd] at hy
    have HRR := Lib.hid hR
    have HHK := Lib.hid hk
    have HM := Lib.hid hm
    have HG := Lib.hid hg
    have HQ := Lib.hid hq
    have HOR := Lib.hid hoR
    have HBR := Lib.hid hbR
    have HXG := Lib.hid hxg
    have hkd : (k : Int) ≤ (d : Int) := by omega
    have hkmi : (k : Int) ≤ (m : Int) := by omega
    clear hR hY hk hm hg hq hoR hbR hxg hJ
    gi_wp2
    refine ⟨trivial, ?_⟩
    refine (callsIn_wide.2 HF.out).mono ?_
    rintro e w1 ⟨rfl, rfl⟩
    gi_wp2
    refine HRR.out.mono ?_
    rintro e W3 (⟨rfl, hJ3, hk3⟩ | ⟨rfl, hJx3⟩)
    · have HJ3 := Lib.hid hJ3
      have HB3 := Lib.hid (hBel.trans hk3)
      clear hJ3 hk3 hBel
      by_cases hend : k = m
      · have hdk : decide ((k : Int) = (m : Int)) = true := decide_eq_true (by omega)
        gi_wp2
        refine bodyPost_ret (results_none rfl _ _ _) rfl ?_
        refine ⟨⟨_, rfl⟩, .inl ⟨pre ++ [x], ?_, HJ3.out⟩⟩
        rw [← HG.out, groupsOf_end (by rw [← HHK.out, ← HM.out]; exact hend), List.map_append, List.map_singleton, HXG.out, HHK.out]
      · have hdk : decide ((k : Int) = (m : Int)) = false := decide_eq_false (by omega)
        have hgm := groupsOf_more (xs := R) (by rw [← HHK.out, ← HM.out]; exact hend)
        rw [← HHK.out] at hgm
        have HGM := Lib.hid hgm
        clear hgm
        by_cases h254 : k < 254
        · have hdl : decide ((k : Int) < 254) = true := decide_eq_true (by omega)
          gi_wp2
          refine ⟨⟨pre ++ [x], R.drop (k + 1), _, _, _, rfl, by rw [List.length_drop, ← HM.out], by omega, by omega, ?_, HOR.out.drop _, ?_, ?_, ?_, HJ3.out, HB3.out⟩, by show m - (k + 1) < m; omega⟩
          · intro h
            have := HQ.out (by revert h; split <;> simp)
            omega
          · refine tail_bytes HBR.out HM.out (k + 1) (by omega) fun h => ?_
            rw [if_neg (by omega)]
            cases q <;> simp [Addr.add]
          · rw [← HG.out, HGM.out, if_pos h254, List.map_append, List.map_singleton, HXG.out]
            simp
          · rw [List.length_append, List.length_singleton]; omega
        · have hdl : decide ((k : Int) < 254) = false := decide_eq_false (by omega)
          gi_wp2
          refine ⟨⟨pre ++ [x], R.drop k, _, _, _, rfl, by rw [List.length_drop, ← HM.out], by omega, by omega, ?_, HOR.out.drop _, ?_, ?_, ?_, HJ3.out, HB3.out⟩, by show m - k < m; omega⟩
          · intro h
            have := HQ.out (by revert h; simp)
            omega
          · exact tail_bytes HBR.out HM.out k (by omega) fun h => rfl
          · rw [← HG.out, HGM.out, if_neg h254, List.map_append, List.map_singleton, HXG.out]
            simp
          · rw [List.length_append, List.length_singleton]; omega
    · gi_wp2
      refine bodyPost_ret (results_none rfl _ _ _) rfl ?_
      exact ⟨⟨_, rfl⟩, .inr ⟨pre ++ [x], hJx3⟩⟩

set_option maxHeartbeats 1000000 in
set_option maxRecDepth 10000 in
/-- groups boxes its bytes, and hands the box on. -/
theorem groups_cobs (n : Nat) (p : Option Addr) (N c : Nat) (w : World) :
    CallsIn Fence.wide n Try.prog 15 #[.slice p N c] w fun e w' => e = .returned (.func (.func 17) #[] #[.pointer (some ⟨w.heap.size, 0, none⟩)]) ∧ w' = w.alloc (.cells #[.slice p N c] 22) := by
  refine callsIn_of_wp Try.func15 rfl trivial ?_ rfl
  simp only [Try.ntmps15, List.size_toArray, List.length_cons, List.length_nil, Nat.reduceAdd, Nat.reduceSub, Array.replicate_succ, Array.replicate_zero, List.push_toArray, List.append_toArray, List.nil_append, List.cons_append]
  gi_wp2
  go_ret
  exact ⟨rfl, rfl⟩

theorem groups_stops (n : Nat) (hn : 1 ≤ n) (B : Nat) (w0 w : World) (p : Option Addr) (N c : Nat) (xs : List Int) (hx : N = xs.length) (hc : N ≤ c) (hc' : c ≤ 9223372036854775807) (ho : Octets xs) (hb : Bytes8 w0 p xs) (hn0 : p = none → N = 0 ∧ c = 0)
    (hB : w.cell? ⟨B, 0, none⟩ = some (.slice p N c)) (hBw : B < w.heap.size) (hW : Below w0.heap.size w0 w) :
    SeqStopsK Fence.wide n Try.prog 17 #[.pointer (some ⟨B, 0, none⟩)] (fun x : Grp w0 => #[.slice x.q x.n x.d]) (Below w0.heap.size) (fun ys => ys.map Grp.g = groupsOf xs) (fun _ => True) (N + 1) w :=
  fun l J Jx W hWB _ _ hY h0 => by
    have hB' := (hWB.cell (p := ⟨B, 0, none⟩) hBw).trans hB
    refine (iter_cobs n hn l B w0 p N c xs hx hc hc' ho hb hn0 J Jx hY W hB' (hW.trans (hWB.mono hW.size)) h0).mono ?_
    rintro e W' ⟨he, ⟨ys, h1, h2⟩ | ⟨pre, h⟩⟩
    · exact ⟨he, .inl ⟨ys, h1, h2⟩⟩
    · exact ⟨he, .inr ⟨pre, trivial, h⟩⟩
end Go.Proofs.Ytckebghkilamjaa

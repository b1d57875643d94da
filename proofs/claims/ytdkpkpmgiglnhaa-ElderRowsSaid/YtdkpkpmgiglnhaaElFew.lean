/-
  Are pairs few, and little; a row of one.
-/
import Derived.Test.YtdkpkpmgiglnhaaElLaws
namespace Go.Proofs.Ytdkpkpmgiglnhaa
open Go.RowKit

def littleP (bytes : Nat) (r : Pr) : Bool := decide (r.key.length ≤ bytes) && decide (r.val.length ≤ bytes)
def fewP (l : List Pr) (most bytes : Nat) : Bool := l.all (littleP bytes) && decide (l.length ≤ most)
theorem all_take_succP {l : List Pr} {b j : Nat} (hj : j < l.length) : (l.take (j + 1)).all (littleP b) = ((l.take j).all (littleP b) && littleP b (l.getD j Pr.none)) := by
  rw [List.take_succ_eq_append_getElem hj, List.all_append]
  simp [hj]
theorem fewP_one {r : Pr} {b : Nat} : fewP [r] 1 b = littleP b r := by
  unfold fewP
  simp
theorem PrsAt.one (w : World) (t : TypeId) (r : Pr) : PrsAt (w.alloc (.cells (prCells r) t)) (some ⟨w.heap.size, 0, none⟩) [r] := fun i hi => by
  have : i = 0 := by simp at hi; omega
  subst this
  have h := PrAt.ofWhole (p := r) (Whole.new w t (prCells r))
  exact ⟨_, rfl, h.1, h.2⟩

set_option maxHeartbeats 2000000 in
set_option maxRecDepth 10000 in
theorem few10_any (p : Option Addr) (n c : Nat) (l : List Pr) (most bytes : Nat) (zm zb : Int) (hzm : zm = (most : Int)) (hzb : zb = (bytes : Int)) (hn : n = l.length) (hn9 : n ≤ 9223372036854775807) (hs : ∀ r ∈ l, r.key.length ≤ 9223372036854775807 ∧ r.val.length ≤ 9223372036854775807) (w : World) (hl : PrsAt w p l) :
    Calls Try.prog 9 #[.slice p n c, .int .i64 zm, .int .i64 zb] w fun e w' => e = .returned (.bool (fewP l most bytes)) ∧ Keeps NoBlock w w' := by
  subst hzm
  subst hzb
  have HL := Lib.hid hl
  have HN := Lib.hid hn
  have HS := Lib.hid hs
  clear hl hn hs
  go_enter Try.func9, Try.ntmps9
  go_wp2_with fail
  go_loopw [11] (fun i wr => ∃ j : Nat, j ≤ n ∧ i = .int .i64 (j : Int) ∧ (l.take j).all (littleP bytes) = true ∧ Keeps NoBlock w wr) (fun i _ => n - (intOf i).toNat)
  case atStart => exact ⟨0, Nat.zero_le _, rfl, by simp, Keeps.refl _ _⟩
  case round =>
    obtain ⟨j, hj, rfl, hall, hk⟩ := hrel
    have HK := Lib.hid hk
    have HA := Lib.hid hall
    clear hk hall
    by_cases hlt : j < n
    · have hdj : decide ((j : Int) < (n : Int)) = true := decide_eq_true (by omega)
      have hjl : j < l.length := by rw [← HN.out]; exact hlt
      obtain ⟨a, rfl, c0, c1⟩ := (HL.out.keep HK.out (fun _ _ h => h)) j hjl
      have hmem : l.getD j Pr.none ∈ l := by simp [hjl]
      have hsr := HS.out _ hmem
      have HT := Lib.hid (all_take_succP (b := bytes) hjl)
      obtain ⟨r, hr⟩ : ∃ r, r = l.getD j Pr.none := ⟨_, rfl⟩
      rw [← hr] at c0 c1 hsr HT
      have hk1 := str_size r.key
      have hv1 := str_size r.val
      have hbad : littleP bytes r = false → fewP l most bytes = false := fun h => by
        unfold fewP
        have : l.all (littleP bytes) = false := by
          rw [Bool.eq_false_iff]
          intro ha
          have := List.all_eq_true.1 ha r (by rw [hr]; exact hmem)
          rw [h] at this
          cases this
        rw [this]
        rfl
      have HBd := Lib.hid hbad
      clear hr hmem hjl hbad
      by_cases k1 : bytes < r.key.length
      · have dk : decide (bytes < r.key.length) = true := decide_eq_true k1
        have dk2 : decide ((bytes : Int) < (r.key.length : Int)) = true := decide_eq_true (by omega)
        have e := HBd.out (by unfold littleP; rw [decide_eq_false (by omega)]; rfl)
        have HE := Lib.hid e
        clear e
        go_wp2_with fail
        go_ret
        rw [HE.out]
        exact ⟨rfl, HK.out.alloc _⟩
      · have dk : decide (bytes < r.key.length) = false := decide_eq_false k1
        have dk2 : decide ((bytes : Int) < (r.key.length : Int)) = false := decide_eq_false (by omega)
        by_cases k2 : bytes < r.val.length
        · have dv : decide (bytes < r.val.length) = true := decide_eq_true k2
          have dv2 : decide ((bytes : Int) < (r.val.length : Int)) = true := decide_eq_true (by omega)
          have e := HBd.out (by unfold littleP; rw [Bool.and_comm, decide_eq_false (show ¬ r.val.length ≤ bytes by omega)]; rfl)
          have HE := Lib.hid e
          clear e
          go_wp2_with fail
          go_ret
          rw [HE.out]
          exact ⟨rfl, HK.out.alloc _⟩
        · have dv : decide (bytes < r.val.length) = false := decide_eq_false k2
          have dv2 : decide ((bytes : Int) < (r.val.length : Int)) = false := decide_eq_false (by omega)
          have hgood : littleP bytes r = true := by unfold littleP; rw [decide_eq_true (show r.key.length ≤ bytes by omega), decide_eq_true (show r.val.length ≤ bytes by omega)]; rfl
          have HG := Lib.hid hgood
          clear hgood
          go_wp2_with fail
          exact ⟨⟨j + 1, by omega, by go_num, by rw [HT.out, HA.out, HG.out]; rfl, HK.out.alloc _⟩, by simp [intOf]; omega⟩
    · have hdj : decide ((j : Int) < (n : Int)) = false := decide_eq_false (by omega)
      have hall : l.all (littleP bytes) = true := by
        have := HA.out
        rwa [List.take_of_length_le (by rw [← HN.out]; omega)] at this
      have hres : fewP l most bytes = decide ((n : Int) ≤ (most : Int)) := by
        unfold fewP
        rw [hall, Bool.true_and, ← HN.out]
        by_cases h : n ≤ most
        · rw [decide_eq_true h, decide_eq_true (by omega)]
        · rw [decide_eq_false h, decide_eq_false (by omega)]
      have HR := Lib.hid hres
      clear hall hres
      go_wp2_with fail
      go_ret
      rw [HR.out]
      exact ⟨by simp, HK.out⟩
end Go.Proofs.Ytdkpkpmgiglnhaa

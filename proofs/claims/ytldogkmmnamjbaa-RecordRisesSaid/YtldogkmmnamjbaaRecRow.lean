/-
  Rows of records: Few, the document's Rising.
-/
import Derived.Test.YtldogkmmnamjbaaRecRef
namespace Go.Proofs.Ytldogkmmnamjbaa
open Go.RowKit

/-- A row of records that can be read. -/
def RecsAt (w : World) (p : Option Addr) (l : List Rec) : Prop :=
  ∀ i, i < l.length → ∃ a : Addr, p = some a ∧ w.cell? (a.add (i * 4)) = some (.bool (l.getD i Rec.none).del) ∧ w.cell? ⟨(a.add (i * 4)).block, (a.add (i * 4)).off + 1, none⟩ = some (.int .u64 ((l.getD i Rec.none).seq : Int)) ∧
    w.cell? ⟨(a.add (i * 4)).block, (a.add (i * 4)).off + 2, none⟩ = some (.string (strOfNums (l.getD i Rec.none).key)) ∧ w.cell? ⟨(a.add (i * 4)).block, (a.add (i * 4)).off + 3, none⟩ = some (.string (strOfNums (l.getD i Rec.none).val))
theorem RecsAt.keep {w w' : World} {p : Option Addr} {l : List Rec} (h : RecsAt w p l) {S : Nat → Prop} (hk : Keeps S w w') (hs : ∀ k, k < w.heap.size → ¬ S k) : RecsAt w' p l := fun i hi => by
  obtain ⟨a, rfl, c0, c1, c2, c3⟩ := h i hi
  exact ⟨a, rfl, hk.cell c0 (hs _ (ltOfCell c0)), hk.cell c1 (hs _ (ltOfCell c1)), hk.cell c2 (hs _ (ltOfCell c2)), hk.cell c3 (hs _ (ltOfCell c3))⟩

def littleR (bytes : Nat) (r : Rec) : Bool := decide (r.key.length ≤ bytes) && decide (r.val.length ≤ bytes)
def fewR (l : List Rec) (most bytes : Nat) : Bool := l.all (littleR bytes) && decide (l.length ≤ most)

theorem all_take_succ {l : List Rec} {b j : Nat} (hj : j < l.length) : (l.take (j + 1)).all (littleR b) = ((l.take j).all (littleR b) && littleR b (l.getD j Rec.none)) := by
  rw [List.take_succ_eq_append_getElem hj, List.all_append]
  simp [hj]

set_option maxHeartbeats 2000000 in
set_option maxRecDepth 10000 in
theorem few_any (p : Option Addr) (n c : Nat) (l : List Rec) (most bytes : Nat) (zm zb : Int) (hzm : zm = (most : Int)) (hzb : zb = (bytes : Int)) (hn : n = l.length) (hn9 : n ≤ 9223372036854775807) (hs : ∀ r ∈ l, r.key.length ≤ 9223372036854775807 ∧ r.val.length ≤ 9223372036854775807) (w : World) (hl : RecsAt w p l) :
    Calls Try.prog 5 #[.slice p n c, .int .i64 zm, .int .i64 zb] w fun e w' => e = .returned (.bool (fewR l most bytes)) ∧ Keeps NoBlock w w' := by
  subst hzm
  subst hzb
  have HL := Lib.hid hl
  have HN := Lib.hid hn
  have HS := Lib.hid hs
  clear hl hn hs
  go_enter Try.func5, Try.ntmps5
  go_wp2_with fail
  go_loopw [11] (fun i wr => ∃ j : Nat, j ≤ n ∧ i = .int .i64 (j : Int) ∧ (l.take j).all (littleR bytes) = true ∧ Keeps NoBlock w wr) (fun i _ => n - (intOf i).toNat)
  case atStart => exact ⟨0, Nat.zero_le _, rfl, by simp, Keeps.refl _ _⟩
  case round =>
    obtain ⟨j, hj, rfl, hall, hk⟩ := hrel
    have HK := Lib.hid hk
    have HA := Lib.hid hall
    clear hk hall
    by_cases hlt : j < n
    · have hdj : decide ((j : Int) < (n : Int)) = true := decide_eq_true (by omega)
      have hjl : j < l.length := by rw [← HN.out]; exact hlt
      obtain ⟨a, rfl, c0, c1, c2, c3⟩ := (HL.out.keep HK.out (fun _ _ h => h)) j hjl
      have hmem : l.getD j Rec.none ∈ l := by simp [hjl]
      have hsr := HS.out _ hmem
      have HT := Lib.hid (all_take_succ (b := bytes) hjl)
      obtain ⟨r, hr⟩ : ∃ r, r = l.getD j Rec.none := ⟨_, rfl⟩
      rw [← hr] at c0 c1 c2 c3 hsr HT
      have hk1 := str_size r.key
      have hv1 := str_size r.val
      have hbad : littleR bytes r = false → fewR l most bytes = false := fun h => by
        unfold fewR
        have : l.all (littleR bytes) = false := by
          rw [Bool.eq_false_iff]
          intro ha
          have := List.all_eq_true.1 ha r (by rw [hr]; exact hmem)
          rw [h] at this
          cases this
        rw [this]
        rfl
      have HBd := Lib.hid hbad
      clear hr hmem hjl hbad
      by_cases k1 : bytes < r.key.length
      · have dk : decide (bytes < r.key.length) = true := decide_eq_true k1
        have dk2 : decide ((bytes : Int) < (r.key.length : Int)) = true := decide_eq_true (by omega)
        have e := HBd.out (by unfold littleR; rw [decide_eq_false (by omega)]; rfl)
        have HE := Lib.hid e
        clear e
        go_wp2_with fail
        go_ret
        rw [HE.out]
        exact ⟨rfl, HK.out.alloc _⟩
      · have dk : decide (bytes < r.key.length) = false := decide_eq_false k1
        have dk2 : decide ((bytes : Int) < (r.key.length : Int)) = false := decide_eq_false (by omega)
        by_cases k2 : bytes < r.val.length
        · have dv : decide (bytes < r.val.length) = true := decide_eq_true k2
          have dv2 : decide ((bytes : Int) < (r.val.length : Int)) = true := decide_eq_true (by omega)
          have e := HBd.out (by unfold littleR; rw [Bool.and_comm, decide_eq_false (show ¬ r.val.length ≤ bytes by omega)]; rfl)
          have HE := Lib.hid e
          clear e
          go_wp2_with fail
          go_ret
          rw [HE.out]
          exact ⟨rfl, HK.out.alloc _⟩
        · have dv : decide (bytes < r.val.length) = false := decide_eq_false k2
          have dv2 : decide ((bytes : Int) < (r.val.length : Int)) = false := decide_eq_false (by omega)
          have hgood : littleR bytes r = true := by unfold littleR; rw [decide_eq_true (show r.key.length ≤ bytes by omega), decide_eq_true (show r.val.length ≤ bytes by omega)]; rfl
          have HG := Lib.hid hgood
          clear hgood
          go_wp2_with fail
          exact ⟨⟨j + 1, by omega, by go_num, by rw [HT.out, HA.out, HG.out]; rfl, HK.out.alloc _⟩, by simp [intOf]; omega⟩
    · have hdj : decide ((j : Int) < (n : Int)) = false := decide_eq_false (by omega)
      have hall : l.all (littleR bytes) = true := by
        have := HA.out
        rwa [List.take_of_length_le (by rw [← HN.out]; omega)] at this
      have hres : fewR l most bytes = decide ((n : Int) ≤ (most : Int)) := by
        unfold fewR
        rw [hall, Bool.true_and, ← HN.out]
        by_cases h : n ≤ most
        · rw [decide_eq_true h, decide_eq_true (by omega)]
        · rw [decide_eq_false h, decide_eq_false (by omega)]
      have HR := Lib.hid hres
      clear hall hres
      go_wp2_with fail
      go_ret
      rw [HR.out]
      exact ⟨by simp, HK.out⟩
end Go.Proofs.Ytldogkmmnamjbaa

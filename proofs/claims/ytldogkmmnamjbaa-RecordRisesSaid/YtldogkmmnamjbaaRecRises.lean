/-
  Package record's own Rising.
-/
import Derived.Test.YtldogkmmnamjbaaRecLaws
import Derived.Test.YtldogkmmnamjbaaRecOwn
namespace Go.Proofs.Ytldogkmmnamjbaa
open Go.RowKit

set_option maxHeartbeats 4000000 in
set_option maxRecDepth 10000 in
theorem rising_own (p : Option Addr) (n c : Nat) (l : List Rec) (w : World) (hn : n = l.length) (hn9 : n ≤ 1000000) (hs : ∀ r ∈ l, r.Modest) (hl : RecsAt w p l) :
    Calls Try.prog 6 #[.slice p n c] w fun e w' => e = .returned (.int .i64 (risingR l)) ∧ Keeps NoBlock w w' := by
  have HL := Lib.hid hl
  have HN := Lib.hid hn
  have HFi := Lib.hid fun (r : Rec) (hr : r ∈ l) => (hs r hr).fine
  have HC := Lib.hid (fun (r : Rec) (hr : r ∈ l) w => check_own r (by have := (hs r hr).key; omega) (by have := (hs r hr).val; omega) w)
  clear hl hn hs
  go_enter Try.func6, Try.ntmps6
  go_wp2_with fail
  go_loopw [9] (fun i wr => ∃ j : Nat, j ≤ n ∧ i = .int .i64 (j : Int) ∧ firstBad (l.take j) = 0 ∧ Keeps NoBlock w wr) (fun i _ => n - (intOf i).toNat)
  case atStart => exact ⟨0, Nat.zero_le _, rfl, rfl, Keeps.refl _ _⟩
  case round =>
    obtain ⟨j, hj, rfl, hall, hk⟩ := hrel
    have HK := Lib.hid hk
    have HA := Lib.hid hall
    clear hk hall
    by_cases hlt : j < n
    · have hdj : decide ((j : Int) < (n : Int)) = true := decide_eq_true (by omega)
      have hjl : j < l.length := by rw [← HN.out]; exact hlt
      obtain ⟨a, rfl, c0, c1, c2, c3⟩ := (HL.out.keep HK.out (fun _ _ h => h)) j hjl
      have hmem : l.getD j Rec.none ∈ l := by simp [hjl]
      have HCr := Lib.hid (HC.out _ hmem)
      have HT := Lib.hid (firstBad_take hjl HA.out)
      obtain ⟨r, hr⟩ : ∃ r, r = l.getD j Rec.none := ⟨_, rfl⟩
      rw [← hr] at c0 c1 c2 c3 HCr HT
      obtain ⟨z, hz⟩ : ∃ z, z = checkR r := ⟨_, rfl⟩
      rw [← hz] at HCr HT
      unfold recV at HCr
      clear hr hmem hjl hz
      go_wp2_with fail
      refine (HCr.out _).mono ?_
      rintro e w1 ⟨rfl, hk⟩
      have HK1 := Lib.hid ((HK.out.alloc _).trans hk)
      clear hk
      by_cases h0 : z = 0
      · have hzb : (z != 0) = false := by simpa using h0
        have hzd : decide (z = 0) = true := decide_eq_true h0
        have HT0 : Hid (firstBad (l.take (j + 1)) = 0) := Lib.hid (by rw [HT.out]; exact h0)
        subst h0
        clear HT
        go_wp2_with fail
        exact ⟨⟨j + 1, by omega, by go_num, HT0.out, HK1.out⟩, by simp [intOf]; omega⟩
      · have hzb : (z != 0) = true := by simpa using h0
        have hzd : decide (z = 0) = false := decide_eq_false h0
        have HR : Hid (risingR l = z) := Lib.hid (by
          have hf : firstBad l = z := by rw [firstBad_stop (j := j + 1) (by rw [HT.out]; exact h0), HT.out]
          unfold risingR
          rw [hf, if_pos h0])
        go_wp2_with fail
        go_ret
        rw [HR.out]
        exact ⟨rfl, HK1.out⟩
    · have hdj : decide ((j : Int) < (n : Int)) = false := decide_eq_false (by omega)
      have HB : Hid (firstBad l = 0) := Lib.hid (by
        have := HA.out
        rwa [List.take_of_length_le (by rw [← HN.out]; omega)] at this)
      clear HA
      obtain ⟨wk, hwk⟩ : ∃ wk, wk = wr := ⟨_, rfl⟩
      subst hwk
      go_wp2_with fail
      go_loopw [6] (fun i wr => ∃ k : Nat, 1 ≤ k ∧ k ≤ n + 1 ∧ i = .int .i64 (k : Int) ∧ Hid (∀ i, i + 1 < k → i + 1 < l.length → (l.getD i Rec.none).seq < (l.getD (i + 1) Rec.none).seq) ∧ Keeps NoBlock w wr) (fun i _ => n + 1 - (intOf i).toNat)
      case atStart => exact ⟨1, Nat.le_refl _, by omega, rfl, Lib.hid (fun i h => by omega), HK.out⟩
      case round =>
        obtain ⟨k, hk1, hk, rfl, HA2, hkk⟩ := hrel
        have HK2 := Lib.hid hkk
        clear hkk
        by_cases hlt2 : k < n
        · have hdk : decide ((k : Int) < (n : Int)) = true := decide_eq_true (by omega)
          obtain ⟨m, rfl⟩ : ∃ m, k = m + 1 := ⟨k - 1, by omega⟩
          have hkl : m + 1 < l.length := by rw [← HN.out]; exact hlt2
          obtain ⟨a, rfl, c0, c1, c2, c3⟩ := (HL.out.keep HK2.out (fun _ _ h => h)) (m + 1) hkl
          obtain ⟨b, hb, d0, d1, d2, d3⟩ := (HL.out.keep HK2.out (fun _ _ h => h)) m (by omega)
          obtain rfl := Option.some.inj hb
          obtain ⟨r, hr⟩ : ∃ r, r = l.getD (m + 1) Rec.none := ⟨_, rfl⟩
          obtain ⟨s, hs⟩ : ∃ s, s = l.getD m Rec.none := ⟨_, rfl⟩
          rw [← hr] at c0 c1 c2 c3
          rw [← hs] at d0 d1 d2 d3
          have HRr := Lib.hid hr
          have HSs := Lib.hid hs
          clear hr hs hb c0 c2 c3 d0 d2 d3
          have hdk2 : decide ((m : Int) + 1 < (n : Int)) = true := decide_eq_true (by omega)
          have hmn : (m : Int) < (n : Int) := by omega
          have hmn2 : m < n := by omega
          have w1 : IntKind.i64.wrap (m : Int) = (m : Int) := by rw [IntKind.wrap_i64]; omega
          have hm0 : (0 : Int) ≤ (m : Int) := by omega
          have hm1 : (0 : Int) ≤ (m : Int) + 1 := by omega
          have hm2 : (m : Int) + 1 < (n : Int) := by omega
          have hm3 : ((m : Int) + 1).toNat = m + 1 := by omega
          have hm4 : (m : Int) + 1 - 1 = (m : Int) := by omega
          have hm5 : IntKind.i64.wrap ((m : Int) + 1 - 1) = (m : Int) := by rw [IntKind.wrap_i64]; omega
          have hadj : (∀ i, i + 1 < m + 1 + 1 → i + 1 < l.length → (l.getD i Rec.none).seq < (l.getD (i + 1) Rec.none).seq) ↔ s.seq < r.seq := by
            constructor
            · intro h
              have := h m (by omega) hkl
              rw [← HRr.out, ← HSs.out] at this
              exact this
            · intro h i hi hi2
              by_cases he : i = m
              · rw [he, ← HRr.out, ← HSs.out]
                exact h
              · exact HA2.out i (by omega) hi2
          have hbad : ¬ s.seq < r.seq → risingR l = 8 := fun h => by
            have hr : risesR l ≠ true := fun e => h (by
              have := rises_adj.1 e m hkl
              rwa [← HRr.out, ← HSs.out] at this)
            unfold risingR
            rw [HB.out, if_neg (by simp), if_neg hr]
          have HAd := Lib.hid hadj
          have HBd := Lib.hid hbad
          clear hadj hbad
          by_cases hsr : s.seq < r.seq
          · have hdd : decide ((r.seq : Int) ≤ (s.seq : Int)) = false := decide_eq_false (by omega)
            go_wp2_with fail
            have s0 : wr.drew.cell? ⟨(a.add ((m + 1) * 4)).block, (a.add ((m + 1) * 4)).off + 1, none⟩ = some (.int .u64 (r.seq : Int)) ∧ wr.drew.cell? ⟨(a.add (m * 4)).block, (a.add (m * 4)).off + 1, none⟩ = some (.int .u64 (s.seq : Int)) := ⟨c1, d1⟩
            go_region_held3 (fun w' => w'.cell? ⟨(a.add ((m + 1) * 4)).block, (a.add ((m + 1) * 4)).off + 1, none⟩ = some (.int .u64 (r.seq : Int)) ∧ w'.cell? ⟨(a.add (m * 4)).block, (a.add (m * 4)).off + 1, none⟩ = some (.int .u64 (s.seq : Int)))
              (first | exact s0 | exact ⟨c1, d1⟩)
              (fail)
            go_wp2_with fail
            exact ⟨⟨m + 1 + 1, by omega, by omega, by go_num, Lib.hid (HAd.out.2 hsr), by first | exact HK2.out | exact HK2.out.drew⟩, by simp [intOf]; omega⟩
          · have hdd : decide ((r.seq : Int) ≤ (s.seq : Int)) = true := decide_eq_true (by omega)
            have HRz := Lib.hid (HBd.out hsr)
            go_wp2_with fail
            have s0 : wr.drew.cell? ⟨(a.add ((m + 1) * 4)).block, (a.add ((m + 1) * 4)).off + 1, none⟩ = some (.int .u64 (r.seq : Int)) ∧ wr.drew.cell? ⟨(a.add (m * 4)).block, (a.add (m * 4)).off + 1, none⟩ = some (.int .u64 (s.seq : Int)) := ⟨c1, d1⟩
            go_region_held3 (fun w' => w'.cell? ⟨(a.add ((m + 1) * 4)).block, (a.add ((m + 1) * 4)).off + 1, none⟩ = some (.int .u64 (r.seq : Int)) ∧ w'.cell? ⟨(a.add (m * 4)).block, (a.add (m * 4)).off + 1, none⟩ = some (.int .u64 (s.seq : Int)))
              (first | exact s0 | exact ⟨c1, d1⟩)
              (fail)
            go_wp2_with fail
            go_ret
            rw [HRz.out]
            exact ⟨rfl, by first | exact HK2.out | exact HK2.out.drew⟩
        · have hdk : decide ((k : Int) < (n : Int)) = false := decide_eq_false (by omega)
          have HRz : Hid (risingR l = 0) := Lib.hid (risingR_zero.2 ⟨HB.out, rises_adj.2 (fun i hi => HA2.out i (by have := HN.out; omega) hi)⟩)
          go_wp2_with fail
          go_ret
          rw [HRz.out]
          exact ⟨rfl, HK2.out⟩

theorem rises_ok : RisesOk where
  rising := fun p n c l w hn _ _ hn9 hs hl => rising_own p n c l w hn hn9 hs hl
end Go.Proofs.Ytldogkmmnamjbaa

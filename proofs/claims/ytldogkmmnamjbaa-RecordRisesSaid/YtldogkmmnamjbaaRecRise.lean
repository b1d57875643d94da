/-
  The document's Rising.
-/
import Derived.Test.YtldogkmmnamjbaaRecRow
import Derived.Test.YtldogkmmnamjbaaCopied
namespace Go.Proofs.Ytldogkmmnamjbaa
open Go.RowKit

theorem firstBad_append : ∀ (a b : List Rec), firstBad (a ++ b) = if firstBad a = 0 then firstBad b else firstBad a
  | [], b => by simp [firstBad]
  | r :: a, b => by
    rw [List.cons_append, firstBad, firstBad]
    by_cases h : checkR r = 0
    · rw [if_pos h, if_pos h, firstBad_append a b]
    · rw [if_neg h, if_neg h, if_neg h]
theorem firstBad_take {l : List Rec} {j : Nat} (hj : j < l.length) (h : firstBad (l.take j) = 0) : firstBad (l.take (j + 1)) = checkR (l.getD j Rec.none) := by
  rw [List.take_succ_eq_append_getElem hj, firstBad_append, if_pos h]
  unfold firstBad
  have e : l.getD j Rec.none = l[j] := by simp [hj]
  rw [e]
  by_cases hc : checkR l[j] = 0
  · rw [if_pos hc, hc]
    rfl
  · rw [if_neg hc]
theorem firstBad_stop {l : List Rec} {j : Nat} (h : firstBad (l.take j) ≠ 0) : firstBad l = firstBad (l.take j) := by
  conv => lhs; rw [← List.take_append_drop j l]
  rw [firstBad_append, if_neg h]

theorem rises_adj : ∀ {l : List Rec}, risesR l = true ↔ ∀ i, i + 1 < l.length → (l.getD i Rec.none).seq < (l.getD (i + 1) Rec.none).seq
  | [] => by simp [risesR]
  | [a] => by simp [risesR]
  | a :: b :: l => by
    unfold risesR
    rw [Bool.and_eq_true, rises_adj, decide_eq_true_eq]
    constructor
    · rintro ⟨h1, h2⟩ i hi
      cases i with
      | zero => exact h1
      | succ i => exact h2 i (by simpa using hi)
    · intro h
      exact ⟨h 0 (by simp), fun i hi => h (i + 1) (by simpa using hi)⟩

set_option maxHeartbeats 4000000 in
set_option maxRecDepth 10000 in
theorem rising7_ref (p : Option Addr) (n c : Nat) (l : List Rec) (hn : n = l.length) (hn9 : n ≤ 1000000) (hs : ∀ r ∈ l, r.key.length ≤ 140737488355328 ∧ r.val.length ≤ 140737488355328) (hf : ∀ r ∈ l, r.Fine) (w : World) (hl : RecsAt w p l) :
    Calls Try.prog 7 #[.slice p n c] w fun e w' => e = .returned (.int .i64 (risingR l)) ∧ Keeps NoBlock w w' := by
  have HL := Lib.hid hl
  have HN := Lib.hid hn
  have HS := Lib.hid hs
  have HFi := Lib.hid hf
  have HC := Lib.hid (fun (r : Rec) (hr : r ∈ l) w => check7_ref r (hs r hr).1 (hs r hr).2 w)
  clear hl hn hs hf
  go_enter Try.func7, Try.ntmps7
  go_wp2_with fail
  go_loopw [10] (fun i wr => ∃ j : Nat, j ≤ n ∧ i = .int .i64 (j : Int) ∧ firstBad (l.take j) = 0 ∧ Keeps NoBlock w wr) (fun i _ => n - (intOf i).toNat)
  case atStart => exact ⟨0, Nat.zero_le _, rfl, rfl, Keeps.refl _ _⟩
  case round =>
    obtain ⟨j, hj, rfl, hall, hk⟩ := hrel
    have HK := Lib.hid hk
    have HA := Lib.hid hall
    clear hk hall
    by_cases hlt : j < n
    · have hdj : decide ((j : Int) < (n : Int)) = true := decide_eq_true (by omega)
      have hjl : j < l.length := by rw [← HN.out]; exact hlt
      obtain ⟨a, rfl, c0, c1, c2, c3⟩ := (HL.out.keep HK.out (fun _ _ h => h)) j hjl
      have hmem : l.getD j Rec.none ∈ l := by simp [hjl]
      have HCr := Lib.hid (HC.out _ hmem)
      have HT := Lib.hid (firstBad_take hjl HA.out)
      obtain ⟨r, hr⟩ : ∃ r, r = l.getD j Rec.none := ⟨_, rfl⟩
      rw [← hr] at c0 c1 c2 c3 HCr HT
      obtain ⟨z, hz⟩ : ∃ z, z = checkR r := ⟨_, rfl⟩
      rw [← hz] at HCr HT
      unfold recV at HCr
      clear hr hmem hjl hz
      go_wp2_with fail
      refine (HCr.out _).mono ?_
      rintro e w1 ⟨rfl, hk⟩
      have HK1 := Lib.hid ((HK.out.alloc _).trans hk)
      clear hk
      by_cases h0 : z = 0
      · have hzb : (z != 0) = false := by simpa using h0
        have hzd : decide (z = 0) = true := decide_eq_true h0
        have HT0 : Hid (firstBad (l.take (j + 1)) = 0) := Lib.hid (by rw [HT.out]; exact h0)
        subst h0
        clear HT
        go_wp2_with fail
        exact ⟨⟨j + 1, by omega, by go_num, HT0.out, HK1.out⟩, by simp [intOf]; omega⟩
      · have hzb : (z != 0) = true := by simpa using h0
        have hzd : decide (z = 0) = false := decide_eq_false h0
        have HR : Hid (risingR l = z) := Lib.hid (by
          have hf : firstBad l = z := by rw [firstBad_stop (j := j + 1) (by rw [HT.out]; exact h0), HT.out]
          unfold risingR
          rw [hf, if_pos h0])
        go_wp2_with fail
        go_ret
        rw [HR.out]
        exact ⟨rfl, HK1.out⟩
    · have hdj : decide ((j : Int) < (n : Int)) = false := decide_eq_false (by omega)
      have HB : Hid (firstBad l = 0) := Lib.hid (by
        have := HA.out
        rwa [List.take_of_length_le (by rw [← HN.out]; omega)] at this)
      clear HA
      obtain ⟨wk, hwk⟩ : ∃ wk, wk = wr := ⟨_, rfl⟩
      subst hwk
      go_wp2_with fail
      go_loopw [22] (fun i wr => ∃ k : Nat, k ≤ n ∧ i = .int .i64 (k : Int) ∧ Hid (∀ i, i + 1 < k → (l.getD i Rec.none).seq < (l.getD (i + 1) Rec.none).seq) ∧ Keeps NoBlock w wr) (fun i _ => n - (intOf i).toNat)
      case atStart => exact ⟨0, Nat.zero_le _, rfl, Lib.hid (fun i h => by omega), HK.out⟩
      case round =>
        obtain ⟨k, hk, rfl, HA2, hkk⟩ := hrel
        have HK2 := Lib.hid hkk
        clear hkk
        by_cases hlt2 : k < n
        · have hdk : decide ((k : Int) < (n : Int)) = true := decide_eq_true (by omega)
          have hkl : k < l.length := by rw [← HN.out]; exact hlt2
          obtain ⟨a, rfl, c0, c1, c2, c3⟩ := (HL.out.keep HK2.out (fun _ _ h => h)) k hkl
          have hmem : l.getD k Rec.none ∈ l := by simp [hkl]
          have h64 := (HFi.out _ hmem).seq
          obtain ⟨r, hr⟩ : ∃ r, r = l.getD k Rec.none := ⟨_, rfl⟩
          rw [← hr] at c0 c1 c2 c3 h64
          have HRr := Lib.hid hr
          clear hr hmem hkl
          by_cases hk0 : k = 0
          · have hkp : decide ((0 : Int) < (k : Int)) = false := decide_eq_false (by omega)
            have hkp2 : decide (0 < k) = false := decide_eq_false (by omega)
            have HK0 := Lib.hid hk0
            clear hk0
            have HKn := Lib.hid (HK2.out.alloc (.cells #[.bool r.del, .int .u64 (r.seq : Int), .string (strOfNums r.key), .string (strOfNums r.val)] 31))
            go_wp2_with fail
            obtain ⟨W, hW⟩ : ∃ W, W = wr.alloc (.cells #[.bool r.del, .int .u64 (r.seq : Int), .string (strOfNums r.key), .string (strOfNums r.val)] 31) := ⟨_, rfl⟩
            rw [← hW] at HKn ⊢
            have hw1 : W.cell? ⟨wr.heap.size, 1, none⟩ = some (.int .u64 (r.seq : Int)) := by rw [hW]; exact Whole.cell (Whole.new wr _ _) 1 rfl
            clear hW
            have s0 : W.drew.cell? ⟨wr.heap.size, 1, none⟩ = some (.int .u64 (r.seq : Int)) := hw1
            go_region
            go_wp2_with fail
            exact ⟨⟨k + 1, by omega, by go_num, Lib.hid (fun i h => by have := HK0.out; omega), by first | exact HKn.out | exact HKn.out.drew⟩, by simp [intOf]; omega⟩
          · obtain ⟨m, rfl⟩ : ∃ m, k = m + 1 := ⟨k - 1, by omega⟩
            have hkp : decide ((0 : Int) < ((m + 1 : Nat) : Int)) = true := decide_eq_true (by omega)
            obtain ⟨b, hb, d0, d1, d2, d3⟩ := (HL.out.keep HK2.out (fun _ _ h => h)) m (by have := HN.out; omega)
            obtain rfl := Option.some.inj hb
            obtain ⟨s, hs⟩ : ∃ s, s = l.getD m Rec.none := ⟨_, rfl⟩
            rw [← hs] at d0 d1 d2 d3
            have HSs := Lib.hid hs
            clear hs hb hk0
            have hmn : (m : Int) < (n : Int) := by omega
            have hmn2 : m < n := by omega
            have w1 : IntKind.i64.wrap (m : Int) = (m : Int) := by rw [IntKind.wrap_i64]; omega
            have hm0 : (0 : Int) ≤ (m : Int) := by omega
            have HKn := Lib.hid (HK2.out.alloc (.cells #[.bool r.del, .int .u64 (r.seq : Int), .string (strOfNums r.key), .string (strOfNums r.val)] 31))
            have hd1 := ((Keeps.refl NoBlock wr).alloc (.cells #[.bool r.del, .int .u64 (r.seq : Int), .string (strOfNums r.key), .string (strOfNums r.val)] 31)).cell d1 (fun h => h)
            have hadj : (∀ i, i + 1 < m + 1 + 1 → (l.getD i Rec.none).seq < (l.getD (i + 1) Rec.none).seq) ↔ s.seq < r.seq := by
              constructor
              · intro h
                have := h m (by omega)
                rw [← HRr.out, ← HSs.out] at this
                exact this
              · intro h i hi
                by_cases he : i = m
                · rw [he, ← HRr.out, ← HSs.out]
                  exact h
                · exact HA2.out i (by omega)
            have hbad : ¬ s.seq < r.seq → risingR l = 8 := fun h => by
              have hr : risesR l ≠ true := fun e => h (by
                have := rises_adj.1 e m (by have := HN.out; omega)
                rwa [← HRr.out, ← HSs.out] at this)
              unfold risingR
              rw [HB.out, if_neg (by simp), if_neg hr]
            have HAd := Lib.hid hadj
            have HBd := Lib.hid hbad
            clear hadj hbad
            by_cases hsr : s.seq < r.seq
            · have hdd : decide ((r.seq : Int) ≤ (s.seq : Int)) = false := decide_eq_false (by omega)
              go_wp2_with fail
              obtain ⟨W, hW⟩ : ∃ W, W = wr.alloc (.cells #[.bool r.del, .int .u64 (r.seq : Int), .string (strOfNums r.key), .string (strOfNums r.val)] 31) := ⟨_, rfl⟩
              rw [← hW] at HKn hd1 ⊢
              have hw1 : W.cell? ⟨wr.heap.size, 1, none⟩ = some (.int .u64 (r.seq : Int)) := by rw [hW]; exact Whole.cell (Whole.new wr _ _) 1 rfl
              clear hW
              have s0 : W.drew.cell? ⟨wr.heap.size, 1, none⟩ = some (.int .u64 (r.seq : Int)) ∧ W.drew.cell? ⟨(a.add (m * 4)).block, (a.add (m * 4)).off + 1, none⟩ = some (.int .u64 (s.seq : Int)) := ⟨hw1, hd1⟩
              go_region_held3 (fun w' => w'.cell? ⟨wr.heap.size, 1, none⟩ = some (.int .u64 (r.seq : Int)) ∧ w'.cell? ⟨(a.add (m * 4)).block, (a.add (m * 4)).off + 1, none⟩ = some (.int .u64 (s.seq : Int)))
                (first | exact s0 | exact ⟨hw1, hd1⟩)
                (fail)
              go_wp2_with fail
              exact ⟨⟨m + 1 + 1, by omega, by go_num, Lib.hid (HAd.out.2 hsr), by first | exact HKn.out | exact HKn.out.drew⟩, by simp [intOf]; omega⟩
            · have hdd : decide ((r.seq : Int) ≤ (s.seq : Int)) = true := decide_eq_true (by omega)
              have HRz := Lib.hid (HBd.out hsr)
              go_wp2_with fail
              obtain ⟨W, hW⟩ : ∃ W, W = wr.alloc (.cells #[.bool r.del, .int .u64 (r.seq : Int), .string (strOfNums r.key), .string (strOfNums r.val)] 31) := ⟨_, rfl⟩
              rw [← hW] at HKn hd1 ⊢
              have hw1 : W.cell? ⟨wr.heap.size, 1, none⟩ = some (.int .u64 (r.seq : Int)) := by rw [hW]; exact Whole.cell (Whole.new wr _ _) 1 rfl
              clear hW
              have s0 : W.drew.cell? ⟨wr.heap.size, 1, none⟩ = some (.int .u64 (r.seq : Int)) ∧ W.drew.cell? ⟨(a.add (m * 4)).block, (a.add (m * 4)).off + 1, none⟩ = some (.int .u64 (s.seq : Int)) := ⟨hw1, hd1⟩
              go_region_held3 (fun w' => w'.cell? ⟨wr.heap.size, 1, none⟩ = some (.int .u64 (r.seq : Int)) ∧ w'.cell? ⟨(a.add (m * 4)).block, (a.add (m * 4)).off + 1, none⟩ = some (.int .u64 (s.seq : Int)))
                (first | exact s0 | exact ⟨hw1, hd1⟩)
                (fail)
              go_wp2_with fail
              go_ret
              rw [HRz.out]
              exact ⟨rfl, by first | exact HKn.out | exact HKn.out.drew⟩
        · have hdk : decide ((k : Int) < (n : Int)) = false := decide_eq_false (by omega)
          have HRz : Hid (risingR l = 0) := Lib.hid (risingR_zero.2 ⟨HB.out, rises_adj.2 (fun i hi => HA2.out i (by have := HN.out; omega))⟩)
          go_wp2_with fail
          go_ret
          rw [HRz.out]
          exact ⟨rfl, HK2.out⟩
end Go.Proofs.Ytldogkmmnamjbaa

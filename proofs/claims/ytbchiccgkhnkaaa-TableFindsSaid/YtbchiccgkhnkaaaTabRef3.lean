/-
  The document's Sorted, Find of entries; the laws' Same, hashes.
-/
import Derived.Test.YtbchiccgkhnkaaaTabRef2
import Derived.Deep.RegionHeld3
namespace Go.Proofs.Ytbchiccgkhnkaaa
open Go.RowKit

theorem sortE_step {l : List En} {j : Nat} (hj : j < l.length) : putE (sortE (l.take j)) (l.getD j En.none) = sortE (l.take (j + 1)) := by
  rw [take_getD hj, sortE_snoc]

set_option maxHeartbeats 4000000 in
set_option maxRecDepth 10000 in
theorem sorted11_ref (p : Option Addr) (n c : Nat) (l : List En) (hn : n = l.length) (hn9 : n ≤ 1000000) (w : World) (hl : EnsAt w p l) :
    Calls Try.prog 12 #[.slice p n c] w fun r w' => ∃ v, r = .returned v ∧ NewEns w (sortE l) v w' := by
  have HL := Lib.hid hl
  have HN := Lib.hid hn
  have HPut := Lib.hid (fun p n c l e hn hn9 w hl => put11_ref p n c l e hn hn9 w hl)
  unfold enV at HPut
  clear hl hn
  go_enter Try.func12, Try.ntmps12
  go_wp2_with fail
  go_loopw [3, 8] (fun v i wr => ∃ j : Nat, j ≤ n ∧ i = .int .i64 (j : Int) ∧ Hid (NewEns w (sortE (l.take j)) v wr)) (fun _ i _ => n - (intOf i).toNat)
  case atStart => exact ⟨0, Nat.zero_le _, rfl, Lib.hid (NewTwos.ofNil w w (Keeps.refl _ _))⟩
  case round =>
    obtain ⟨j, hj, rfl, HS⟩ := hrel
    obtain ⟨q, m, d, rfl, hm, hmd, hd, hq, hat, hk⟩ := HS.out
    have HK := Lib.hid hk
    have HAt := Lib.hid hat
    have HM := Lib.hid (show m = (sortE (l.take j)).length ∧ m ≤ j from ⟨hm, by have := sortE_len (l.take j); rw [List.length_take] at this; omega⟩)
    have HQ := Lib.hid hq
    clear hk hat hm hq
    by_cases hlt : j < n
    · have hdj : decide ((j : Int) < (n : Int)) = true := decide_eq_true (by omega)
      have hjl : j < l.length := by rw [← HN.out]; exact hlt
      obtain ⟨a, rfl, c0, c1⟩ := (HL.out.keep HK.out).at_ j hjl
      have HT := Lib.hid (sortE_step hjl)
      obtain ⟨r, hr⟩ : ∃ r, r = l.getD j En.none := ⟨_, rfl⟩
      rw [← hr] at c0 c1 HT
      have HP := Lib.hid (fun w hl => HPut.out q m d (sortE (l.take j)) r HM.out.1 (by have := HM.out.2; omega) w hl)
      rw [HT.out] at HP
      clear hr hjl
      go_wp2_with fail
      refine (HP.out _ (EnsAt.keep HAt.out ((Keeps.refl NoBlock wr).alloc _))).mono ?_
      rintro e w2 ⟨v2, rfl, q2, m2, d2, rfl, h1, h2, h3, h4, h5, h6⟩
      have HN2 := Lib.hid (show NewEns w (sortE (l.take (j + 1))) (.slice q2 m2 d2) w2 from ⟨q2, m2, d2, rfl, h1, h2, h3, h4, h5, (HK.out.alloc _).trans h6⟩)
      clear h1 h2 h3 h4 h5 h6
      go_wp2_with fail
      exact ⟨⟨j + 1, by omega, by go_num, HN2⟩, by simp [intOf]; omega⟩
    · have hdj : decide ((j : Int) < (n : Int)) = false := decide_eq_false (by omega)
      have HS2 := HS
      rw [List.take_of_length_le (by have := HN.out; omega)] at HS2
      go_wp2_with fail
      go_ret
      exact ⟨_, rfl, HS2.out⟩

theorem findE_take {l : List En} {h j : Nat} (hj : j < l.length) : findE (l.take (j + 1)) h = ((findE (l.take j) h).1 + (if (l.getD j En.none).hash < h then 1 else 0), (findE (l.take j) h).2 + (if (l.getD j En.none).hash ≤ h then 1 else 0)) := by
  unfold findE
  rw [take_getD hj, List.countP_append, List.countP_append, List.countP_cons, List.countP_cons]
  simp
theorem findE_le (l : List En) (h : Nat) : (findE l h).1 ≤ l.length ∧ (findE l h).2 ≤ l.length := ⟨List.countP_le_length, List.countP_le_length⟩

set_option maxHeartbeats 4000000 in
set_option maxRecDepth 10000 in
theorem find11_ref (p : Option Addr) (n c : Nat) (l : List En) (h : Nat) (hn : n = l.length) (hn9 : n ≤ 1000000) (w : World) (hl : EnsAt w p l) :
    Calls Try.prog 27 #[.slice p n c, .int .u64 (h : Int)] w fun r w' => r = .returned (.tuple #[.int .i64 ((findE l h).1 : Int), .int .i64 ((findE l h).2 : Int)]) ∧ Keeps NoBlock w w' := by
  have HL := Lib.hid hl
  have HN := Lib.hid hn
  clear hl hn
  go_enter Try.func27, Try.ntmps27
  go_wp2_with fail
  go_loopw [6, 7, 12] (fun x y i wr => ∃ j A B : Nat, j ≤ n ∧ i = .int .i64 (j : Int) ∧ x = .int .i64 (A : Int) ∧ y = .int .i64 (B : Int) ∧ findE (l.take j) h = (A, B) ∧ Keeps NoBlock w wr) (fun _ _ i _ => n - (intOf i).toNat)
  case atStart => exact ⟨0, 0, 0, Nat.zero_le _, rfl, rfl, rfl, rfl, Keeps.refl _ _⟩
  case round =>
    obtain ⟨j, A, B, hj, rfl, rfl, rfl, hf, hk⟩ := hrel
    have HF := Lib.hid hf
    have HK := Lib.hid hk
    clear hf hk
    by_cases hlt : j < n
    · have hdj : decide ((j : Int) < (n : Int)) = true := decide_eq_true (by omega)
      have hjl : j < l.length := by rw [← HN.out]; exact hlt
      obtain ⟨a, rfl, c0, c1⟩ := (HL.out.keep HK.out).at_ j hjl
      have HT := Lib.hid (findE_take (h := h) hjl)
      have hAB := findE_le (l.take j) h
      rw [HF.out, List.length_take] at hAB
      have hA : A ≤ 1000000 := by have := hAB.1; omega
      have hB : B ≤ 1000000 := by have := hAB.2; omega
      rw [HF.out] at HT
      obtain ⟨r, hr⟩ : ∃ r, r = l.getD j En.none := ⟨_, rfl⟩
      rw [← hr] at c0 c1 HT
      have HK2 := Lib.hid (HK.out.alloc (.cells #[.int .u64 (r.hash : Int), .int .u32 (r.at_ : Int)] 69))
      clear hr hjl hAB
      by_cases h1 : r.hash < h
      · have d1 : decide ((r.hash : Int) < (h : Int)) = true := decide_eq_true (by omega)
        have d2 : decide (r.hash < h) = true := decide_eq_true h1
        have d3 : decide ((r.hash : Int) ≤ (h : Int)) = true := decide_eq_true (by omega)
        have d4 : decide (r.hash ≤ h) = true := decide_eq_true (by omega)
        have d5 : r.hash ≤ h := by omega
        rw [if_pos h1, if_pos d5] at HT
        go_wp2_with fail
        exact ⟨⟨j + 1, A + 1, B + 1, by omega, by go_num, by first | rfl | go_num, by first | rfl | go_num, HT.out.trans (by simp), HK2.out⟩, by simp [intOf]; omega⟩
      · have d1 : decide ((r.hash : Int) < (h : Int)) = false := decide_eq_false (by omega)
        have d2 : decide (r.hash < h) = false := decide_eq_false h1
        by_cases h2 : r.hash ≤ h
        · have d3 : decide ((r.hash : Int) ≤ (h : Int)) = true := decide_eq_true (by omega)
          have d4 : decide (r.hash ≤ h) = true := decide_eq_true h2
          rw [if_neg h1, if_pos h2] at HT
          go_wp2_with fail
          exact ⟨⟨j + 1, A, B + 1, by omega, by go_num, by first | rfl | go_num, by first | rfl | go_num, HT.out.trans (by simp), HK2.out⟩, by simp [intOf]; omega⟩
        · have d3 : decide ((r.hash : Int) ≤ (h : Int)) = false := decide_eq_false (by omega)
          have d4 : decide (r.hash ≤ h) = false := decide_eq_false h2
          rw [if_neg h1, if_neg h2] at HT
          go_wp2_with fail
          exact ⟨⟨j + 1, A, B, by omega, by go_num, by first | rfl | go_num, by first | rfl | go_num, HT.out.trans (by simp), HK2.out⟩, by simp [intOf]; omega⟩
    · have hdj : decide ((j : Int) < (n : Int)) = false := decide_eq_false (by omega)
      have HF2 := HF
      rw [List.take_of_length_le (by have := HN.out; omega)] at HF2
      go_wp2_with fail
      refine bodyPost_ret (results_tmp2 rfl _ _ _) rfl ?_
      rw [HF2.out]
      exact ⟨rfl, HK.out⟩

theorem risesE_adj : ∀ {l : List En}, risesE l = true ↔ ∀ i, i + 1 < l.length → LessE (l.getD i En.none) (l.getD (i + 1) En.none)
  | [] => by simp [risesE]
  | [a] => by simp [risesE]
  | a :: b :: l => by
    rw [risesE, Bool.and_eq_true, risesE_adj (l := b :: l), decide_eq_true_eq]
    constructor
    · rintro ⟨h1, h2⟩ i hi
      cases i with
      | zero => exact h1
      | succ i => exact h2 i (by simpa using hi)
    · intro h
      exact ⟨h 0 (by simp), fun i hi => h (i + 1) (by simpa using hi)⟩

set_option maxHeartbeats 8000000 in
set_option maxRecDepth 10000 in
theorem rising11_ref (p : Option Addr) (n c : Nat) (l : List En) (hn : n = l.length) (hn9 : n ≤ 1000000) (w : World) (hl : EnsAt w p l) :
    Calls Try.prog 15 #[.slice p n c] w fun e w' => e = .returned (.bool (risesE l)) ∧ Keeps NoBlock w w' := by
  have HL := Lib.hid hl
  have HN := Lib.hid hn
  have HLess := Lib.hid (fun a b w => less_ref a b w)
  unfold enV at HLess
  clear hl hn
  go_enter Try.func15, Try.ntmps15
  go_wp2_with fail
  go_loopw [6] (fun i wr => ∃ k : Nat, k ≤ n ∧ i = .int .i64 (k : Int) ∧ Hid (∀ i, i + 1 < k → LessE (l.getD i En.none) (l.getD (i + 1) En.none)) ∧ Keeps NoBlock w wr) (fun i _ => n - (intOf i).toNat)
  case atStart => exact ⟨0, Nat.zero_le _, rfl, Lib.hid (fun i h => by omega), Keeps.refl _ _⟩
  case round =>
    obtain ⟨k, hk, rfl, HA, hkk⟩ := hrel
    have HK := Lib.hid hkk
    clear hkk
    by_cases hlt : k < n
    · have hdk : decide ((k : Int) < (n : Int)) = true := decide_eq_true (by omega)
      have hkl : k < l.length := by rw [← HN.out]; exact hlt
      obtain ⟨a, rfl, c0, c1⟩ := (HL.out.keep HK.out).at_ k hkl
      have HRr := Lib.hid (rfl : l.getD k En.none = l.getD k En.none)
      obtain ⟨r, hr⟩ : ∃ r, r = l.getD k En.none := ⟨_, rfl⟩
      rw [← hr] at c0 c1
      have HRr := Lib.hid hr
      clear hr hkl
      by_cases hk0 : k = 0
      · have hkp : decide ((0 : Int) < (k : Int)) = false := decide_eq_false (by omega)
        have hkp2 : decide (0 < k) = false := decide_eq_false (by omega)
        have HK0 := Lib.hid hk0
        clear hk0
        go_wp2_with fail
        go_region
        go_wp2_with fail
        exact ⟨⟨k + 1, by omega, by go_num, Lib.hid (fun i h => by have := HK0.out; omega), by first | exact HK.out | exact HK.out.drew⟩, by simp [intOf]; omega⟩
      · obtain ⟨m, rfl⟩ : ∃ m, k = m + 1 := ⟨k - 1, by omega⟩
        have hkp : decide ((0 : Int) < ((m + 1 : Nat) : Int)) = true := decide_eq_true (by omega)
        have hkp2 : decide ((0 : Int) < (m : Int) + 1) = true := decide_eq_true (by omega)
        obtain ⟨b, hb, d0, d1⟩ := (HL.out.keep HK.out).at_ m (by have := HN.out; omega)
        obtain rfl := Option.some.inj hb
        obtain ⟨s, hs⟩ : ∃ s, s = l.getD m En.none := ⟨_, rfl⟩
        rw [← hs] at d0 d1
        have HSs := Lib.hid hs
        clear hs hb hk0
        have hmn : (m : Int) < (n : Int) := by omega
        have hmn2 : m < n := by omega
        have hmn3 : (m : Int) + 1 < (n : Int) := by omega
        have hm3 : (0 : Int) ≤ (m : Int) + 1 := by omega
        have hm4 : ((m : Int) + 1).toNat = m + 1 := by omega
        have w1 : IntKind.i64.wrap (m : Int) = (m : Int) := by rw [IntKind.wrap_i64]; omega
        have hm0 : (0 : Int) ≤ (m : Int) := by omega
        have hadj : (∀ i, i + 1 < m + 1 + 1 → LessE (l.getD i En.none) (l.getD (i + 1) En.none)) ↔ LessE s r := by
          constructor
          · intro h
            have := h m (by omega)
            rw [← HRr.out, ← HSs.out] at this
            exact this
          · intro h i hi
            by_cases he : i = m
            · rw [he, ← HRr.out, ← HSs.out]
              exact h
            · exact HA.out i (by omega)
        have hbad : ¬ LessE s r → risesE l = false := fun h => by
          cases hr : risesE l
          · rfl
          · refine absurd ?_ h
            have := risesE_adj.1 hr m (by have := HN.out; omega)
            rwa [← HRr.out, ← HSs.out] at this
        have HAd := Lib.hid hadj
        have HBd := Lib.hid hbad
        have HLe := Lib.hid (fun w => HLess.out s r w)
        clear hadj hbad
        by_cases hsr : LessE s r
        · rw [decide_eq_true hsr] at HLe
          have HSr := Lib.hid hsr
          clear hsr
          have sN : wr.cell? (a.add ((m + 1) * 2)) = some (.int .u64 (r.hash : Int)) ∧ wr.cell? ⟨(a.add ((m + 1) * 2)).block, (a.add ((m + 1) * 2)).off + 1, none⟩ = some (.int .u32 (r.at_ : Int)) ∧ wr.cell? (a.add (m * 2)) = some (.int .u64 (s.hash : Int)) ∧ wr.cell? ⟨(a.add (m * 2)).block, (a.add (m * 2)).off + 1, none⟩ = some (.int .u32 (s.at_ : Int)) := ⟨c0, c1, d0, d1⟩
          have s0 : wr.drew.cell? (a.add ((m + 1) * 2)) = some (.int .u64 (r.hash : Int)) ∧ wr.drew.cell? ⟨(a.add ((m + 1) * 2)).block, (a.add ((m + 1) * 2)).off + 1, none⟩ = some (.int .u32 (r.at_ : Int)) ∧ wr.drew.cell? (a.add (m * 2)) = some (.int .u64 (s.hash : Int)) ∧ wr.drew.cell? ⟨(a.add (m * 2)).block, (a.add (m * 2)).off + 1, none⟩ = some (.int .u32 (s.at_ : Int)) := ⟨c0, c1, d0, d1⟩
          have HSN := Lib.hid sN
          go_wp2_with fail
          go_region_held3 (fun w' => w'.cell? (a.add ((m + 1) * 2)) = some (.int .u64 (r.hash : Int)) ∧ w'.cell? ⟨(a.add ((m + 1) * 2)).block, (a.add ((m + 1) * 2)).off + 1, none⟩ = some (.int .u32 (r.at_ : Int)) ∧ w'.cell? (a.add (m * 2)) = some (.int .u64 (s.hash : Int)) ∧ w'.cell? ⟨(a.add (m * 2)).block, (a.add (m * 2)).off + 1, none⟩ = some (.int .u32 (s.at_ : Int)))
            (first | exact s5 | exact s0 | exact sN)
            (first | (go_at_call 37; refine (HLe.out _).mono ?_; rintro e w5 ⟨rfl, hk⟩; have hk' : Keeps NoBlock wr w5 := (by first | exact hk | exact hk.ofDrew | exact hk.ofDrewN); have HK5 := Lib.hid (HK.out.trans hk'); have s5 : w5.cell? (a.add ((m + 1) * 2)) = some (.int .u64 (r.hash : Int)) ∧ w5.cell? ⟨(a.add ((m + 1) * 2)).block, (a.add ((m + 1) * 2)).off + 1, none⟩ = some (.int .u32 (r.at_ : Int)) ∧ w5.cell? (a.add (m * 2)) = some (.int .u64 (s.hash : Int)) ∧ w5.cell? ⟨(a.add (m * 2)).block, (a.add (m * 2)).off + 1, none⟩ = some (.int .u32 (s.at_ : Int)) := ⟨hk'.cell HSN.out.1 (fun h => h), hk'.cell HSN.out.2.1 (fun h => h), hk'.cell HSN.out.2.2.1 (fun h => h), hk'.cell HSN.out.2.2.2 (fun h => h)⟩; clear hk hk'))
          go_wp2_with fail
          exact ⟨⟨m + 1 + 1, by omega, by go_num, Lib.hid (HAd.out.2 HSr.out), HK5.out⟩, by simp [intOf]; omega⟩
        · rw [decide_eq_false hsr] at HLe
          have HRz := Lib.hid (HBd.out hsr)
          clear hsr
          have sN : wr.cell? (a.add ((m + 1) * 2)) = some (.int .u64 (r.hash : Int)) ∧ wr.cell? ⟨(a.add ((m + 1) * 2)).block, (a.add ((m + 1) * 2)).off + 1, none⟩ = some (.int .u32 (r.at_ : Int)) ∧ wr.cell? (a.add (m * 2)) = some (.int .u64 (s.hash : Int)) ∧ wr.cell? ⟨(a.add (m * 2)).block, (a.add (m * 2)).off + 1, none⟩ = some (.int .u32 (s.at_ : Int)) := ⟨c0, c1, d0, d1⟩
          have s0 : wr.drew.cell? (a.add ((m + 1) * 2)) = some (.int .u64 (r.hash : Int)) ∧ wr.drew.cell? ⟨(a.add ((m + 1) * 2)).block, (a.add ((m + 1) * 2)).off + 1, none⟩ = some (.int .u32 (r.at_ : Int)) ∧ wr.drew.cell? (a.add (m * 2)) = some (.int .u64 (s.hash : Int)) ∧ wr.drew.cell? ⟨(a.add (m * 2)).block, (a.add (m * 2)).off + 1, none⟩ = some (.int .u32 (s.at_ : Int)) := ⟨c0, c1, d0, d1⟩
          have HSN := Lib.hid sN
          go_wp2_with fail
          go_region_held3 (fun w' => w'.cell? (a.add ((m + 1) * 2)) = some (.int .u64 (r.hash : Int)) ∧ w'.cell? ⟨(a.add ((m + 1) * 2)).block, (a.add ((m + 1) * 2)).off + 1, none⟩ = some (.int .u32 (r.at_ : Int)) ∧ w'.cell? (a.add (m * 2)) = some (.int .u64 (s.hash : Int)) ∧ w'.cell? ⟨(a.add (m * 2)).block, (a.add (m * 2)).off + 1, none⟩ = some (.int .u32 (s.at_ : Int)))
            (first | exact s5 | exact s0 | exact sN)
            (first | (go_at_call 37; refine (HLe.out _).mono ?_; rintro e w5 ⟨rfl, hk⟩; have hk' : Keeps NoBlock wr w5 := (by first | exact hk | exact hk.ofDrew | exact hk.ofDrewN); have HK5 := Lib.hid (HK.out.trans hk'); have s5 : w5.cell? (a.add ((m + 1) * 2)) = some (.int .u64 (r.hash : Int)) ∧ w5.cell? ⟨(a.add ((m + 1) * 2)).block, (a.add ((m + 1) * 2)).off + 1, none⟩ = some (.int .u32 (r.at_ : Int)) ∧ w5.cell? (a.add (m * 2)) = some (.int .u64 (s.hash : Int)) ∧ w5.cell? ⟨(a.add (m * 2)).block, (a.add (m * 2)).off + 1, none⟩ = some (.int .u32 (s.at_ : Int)) := ⟨hk'.cell HSN.out.1 (fun h => h), hk'.cell HSN.out.2.1 (fun h => h), hk'.cell HSN.out.2.2.1 (fun h => h), hk'.cell HSN.out.2.2.2 (fun h => h)⟩; clear hk hk'))
          go_wp2_with fail
          go_ret
          rw [HRz.out]
          exact ⟨rfl, HK5.out⟩
    · have hdk : decide ((k : Int) < (n : Int)) = false := decide_eq_false (by omega)
      have HRz : Hid (risesE l = true) := Lib.hid (risesE_adj.2 (fun i hi => HA.out i (by have := HN.out; omega)))
      go_wp2_with fail
      go_ret
      rw [HRz.out]
      exact ⟨rfl, HK.out⟩

theorem textE_take {l : List En} {j : Nat} (hj : j < l.length) : textE (l.take (j + 1)) = textE (l.take j) ++ (digits ((l.getD j En.none).hash : Int) 8 ++ digits ((l.getD j En.none).at_ : Int) 4) := by
  rw [take_getD hj, textE_snoc]

set_option maxHeartbeats 4000000 in
set_option maxRecDepth 10000 in
theorem text11_ref (p : Option Addr) (n c : Nat) (l : List En) (hn : n = l.length) (hn9 : n ≤ 1000000) (hf : ∀ e ∈ l, e.Fine) (w : World) (hl : EnsAt w p l) :
    Calls Try.prog 22 #[.slice p n c] w fun e w' => e = .returned (.string (strOfNums (textE l))) ∧ Keeps NoBlock w w' := by
  have HL := Lib.hid hl
  have HN := Lib.hid hn
  have HFi := Lib.hid hf
  clear hl hn hf
  go_enter Try.func22, Try.ntmps22
  go_wp2_with fail
  go_loopw [3, 8] (fun x i wr => ∃ j : Nat, j ≤ n ∧ i = .int .i64 (j : Int) ∧ x = .string (strOfNums (textE (l.take j))) ∧ Keeps NoBlock w wr) (fun _ i _ => n - (intOf i).toNat)
  case atStart => exact ⟨0, Nat.zero_le _, rfl, rfl, Keeps.refl _ _⟩
  case round =>
    obtain ⟨j, hj, rfl, rfl, hk⟩ := hrel
    have HK := Lib.hid hk
    clear hk
    by_cases hlt : j < n
    · have hdj : decide ((j : Int) < (n : Int)) = true := decide_eq_true (by omega)
      have hjl : j < l.length := by rw [← HN.out]; exact hlt
      obtain ⟨a, rfl, c0, c1⟩ := (HL.out.keep HK.out).at_ j hjl
      have HT := Lib.hid (textE_take hjl)
      have hfine := HFi.out (l.getD j En.none) (by simp [hjl])
      have hlen : (textE (l.take j)).length ≤ 12000000 := by rw [textE_length, List.length_take]; omega
      obtain ⟨r, hr⟩ : ∃ r, r = l.getD j En.none := ⟨_, rfl⟩
      rw [← hr] at c0 c1 HT hfine
      obtain ⟨A, hA⟩ : ∃ A, A = textE (l.take j) := ⟨_, rfl⟩
      rw [← hA] at HT hlen ⊢
      have wa : IntKind.u64.wrap (r.at_ : Int) = (r.at_ : Int) := by have := hfine.at_; rw [IntKind.wrap_u64]; omega
      have HN8 := Lib.hid (fun w => num_any (r.hash : Int) 8 8 rfl (by decide) (by omega) (by have := hfine.hash; omega) w)
      have HN4 := Lib.hid (fun w => num_any (r.at_ : Int) 4 4 rfl (by decide) (by omega) (by have := hfine.at_; omega) w)
      have z8 := str_size (digits (r.hash : Int) 8)
      have z4 := str_size (digits (r.at_ : Int) 4)
      have zA := str_size A
      rw [digits_length] at z8 z4
      have a1 := str_append A (digits (r.hash : Int) 8)
      have a2 := str_append (A ++ digits (r.hash : Int) 8) (digits (r.at_ : Int) 4)
      have zA8 := str_size (A ++ digits (r.hash : Int) 8)
      rw [List.length_append, digits_length] at zA8
      rw [List.append_assoc, ← HT.out] at a2
      obtain ⟨D8, hD8⟩ : ∃ D8, D8 = digits (r.hash : Int) 8 := ⟨_, rfl⟩
      obtain ⟨D4, hD4⟩ : ∃ D4, D4 = digits (r.at_ : Int) 4 := ⟨_, rfl⟩
      rw [← hD8] at HN8 z8 a1 a2 zA8
      rw [← hD4] at HN4 z4 a2
      obtain ⟨M, hM⟩ : ∃ M, M = A.length := ⟨_, rfl⟩
      rw [← hM] at zA zA8 hlen
      have r1 : ¬ 9223372036854775807 < M + 8 := by omega
      have r2 : ¬ 9223372036854775807 < M + 8 + 4 := by omega
      obtain ⟨A8, hA8⟩ : ∃ A8, A8 = A ++ D8 := ⟨_, rfl⟩
      rw [← hA8] at a1 a2 zA8
      obtain ⟨B, hB⟩ : ∃ B, B = textE (l.take (j + 1)) := ⟨_, rfl⟩
      rw [← hB] at a2
      have HB := Lib.hid hB
      clear hr hjl hfine hA HT hD8 hD4 hM hA8 hB
      go_wp2_with fail
      obtain ⟨W, hW⟩ : ∃ W, W = wr.alloc (.cells #[.int .u64 (r.hash : Int), .int .u32 (r.at_ : Int)] 69) := ⟨_, rfl⟩
      have HR : Hid (Whole W wr.heap.size 69 (enCells r)) := Lib.hid (by rw [hW]; exact Whole.new _ _ _)
      have HKW : Hid (Keeps NoBlock w W) := Lib.hid (by rw [hW]; exact HK.out.alloc _)
      rw [← hW]
      clear hW
      have sN : W.cell? ⟨wr.heap.size, 0, none⟩ = some (.int .u64 (r.hash : Int)) ∧ W.cell? ⟨wr.heap.size, 1, none⟩ = some (.int .u32 (r.at_ : Int)) := ⟨HR.out.cell 0 rfl, HR.out.cell 1 rfl⟩
      have s0 : W.drew.cell? ⟨wr.heap.size, 0, none⟩ = some (.int .u64 (r.hash : Int)) ∧ W.drew.cell? ⟨wr.heap.size, 1, none⟩ = some (.int .u32 (r.at_ : Int)) := sN
      go_region_held3 (fun w' => w'.cell? ⟨wr.heap.size, 0, none⟩ = some (.int .u64 (r.hash : Int)) ∧ w'.cell? ⟨wr.heap.size, 1, none⟩ = some (.int .u32 (r.at_ : Int)))
        (first | exact s5 | exact s0 | exact sN)
        (first | (go_at_call 46; (first | (with_reducible refine (HN8.out _).mono ?_) | (with_reducible refine (HN4.out _).mono ?_)); rintro e w5 ⟨rfl, hk⟩; have hk' : Keeps NoBlock W w5 := (by first | exact hk | exact hk.ofDrew | exact hk.ofDrewN); have HKW := Lib.hid (HKW.out.trans hk'); have HR := Lib.hid (HR.out.keep hk' (fun h => h)); have s5 : w5.cell? ⟨wr.heap.size, 0, none⟩ = some (.int .u64 (r.hash : Int)) ∧ w5.cell? ⟨wr.heap.size, 1, none⟩ = some (.int .u32 (r.at_ : Int)) := ⟨HR.out.cell 0 rfl, HR.out.cell 1 rfl⟩; clear hk hk'; obtain ⟨W, rfl⟩ : ∃ x, x = w5 := ⟨_, rfl⟩))
      go_wp2_with fail
      exact ⟨⟨j + 1, by omega, by go_num, by rw [HB.out], HKW.out⟩, by simp [intOf]; omega⟩
    · have hdj : decide ((j : Int) < (n : Int)) = false := decide_eq_false (by omega)
      have hT : l.take j = l := List.take_of_length_le (by have := HN.out; omega)
      rw [hT]
      clear hT
      go_wp2_with fail
      go_ret
      exact ⟨rfl, HK.out⟩
end Go.Proofs.Ytbchiccgkhnkaaa

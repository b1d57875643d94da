/-
  FenOf; FenRange; FenOfWalk; FenGetN; FenGetT; CurD.
-/
import Derived.RegionTactic
import Derived.BigRegion
import Derived.ChangeAlike
import Derived.LaidEqlPtr
import Derived.Lib.Builder
import Derived.Test.YtidhcmamfdipiaaM02
import Derived.Test.YtidhcmamfdipiaaM03
import Derived.Test.YtidhcmamfdipiaaM04
import Derived.Test.YtidhcmamfdipiaaM05
import Derived.Test.YtidhcmamfdipiaaM07
import Derived.Test.YtidhcmamfdipiaaM08
namespace Go.Proofs.Ytidhcmamfdipiaa
open Go.RowKit

set_option maxHeartbeats 4000000 in
set_option maxRecDepth 10000 in
theorem of12_ref (p : Option Addr) (n c : Nat) (l : List En) (hn : n = l.length) (hn9 : n ≤ 1000000) (w : World) (hl : EnsAt w p l) :
    Calls Try.prog 10 #[.slice p n c] w fun e w' => ∃ v, e = .returned v ∧ NumsSoFar w (ofF l) v w' := by
  obtain ⟨i0, hi, hz0, hz1, hz2⟩ := info_parts infoU64
  have HL := Lib.hid hl
  have HN := Lib.hid hn
  clear hl hn
  go_enter Try.func10, Try.ntmps10
  go_wp2_with fail
  go_loopw [3, 8] (fun v i wr => ∃ j : Nat, j ≤ n ∧ i = .int .i64 (j : Int) ∧ Hid (NumsSoFar w (ofF (l.take j)) v wr)) (fun _ i _ => n - (intOf i).toNat)
  case atStart => exact ⟨0, Nat.zero_le _, rfl, Lib.hid ⟨World.ownsRow_nil _ _ _ _, Below.refl _ _⟩⟩
  case round =>
    obtain ⟨j, hj, rfl, HS⟩ := hrel
    by_cases hlt : j < n
    · have hdj : decide ((j : Int) < (n : Int)) = true := decide_eq_true (by omega)
      have hjl : j < l.length := by rw [← HN.out]; exact hlt
      obtain ⟨a, rfl, c0, c1⟩ := (HL.out.keep (Keeps.ofBelow HS.out.2)).at_ j hjl
      have hlk : (l.take j).length = j := by rw [List.length_take]; omega
      have HT := Lib.hid (ofF_snoc (l.take j) (l.getD j En.none))
      rw [hlk, ← take_getD hjl] at HT
      have hlen : (ofF (l.take j)).length ≤ 1000000 := by rw [ofF_length, hlk]; omega
      have htm : (j : Int).tmod 16 = ((j % 16 : Nat) : Int) := by rw [Int.tmod_eq_emod_of_nonneg (by omega)]; omega
      obtain ⟨m, hm⟩ : ∃ m, m = j % 16 := ⟨_, rfl⟩
      rw [← hm] at htm HT
      obtain ⟨r, hr⟩ : ∃ r, r = l.getD j En.none := ⟨_, rfl⟩
      rw [← hr] at c0 c1 HT
      obtain ⟨K, hK⟩ : ∃ K, K = ofF (l.take j) := ⟨_, rfl⟩
      rw [← hK] at HS HT hlen
      have HLn := Lib.hid hlen
      have HM := Lib.hid hm
      have HS1 := Lib.hid (HS.out.alloc (.cells #[.int .u64 (r.hash : Int), .int .u32 (r.at_ : Int)] 66))
      have htm2 : (j : Int) % 16 = (m : Int) := by omega
      clear hr hjl hlen hK hlk hm
      by_cases h0 : m = 0
      · subst h0
        rw [if_pos rfl] at HT
        have HS2 := Lib.hid (HS1.out.alloc (.cells #[.int .u64 (r.hash : Int)] 23))
        have HW : Hid (Whole ((wr.alloc (.cells #[.int .u64 (r.hash : Int), .int .u32 (r.at_ : Int)] 66)).alloc (.cells #[.int .u64 (r.hash : Int)] 23)) (wr.heap.size + 1) 23 #[.int .u64 (r.hash : Int)]) := Lib.hid (Whole.newAt _ _ _ _ (by simp))
        go_wp2_with (at_builtin; refine wpList_append_any rfl _ _ 26 rfl w.heap.size 23 i0 (.int .u64 0) 1 8 Try.underlying26 hi hz0 hz1 hz2 rfl (by decide) _ K.length (K.map numV) rfl HS2.out.1 (some ⟨wr.heap.size + 1, 0, none⟩) 1 1 [numV r.hash] rfl (fun h => by simp at h) rfl ?qc1 (by intro u hu; simp at hu; subst hu; rfl) (by have := HLn.out; unfold maxLen; omega) (by have := HLn.out; omega) HS2.out.2.size ?_)
        case qc1 =>
          intro ad had j' u hu
          obtain rfl := Option.some.inj had
          rw [Addr.add_lit, Nat.zero_add]
          match j', hu with
          | 0, hu => obtain rfl := Option.some.inj hu; exact HW.out.cell 0 rfl
          | k + 1, hu => simp at hu
        intro v' w5 h5 hb5
        have HS5 : Hid (NumsSoFar w (ofF (l.take (j + 1))) v' w5) := Lib.hid (by
          refine ⟨?_, HS2.out.2.trans hb5⟩
          rw [HT.out, List.map_append, List.length_append]
          exact h5)
        clear h5 hb5
        go_wp2_with fail
        exact ⟨⟨j + 1, by omega, by go_num, HS5⟩, by simp [intOf]; omega⟩
      · have hd0 : ((m : Int) == 0) = false := by rw [beq_eq_false_iff_ne]; omega
        have hd1 : (m == 0) = false := by rw [beq_eq_false_iff_ne]; exact h0
        have hd2 : decide (m = 0) = false := decide_eq_false h0
        rw [if_neg h0] at HT
        rw [← HT.out] at HS1
        go_wp2_with fail
        exact ⟨⟨j + 1, by omega, by go_num, HS1⟩, by simp [intOf]; omega⟩
    · have hdj : decide ((j : Int) < (n : Int)) = false := decide_eq_false (by omega)
      have HS2 := HS
      rw [List.take_of_length_le (by have := HN.out; omega)] at HS2
      go_wp2_with fail
      go_ret
      exact ⟨_, rfl, HS2.out⟩
end Go.Proofs.Ytidhcmamfdipiaa

namespace Go.Proofs.Ytidhcmamfdipiaa
open Go.RowKit

/-- How many are below, how many aren't above. -/
def twoF (fs : List Nat) (h : Nat) : Nat × Nat := (fs.countP fun f => decide (f < h), fs.countP fun f => decide (f ≤ h))
theorem twoF_take {l : List Nat} {h j : Nat} (hj : j < l.length) : twoF (l.take (j + 1)) h = ((twoF (l.take j) h).1 + (if l.getD j 0 < h then 1 else 0), (twoF (l.take j) h).2 + (if l.getD j 0 ≤ h then 1 else 0)) := by
  unfold twoF
  have e : l.take (j + 1) = l.take j ++ [l.getD j 0] := by rw [List.take_succ_eq_append_getElem hj]; simp [hj]
  rw [e, List.countP_append, List.countP_append, List.countP_cons, List.countP_cons]
  simp
theorem twoF_le (l : List Nat) (h : Nat) : (twoF l h).1 ≤ l.length ∧ (twoF l h).2 ≤ l.length := ⟨List.countP_le_length, List.countP_le_length⟩
theorem rangeF_two (l : List Nat) (N h : Nat) : rangeF l N h = if (twoF l h).2 = 0 then (0, 0) else (16 * ((twoF l h).1 - 1), min N (16 * (twoF l h).2)) := rfl

theorem two_ret {a b x y : Int} (h1 : a = x) (h2 : b = y) : Ending.returned (.tuple #[.int .i64 a, .int .i64 b]) = .returned (.tuple #[.int .i64 x, .int .i64 y]) := by rw [h1, h2]

set_option maxHeartbeats 8000000 in
set_option maxRecDepth 10000 in
theorem range12_ref (p : Option Addr) (n c : Nat) (l : List Nat) (N h : Nat) (hn : n = l.length) (hn9 : n ≤ 1000000) (w : World) (hl : RowN w p l) :
    Calls Try.prog 15 #[.slice p n c, .int .i64 (N : Int), .int .u64 (h : Int)] w fun r w' => r = .returned (.tuple #[.int .i64 ((rangeF l N h).1 : Int), .int .i64 ((rangeF l N h).2 : Int)]) ∧ Keeps NoBlock w w' := by
  have HL := Lib.hid hl
  have HN := Lib.hid hn
  have HR := Lib.hid (rangeF_two l N h)
  obtain ⟨R, hR⟩ : ∃ R, R = rangeF l N h := ⟨_, rfl⟩
  rw [← hR] at HR ⊢
  clear hl hn hR
  go_enter Try.func15, Try.ntmps15
  go_wp2_with fail
  go_loopw [8, 9, 14] (fun x y i wr => ∃ j A B : Nat, j ≤ n ∧ i = .int .i64 (j : Int) ∧ x = .int .i64 (A : Int) ∧ y = .int .i64 (B : Int) ∧ twoF (l.take j) h = (A, B) ∧ Keeps NoBlock w wr) (fun _ _ i _ => n - (intOf i).toNat)
  case atStart => exact ⟨0, 0, 0, Nat.zero_le _, rfl, rfl, rfl, rfl, Keeps.refl _ _⟩
  case round =>
    obtain ⟨j, A, B, hj, rfl, rfl, rfl, hf, hk⟩ := hrel
    have HF := Lib.hid hf
    have HK := Lib.hid hk
    clear hf hk
    have hAB := twoF_le (l.take j) h
    rw [HF.out, List.length_take] at hAB
    have hA : A ≤ 1000000 := by have := hAB.1; omega
    have hB : B ≤ 1000000 := by have := hAB.2; omega
    clear hAB
    by_cases hlt : j < n
    · have hdj : decide ((j : Int) < (n : Int)) = true := decide_eq_true (by omega)
      have hjl : j < l.length := by rw [← HN.out]; exact hlt
      obtain ⟨a, rfl, c0⟩ := (RowN.keep HL.out HK.out (fun _ _ h => h)) j hjl
      have HT := Lib.hid (twoF_take (h := h) hjl)
      rw [HF.out] at HT
      obtain ⟨r, hr⟩ : ∃ r, r = l.getD j 0 := ⟨_, rfl⟩
      rw [← hr] at c0 HT
      clear hr hjl
      by_cases h1 : r < h
      · have d1 : decide ((r : Int) < (h : Int)) = true := decide_eq_true (by omega)
        have d2 : decide (r < h) = true := decide_eq_true h1
        have d3 : decide ((r : Int) ≤ (h : Int)) = true := decide_eq_true (by omega)
        have d4 : decide (r ≤ h) = true := decide_eq_true (by omega)
        have d5 : r ≤ h := by omega
        rw [if_pos h1, if_pos d5] at HT
        go_wp2_with fail
        exact ⟨⟨j + 1, A + 1, B + 1, by omega, by go_num, by first | rfl | go_num, by first | rfl | go_num, HT.out.trans (by simp), HK.out⟩, by simp [intOf]; omega⟩
      · have d1 : decide ((r : Int) < (h : Int)) = false := decide_eq_false (by omega)
        have d2 : decide (r < h) = false := decide_eq_false h1
        by_cases h2 : r ≤ h
        · have d3 : decide ((r : Int) ≤ (h : Int)) = true := decide_eq_true (by omega)
          have d4 : decide (r ≤ h) = true := decide_eq_true h2
          rw [if_neg h1, if_pos h2] at HT
          go_wp2_with fail
          exact ⟨⟨j + 1, A, B + 1, by omega, by go_num, by first | rfl | go_num, by first | rfl | go_num, HT.out.trans (by simp), HK.out⟩, by simp [intOf]; omega⟩
        · have d3 : decide ((r : Int) ≤ (h : Int)) = false := decide_eq_false (by omega)
          have d4 : decide (r ≤ h) = false := decide_eq_false h2
          rw [if_neg h1, if_neg h2] at HT
          go_wp2_with fail
          exact ⟨⟨j + 1, A, B, by omega, by go_num, by first | rfl | go_num, by first | rfl | go_num, HT.out.trans (by simp), HK.out⟩, by simp [intOf]; omega⟩
    · have hdj : decide ((j : Int) < (n : Int)) = false := decide_eq_false (by omega)
      have HF2 := HF
      rw [List.take_of_length_le (by have := HN.out; omega)] at HF2
      rw [HF2.out] at HR
      by_cases hz : B = 0
      · subst hz
        rw [if_pos rfl] at HR
        go_wp2_with fail
        refine bodyPost_ret (results_tmp2 rfl _ _ _) rfl ?_
        rw [HR.out]
        exact ⟨rfl, HK.out⟩
      · have hz1 : ((B : Int) == 0) = false := by rw [beq_eq_false_iff_ne]; omega
        have hz2 : (B == 0) = false := by rw [beq_eq_false_iff_ne]; exact hz
        have hz3 : decide (B = 0) = false := decide_eq_false hz
        rw [if_neg hz] at HR
        go_wp2_with fail
        all_goals (
          refine bodyPost_ret (results_tmp2 rfl _ _ _) rfl ?_
          rw [HR.out]
          exact ⟨two_ret (by dsimp only; omega) (by dsimp only; omega), HK.out⟩)
end Go.Proofs.Ytidhcmamfdipiaa

namespace Go.Proofs.Ytidhcmamfdipiaa
open Go.RowKit

theorem rowN_cells {w : World} {q : Option Addr} {l : List Nat} (h : RowN w q l) : ∀ ad, q = some ad → ∀ j u, (l.map numV)[j]? = some u → w.cell? (ad.add j) = some u := fun ad had j u hu => by
  rw [List.getElem?_map] at hu
  obtain ⟨x, hx, rfl⟩ := Option.map_eq_some_iff.1 hu
  obtain ⟨hj, hx⟩ := List.getElem?_eq_some_iff.1 hx
  obtain ⟨a, ha, c⟩ := h j hj
  obtain rfl := Option.some.inj (had.symm.trans ha)
  rw [c]
  simp [hj, hx, numV]
theorem cells_rowN {w : World} {q : Option Addr} {l : List Nat} {m d : Nat} (hm : m = l.length) (hb : q = none → m = 0 ∧ d = 0) (h : ∀ ad, q = some ad → ∀ j u, (l.map numV)[j]? = some u → w.cell? (ad.add j) = some u) : RowN w q l := fun j hj => by
  cases q with
  | none => have := (hb rfl).1; omega
  | some ad => exact ⟨ad, rfl, by rw [h ad rfl j (numV (l.getD j 0)) (by simp [hj])]; rfl⟩

set_option maxHeartbeats 4000000 in
set_option maxRecDepth 10000 in
theorem same12_go (p q : Option Addr) (n c d : Nat) (l : List Nat) (w : World) (hn : n = l.length) (hn9 : n ≤ 1000000) (hp : RowN w p l) (hq : RowN w q l) :
    Calls Try.prog 12 #[.slice p n c, .slice q n d] w fun e w' => e = .returned (.bool true) ∧ Keeps NoBlock w w' := by
  have HP := Lib.hid hp
  have HQ := Lib.hid hq
  have HN := Lib.hid hn
  have hnn : ((n : Int) != (n : Int)) = false := by simp
  clear hp hq hn
  go_enter Try.func12, Try.ntmps12
  go_wp2_with fail
  go_loopw [13] (fun i wr => ∃ j : Nat, j ≤ n ∧ i = .int .i64 (j : Int) ∧ Hid (Keeps NoBlock w wr)) (fun i _ => n - (intOf i).toNat)
  case atStart => exact ⟨0, Nat.zero_le _, rfl, Lib.hid (Keeps.refl _ _)⟩
  case round =>
    obtain ⟨j, hj, rfl, HK⟩ := hrel
    by_cases hlt : j < n
    · have hdj : decide (j < n) = true := decide_eq_true hlt
      have hjl : j < l.length := by rw [← HN.out]; exact hlt
      obtain ⟨a, rfl, a0⟩ := RowN.keep HP.out HK.out (fun _ _ h => h) j hjl
      obtain ⟨b, rfl, b0⟩ := RowN.keep HQ.out HK.out (fun _ _ h => h) j hjl
      obtain ⟨r, hr⟩ : ∃ r, r = l.getD j 0 := ⟨_, rfl⟩
      rw [← hr] at a0 b0
      have hne : ((r : Int) != (r : Int)) = false := by simp
      clear hr hjl
      go_wp2_with fail
      go_quiet (fail)
      go_wp2_with fail
      go_roundw
      case rel => exact ⟨j + 1, by omega, by go_num, Lib.hid (by first | exact HK.out.drewN _ | exact HK.out)⟩
      case measure => simp [intOf]; omega
    · have hdj : decide (j < n) = false := decide_eq_false hlt
      go_wp2_with fail
      go_ret
      exact ⟨rfl, HK.out⟩

set_option maxHeartbeats 8000000 in
set_option maxRecDepth 10000 in
theorem fenof_walk (H : FenOk) (HCt : FenCtOk) (HSo : SortOk) (p : Option Addr) (n c : Nat) (l : List En) (hash : Nat) (w : World) (h : InE w p n c l) (hh : hash < 18446744073709551616) :
    Calls Try.prog 3 #[.slice p n c, .int .u64 (hash : Int)] w fun e w' => e = .returned (.bool true) ∧ Keeps NoBlock w w' := by
  have HL := Lib.hid (fun w => lives12_true H w)
  by_cases hn : n ≤ 150
  rotate_left
  · have hd : decide ((150 : Int) < (n : Int)) = true := decide_eq_true (by omega)
    have hd2 : decide (150 < n) = true := decide_eq_true (by omega)
    have hn2 : 150 < n := by omega
    clear h H HSo HCt hn hh
    go_enter Try.func3, Try.ntmps3
    go_wp2_with fail
    refine (HL.out _).mono ?_
    rintro e w1 ⟨rfl, hk⟩
    have HK := Lib.hid hk
    clear hk
    go_wp2_with fail
    refine (HL.out _).mono ?_
    rintro e w2 ⟨rfl, hk⟩
    have HK := Lib.hid (HK.out.trans hk)
    clear hk
    go_wp2_with fail
    go_ret
    exact ⟨rfl, HK.out⟩
  have hd : decide ((150 : Int) < (n : Int)) = false := decide_eq_false (by omega)
  have hd2 : decide (150 < n) = false := decide_eq_false (by omega)
  have hn2 : ¬ 150 < n := by omega
  obtain ⟨i0, hi, hz0, hz1, hz2⟩ := info_parts infoU64
  have HAt := Lib.hid h.at_
  have hsl := sortE_len l
  rw [← h.len] at hsl
  have HFs := Lib.hid (sortE_fine h.fine)
  have HSt := Lib.hid (fun w h => HSo.sorted p n c l w h (by omega))
  have HIn := Lib.hid (fun w (ha : EnsAt w p l) => (show InE w p n c l from ⟨h.len, h.cap, h.room, h.bare, h.fine, ha⟩))
  have HRise := Lib.hid (sortE_rises l)
  obtain ⟨S, hS⟩ : ∃ S, S = sortE l := ⟨_, rfl⟩
  rw [← hS] at hsl HFs HSt HRise
  obtain ⟨M, hM⟩ : ∃ M, M = S.length := ⟨_, rfl⟩
  rw [← hM] at hsl
  have HMl := Lib.hid hM
  have hm150 : M ≤ 150 := by omega
  have HOf := Lib.hid (fun q d w h => H.of q M d S w h (by omega) HRise.out)
  have HRn := Lib.hid (fun q m d x w (hx : x < 18446744073709551616) h1 h2 h3 h4 h5 => H.range q m d S M x w h1 h2 h3 h4 h5 HFs.out HMl.out (by omega) HRise.out hx)
  have HRef := Lib.hid (fun q d w h => refs_go q M d S HMl.out (by omega) w h)
  have HOr := Lib.hid (fun q d w h => of12_ref q M d S HMl.out (by omega) w h)
  have HRr := Lib.hid (fun q m d x w (hm : m = (ofF S).length) (h9 : m ≤ 1000000) h => range12_ref q m d (ofF S) M x hm h9 w h)
  have hfl := ofF_length S
  rw [← HMl.out] at hfl
  have HFf := Lib.hid (ofF_fine HFs.out)
  obtain ⟨F, hF⟩ : ∃ F, F = ofF S := ⟨_, rfl⟩
  rw [← hF] at HOf HRn HOr HRr hfl HFf
  have HC1 := Lib.hid (fun w => HCt.count (M : Int) w (by omega) (by omega))
  have HC2 := Lib.hid (fun w => HCt.count (-(M : Int) - 1) w (by omega) (by omega))
  rw [show countF (M : Int) = F.length by rw [hfl]; unfold countF; rw [Int.toNat_natCast]] at HC1
  rw [show countF (-(M : Int) - 1) = 0 by unfold countF; omega] at HC2
  obtain ⟨k, hk⟩ : ∃ k, k = F.length := ⟨_, rfl⟩
  rw [← hk] at HC1 hfl
  have HFl := Lib.hid hk
  have hk9 : k ≤ 10 := by omega
  obtain ⟨y, hy⟩ : ∃ y, y = (hash + 1) % 18446744073709551616 := ⟨_, rfl⟩
  have hy9 : y < 18446744073709551616 := by omega
  have hyw : IntKind.u64.wrap ((hash : Int) + 1) = (y : Int) := by rw [IntKind.wrap_u64]; omega
  obtain ⟨U, hU⟩ : ∃ U : Nat, U = 18446744073709551615 := ⟨_, rfl⟩
  have hUi : (18446744073709551615 : Int) = (U : Int) := by omega
  have hU9 : U < 18446744073709551616 := by omega
  have HUi := Lib.hid hUi
  have HNums : Hid (∀ x ∈ [hash, y, 0, U] ++ F, x < 18446744073709551616) := Lib.hid (by
    intro x hx
    rcases List.mem_append.1 hx with hx | hx
    · simp only [List.mem_cons, List.not_mem_nil, or_false] at hx
      rcases hx with rfl | rfl | rfl | rfl
      · exact hh
      · exact hy9
      · decide
      · exact hU9
    · exact HFf.out x hx)
  have HNl : Hid (([hash, y, 0, U] ++ F).length = k + 4) := Lib.hid (by rw [List.length_append, ← HFl.out]; simp; omega)
  have hkk : ((k : Int) != (k : Int)) = false := by simp
  clear h H HSo HCt hM hsl hn hh hS hF hk hy hU hUi hfl hy9 hU9 HFf
  go_enter Try.func3, Try.ntmps3
  go_wp2_with fail
  refine (HL.out _).mono ?_
  rintro e w1 ⟨rfl, hk⟩
  have HAt := Lib.hid (EnsAt.keep HAt.out hk)
  have HK := Lib.hid hk
  clear hk HL
  go_wp2_with fail
  refine (HSt.out _ (HIn.out _ HAt.out)).mono ?_
  rintro e w2 ⟨v, rfl, q2, m2, d2, rfl, hm, hmd, hdd, hq, hat, hk⟩
  have hme : M = m2 := by rw [hm, ← HMl.out]
  subst hme
  have HS2 := Lib.hid (show EnsAt w2 q2 S from hat)
  have HI2 := Lib.hid (fun w (ha : EnsAt w q2 S) => (show InE w q2 M d2 S from ⟨HMl.out, hmd, hdd, hq, HFs.out, ha⟩))
  have HK := Lib.hid (HK.out.trans hk)
  clear hm hmd hdd hq hat hk
  go_wp2_with fail
  refine (HOf.out q2 d2 _ (HI2.out _ HS2.out)).mono ?_
  rintro e w3 ⟨v, rfl, q3, m3, d3, rfl, hm, hmd, hdd, hq, hat, hnw, hk⟩
  have hme : k = m3 := by rw [hm, ← HFl.out]
  subst hme
  have HS3 := Lib.hid (EnsAt.keep HS2.out hk)
  have HK := Lib.hid (HK.out.trans hk)
  have HF3 := Lib.hid (show RowN w3 q3 F from hat)
  have HB3 := Lib.hid hq
  have HR3 := Lib.hid (fun x w (hx : x < 18446744073709551616) h5 => HRn.out q3 k d3 x w hx hm hmd hdd hq h5)
  clear hm hmd hdd hq hat hk hnw HRn HOf HSt HIn HAt HS2
  go_wp2_with fail
  refine (HRef.out q2 d2 _ HS3.out).mono ?_
  rintro e w4 ⟨v, rfl, q4, m4, d4, rfl, hm, hmd, hdd, hq, hat, hk⟩
  have hme : M = m4 := by rw [hm, ← HMl.out]
  subst hme
  have HR4 := Lib.hid (show EnsAt w4 q4 S from hat)
  have HK := Lib.hid (HK.out.trans hk)
  have HF4 := Lib.hid (RowN.keep HF3.out hk (fun _ _ h => h))
  have HS4 := Lib.hid (EnsAt.keep HS3.out hk)
  clear hm hmd hdd hq hat hk HF3 HS3
  go_wp2_with fail
  refine (HOr.out q4 d4 _ HR4.out).mono ?_
  rintro e w5 ⟨v, rfl, h5, hb5⟩
  have hk : Keeps NoBlock w4 w5 := Keeps.ofBelow hb5
  have HK := Lib.hid (HK.out.trans hk)
  have HF5 := Lib.hid (RowN.keep HF4.out hk (fun _ _ h => h))
  have HS5 := Lib.hid (EnsAt.keep HS4.out hk)
  obtain ⟨q5, m5, d5, rfl, hbare5, hm5, hcell5⟩ := own_nums h5
  have hme : k = m5 := by rw [hm5, ← HFl.out]
  subst hme
  have HG5 := Lib.hid (cells_rowN hm5 hbare5 hcell5)
  have HG9 := Lib.hid (fun x w h => HRr.out q5 k d5 x w hm5 (by omega) h)
  clear hk h5 hb5 hbare5 hm5 hcell5 HF4 HS4 HR4 HRr HOr HRef
  go_wp2_with fail
  refine (same12_go q3 q5 k d3 d5 F _ HFl.out (by omega) HF5.out HG5.out).mono ?_
  rintro e w6 ⟨rfl, hk6⟩
  have HK6 := Lib.hid hk6
  clear hk6
  go_wp2_with fail
  refine (HC1.out _).mono ?_
  rintro e w7 ⟨rfl, hk7⟩
  have HK7 := Lib.hid (HK6.out.trans hk7)
  clear hk7
  go_wp2_with fail
  refine (HC2.out _).mono ?_
  rintro e w8 ⟨rfl, hk8⟩
  have HK8 := Lib.hid (HK7.out.trans hk8)
  have HKa := Lib.hid (HK8.out.trans ((Keeps.refl NoBlock w8).alloc (.cells #[.int .u64 (hash : Int), .int .u64 (y : Int), .int .u64 0, .int .u64 18446744073709551615] 23)))
  have HFa := Lib.hid (rowN_cells (RowN.keep HF5.out HKa.out (fun _ _ h => h)))
  have HN8 : Hid (NumsSoFar w8 [hash, y, 0, U] (.slice (some ⟨w8.heap.size, 0, none⟩) 4 4) (w8.alloc (.cells #[.int .u64 (hash : Int), .int .u64 (y : Int), .int .u64 0, .int .u64 18446744073709551615] 23))) := Lib.hid ⟨⟨by simp, .inr ⟨w8.heap.size, 4, _, rfl, Nat.le_refl _, heap_alloc_new w8 _, Nat.le_refl _, by decide, by simp, by simp [numV, HUi.out]⟩⟩, (Below.refl _ w8).alloc (Nat.le_refl _) _⟩
  clear hk8
  go_wp2_with (at_builtin; refine wpList_append_any rfl _ _ 26 rfl w8.heap.size 23 i0 (.int .u64 0) 1 8 Try.underlying26 hi hz0 hz1 hz2 rfl (by decide) _ 4 ([hash, y, 0, U].map numV) rfl HN8.out.1 q3 k d3 (F.map numV) rfl HB3.out (by rw [List.length_map, ← HFl.out, Nat.mul_one]) HFa.out (by intro u hu; obtain ⟨x, _, rfl⟩ := List.mem_map.1 hu; rfl) (by unfold maxLen; omega) (by omega) HN8.out.2.size ?_)
  intro v9 w9 h9 hb9
  have hk9b : Keeps NoBlock w8 w9 := Keeps.ofBelow (HN8.out.2.trans hb9)
  have HK9 := Lib.hid (HK8.out.trans hk9b)
  have HS9 := Lib.hid (EnsAt.keep HS5.out HK9.out)
  have HF9 := Lib.hid (RowN.keep HF5.out HK9.out (fun _ _ h => h))
  have HG0 := Lib.hid (RowN.keep HG5.out HK9.out (fun _ _ h => h))
  obtain ⟨q9, m9, d9, rfl, hbare9, hm9, hcell9⟩ := own_nums (w0 := w8) (l := [hash, y, 0, U] ++ F) (by rw [HNl.out, List.map_append, Nat.add_comm k 4]; exact h9)
  have hm9n : m9 = k + 4 := by rw [hm9, HNl.out]
  obtain ⟨ad, rfl⟩ : ∃ ad, q9 = some ad := by
    cases q9 with
    | none => have := (hbare9 rfl).1; omega
    | some ad => exact ⟨ad, rfl⟩
  have HC9 := Lib.hid (hcell9 ad rfl)
  obtain ⟨N, hN⟩ : ∃ N, N = k + 4 := ⟨_, rfl⟩
  rw [← hN] at hm9n HNl
  subst hm9n
  have hm20 : m9 ≤ 20 := by omega
  obtain ⟨L, hL⟩ : ∃ L, L = [hash, y, 0, U] ++ F := ⟨_, rfl⟩
  rw [← hL] at HC9 HNums HNl
  clear h9 hb9 hk9b hbare9 hm9 hcell9 hN hL HFa HN8 HKa HK8 HK7 HK6 HF5 HG5 HS5
  go_wp2_with fail
  go_loopw [56] (fun i wr => ∃ j : Nat, j ≤ m9 ∧ i = .int .i64 (j : Int) ∧ Hid (Keeps NoBlock w9 wr)) (fun i _ => m9 - (intOf i).toNat)
  case atStart => exact ⟨0, Nat.zero_le _, rfl, Lib.hid (Keeps.refl _ _)⟩
  case round =>
    obtain ⟨j, hj, rfl, HKr⟩ := hrel
    by_cases hlt : j < m9
    · have hdj : decide (j < m9) = true := decide_eq_true hlt
      have hdj2 : decide ((j : Int) < (m9 : Int)) = true := decide_eq_true (by omega)
      have hjl : j < L.length := by rw [HNl.out]; exact hlt
      have hx := HNums.out _ (by simp [hjl] : L.getD j 0 ∈ L)
      have hcell := HKr.out.cell (HC9.out j (numV (L.getD j 0)) (by simp [List.getElem?_map, List.getElem?_eq_getElem hjl])) (fun h => h)
      obtain ⟨x, hxd⟩ : ∃ x, x = L.getD j 0 := ⟨_, rfl⟩
      rw [← hxd] at hx hcell
      unfold numV at hcell
      have HRx := Lib.hid (fun w h5 => HR3.out x w hx h5)
      have HRy := Lib.hid (fun w h5 => HG9.out x w h5)
      obtain ⟨C, hC⟩ : ∃ C, C = (rangeF F M x).1 := ⟨_, rfl⟩
      obtain ⟨D, hD⟩ : ∃ D, D = (rangeF F M x).2 := ⟨_, rfl⟩
      rw [← hC, ← hD] at HRx HRy
      have t1 : ((C : Int) != (C : Int)) = false := by simp
      have t2 : ((D : Int) != (D : Int)) = false := by simp
      have HFr := Lib.hid (RowN.keep HF9.out HKr.out (fun _ _ h => h))
      clear hxd hC hD hjl
      go_wp2_with fail
      refine (HRx.out _ HFr.out).mono ?_
      rintro e wa ⟨rfl, hk⟩
      have HKr := Lib.hid (HKr.out.trans hk)
      have HGr := Lib.hid (RowN.keep HG0.out HKr.out (fun _ _ h => h))
      clear hk
      go_wp2_with fail
      refine (HRy.out _ HGr.out).mono ?_
      rintro e wb ⟨rfl, hk⟩
      have HKr := Lib.hid (HKr.out.trans hk)
      clear hk
      go_wp2_with fail
      exact ⟨⟨j + 1, by omega, by go_num, HKr⟩, by simp [intOf]; omega⟩
    · have hdj : decide (j < m9) = false := decide_eq_false hlt
      have hdj2 : decide ((j : Int) < (m9 : Int)) = false := decide_eq_false (by omega)
      go_wp2_with fail
      go_ret
      exact ⟨by first | rfl | simp, HK.out.trans (HK9.out.trans HKr.out)⟩
end Go.Proofs.Ytidhcmamfdipiaa

namespace Go.Proofs.Ytidhcmamfdipiaa
open Go.RowKit

/-- What Get answers: the place, the error's number, the numbers. -/
structure GF where
  m : Nat
  y : Int
  l : List Nat
def getF (n : Int) (xs : List Int) : GF :=
  if n ≤ 0 then ⟨0, 0, []⟩ else if xs.length / 8 < n.toNat then ⟨0, 2, []⟩ else if risesF (takeF n.toNat xs) = true then ⟨8 * n.toNat, 0, takeF n.toNat xs⟩ else ⟨8 * n.toNat, 8, []⟩

/-- One more number: do they fall now? -/
theorem falls_more (R : List Nat) (x : Nat) : (!risesF (R ++ [x])) = (!risesF R || (decide (0 < R.length) && decide (x < R.getD (R.length - 1) 0))) := by
  rw [risesF_snoc]
  cases R with
  | nil => simp
  | cons y R =>
    have e : (y :: R).getLastD 0 = (y :: R).getD ((y :: R).length - 1) 0 := by
      rw [List.getLastD_eq_getLast?, List.getLast?_eq_getElem?, List.getD_eq_getElem?_getD]
    rw [e]
    obtain ⟨z, hz⟩ : ∃ z, z = (y :: R).getD ((y :: R).length - 1) 0 := ⟨_, rfl⟩
    rw [← hz]
    cases risesF (y :: R)
    · simp
    · by_cases h : z ≤ x
      · simp [h, Nat.not_lt.2 h]
      · simp [h, Nat.lt_of_not_le h]

theorem NumsSoFar.setOther {w0 wr : World} {l : List Nat} {v : Value} (h : NumsSoFar w0 l v wr) {p : Addr} (hp : v.ownBlock ≠ some p.block) (hb : w0.heap.size ≤ p.block) (x : Value) : NumsSoFar w0 l v (wr.setCell p x) :=
  ⟨ownsRow_setCell_other h.1 hp _, h.2.setCell hb _⟩
theorem NumsSoFar.set3 {w0 wr : World} {l : List Nat} {v : Value} (h : NumsSoFar w0 l v wr) {g : Nat} (hp : v.ownBlock ≠ some g) (hb : w0.heap.size ≤ g) (x y z : Value) : NumsSoFar w0 l v (((wr.setCell ⟨g, 0, none⟩ x).setCell ⟨g, 1, none⟩ y).setCell ⟨g, 2, none⟩ z) :=
  ((h.setOther hp hb x).setOther hp hb y).setOther hp hb z

/-- One number is appended to a row of one's own; what other blocks hold stays. -/
theorem wpList_append_numG {w w0 : World} {ops : Array Oper} {rest : List Oper} {o : Oper} {a : Act} {Q : Exit → Act → World → Prop} (hgd : o.guard = none) (s x : Operand)
    (ho : o.op = .call { callee := .builtin .append, args := #[s, x], argTypes := #[26, 26] })
    (v : Value) (l : List Nat) (hs : a.eval s = v) (hown : NumsSoFar w0 l v w) (g : Nat) (r : Nat) (hx : a.eval x = .slice (some ⟨g, 0, none⟩) 1 1)
    (h0 : w.cell? ⟨g, 0, none⟩ = some (numV r)) (hl9 : l.length ≤ 1000000)
    (h : ∀ v' w', NumsSoFar w0 (l ++ [r]) v' w' → w.grownBy w' v.ownBlock → wpList Try.prog ops Q rest (a.put o.dst v') w') : wpList Try.prog ops Q (o :: rest) a w := by
  obtain ⟨i0, hi, hz0, hz1, hz2⟩ := info_parts infoU64
  refine wpList_append_own w hgd s x 26 ho w0.heap.size 23 i0 (.int .u64 0) 1 8 Try.underlying26 hi hz0 hz1 hz2 rfl (by decide) v l.length (l.map numV) hs hown.1 ⟨g, 0, none⟩ 1 1 [numV r] hx rfl ?_ ?_ (by unfold maxLen; omega) (by omega) hown.2.size ?_
  · intro j u hj
    rw [Addr.add_lit, Nat.zero_add]
    match j, hj with
    | 0, hj => obtain rfl := Option.some.inj hj; exact h0
    | k + 1, hj => simp at hj
  · intro u hu
    simp at hu
    subst hu
    rfl
  · intro v' w' h2 h3 _
    refine h v' w' ⟨?_, hown.2.trans ((Below.refl _ w).grown h3 hown.2.size (fun k hk => own_from hown.1 hk))⟩ h3
    rw [List.map_append, List.length_append]
    exact h2
end Go.Proofs.Ytidhcmamfdipiaa

namespace Go.Proofs.Ytidhcmamfdipiaa

theorem takeF_text : ∀ {l : List Nat}, (∀ x ∈ l, x < 18446744073709551616) → ∀ xs, takeF l.length (textF l ++ xs) = l
  | [], _, xs => rfl
  | x :: l, hf, xs => by
    have hx := hf x List.mem_cons_self
    have h8 : (digits (x : Int) 8).length = 8 := digits_length _ 8
    have e1 : (textF (x :: l) ++ xs).take 8 = digits (x : Int) 8 := by
      rw [textF, List.append_assoc]
      exact List.take_left' h8
    have e3 : (textF (x :: l) ++ xs).drop 8 = textF l ++ xs := by
      rw [textF, List.append_assoc]
      exact List.drop_left' h8
    rw [List.length_cons, takeF, e1, e3, takeF_text (fun x hx => hf x (List.mem_cons_of_mem _ hx)) xs, le_digits9]
    have b1 : (((x % 2 ^ (8 * 8) : Nat) : Int)).toNat = x := by rw [Int.toNat_natCast]; omega
    rw [b1]
theorem getF_text {l : List Nat} (hf : ∀ x ∈ l, x < 18446744073709551616) : getF (l.length : Int) (textF l) = if risesF l = true then ⟨8 * l.length, 0, l⟩ else ⟨8 * l.length, 8, []⟩ := by
  have ht := takeF_text hf []
  rw [List.append_nil] at ht
  unfold getF
  by_cases h0 : (l.length : Int) ≤ 0
  · obtain rfl : l = [] := List.length_eq_zero_iff.1 (by omega)
    rfl
  · rw [if_neg h0, Int.toNat_natCast, if_neg (by rw [textF_length]; omega), ht]
end Go.Proofs.Ytidhcmamfdipiaa

namespace Go.Proofs.Ytidhcmamfdipiaa
open Go.RowKit

/-- The frame of the deferred call behind its first region, and what stands behind. -/
def doorTmps (V A E k : Nat) (a y : Int) (r : List Value) : Array Value :=
  ⟨[.pointer (some ⟨V, 0, none⟩), .pointer (some ⟨A, 0, none⟩), .pointer (some ⟨E, 0, none⟩), undef, undef, undef, .pointer (some ⟨k, 0, none⟩), .pointer (some ⟨k, 0, none⟩), .pointer (some ⟨k, 1, none⟩), .int .i64 a, .pointer (some ⟨k, 0, none⟩), .pointer (some ⟨k, 0, none⟩), .pointer (some ⟨k, 3, none⟩), .int .i64 y] ++ r⟩

/-- What the deferred call has done to memory: Run's results hold what the cursor told; the cursor is closed. -/
def Told (V A E k : Nat) (a : Nat) (y : Int) (w w' : World) : Prop :=
  Whole w' V 49 #[.pointer (some ⟨k, 0, none⟩)] ∧ Whole w' A 3 #[.int .i64 a] ∧ Whole w' E 45 #[.int .i64 y] ∧ CurB w' k none 0 0 0 false 0 ∧ Keeps (fun i => i = A ∨ i = E ∨ i = k) w w'

def MidPost (V A E k : Nat) (a : Nat) (y : Int) (w : World) : Exit → Act → World → Prop
  | .normal, a', w' => a' = { tmps := doorTmps V A E k a y (List.replicate 15 undef), defers := [] } ∧ ∃ m, w' = (((w.setCell ⟨A, 0, none⟩ (.int .i64 a)).setCell ⟨E, 0, none⟩ (.int .i64 y)).drewN m)
  | _, _, _ => False

theorem MidPost.told {V A E k a : Nat} {y : Int} {w w' : World} {e : Exit} {a' : Act} (h : MidPost V A E k a y w e a' w') :
    e = .normal ∧ a' = { tmps := doorTmps V A E k a y (List.replicate 15 undef), defers := [] } ∧ ∃ m, w' = (((w.setCell ⟨A, 0, none⟩ (.int .i64 a)).setCell ⟨E, 0, none⟩ (.int .i64 y)).drewN m) := by
  cases e with
  | normal => exact ⟨rfl, h⟩
  | _ => exact h.elim

theorem Told.alloc {V A E k a : Nat} {y : Int} {w w' : World} (h : Told V A E k a y w w') (o : Obj) : Told V A E k a y w (w'.alloc o) :=
  ⟨h.1.alloc o, h.2.1.alloc o, h.2.2.1.alloc o, Whole.alloc h.2.2.2.1 o, h.2.2.2.2.alloc o⟩

theorem infoCursor : (Try.prog.info? 73).map (fun i => i.size) = some 4 := by kernel_rfl

theorem neqSame (a : Addr) (w : World) : (binOp .neq 49 (.pointer (some a)) (.pointer (some a))).run Try.prog w = .ok (.bool false) w := by
  obtain ⟨i, hi, hs⟩ := Option.map_eq_some_iff.1 infoCursor
  first | exact run_neq_ptr_same w a Try.underlying49 hi | exact Lib.run_neq_ptr_same w a Try.underlying49 hi

theorem neqOther {a b : Addr} {w : World} {ta tb : TypeId} {ca cb : Array Value} (hne : a ≠ b) (ha : Whole w a.block ta ca) (hb : Whole w b.block tb cb) :
    (binOp .neq 49 (.pointer (some a)) (.pointer (some b))).run Try.prog w = .ok (.bool true) w := by
  obtain ⟨i, hi, hs⟩ := Option.map_eq_some_iff.1 infoCursor
  have h : ∀ d : Nat, (Op.equalIn (d + 1) 49 (.pointer (some a)) (.pointer (some b))).run Try.prog w = .ok false w := fun d => by
    simp [Op.equalIn, run_underlying Try.underlying49, sizeOf, typeInfo, hi, hs, run_sameAddr_other w hne ha hb]
  simp only [binOp]
  simp [Op.equal, Op.maxDepth, h 9999]

theorem assertStopped (q : Option Addr) (w : World) : (Instr.typeAssert (.iface 75 (.agg #[.pointer q])) 20 75 true).run Try.prog w = .ok (.tuple #[.agg #[.pointer q], .bool true]) w := by kernel_rfl

set_option maxHeartbeats 1000000 in
theorem door_idle (V A E k : Nat) (p : Option Addr) (N c a : Nat) (o : Bool) (y x0 x1 : Int) (w : World) (hV : Whole w V 49 #[.pointer (some ⟨k, 0, none⟩)]) (hA : Whole w A 3 #[.int .i64 x0]) (hE : Whole w E 45 #[.int .i64 x1]) (hC : CurB w k p N c a o y) :
    CallsD Try.prog 40 #[.pointer (some ⟨V, 0, none⟩), .pointer (some ⟨A, 0, none⟩), .pointer (some ⟨E, 0, none⟩)] .returning w fun e u' w' => e = .returned (.tuple #[]) ∧ u' = .returning ∧ Told V A E k a y w w' := by
  have hVA : V ≠ A := fun e => by subst e; exact absurd (hV.unique hA).1 (by decide)
  have hVE : V ≠ E := fun e => by subst e; exact absurd (hV.unique hE).1 (by decide)
  have hVk : V ≠ k := fun e => by subst e; exact absurd (hV.unique hC).1 (by decide)
  have hAE : A ≠ E := fun e => by subst e; exact absurd (hA.unique hE).1 (by decide)
  have hAk : A ≠ k := fun e => by subst e; exact absurd (hA.unique hC).1 (by decide)
  have hEk : E ≠ k := fun e => by subst e; exact absurd (hE.unique hC).1 (by decide)
  have cV := hV.cell 0 rfl
  have cA := hA.cell 0 rfl
  have cE := hE.cell 0 rfl
  have c1 := Whole.cell hC 1 rfl
  have c3 := Whole.cell hC 3 rfl
  have fA := hA.free 0
  have fE := hE.free 0
  simp only [List.getElem_toArray, List.getElem_cons_zero, List.getElem_cons_succ] at cV cA cE c1 c3
  refine callsD_of_wpS Try.func40 rfl fun c₀ cs hu => ?_
  simp only [Try.ntmps40, List.size_toArray, List.length_cons, List.length_nil, Nat.reduceAdd, Nat.reduceSub, Array.replicate_succ,
     Array.replicate_zero, List.push_toArray, List.append_toArray, List.nil_append, List.cons_append]
  apply wpS_seq
  refine wpS_of_wp (Code.wp_mono (Q := MidPost V A E k a y w) ?_ ?_)
  case refine_2 =>
    go_region
    all_goals (exact ⟨rfl, _, rfl⟩)
  intro e a' w' hmid
  obtain ⟨rfl, rfl, m, rfl⟩ := hmid.told
  clear hmid
  simp only [Exit.thenS]
  apply wpS_seq
  have dV : (((w.setCell ⟨A, 0, none⟩ (.int .i64 a)).setCell ⟨E, 0, none⟩ (.int .i64 y)).drewN m).cell? ⟨V, 0, none⟩ = some (.pointer (some ⟨k, 0, none⟩)) := Whole.cell ((((hV.setOther hVA _).setOther hVE _).drewN m)) 0 rfl
  obtain ⟨W, hW⟩ : ∃ W, W = (((w.setCell ⟨A, 0, none⟩ (.int .i64 a)).setCell ⟨E, 0, none⟩ (.int .i64 y)).drewN m) := ⟨_, rfl⟩
  rw [← hW] at dV ⊢
  have dC : CurB W k p N c a o y := by rw [hW]; exact ((Whole.setOther hC (Ne.symm hAk) _).setOther (Ne.symm hEk) _).drewN m
  have d0 := Whole.cell dC 0 rfl
  have d1 := Whole.cell dC 1 rfl
  have d2 := Whole.cell dC 2 rfl
  have d3 := Whole.cell dC 3 rfl
  have f0 := Whole.free dC 0
  have f1 := Whole.free dC 1
  have f2 := Whole.free dC 2
  have f3 := Whole.free dC 3
  have HW := Lib.hid hW
  clear hW cV cA cE c1 c3 fA fE
  unfold doorTmps
  refine wpS_of_wp ?_
  go_wp2
  simp only [Exit.thenS]
  have hT : Told V A E k a y w ((((W.setCell ⟨k, 0, none⟩ (.slice none 0 0)).setCell ⟨k, 1, none⟩ (.int .i64 0)).setCell ⟨k, 2, none⟩ (.bool false)).setCell ⟨k, 3, none⟩ (.int .i64 0)) := by
    have HW := HW.out
    refine ⟨?_, ?_, ?_, Whole.set (Whole.set (Whole.set (Whole.set dC 0 _) 1 _) 2 _) 3 _, ?_⟩
    · refine Whole.setOther (Whole.setOther (Whole.setOther (Whole.setOther ?_ hVk _) hVk _) hVk _) hVk _
      rw [HW]; exact ((hV.setOther hVA _).setOther hVE _).drewN m
    · refine Whole.setOther (Whole.setOther (Whole.setOther (Whole.setOther ?_ hAk _) hAk _) hAk _) hAk _
      rw [HW]; exact ((hA.set 0 _).setOther hAE _).drewN m
    · refine Whole.setOther (Whole.setOther (Whole.setOther (Whole.setOther ?_ hEk _) hEk _) hEk _) hEk _
      rw [HW]; exact ((hE.setOther (Ne.symm hAE) _).set 0 _).drewN m
    · refine Keeps.setIn (Keeps.setIn (Keeps.setIn (Keeps.setIn ?_ (.inr (.inr rfl)) _ _) (.inr (.inr rfl)) _ _) (.inr (.inr rfl)) _ _) (.inr (.inr rfl)) _ _
      rw [HW]
      exact (((Keeps.refl _ _).setIn (.inl rfl) _ _).setIn (.inr (.inl rfl)) _ _).drewN m
  obtain ⟨W2, hW2⟩ : ∃ W2, W2 = ((((W.setCell ⟨k, 0, none⟩ (.slice none 0 0)).setCell ⟨k, 1, none⟩ (.int .i64 0)).setCell ⟨k, 2, none⟩ (.bool false)).setCell ⟨k, 3, none⟩ (.int .i64 0)) := ⟨_, rfl⟩
  rw [← hW2] at hT ⊢
  clear hW2 HW dV d0 d1 d2 d3 f0 f1 f2 f3 dC hC hV hA hE
  have eV := Whole.cell hT.1 0 rfl
  simp only [List.getElem_toArray, List.getElem_cons_zero] at eV
  have HT := Lib.hid hT
  clear hT
  apply wpS_seq
  apply wpS_region
  simp [wpOpsS, go_sem, recoverD, hu, Exit.thenS]
  refine wpS_of_wp ?_
  go_wp2
  refine ⟨rfl, .returning, ?_, .tuple #[], by simp [results, Try.results40], rfl, rfl, HT.out⟩
  rw [← hu]

set_option maxHeartbeats 1000000 in
theorem door_own (older : List PanicEntry) (V A E k : Nat) (p : Option Addr) (N c a : Nat) (o : Bool) (y x0 x1 : Int) (w : World) (hV : Whole w V 49 #[.pointer (some ⟨k, 0, none⟩)]) (hA : Whole w A 3 #[.int .i64 x0]) (hE : Whole w E 45 #[.int .i64 x1]) (hC : CurB w k p N c a o y) :
    CallsD Try.prog 40 #[.pointer (some ⟨V, 0, none⟩), .pointer (some ⟨A, 0, none⟩), .pointer (some ⟨E, 0, none⟩)] (.panicking ({ v := .iface 75 (.agg #[.pointer (some ⟨k, 0, none⟩)]), recovered := false } :: older)) w fun e u' w' => e = .returned (.tuple #[]) ∧ u' = .panicking ({ v := .iface 75 (.agg #[.pointer (some ⟨k, 0, none⟩)]), recovered := true } :: older) ∧ Told V A E k a y w w' := by
  have hta := assertStopped
  have hns := neqSame
  have hVA : V ≠ A := fun e => by subst e; exact absurd (hV.unique hA).1 (by decide)
  have hVE : V ≠ E := fun e => by subst e; exact absurd (hV.unique hE).1 (by decide)
  have hVk : V ≠ k := fun e => by subst e; exact absurd (hV.unique hC).1 (by decide)
  have hAE : A ≠ E := fun e => by subst e; exact absurd (hA.unique hE).1 (by decide)
  have hAk : A ≠ k := fun e => by subst e; exact absurd (hA.unique hC).1 (by decide)
  have hEk : E ≠ k := fun e => by subst e; exact absurd (hE.unique hC).1 (by decide)
  have cV := hV.cell 0 rfl
  have cA := hA.cell 0 rfl
  have cE := hE.cell 0 rfl
  have c1 := Whole.cell hC 1 rfl
  have c3 := Whole.cell hC 3 rfl
  have fA := hA.free 0
  have fE := hE.free 0
  simp only [List.getElem_toArray, List.getElem_cons_zero, List.getElem_cons_succ] at cV cA cE c1 c3
  refine callsD_of_wpS Try.func40 rfl fun c₀ cs hu => ?_
  simp only [Try.ntmps40, List.size_toArray, List.length_cons, List.length_nil, Nat.reduceAdd, Nat.reduceSub, Array.replicate_succ,
     Array.replicate_zero, List.push_toArray, List.append_toArray, List.nil_append, List.cons_append]
  apply wpS_seq
  refine wpS_of_wp (Code.wp_mono (Q := MidPost V A E k a y w) ?_ ?_)
  case refine_2 =>
    go_region
    all_goals (exact ⟨rfl, _, rfl⟩)
  intro e a' w' hmid
  obtain ⟨rfl, rfl, m, rfl⟩ := hmid.told
  clear hmid
  simp only [Exit.thenS]
  apply wpS_seq
  have dV : (((w.setCell ⟨A, 0, none⟩ (.int .i64 a)).setCell ⟨E, 0, none⟩ (.int .i64 y)).drewN m).cell? ⟨V, 0, none⟩ = some (.pointer (some ⟨k, 0, none⟩)) := Whole.cell ((((hV.setOther hVA _).setOther hVE _).drewN m)) 0 rfl
  obtain ⟨W, hW⟩ : ∃ W, W = (((w.setCell ⟨A, 0, none⟩ (.int .i64 a)).setCell ⟨E, 0, none⟩ (.int .i64 y)).drewN m) := ⟨_, rfl⟩
  rw [← hW] at dV ⊢
  have dC : CurB W k p N c a o y := by rw [hW]; exact ((Whole.setOther hC (Ne.symm hAk) _).setOther (Ne.symm hEk) _).drewN m
  have d0 := Whole.cell dC 0 rfl
  have d1 := Whole.cell dC 1 rfl
  have d2 := Whole.cell dC 2 rfl
  have d3 := Whole.cell dC 3 rfl
  have f0 := Whole.free dC 0
  have f1 := Whole.free dC 1
  have f2 := Whole.free dC 2
  have f3 := Whole.free dC 3
  have HW := Lib.hid hW
  clear hW cV cA cE c1 c3 fA fE
  unfold doorTmps
  refine wpS_of_wp ?_
  go_wp2
  simp only [Exit.thenS]
  have hT : Told V A E k a y w ((((W.setCell ⟨k, 0, none⟩ (.slice none 0 0)).setCell ⟨k, 1, none⟩ (.int .i64 0)).setCell ⟨k, 2, none⟩ (.bool false)).setCell ⟨k, 3, none⟩ (.int .i64 0)) := by
    have HW := HW.out
    refine ⟨?_, ?_, ?_, Whole.set (Whole.set (Whole.set (Whole.set dC 0 _) 1 _) 2 _) 3 _, ?_⟩
    · refine Whole.setOther (Whole.setOther (Whole.setOther (Whole.setOther ?_ hVk _) hVk _) hVk _) hVk _
      rw [HW]; exact ((hV.setOther hVA _).setOther hVE _).drewN m
    · refine Whole.setOther (Whole.setOther (Whole.setOther (Whole.setOther ?_ hAk _) hAk _) hAk _) hAk _
      rw [HW]; exact ((hA.set 0 _).setOther hAE _).drewN m
    · refine Whole.setOther (Whole.setOther (Whole.setOther (Whole.setOther ?_ hEk _) hEk _) hEk _) hEk _
      rw [HW]; exact ((hE.setOther (Ne.symm hAE) _).set 0 _).drewN m
    · refine Keeps.setIn (Keeps.setIn (Keeps.setIn (Keeps.setIn ?_ (.inr (.inr rfl)) _ _) (.inr (.inr rfl)) _ _) (.inr (.inr rfl)) _ _) (.inr (.inr rfl)) _ _
      rw [HW]
      exact (((Keeps.refl _ _).setIn (.inl rfl) _ _).setIn (.inr (.inl rfl)) _ _).drewN m
  obtain ⟨W2, hW2⟩ : ∃ W2, W2 = ((((W.setCell ⟨k, 0, none⟩ (.slice none 0 0)).setCell ⟨k, 1, none⟩ (.int .i64 0)).setCell ⟨k, 2, none⟩ (.bool false)).setCell ⟨k, 3, none⟩ (.int .i64 0)) := ⟨_, rfl⟩
  rw [← hW2] at hT ⊢
  clear hW2 HW dV d0 d1 d2 d3 f0 f1 f2 f3 dC hC hV hA hE
  have eV := Whole.cell hT.1 0 rfl
  simp only [List.getElem_toArray, List.getElem_cons_zero] at eV
  have eV2 : ∀ o, (W2.alloc o).cell? ⟨V, 0, none⟩ = some (.pointer (some ⟨k, 0, none⟩)) := fun o => Whole.cell (hT.1.alloc o) 0 rfl
  have HT := Lib.hid hT
  clear hT
  apply wpS_seq
  apply wpS_region
  simp [wpOpsS, go_sem, recoverD, hu, Exit.thenS]
  refine wpS_of_wp ?_
  go_wp2
  refine ⟨rfl, .panicking ({ v := .iface 75 (.agg #[.pointer (some ⟨k, 0, none⟩)]), recovered := true } :: older), rfl, .tuple #[], by simp [results, Try.results40], rfl, rfl, HT.out.alloc _⟩

set_option maxHeartbeats 1000000 in
theorem door_other (older : List PanicEntry) (q : Nat) (V A E k : Nat) (p : Option Addr) (N c a : Nat) (o : Bool) (y x0 x1 : Int) (w : World) (hq : q ≠ k) (cq : Array Value) (hQ : Whole w q 73 cq) (hV : Whole w V 49 #[.pointer (some ⟨k, 0, none⟩)]) (hA : Whole w A 3 #[.int .i64 x0]) (hE : Whole w E 45 #[.int .i64 x1]) (hC : CurB w k p N c a o y) :
    CallsD Try.prog 40 #[.pointer (some ⟨V, 0, none⟩), .pointer (some ⟨A, 0, none⟩), .pointer (some ⟨E, 0, none⟩)] (.panicking ({ v := .iface 75 (.agg #[.pointer (some ⟨q, 0, none⟩)]), recovered := false } :: older)) w fun e u' w' => e = .panicked (given q) ∧ u' = .panicking ({ v := .iface 75 (.agg #[.pointer (some ⟨q, 0, none⟩)]), recovered := true } :: older) ∧ Told V A E k a y w w' := by
  have hta := assertStopped
  have hVA : V ≠ A := fun e => by subst e; exact absurd (hV.unique hA).1 (by decide)
  have hVE : V ≠ E := fun e => by subst e; exact absurd (hV.unique hE).1 (by decide)
  have hVk : V ≠ k := fun e => by subst e; exact absurd (hV.unique hC).1 (by decide)
  have hAE : A ≠ E := fun e => by subst e; exact absurd (hA.unique hE).1 (by decide)
  have hAk : A ≠ k := fun e => by subst e; exact absurd (hA.unique hC).1 (by decide)
  have hEk : E ≠ k := fun e => by subst e; exact absurd (hE.unique hC).1 (by decide)
  have hAq : q ≠ A := fun e => by subst e; exact absurd (hA.unique hQ).1 (by decide)
  have hEq : q ≠ E := fun e => by subst e; exact absurd (hE.unique hQ).1 (by decide)
  have cV := hV.cell 0 rfl
  have cA := hA.cell 0 rfl
  have cE := hE.cell 0 rfl
  have c1 := Whole.cell hC 1 rfl
  have c3 := Whole.cell hC 3 rfl
  have fA := hA.free 0
  have fE := hE.free 0
  simp only [List.getElem_toArray, List.getElem_cons_zero, List.getElem_cons_succ] at cV cA cE c1 c3
  refine callsD_of_wpS Try.func40 rfl fun c₀ cs hu => ?_
  simp only [Try.ntmps40, List.size_toArray, List.length_cons, List.length_nil, Nat.reduceAdd, Nat.reduceSub, Array.replicate_succ,
     Array.replicate_zero, List.push_toArray, List.append_toArray, List.nil_append, List.cons_append]
  apply wpS_seq
  refine wpS_of_wp (Code.wp_mono (Q := MidPost V A E k a y w) ?_ ?_)
  case refine_2 =>
    go_region
    all_goals (exact ⟨rfl, _, rfl⟩)
  intro e a' w' hmid
  obtain ⟨rfl, rfl, m, rfl⟩ := hmid.told
  clear hmid
  simp only [Exit.thenS]
  apply wpS_seq
  have dV : (((w.setCell ⟨A, 0, none⟩ (.int .i64 a)).setCell ⟨E, 0, none⟩ (.int .i64 y)).drewN m).cell? ⟨V, 0, none⟩ = some (.pointer (some ⟨k, 0, none⟩)) := Whole.cell ((((hV.setOther hVA _).setOther hVE _).drewN m)) 0 rfl
  obtain ⟨W, hW⟩ : ∃ W, W = (((w.setCell ⟨A, 0, none⟩ (.int .i64 a)).setCell ⟨E, 0, none⟩ (.int .i64 y)).drewN m) := ⟨_, rfl⟩
  rw [← hW] at dV ⊢
  have dC : CurB W k p N c a o y := by rw [hW]; exact ((Whole.setOther hC (Ne.symm hAk) _).setOther (Ne.symm hEk) _).drewN m
  have d0 := Whole.cell dC 0 rfl
  have d1 := Whole.cell dC 1 rfl
  have d2 := Whole.cell dC 2 rfl
  have d3 := Whole.cell dC 3 rfl
  have f0 := Whole.free dC 0
  have f1 := Whole.free dC 1
  have f2 := Whole.free dC 2
  have f3 := Whole.free dC 3
  have HW := Lib.hid hW
  clear hW cV cA cE c1 c3 fA fE
  unfold doorTmps
  refine wpS_of_wp ?_
  go_wp2
  simp only [Exit.thenS]
  have hT : Told V A E k a y w ((((W.setCell ⟨k, 0, none⟩ (.slice none 0 0)).setCell ⟨k, 1, none⟩ (.int .i64 0)).setCell ⟨k, 2, none⟩ (.bool false)).setCell ⟨k, 3, none⟩ (.int .i64 0)) := by
    have HW := HW.out
    refine ⟨?_, ?_, ?_, Whole.set (Whole.set (Whole.set (Whole.set dC 0 _) 1 _) 2 _) 3 _, ?_⟩
    · refine Whole.setOther (Whole.setOther (Whole.setOther (Whole.setOther ?_ hVk _) hVk _) hVk _) hVk _
      rw [HW]; exact ((hV.setOther hVA _).setOther hVE _).drewN m
    · refine Whole.setOther (Whole.setOther (Whole.setOther (Whole.setOther ?_ hAk _) hAk _) hAk _) hAk _
      rw [HW]; exact ((hA.set 0 _).setOther hAE _).drewN m
    · refine Whole.setOther (Whole.setOther (Whole.setOther (Whole.setOther ?_ hEk _) hEk _) hEk _) hEk _
      rw [HW]; exact ((hE.setOther (Ne.symm hAE) _).set 0 _).drewN m
    · refine Keeps.setIn (Keeps.setIn (Keeps.setIn (Keeps.setIn ?_ (.inr (.inr rfl)) _ _) (.inr (.inr rfl)) _ _) (.inr (.inr rfl)) _ _) (.inr (.inr rfl)) _ _
      rw [HW]
      exact (((Keeps.refl _ _).setIn (.inl rfl) _ _).setIn (.inr (.inl rfl)) _ _).drewN m
  obtain ⟨W2, hW2⟩ : ∃ W2, W2 = ((((W.setCell ⟨k, 0, none⟩ (.slice none 0 0)).setCell ⟨k, 1, none⟩ (.int .i64 0)).setCell ⟨k, 2, none⟩ (.bool false)).setCell ⟨k, 3, none⟩ (.int .i64 0)) := ⟨_, rfl⟩
  rw [← hW2] at hT ⊢
  clear hW2 HW dV d0 d1 d2 d3 f0 f1 f2 f3 dC hC hV hA hE
  have eV := Whole.cell hT.1 0 rfl
  simp only [List.getElem_toArray, List.getElem_cons_zero] at eV
  have eV2 : ∀ o, (W2.alloc o).cell? ⟨V, 0, none⟩ = some (.pointer (some ⟨k, 0, none⟩)) := fun o => Whole.cell (hT.1.alloc o) 0 rfl
  have hQ2 : Whole W2 q 73 cq := hQ.keep hT.2.2.2.2 (by
    rintro (e | e | e)
    · exact hAq e
    · exact hEq e
    · exact hq e)
  have hno : ∀ o, (binOp .neq 49 (.pointer (some ⟨q, 0, none⟩)) (.pointer (some ⟨k, 0, none⟩))).run Try.prog (W2.alloc o) = .ok (.bool true) (W2.alloc o) := fun o =>
    neqOther (by intro e; exact hq (congrArg Addr.block e)) (hQ2.alloc o) (Whole.alloc hT.2.2.2.1 o)
  have HT := Lib.hid hT
  clear hT hQ2 hAq hEq hQ
  apply wpS_seq
  apply wpS_region
  simp [wpOpsS, go_sem, recoverD, hu, Exit.thenS]
  refine wpS_of_wp ?_
  go_wp2
  exact ⟨rfl, .panicking ({ v := .iface 75 (.agg #[.pointer (some ⟨q, 0, none⟩)]), recovered := true } :: older), rfl, rfl, rfl, HT.out.alloc _⟩
end Go.Proofs.Ytidhcmamfdipiaa

/-
  PkAll; RecRises; ImOwnPlan; ImOwnPart; OwnP; SgOwnNum.
-/
import Derived.Laws.AppendOwnNone
import Derived.Test.YtjeammmfdniokaaGreatM03
import Derived.Test.YtjeammmfdniokaaGreatM17
import Derived.Test.YtjeammmfdniokaaGreatM19
import Derived.Test.YtjeammmfdniokaaGreatM20
import Derived.Test.YtjeammmfdniokaaGreatM21
import Derived.Test.YtjeammmfdniokaaGreatM22
import Derived.Test.YtjeammmfdniokaaGreatM28
namespace Go.Proofs.YtjeammmfdniokaaGreat
open Go.RowKit

end Go.Proofs.YtjeammmfdniokaaGreat

namespace Go.Proofs.YtjeammmfdniokaaGreat
open Go.RowKit

set_option maxHeartbeats 4000000 in
set_option maxRecDepth 10000 in
theorem rrising_own (p : Option Addr) (n c : Nat) (l : List Rec) (w : World) (hn : n = l.length) (hn9 : n ≤ 1000000) (hs : ∀ r ∈ l, r.Modest) (hl : RecsAt w p l) :
    Calls Tryz.prog 53 #[.slice p n c] w fun e w' => e = .returned (.int .i64 (risingR l)) ∧ Keeps NoBlock w w' := by
  have HL := Lib.hid hl
  have HN := Lib.hid hn
  have HFi := Lib.hid fun (r : Rec) (hr : r ∈ l) => (hs r hr).fine
  have HC := Lib.hid (fun (r : Rec) (hr : r ∈ l) w => check_own r (by have := (hs r hr).key; omega) (by have := (hs r hr).val; omega) w)
  clear hl hn hs
  go_enter Tryz.func53, Tryz.ntmps53
  go_wp2_with fail
  go_loopw [9] (fun i wr => ∃ j : Nat, j ≤ n ∧ i = .int .i64 (j : Int) ∧ firstBad (l.take j) = 0 ∧ Keeps NoBlock w wr) (fun i _ => n - (intOf i).toNat)
  case atStart => exact ⟨0, Nat.zero_le _, rfl, rfl, Keeps.refl _ _⟩
  case round =>
    obtain ⟨j, hj, rfl, hall, hk⟩ := hrel
    have HK := Lib.hid hk
    have HA := Lib.hid hall
    clear hk hall
    by_cases hlt : j < n
    · have hdj : decide ((j : Int) < (n : Int)) = true := decide_eq_true (by omega)
      have hjl : j < l.length := by rw [← HN.out]; exact hlt
      obtain ⟨a, rfl, c0, c1, c2, c3⟩ := (HL.out.keep HK.out (fun _ _ h => h)) j hjl
      have hmem : l.getD j Rec.none ∈ l := by simp [hjl]
      have HCr := Lib.hid (HC.out _ hmem)
      have HT := Lib.hid (firstBad_take hjl HA.out)
      obtain ⟨r, hr⟩ : ∃ r, r = l.getD j Rec.none := ⟨_, rfl⟩
      rw [← hr] at c0 c1 c2 c3 HCr HT
      obtain ⟨z, hz⟩ : ∃ z, z = checkR r := ⟨_, rfl⟩
      rw [← hz] at HCr HT
      unfold recV at HCr
      clear hr hmem hjl hz
      go_wp2_with fail
      refine (HCr.out _).mono ?_
      rintro e w1 ⟨rfl, hk⟩
      have HK1 := Lib.hid ((HK.out.alloc _).trans hk)
      clear hk
      by_cases h0 : z = 0
      · have hzb : (z != 0) = false := by simpa using h0
        have hzd : decide (z = 0) = true := decide_eq_true h0
        have HT0 : Hid (firstBad (l.take (j + 1)) = 0) := Lib.hid (by rw [HT.out]; exact h0)
        subst h0
        clear HT
        go_wp2_with fail
        exact ⟨⟨j + 1, by omega, by go_num, HT0.out, HK1.out⟩, by simp [intOf]; omega⟩
      · have hzb : (z != 0) = true := by simpa using h0
        have hzd : decide (z = 0) = false := decide_eq_false h0
        have HR : Hid (risingR l = z) := Lib.hid (by
          have hf : firstBad l = z := by rw [firstBad_stop (j := j + 1) (by rw [HT.out]; exact h0), HT.out]
          unfold risingR
          rw [hf, if_pos h0])
        go_wp2_with fail
        go_ret
        rw [HR.out]
        exact ⟨rfl, HK1.out⟩
    · have hdj : decide ((j : Int) < (n : Int)) = false := decide_eq_false (by omega)
      have HB : Hid (firstBad l = 0) := Lib.hid (by
        have := HA.out
        rwa [List.take_of_length_le (by rw [← HN.out]; omega)] at this)
      clear HA
      obtain ⟨wk, hwk⟩ : ∃ wk, wk = wr := ⟨_, rfl⟩
      subst hwk
      go_wp2_with fail
      go_loopw [6] (fun i wr => ∃ k : Nat, 1 ≤ k ∧ k ≤ n + 1 ∧ i = .int .i64 (k : Int) ∧ Hid (∀ i, i + 1 < k → i + 1 < l.length → (l.getD i Rec.none).seq < (l.getD (i + 1) Rec.none).seq) ∧ Keeps NoBlock w wr) (fun i _ => n + 1 - (intOf i).toNat)
      case atStart => exact ⟨1, Nat.le_refl _, by omega, rfl, Lib.hid (fun i h => by omega), HK.out⟩
      case round =>
        obtain ⟨k, hk1, hk, rfl, HA2, hkk⟩ := hrel
        have HK2 := Lib.hid hkk
        clear hkk
        by_cases hlt2 : k < n
        · have hdk : decide ((k : Int) < (n : Int)) = true := decide_eq_true (by omega)
          obtain ⟨m, rfl⟩ : ∃ m, k = m + 1 := ⟨k - 1, by omega⟩
          have hkl : m + 1 < l.length := by rw [← HN.out]; exact hlt2
          obtain ⟨a, rfl, c0, c1, c2, c3⟩ := (HL.out.keep HK2.out (fun _ _ h => h)) (m + 1) hkl
          obtain ⟨b, hb, d0, d1, d2, d3⟩ := (HL.out.keep HK2.out (fun _ _ h => h)) m (by omega)
          obtain rfl := Option.some.inj hb
          obtain ⟨r, hr⟩ : ∃ r, r = l.getD (m + 1) Rec.none := ⟨_, rfl⟩
          obtain ⟨s, hs⟩ : ∃ s, s = l.getD m Rec.none := ⟨_, rfl⟩
          rw [← hr] at c0 c1 c2 c3
          rw [← hs] at d0 d1 d2 d3
          have HRr := Lib.hid hr
          have HSs := Lib.hid hs
          clear hr hs hb c0 c2 c3 d0 d2 d3
          have hdk2 : decide ((m : Int) + 1 < (n : Int)) = true := decide_eq_true (by omega)
          have hmn : (m : Int) < (n : Int) := by omega
          have hmn2 : m < n := by omega
          have w1 : IntKind.i64.wrap (m : Int) = (m : Int) := by rw [IntKind.wrap_i64]; omega
          have hm0 : (0 : Int) ≤ (m : Int) := by omega
          have hm1 : (0 : Int) ≤ (m : Int) + 1 := by omega
          have hm2 : (m : Int) + 1 < (n : Int) := by omega
          have hm3 : ((m : Int) + 1).toNat = m + 1 := by omega
          have hm4 : (m : Int) + 1 - 1 = (m : Int) := by omega
          have hm5 : IntKind.i64.wrap ((m : Int) + 1 - 1) = (m : Int) := by rw [IntKind.wrap_i64]; omega
          have hadj : (∀ i, i + 1 < m + 1 + 1 → i + 1 < l.length → (l.getD i Rec.none).seq < (l.getD (i + 1) Rec.none).seq) ↔ s.seq < r.seq := by
            constructor
            · intro h
              have := h m (by omega) hkl
              rw [← HRr.out, ← HSs.out] at this
              exact this
            · intro h i hi hi2
              by_cases he : i = m
              · rw [he, ← HRr.out, ← HSs.out]
                exact h
              · exact HA2.out i (by omega) hi2
          have hbad : ¬ s.seq < r.seq → risingR l = 8 := fun h => by
            have hr : risesR l ≠ true := fun e => h (by
              have := rises_adj.1 e m hkl
              rwa [← HRr.out, ← HSs.out] at this)
            unfold risingR
            rw [HB.out, if_neg (by simp), if_neg hr]
          have HAd := Lib.hid hadj
          have HBd := Lib.hid hbad
          clear hadj hbad
          by_cases hsr : s.seq < r.seq
          · have hdd : decide ((r.seq : Int) ≤ (s.seq : Int)) = false := decide_eq_false (by omega)
            go_wp2_with fail
            have s0 : wr.drew.cell? ⟨(a.add ((m + 1) * 4)).block, (a.add ((m + 1) * 4)).off + 1, none⟩ = some (.int .u64 (r.seq : Int)) ∧ wr.drew.cell? ⟨(a.add (m * 4)).block, (a.add (m * 4)).off + 1, none⟩ = some (.int .u64 (s.seq : Int)) := ⟨c1, d1⟩
            go_region_held3 (fun w' => w'.cell? ⟨(a.add ((m + 1) * 4)).block, (a.add ((m + 1) * 4)).off + 1, none⟩ = some (.int .u64 (r.seq : Int)) ∧ w'.cell? ⟨(a.add (m * 4)).block, (a.add (m * 4)).off + 1, none⟩ = some (.int .u64 (s.seq : Int)))
              (first | exact s0 | exact ⟨c1, d1⟩)
              (fail)
            go_wp2_with fail
            exact ⟨⟨m + 1 + 1, by omega, by omega, by go_num, Lib.hid (HAd.out.2 hsr), by first | exact HK2.out | exact HK2.out.drew⟩, by simp [intOf]; omega⟩
          · have hdd : decide ((r.seq : Int) ≤ (s.seq : Int)) = true := decide_eq_true (by omega)
            have HRz := Lib.hid (HBd.out hsr)
            go_wp2_with fail
            have s0 : wr.drew.cell? ⟨(a.add ((m + 1) * 4)).block, (a.add ((m + 1) * 4)).off + 1, none⟩ = some (.int .u64 (r.seq : Int)) ∧ wr.drew.cell? ⟨(a.add (m * 4)).block, (a.add (m * 4)).off + 1, none⟩ = some (.int .u64 (s.seq : Int)) := ⟨c1, d1⟩
            go_region_held3 (fun w' => w'.cell? ⟨(a.add ((m + 1) * 4)).block, (a.add ((m + 1) * 4)).off + 1, none⟩ = some (.int .u64 (r.seq : Int)) ∧ w'.cell? ⟨(a.add (m * 4)).block, (a.add (m * 4)).off + 1, none⟩ = some (.int .u64 (s.seq : Int)))
              (first | exact s0 | exact ⟨c1, d1⟩)
              (fail)
            go_wp2_with fail
            go_ret
            rw [HRz.out]
            exact ⟨rfl, by first | exact HK2.out | exact HK2.out.drew⟩
        · have hdk : decide ((k : Int) < (n : Int)) = false := decide_eq_false (by omega)
          have HRz : Hid (risingR l = 0) := Lib.hid (risingR_zero.2 ⟨HB.out, rises_adj.2 (fun i hi => HA2.out i (by have := HN.out; omega) hi)⟩)
          go_wp2_with fail
          go_ret
          rw [HRz.out]
          exact ⟨rfl, HK2.out⟩

theorem rises_ok : RisesOk where
  rising := fun p n c l w hn _ _ hn9 hs hl => rrising_own p n c l w hn hn9 hs hl
end Go.Proofs.YtjeammmfdniokaaGreat

namespace Go.Proofs.YtjeammmfdniokaaGreat
open Go.RowKit

def sizeF (l : List Rec) (j i : Nat) : Value := if i < j then intV ((sizesR l).getD i 0) else .int .i64 0
theorem sizeF_step (l : List Rec) {j : Nat} (hj : j < l.length) (i : Nat) : (if i = j then (.int .i64 (((recB (l.getD j Rec.none)).length : Nat) : Int)) else sizeF l j i) = sizeF l (j + 1) i := by
  unfold sizeF
  by_cases h : i = j
  · subst h
    rw [if_pos rfl, if_pos (by omega)]
    unfold intV sizesR
    simp [hj]
  · rw [if_neg h]
    by_cases h2 : i < j
    · rw [if_pos h2, if_pos (by omega)]
    · rw [if_neg h2, if_neg (by omega)]
theorem sizeF_made (n : Nat) (l : List Rec) : ∀ i, i < n * 1 → ((madeCells #[Value.int .i64 0] n).toList).getD i (.bool false) = sizeF l 0 i := fun i hi => by
  unfold sizeF
  rw [if_neg (by omega)]
  have hi2 : i < n := by omega
  simp [madeCells, hi2, Nat.mod_one]

set_option maxHeartbeats 8000000 in
set_option maxRecDepth 10000 in
theorem implan_own (e s : Nat) (p : Option Addr) (n c : Nat) (l : List Rec) (w : World) (he : e < 256) (hs : s < 4294967296) (hn9 : n ≤ 10000) (h : InR w p n c l) :
    Calls Tryz.prog 33 #[confV e s, .slice p n c] w fun r w' => ∃ v, r = .returned (.tuple #[v, .int .i64 (planI e s l).1]) ∧ NewRow32 w (planI e s l).2 v w' := by
  have HM := Lib.hid (fun w => check_conf e s w)
  have HRs := Lib.hid (fun (w : World) hl => rises_ok.rising p n c l w h.len h.cap h.room (by omega) (fun r hr => ⟨h.fine r hr, by have := h.key r hr; omega, by have := h.val r hr; omega⟩) hl)
  have HI := Lib.hid h
  have HK := Lib.hid ((Keeps.refl NoBlock w).alloc (.cells (confCells e s) 27))
  have HC := Lib.hid (Whole.new w 27 (confCells e s))
  clear h
  by_cases hm : mayC e s = true
  rotate_left
  · rw [Bool.not_eq_true] at hm
    have hp : planI e s l = (1, []) := by unfold planI; rw [if_neg (by rw [hm]; simp)]
    rw [checkC_not hm] at HM
    rw [hp]
    clear hm hp
    unfold confV at HM ⊢
    go_enter Tryz.func33, Tryz.ntmps33
    go_wp2_with fail
    refine (HM.out _).mono ?_
    rintro e9 w1 ⟨rfl, hk⟩
    have HK := Lib.hid (HK.out.trans hk)
    clear hk
    go_wp2_with fail
    exact bodyPost_ret (results_tmp2 rfl _ _ _) rfl ⟨_, rfl, NewRow32.none HK.out⟩
  rw [checkC_may hm] at HM
  obtain ⟨y, hy⟩ : ∃ y, y = risingR l := ⟨_, rfl⟩
  rw [← hy] at HRs
  by_cases hr : y = 0
  rotate_left
  · have hp : planI e s l = (y, []) := by unfold planI; rw [if_pos hm, ← hy, if_pos hr]
    have hz0 : (y != 0) = true := by rw [bne_iff_ne]; exact hr
    rw [hp]
    clear hm hp hy
    unfold confV at HM ⊢
    go_enter Tryz.func33, Tryz.ntmps33
    go_wp2_with fail
    refine (HM.out _).mono ?_
    rintro e9 w1 ⟨rfl, hk⟩
    have HK := Lib.hid (HK.out.trans hk)
    clear hk
    go_wp2_with fail
    refine (HRs.out _ (HI.out.at_.keep HK.out (fun _ _ h => h))).mono ?_
    rintro e9 w2 ⟨rfl, hk⟩
    have HK := Lib.hid (HK.out.trans hk)
    clear hk
    go_wp2_with fail
    exact bodyPost_ret (results_tmp2 rfl _ _ _) rfl ⟨_, rfl, NewRow32.none HK.out⟩
  subst hr
  have hp : planI e s l = planP e s (sizesR l) := by unfold planI; rw [if_pos hm, ← hy, if_neg (by simp)]
  rw [hp]
  have hck : ∀ r ∈ l, checkR r = 0 := by
    have h0 : risingR l = 0 := hy.symm
    unfold risingR at h0
    by_cases hb : firstBad l = 0
    · exact firstBad_zero.1 hb
    · simp [hb] at h0
  have HPl := Lib.hid (fun q d w (h : InZ w q n d (sizesR l)) => plan_own e s q n d (sizesR l) w he hs h (by omega))
  have HRc := Lib.hid (fun j (hj : j < l.length) w => putrec_own (l.getD j Rec.none) w ⟨HI.out.fine _ (getR_mem hj), HI.out.key _ (getR_mem hj), HI.out.val _ (getR_mem hj)⟩)
  have HZ := Lib.hid (fun j (hj : j < l.length) => (show checkR (l.getD j Rec.none) = 0 ∧ putR (l.getD j Rec.none) = recB (l.getD j Rec.none) from ⟨hck _ (getR_mem hj), by unfold putR; rw [if_pos (hck _ (getR_mem hj))]; rfl⟩))
  have HFi : Hid (∀ z ∈ sizesR l, -9223372036854775808 ≤ z ∧ z ≤ 9223372036854775807) := Lib.hid (fun z hz => by
    obtain ⟨r, hr, rfl⟩ := List.mem_map.1 hz
    have := recB_few (HI.out.fine r hr) (HI.out.key r hr) (HI.out.val r hr)
    omega)
  obtain ⟨i0, hi, hz0, hz1, hz2⟩ := info_parts infoInt
  have HN := Lib.hid (show n = l.length from HI.out.len)
  clear hm hp hy hck he hs
  obtain ⟨T, hT⟩ : ∃ T, T = planP e s (sizesR l) := ⟨_, rfl⟩
  rw [← hT] at HPl ⊢
  clear hT
  unfold confV at HM HPl ⊢
  go_enter Tryz.func33, Tryz.ntmps33
  go_wp2_with fail
  refine (HM.out _).mono ?_
  rintro e9 w1 ⟨rfl, hk⟩
  have HK := Lib.hid (HK.out.trans hk)
  have HC := Lib.hid (HC.out.keep hk (fun h => h))
  clear hk
  go_wp2_with fail
  refine (HRs.out _ (HI.out.at_.keep HK.out (fun _ _ h => h))).mono ?_
  rintro e9 w2 ⟨rfl, hk⟩
  have HK := Lib.hid (HK.out.trans hk)
  have HC := Lib.hid (HC.out.keep hk (fun h => h))
  have HG2 := Lib.hid HC.out.lt
  clear hk HRs HM
  go_wp2_with (at_make; refine wpList_make_full _ rfl _ _ 66 rfl w2.heap.size 3 i0 (.int .i64 0) 1 Tryz.underlying66 hi hz0 hz1 .i64 .i64 (n : Int) (n : Int) n rfl rfl rfl rfl (by rw [hz2]; omega) (by unfold maxLen; omega) (Nat.le_refl _) ?_)
  intro w3 hown hgrow
  have hR0 := (RowV.ofOwn hown).congr (sizeF_made n l)
  rw [Nat.mul_one] at hR0
  have hk3 : Keeps NoBlock w2 w3 := (Keeps.refl NoBlock w2).grown hgrow (fun k hk => by simp at hk)
  have HK := Lib.hid (HK.out.trans hk3)
  have HC := Lib.hid (HC.out.keep hk3 (fun h => h))
  obtain ⟨g, hgd⟩ : ∃ g, g = w2.heap.size := ⟨_, rfl⟩
  rw [← hgd] at hR0 ⊢
  have HG : Hid (w.heap.size < g) := Lib.hid (by rw [hgd]; exact HG2.out)
  have HR := Lib.hid hR0
  clear hown hgrow hR0 hk3 hgd
  go_wp2_with fail
  go_loopw [28] (fun i wr => ∃ j : Nat, j ≤ n ∧ i = .int .i64 (j : Int) ∧ Hid (RowV 3 wr g n (sizeF l j)) ∧ Hid (Whole wr w.heap.size 27 (confCells e s)) ∧ Hid (Keeps NoBlock w wr)) (fun i _ => n - (intOf i).toNat)
  case atStart => exact ⟨0, Nat.zero_le _, rfl, HR, HC, HK⟩
  case round =>
    clear HR HC HK
    obtain ⟨j, hj, rfl, HR, HC, HK⟩ := hrel
    by_cases hlt : j < n
    · have hdj : decide ((j : Int) < (n : Int)) = true := decide_eq_true (by omega)
      have hdj2 : decide (j < n) = true := decide_eq_true hlt
      have hjn : (j : Int) < (n : Int) := by omega
      have hjl : j < l.length := by rw [← HN.out]; exact hlt
      obtain ⟨a, rfl, c0, c1, c2, c3⟩ := (HI.out.at_.keep HK.out (fun _ _ h => h)) j hjl
      have HRj := Lib.hid (HRc.out j hjl)
      obtain ⟨hc0, hpr⟩ := HZ.out j hjl
      have HSt := Lib.hid (fun i => sizeF_step l hjl i)
      obtain ⟨r, hr⟩ : ∃ r, r = l.getD j Rec.none := ⟨_, rfl⟩
      rw [← hr] at c0 c1 c2 c3 HRj HSt hc0 hpr
      rw [hc0, hpr] at HRj
      obtain ⟨Z, hZ⟩ : ∃ Z, Z = (recB r).length := ⟨_, rfl⟩
      rw [← hZ] at HSt
      have HZe := Lib.hid hZ
      have hkA := (Keeps.refl NoBlock wr).alloc (.cells #[.bool r.del, .int .u64 (r.seq : Int), .string (strOfNums r.key), .string (strOfNums r.val)] 46)
      have HKA := Lib.hid hkA
      unfold recV at HRj
      clear hr hjl hc0 hpr hZ hkA
      go_wp2_with fail
      refine (HRj.out _).mono ?_
      rintro e9 w5 ⟨v5, rfl, q5, m5, d5, rfl, hm5, -, -, -, -, hk⟩
      obtain rfl : m5 = Z := by rw [hm5, HZe.out]
      have hk5 := HKA.out.trans hk
      have HR5 := Lib.hid (HR.out.keep hk5 (fun h => h))
      have HC5 := Lib.hid (HC.out.keep hk5 (fun h => h))
      have HK5 := Lib.hid (HK.out.trans hk5)
      have x0 := HR5.out.cell hlt
      have f0 := HR5.out.free j
      have HRn := Lib.hid ((HR5.out.put hlt (.int .i64 (m5 : Int))).congr (fun i _ => HSt.out i))
      have HCn := Lib.hid (HC5.out.setOther (p := ⟨g, j, none⟩) (by have := HG.out; show w.heap.size ≠ g; omega) (.int .i64 (m5 : Int)))
      have HKn := Lib.hid (HK5.out.setNew (g := g) (by have := HG.out; omega) j (.int .i64 (m5 : Int)))
      clear hk hk5 hm5 HRj HKA c0 c1 c2 c3
      go_wp2_with fail
      go_roundw
      case rel => exact ⟨j + 1, by omega, by go_num, HRn, HCn, HKn⟩
      case measure => simp [intOf]; omega
    · have hdj : decide ((j : Int) < (n : Int)) = false := decide_eq_false (by omega)
      have hdj2 : decide (j < n) = false := decide_eq_false hlt
      obtain rfl : j = n := by omega
      have hin : InZ wr (some ⟨g, 0, none⟩) j j (sizesR l) := ⟨by rw [sizesR_length]; exact HN.out, Nat.le_refl _, by omega, fun h => by simp at h, HFi.out, fun i hi => by
        rw [sizesR_length, ← HN.out] at hi
        refine ⟨_, rfl, ?_⟩
        rw [addZero]
        have := HR.out.cell hi
        unfold sizeF at this
        rw [if_pos hi] at this
        exact this⟩
      have HPz := Lib.hid (HPl.out _ _ _ hin)
      have g0 := HC.out.cell 0 rfl
      have g1 := HC.out.cell 1 rfl
      simp only [confCells, List.getElem_toArray, List.getElem_cons_zero, List.getElem_cons_succ] at g0 g1
      clear hin
      go_wp2_with fail
      refine HPz.out.mono ?_
      rintro e9 w7 ⟨v7, rfl, q7, m7, d7, rfl, a1, a2, a3, a4, a5, hk⟩
      have HE := Lib.hid (show NewRow32 w T.2 (.slice q7 m7 d7) w7 from ⟨q7, m7, d7, rfl, a1, a2, a3, a4, a5, HK.out.trans hk⟩)
      clear a1 a2 a3 a4 a5 hk
      go_wp2_with fail
      exact bodyPost_ret (results_tmp2 rfl _ _ _) rfl ⟨_, rfl, HE.out⟩
end Go.Proofs.YtjeammmfdniokaaGreat

namespace Go.Proofs.YtjeammmfdniokaaGreat
open Go.RowKit

def spanV (p : Option Addr) (c : Nat) (x : Nat × Nat) : Value := .slice (p.map (·.add (x.1 * 4))) x.2 (c - x.1)
/-- What part answers. -/
def PartOut (e s : Nat) (p : Option Addr) (c : Nat) (l : List Rec) (w : World) (v : Value) (w' : World) : Prop :=
  ((planI e s l).1 ≠ 0 ∧ v = .slice none 0 0 ∧ Keeps NoBlock w w') ∨
  ((planI e s l).1 = 0 ∧ ∃ sp q m d, v = .slice q m d ∧ partsGo [] l (planI e s l).2 = sp.map (segL l) ∧ (∀ x ∈ sp, x.1 + x.2 ≤ l.length) ∧ m = sp.length ∧ m ≤ l.length ∧ m ≤ d ∧ d ≤ 9223372036854775807 ∧ OnesAt (spanV p c) (0, 0) w' q sp ∧ Keeps NoBlock w w')
theorem add_recs (a : Addr) (f i k : Nat) : (⟨((a.add (f * 4)).add (i * 4)).block, ((a.add (f * 4)).add (i * 4)).off + k, none⟩ : Addr) = ⟨(a.add ((f + i) * 4)).block, (a.add ((f + i) * 4)).off + k, none⟩ := by
  rw [addAdd, ← Nat.add_mul]
/-- A cut of records that come in. -/
theorem InR.cut {w : World} {p : Option Addr} {n c : Nat} {l : List Rec} (h : InR w p n c l) {x : Nat × Nat} (hx : x.1 + x.2 ≤ l.length) : InR w (p.map (·.add (x.1 * 4))) x.2 (c - x.1) (segL l x) where
  len := (segL_length hx).symm
  cap := by have := h.cap; have := h.len; omega
  room := by have := h.room; omega
  fine := fun r hr => h.fine r (segL_mem hr)
  key := fun r hr => h.key r (segL_mem hr)
  val := fun r hr => h.val r (segL_mem hr)
  at_ := fun i hi => by
    rw [segL_length hx] at hi
    obtain ⟨a, rfl, c0, c1, c2, c3⟩ := h.at_ (x.1 + i) (by omega)
    rw [segL_at hi]
    refine ⟨a.add (x.1 * 4), rfl, ?_, ?_, ?_, ?_⟩
    · rw [addAdd, ← Nat.add_mul]; exact c0
    · rw [add_recs]; exact c1
    · rw [add_recs]; exact c2
    · rw [add_recs]; exact c3

set_option maxHeartbeats 8000000 in
set_option maxRecDepth 10000 in
theorem impart_own (e s : Nat) (p : Option Addr) (n c : Nat) (l : List Rec) (w : World) (he : e < 256) (hs : s < 4294967296) (hn9 : n ≤ 10000) (h : InR w p n c l) :
    Calls Tryz.prog 19 #[confV e s, .slice p n c] w fun r w' => ∃ v, r = .returned (.tuple #[v, .int .i64 (planI e s l).1]) ∧ PartOut e s p c l w v w' := by
  have HP := Lib.hid (fun w h => implan_own e s p n c l w he hs hn9 h)
  have HI := Lib.hid h
  have HK := Lib.hid ((Keeps.refl NoBlock w).alloc (.cells (confCells e s) 27))
  have hst := planI_steps (e := e) (s := s) (l := l)
  have hN := h.len
  have hC := h.cap
  have hM := h.room
  clear h he hs
  unfold PartOut at *
  obtain ⟨T, hT⟩ : ∃ T, T = planI e s l := ⟨_, rfl⟩
  rw [← hT] at HP hst ⊢
  clear hT
  obtain ⟨y, ks⟩ := T
  simp only at HP hst ⊢
  by_cases hy : y = 0
  rotate_left
  · have hz0 : (y != 0) = true := by rw [bne_iff_ne]; exact hy
    have HY := Lib.hid hy
    unfold confV at HP ⊢
    clear hy hst hN hC hM
    go_enter Tryz.func19, Tryz.ntmps19
    go_wp2_with fail
    refine (HP.out _ (HI.out.keep HK.out)).mono ?_
    rintro e9 w1 ⟨v1, rfl, q1, m1, d1, rfl, -, -, -, -, -, hk⟩
    have HK := Lib.hid (HK.out.trans hk)
    clear hk
    go_wp2_with fail
    exact bodyPost_ret (results_tmp2 rfl _ _ _) rfl ⟨_, rfl, .inl ⟨HY.out, rfl, HK.out⟩⟩
  subst hy
  obtain ⟨hst1, hst2⟩ := hst rfl
  have HSt := Lib.hid hst1
  have HN := Lib.hid (And.intro hN hst2)
  have HCm := Lib.hid (And.intro hC hM)
  obtain ⟨i0, hi, hz0, hz1, hz2⟩ := info_parts infoRcs
  unfold confV at HP ⊢
  clear hst hst1 hst2 hN hC hM
  go_enter Tryz.func19, Tryz.ntmps19
  go_wp2_with fail
  refine (HP.out _ (HI.out.keep HK.out)).mono ?_
  rintro e9 w1 ⟨v1, rfl, q1, m1, d1, rfl, hm1, -, -, -, hrow, hk⟩
  have HK := Lib.hid (HK.out.trans hk)
  have HRo := Lib.hid hrow
  obtain rfl : n = m1 := by rw [hm1, HN.out.1]; exact HN.out.2
  clear hk hrow hm1 HP
  go_wp2_with fail
  go_loopw [8, 9, 23] (fun v fr i wr => ∃ (j f : Nat) (sp : List (Nat × Nat)), j ≤ n ∧ i = .int .i64 (j : Int) ∧ fr = .int .i64 (f : Int) ∧ Hid (Spans l ks j f sp) ∧ Hid (OnesSoFar (spanV p c) 22 w1 sp v wr)) (fun _ _ i _ => n - (intOf i).toNat)
  case atStart => exact ⟨0, 0, [], Nat.zero_le _, rfl, rfl, Lib.hid (spans_start HN.out.2 HSt.out), Lib.hid (OnesSoFar.start w1)⟩
  case round =>
    obtain ⟨j, f, sp, hj, rfl, rfl, HSp, HR⟩ := hrel
    by_cases hlt : j < n
    rotate_left
    · have hdj : decide ((j : Int) < (n : Int)) = false := decide_eq_false (by omega)
      have hdj2 : decide (j < n) = false := decide_eq_false hlt
      obtain rfl : j = n := by omega
      have HA := Lib.hid (show partsGo [] l ks = sp.map (segL l) ∧ (∀ x ∈ sp, x.1 + x.2 ≤ l.length) ∧ sp.length ≤ j from by
        have h1 := HSp.out
        rw [HN.out.1] at h1
        exact ⟨h1.all HN.out.2, h1.inn, by rw [HN.out.1]; exact h1.few⟩)
      clear HSp
      go_wp2_with fail
      refine bodyPost_ret (results_tmp2 rfl _ _ _) rfl ?_
      obtain ⟨q, m, d, rfl, b1, b2, b3, b4, b5, b6⟩ := HR.out.new (dd := (0, 0))
      exact ⟨_, rfl, .inr ⟨by trivial, sp, q, m, d, rfl, HA.out.1, HA.out.2.1, b1, by rw [b1, ← HN.out.1]; exact HA.out.2.2, b2, b3, b5, HK.out.trans b6⟩⟩
    have hdj : decide ((j : Int) < (n : Int)) = true := decide_eq_true (by omega)
    have hdj2 : decide (j < n) = true := decide_eq_true hlt
    have hjn : (j : Int) < (n : Int) := by omega
    have hjl : j < l.length := by rw [← HN.out.1]; exact hlt
    obtain ⟨pa, rfl, -⟩ := HI.out.at_ j hjl
    obtain ⟨qa, rfl, x0⟩ := (HRo.out.keep HR.out.keeps (fun _ _ h => h)) j (by rw [← HN.out.2]; exact hjl)
    have HNx := Lib.hid (fun (h : j + 1 < n) => (HRo.out.keep HR.out.keeps (fun _ _ h => h)) (j + 1) (by rw [← HN.out.2, ← HN.out.1]; exact h))
    obtain ⟨k, hk⟩ : ∃ k, k = ks.getD j 0 := ⟨_, rfl⟩
    rw [← hk] at x0
    have HKd := Lib.hid hk
    have hfj := HSp.out.le
    have hfI : (f : Int) ≤ (j : Int) := by omega
    have hcn := HCm.out.1
    have hcM := HCm.out.2
    have hjc : (j : Int) + 1 ≤ (c : Int) := by omega
    clear hk
    by_cases hlast : j + 1 = n
    · have hb : ((j : Int) + 1 == (n : Int)) = true := by rw [beq_iff_eq]; omega
      have hb2 : (j : Int) + 1 = (n : Int) := by omega
      have hwhy : j + 1 = l.length := by rw [← HN.out.1]; exact hlast
      have HSn : Hid (Spans l ks (j + 1) (j + 1) (sp ++ [(f, n - f)])) := Lib.hid (by have h := HSp.out.flush HN.out.2 HSt.out hjl (.inl hwhy); rwa [show j + 1 - f = n - f by omega] at h)
      have hfew := HSp.out.few
      have hwrap : IntKind.i64.wrap ((j : Int) + 1) = ((j : Int) + 1) := by rw [IntKind.wrap_i64]; omega
      have hwrap2 : wrap64 ((j : Int) + 1) = ((j : Int) + 1) := by unfold wrap64; omega
      have HR2 := Lib.hid (HR.out.alloc (.cells #[.slice (some (pa.add (f * 4))) (n - f) (c - f)] 22))
      have HW : Hid (Whole (wr.alloc (.cells #[.slice (some (pa.add (f * 4))) (n - f) (c - f)] 22)) wr.heap.size 22 #[.slice (some (pa.add (f * 4))) (n - f) (c - f)]) := Lib.hid (Whole.new _ _ _)
      go_wp2_with (at_builtin; refine wpList_append_oneG (v0 := spanV (some pa) c) rfl _ _ 53 rfl 22 i0 (.slice none 0 0) 24 Tryz.underlying53 hi hz0 hz1 hz2 rfl _ sp rfl HR2.out wr.heap.size (f, n - f) rfl (HW.out.cell 0 rfl) rfl (by omega) (by omega) ?_)
      intro v' w6 h6 hg6
      have HR6 := Lib.hid h6
      clear h6 hg6
      go_wp2_with fail
      exact ⟨⟨j + 1, j + 1, sp ++ [(f, n - f)], by omega, by go_num, by go_num, HSn, HR6⟩, by simp [intOf]; omega⟩
    have hb : ((j : Int) + 1 == (n : Int)) = false := by rw [beq_eq_false_iff_ne]; omega
    have hb2 : ¬ (j : Int) + 1 = (n : Int) := by omega
    obtain ⟨qb, hqb, x1⟩ := HNx.out (by omega)
    obtain rfl := Option.some.inj hqb
    obtain ⟨k2, hk2⟩ : ∃ k, k = ks.getD (j + 1) 0 := ⟨_, rfl⟩
    rw [← hk2, show qa.add (j + 1) = ⟨qa.block, qa.off + (j + 1), none⟩ from by unfold Addr.add; rw [if_neg (by omega)]] at x1
    have HKd2 := Lib.hid hk2
    have hj1 : (j : Int) + 1 < (n : Int) := by omega
    have hj1n : j + 1 < n := by omega
    clear hk2 hqb
    by_cases heq : k2 = k
    · subst heq
      have HSn := Lib.hid (HSp.out.go HN.out.2 (by rw [← HN.out.1]; exact hj1n) (by rw [← HKd2.out, ← HKd.out]))
      go_wp2_with fail
      exact ⟨⟨j + 1, f, sp, by omega, by go_num, rfl, HSn, HR⟩, by simp [intOf]; omega⟩
    · have hne : ((k2 : Int) != (k : Int)) = true := by rw [bne_iff_ne]; omega
      have hne2 : ¬ (k2 : Int) = (k : Int) := by omega
      have HSn : Hid (Spans l ks (j + 1) (j + 1) (sp ++ [(f, j + 1 - f)])) := Lib.hid (by have h := HSp.out.flush HN.out.2 HSt.out hjl (.inr (by rw [← HKd2.out, ← HKd.out]; exact heq)); rwa [show j + 1 - f = j + 1 - f by omega] at h)
      have hfew := HSp.out.few
      have hwrap : IntKind.i64.wrap ((j : Int) + 1) = ((j : Int) + 1) := by rw [IntKind.wrap_i64]; omega
      have hwrap2 : wrap64 ((j : Int) + 1) = ((j : Int) + 1) := by unfold wrap64; omega
      have HR2 := Lib.hid (HR.out.alloc (.cells #[.slice (some (pa.add (f * 4))) (j + 1 - f) (c - f)] 22))
      have HW : Hid (Whole (wr.alloc (.cells #[.slice (some (pa.add (f * 4))) (j + 1 - f) (c - f)] 22)) wr.heap.size 22 #[.slice (some (pa.add (f * 4))) (j + 1 - f) (c - f)]) := Lib.hid (Whole.new _ _ _)
      go_wp2_with (at_builtin; refine wpList_append_oneG (v0 := spanV (some pa) c) rfl _ _ 53 rfl 22 i0 (.slice none 0 0) 24 Tryz.underlying53 hi hz0 hz1 hz2 rfl _ sp rfl HR2.out wr.heap.size (f, j + 1 - f) rfl (HW.out.cell 0 rfl) rfl (by omega) (by omega) ?_)
      intro v' w6 h6 hg6
      have HR6 := Lib.hid h6
      clear h6 hg6
      go_wp2_with fail
      exact ⟨⟨j + 1, j + 1, sp ++ [(f, j + 1 - f)], by omega, by go_num, by go_num, HSn, HR6⟩, by simp [intOf]; omega⟩
end Go.Proofs.YtjeammmfdniokaaGreat

namespace Go.Proofs.YtjeammmfdniokaaGreat
open Go.RowKit

theorem OwnP.nilP (w : World) (base : Nat) : OwnP w base (.slice none 0 0) 0 [] := ⟨rfl, .inl ⟨rfl, rfl⟩⟩
/-- More bytes are appended. -/
theorem run_append_P (w : World) (base : Nat) (ty : TypeId) (v : Value) (n : Nat) (xs : List Value) (hown : OwnP w base v n xs)
    (a : Addr) (m c : Nat) (news : List Value) (hl : news.length = m * 1) (hnews : ∀ j u, news[j]? = some u → w.cell? (a.add j) = some u) (h1 : ∀ u ∈ news, u.oneCell' = true)
    (h63 : n + m ≤ maxLen) (hbytes : (n + m) * 1 ≤ 140737488355328) (hbase : base ≤ w.heap.size) :
    ∃ v' w', (Builtin.append_ #[29, 29] ty #[v, .slice (some a) m c]).run Tryz.prog w = .ok v' w' ∧ OwnP w' base v' (n + m) (xs ++ news) ∧ w.grownBy w' v.ownBlock := by
  obtain ⟨i0, hi, hz0, hz1, hz2⟩ := info_parts infoByte
  rcases hown.2 with ⟨rfl, rfl⟩ | ⟨g, cap, cur, rfl, hbg, hg, hnc, hcm, hcs, htake⟩
  · obtain rfl : xs = [] := List.eq_nil_of_length_eq_zero hown.1
    obtain ⟨v', w', h2, h3, h4, _⟩ := run_append_own (P := Tryz.prog) w base 29 ty 5 i0 (.int .u8 0) 1 1 Tryz.underlying29 hi hz0 hz1 hz2 rfl (by decide) _ 0 [] (World.ownsRow_nil _ _ _ _) a m c news hl hnews h1 h63 hbytes hbase
    exact ⟨v', w', h2, OwnP.ofRow h3, h4⟩
  · by_cases hroom : n + m ≤ cap
    · have hr := run_append_room (P := Tryz.prog) w 29 ty 5 i0 Tryz.underlying29 hi g n cap cur hg a m c news (by rw [hz1]; exact hl) hnews h1 hroom (by rw [hz1]; omega)
      rw [hz1] at hr
      refine ⟨_, _, hr, ⟨by rw [List.length_append, hown.1]; omega, .inr ⟨g, cap, _, rfl, hbg, setRow_heap w g cur _ 5 _ hg, hroom, hcm, ?_, ?_⟩⟩, ⟨rfl, rfl, rfl, by simp, fun k _ hk => setRow_other w g k _ (fun e => hk (by simp [Value.ownBlock, e]))⟩⟩
      · simp only [List.size_toArray, List.length_append, List.length_take, List.length_drop, Array.length_toList]
        omega
      · rw [Nat.mul_one, htake]
        have e : n + m = (xs ++ news).length := by rw [List.length_append, hown.1]; omega
        rw [e]
        exact List.take_left
    · have holds : ∀ j u, xs[j]? = some u → w.cell? ((⟨g, 0, none⟩ : Addr).add j) = some u := fun j u hu => by
        have hw : Whole w g 5 cur := hg
        rw [addZero]
        refine hw.cell j ?_
        rw [← htake, List.getElem?_take] at hu
        split at hu
        · simpa using hu
        · cases hu
      have hr := run_append_grow (P := Tryz.prog) w 29 ty 5 i0 (.int .u8 0) Tryz.underlying29 hi hz0 ⟨g, 0, none⟩ n cap xs (by rw [hz1, hown.1]; omega) holds a m c news (by rw [hz1]; exact hl) hnews (by omega) (by unfold maxLen at h63; omega) (growslice_fits (by omega) (by rw [hz2]; exact hbytes))
      refine ⟨_, _, hr, ?_, ⟨rfl, rfl, rfl, by simp, fun k hk _ => Below.heap_alloc w.drew _ k hk⟩⟩
      have hge := grownCap_ge w (n + m) cap 5
      have hcmx : grownCap w (n + m) cap 5 ≤ maxLen := grownCap_le_maxLen w (n + m) cap 5 h63
      refine ⟨by rw [List.length_append, hown.1]; omega, .inr ⟨w.heap.size, _, _, rfl, hbase, heap_alloc_new w.drew _, hge, hcmx, ?_, ?_⟩⟩
      · have hzc : (Value.int .u8 0).cells.size = 1 := rfl
        simp only [Array.size_append, List.size_toArray, size_zeroCells, hzc, hown.1, hl]
        omega
      · have e : n + m = (xs ++ news).length := by rw [List.length_append, hown.1]; omega
        rw [e]
        simp only [Array.toList_append, List.append_assoc]
        rw [← List.append_assoc]
        exact List.take_left
theorem wpList_append_P {w : World} {ops : Array Oper} {rest : List Oper} {o : Oper} {a : Act} {Q : Exit → Act → World → Prop} (hgd : o.guard = none) (s x : Operand)
    (ho : o.op = .call { callee := .builtin .append, args := #[s, x], argTypes := #[29, 29] }) (base : Nat)
    (v : Value) (n : Nat) (xs : List Value) (hs : a.eval s = v) (hown : OwnP w base v n xs)
    (ad : Addr) (m c : Nat) (news : List Value) (hx : a.eval x = .slice (some ad) m c) (hl : news.length = m * 1) (hnews : ∀ j u, news[j]? = some u → w.cell? (ad.add j) = some u) (h1 : ∀ u ∈ news, u.oneCell' = true)
    (h63 : n + m ≤ maxLen) (hbytes : (n + m) * 1 ≤ 140737488355328) (hbase : base ≤ w.heap.size)
    (h : ∀ v' w', OwnP w' base v' (n + m) (xs ++ news) → w.grownBy w' v.ownBlock → wpList Tryz.prog ops Q rest (a.put o.dst v') w') : wpList Tryz.prog ops Q (o :: rest) a w := by
  refine wpList_plain hgd fun K hK => ?_
  obtain ⟨v', w', hr, h2, h3⟩ := run_append_P w base o.type v n xs hown ad m c news hl hnews h1 h63 hbytes hbase
  unfold Oper.wp execOp
  simp only [ho, resolve, invoke, builtin, Sem.run_bind, Sem.run_pure, Result.andThen_ok, List.map_toArray, List.map_cons, List.map_nil, hs, hx, hr]
  exact hK _ _ (h v' w' h2 h3)
end Go.Proofs.YtjeammmfdniokaaGreat

namespace Go.Proofs.YtjeammmfdniokaaGreat

theorem recsB_cons (r : Rec) (l : List Rec) : recsB (r :: l) = recB r ++ recsB l := by unfold recsB; rw [List.flatMap_cons]
theorem entsGo_mem : ∀ (l : List Rec) (k : Nat) (x : En), x ∈ entsGo k l → ∃ r ∈ l, x.hash = (wxxh 0 r.key).toNat ∧ x.at_ < k + (recsB l).length
  | [], _, x, h => by simp [entsGo] at h
  | r :: l, k, x, h => by
    rw [entsGo] at h
    have hp := recB_pos r
    rcases List.mem_cons.1 h with rfl | h
    · exact ⟨r, List.mem_cons_self, rfl, by rw [recsB_cons, List.length_append]; show k < _; omega⟩
    · obtain ⟨y, hy, h1, h2⟩ := entsGo_mem l _ x h
      exact ⟨y, List.mem_cons_of_mem _ hy, h1, by rw [recsB_cons, List.length_append]; omega⟩
theorem outS_len (e s n : Nat) (l : List Rec) : (outS e s n l).length = headLen e s n + (recsB l).length := by
  unfold outS headLen
  rw [List.length_append]
theorem ents_below {e s n : Nat} {l : List Rec} {x : En} (h : x ∈ entsS e s n l) : x.at_ < (outS e s n l).length := by
  obtain ⟨_, _, _, h2⟩ := entsGo_mem l _ x h
  rw [outS_len]
  exact h2
theorem ents_len (e s n : Nat) (l : List Rec) : (entsS e s n l).length = l.length := entsGo_length l _
/-- The footer of a segment's records may be. -/
theorem seal_check {e s n : Nat} {l : List Rec} (h0 : 0 < l.length) (h9 : l.length ≤ 100000) : checkFt ⟨(outS e s n l).length, sortE (entsS e s n l)⟩ = 0 := by
  have hl := sortE_len (entsS e s n l)
  rw [ents_len] at hl
  refine checkFt_ok.2 ⟨?_, by show (sortE _).length ≤ _; omega, sortE_rises _, ?_⟩
  · show 1 ≤ (sortE (entsS e s n l)).length
    have h : (entsS e s n l)[0]'(by rw [ents_len]; exact h0) ∈ sortE (entsS e s n l) := sortE_mem.2 (List.getElem_mem _)
    exact List.length_pos_of_mem h
  · unfold belowFt
    rw [List.all_eq_true]
    intro x hx
    simp only [decide_eq_true_eq]
    exact ents_below (sortE_mem.1 hx)
theorem seal_put {e s n : Nat} {l : List Rec} (h0 : 0 < l.length) (h9 : l.length ≤ 100000) : putFt ⟨(outS e s n l).length, sortE (entsS e s n l)⟩ = footS e s n l := by
  unfold putFt
  rw [if_pos (seal_check h0 h9)]
  rfl
theorem ents_snoc (e s n : Nat) (l : List Rec) (r : Rec) : entsS e s n (l ++ [r]) = entsS e s n l ++ [⟨(wxxh 0 r.key).toNat, (outS e s n l).length⟩] := by
  unfold entsS
  rw [entsGo_snoc, outS_len]

theorem recB_least {r : Rec} (hf : r.Fine) : 11 ≤ (recB r).length := by
  have h1 : (bodyR r ++ sumB (bodyR r)).length ≤ (chunkN (bodyR r)).length := by
    have h := unst_stuff (xs := bodyR r ++ sumB (bodyR r)) ((bodyR_octets hf).app (sumB_octets _))
    have h2 := (unst_octets (xs := stuff (bodyR r ++ sumB (bodyR r))) (stuff_solid ((bodyR_octets hf).app (sumB_octets _))).octets).2
    rw [h] at h2
    exact h2
  rw [List.length_append, sumB_length] at h1
  have h2 : 2 ≤ (bodyR r).length := by
    have := vnum_pos r.seq
    unfold bodyR
    split
    · rw [List.length_cons, List.length_append]
      omega
    · rw [List.length_cons, List.length_append, List.length_append]
      omega
  unfold recB
  rw [(seal_length _).1]
  omega
theorem recsB_least : ∀ (l : List Rec), (∀ x ∈ l, x.Fine) → 11 * l.length ≤ (recsB l).length
  | [], _ => by simp
  | r :: l, h => by
    have h1 := recB_least (h r List.mem_cons_self)
    have h2 := recsB_least l (fun x hx => h x (List.mem_cons_of_mem _ hx))
    rw [recsB_cons, List.length_append, List.length_cons]
    omega
end Go.Proofs.YtjeammmfdniokaaGreat

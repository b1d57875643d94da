/-
  slices.Compact of entries, walked.
-/
import Derived.Test.YtbchiccgkhnkaaaTabComp
namespace Go.Proofs.Ytbchiccgkhnkaaa
open Go.RowKit Go.Lib

theorem enEqlT (a b : En) (w : World) : (binOp .eql 29 (.agg #[.int .u64 (a.hash : Int), .int .u32 (a.at_ : Int)]) (.agg #[.int .u64 (b.hash : Int), .int .u32 (b.at_ : Int)])).run Try.prog w = .ok (.bool (decide (a = b))) w := by
  by_cases h1 : a.hash = b.hash
  · by_cases h2 : a.at_ = b.at_
    · have hd : decide (a = b) = true := decide_eq_true (En.ext' h1 h2)
      rw [hd]
      simp [go_sem, h1, h2]
    · have hd : decide (a = b) = false := decide_eq_false (fun h => h2 (by rw [h]))
      rw [hd]
      have e : ((a.at_ : Int) == (b.at_ : Int)) = false := by rw [beq_eq_false_iff_ne]; omega
      simp [go_sem, h1, e]
  · have hd : decide (a = b) = false := decide_eq_false (fun h => h1 (by rw [h]))
    rw [hd]
    have e : ((a.hash : Int) == (b.hash : Int)) = false := by rw [beq_eq_false_iff_ne]; omega
    simp [go_sem, e]
theorem enNeqT (a b : En) (w : World) : (binOp .neq 29 (.agg #[.int .u64 (a.hash : Int), .int .u32 (a.at_ : Int)]) (.agg #[.int .u64 (b.hash : Int), .int .u32 (b.at_ : Int)])).run Try.prog w = .ok (.bool (decide (a ≠ b))) w := by
  by_cases h1 : a.hash = b.hash
  · by_cases h2 : a.at_ = b.at_
    · have hd : decide (a ≠ b) = false := decide_eq_false (fun h => h (En.ext' h1 h2))
      rw [hd]
      simp [go_sem, h1, h2]
    · have hd : decide (a ≠ b) = true := decide_eq_true (fun h => h2 (by rw [h]))
      rw [hd]
      have e : ((a.at_ : Int) == (b.at_ : Int)) = false := by rw [beq_eq_false_iff_ne]; omega
      simp [go_sem, h1, e]
  · have hd : decide (a ≠ b) = true := decide_eq_true (fun h => h1 (by rw [h]))
    rw [hd]
    have e : ((a.hash : Int) == (b.hash : Int)) = false := by rw [beq_eq_false_iff_ne]; omega
    simp [go_sem, e]

theorem cellDrewN {w : World} {a : Addr} {v : Value} (h : w.cell? a = some v) (n : Nat) : (w.drewN n).cell? a = some v := h
/-- What Compact answers. -/
def Compacted (A : Array En) (g d : Nat) (w : World) (e : Ending) (w' : World) : Prop :=
  ∃ m, m = (compactUpTo A A.size).length ∧ e = .returned (.slice (some ⟨g, 0, none⟩) m d) ∧ RowF w' g d m (fun i => (compactUpTo A A.size).getD i En.none) ∧ Keeps (Just g) w w'
theorem all_kept {A : Array En} (h : ∀ j, j < A.size → keeps A j = true) : compactUpTo A A.size = A.toList := by
  rw [compactUpTo_all A _ h, range_map_get]
theorem getD_arr (A : Array En) (i : Nat) (hi : i < A.size) : A.toList.getD i En.none = A[i]! := by
  rw [List.getD_eq_getElem?_getD, Array.getElem?_toList, Array.getElem?_eq_getElem hi, getElem!_pos A i hi]
  rfl
theorem Compacted.all {A : Array En} {g d : Nat} {w w' : World} (h : ∀ j, j < A.size → keeps A j = true) (hr : RowF w' g d A.size (fun i => A[i]!)) (hk : Keeps (Just g) w w') : Compacted A g d w (.returned (.slice (some ⟨g, 0, none⟩) A.size d)) w' := by
  refine ⟨A.size, by rw [all_kept h]; simp, rfl, ?_, hk⟩
  rw [all_kept h]
  exact hr.congr (Nat.le_refl _) (fun i hi => (getD_arr A i hi).symm)

set_option maxHeartbeats 4000000 in
set_option maxRecDepth 10000 in
theorem compact_own (g d n : Nat) (A : Array En) (hn : n = A.size) (w : World) (h : RowF w g d n (fun i => A[i]!)) (_hd : d ≤ 9223372036854775807) (hn9 : n ≤ 1000000) :
    Calls Try.prog 32 #[.slice (some ⟨g, 0, none⟩) n d] w (Compacted A g d w) := by
  have hnd : n ≤ d := h.le
  have HR := Lib.hid h
  have HN := Lib.hid hn
  clear h hn
  by_cases h2 : n < 2
  · have h2d : decide ((n : Int) < 2) = true := decide_eq_true (by omega)
    have h2e : decide (n < 2) = true := decide_eq_true h2
    go_enter Try.func32, Try.ntmps32
    go_wp2_with fail
    go_ret
    have hn := HN.out
    subst hn
    exact Compacted.all (fun j hj => keeps_lt_one A j (by omega)) HR.out (Keeps.refl _ _)
  · have h2d : decide ((n : Int) < 2) = false := decide_eq_false (by omega)
    have h2e : decide (n < 2) = false := decide_eq_false h2
    go_enter Try.func32, Try.ntmps32
    go_wp2_with fail
    go_loopw [3] (fun i wr => ∃ k : Nat, k + 1 ≤ n ∧ i = .int .i64 ((k + 1 : Nat) : Int) ∧ Hid (∀ j, j < k + 1 → keeps A j = true) ∧ Hid (Keeps NoBlock w wr)) (fun i _ => n - (intOf i).toNat)
    case atStart => exact ⟨0, by omega, rfl, Lib.hid (keeps_lt_one A), Lib.hid (Keeps.refl _ _)⟩
    case round =>
      obtain ⟨k, hk, rfl, HA, HK⟩ := hrel
      by_cases hlt : k + 1 < n
      · have hdk : decide (((k + 1 : Nat) : Int) < (n : Int)) = true := decide_eq_true (by omega)
        have hdk2 : decide ((k : Int) + 1 < (n : Int)) = true := decide_eq_true (by omega)
        have hdk3 : decide (k + 1 < n) = true := decide_eq_true hlt
        have c0 := ((HR.out.keep HK.out (fun h => h)).cell hlt).1
        have c1 := ((HR.out.keep HK.out (fun h => h)).cell hlt).2
        have e0 := ((HR.out.keep HK.out (fun h => h)).cell (i := k) (by omega)).1
        have e1 := ((HR.out.keep HK.out (fun h => h)).cell (i := k) (by omega)).2
        have hne := fun w => enEqlT A[k + 1]! A[k]! w
        obtain ⟨x, hx⟩ : ∃ x, x = A[k + 1]! := ⟨_, rfl⟩
        obtain ⟨y, hy⟩ : ∃ y, y = A[k]! := ⟨_, rfl⟩
        simp only [← hx, ← hy] at c0 c1 e0 e1 hne
        have HX := Lib.hid hx
        have HY := Lib.hid hy
        clear hx hy
        have hkn : (k : Int) < (n : Int) := by omega
        have hkn3 : (k : Int) + 1 < (n : Int) := by omega
        have hk3 : (0 : Int) ≤ (k : Int) + 1 := by omega
        have hk4 : ((k : Int) + 1).toNat = k + 1 := by omega
        have w1 : IntKind.i64.wrap (k : Int) = (k : Int) := by rw [IntKind.wrap_i64]; omega
        have hk0 : (0 : Int) ≤ (k : Int) := by omega
        by_cases hxy : x = y
        · have HE := Lib.hid hxy
          rw [decide_eq_true hxy] at hne
          clear hxy
          go_wp2_with fail
          go_quiet (fail)
          go_wp2_with fail
          obtain ⟨W, hW⟩ : ∃ W, W = wr.drewN nq := ⟨_, rfl⟩
          have HK1 : Hid (Keeps NoBlock w W) := Lib.hid (by rw [hW]; exact HK.out.drewN _)
          rw [← hW]
          clear hW
          have HKn : Hid (keeps A (k + 1) = false) := Lib.hid (keeps_neg (by omega) (by rw [show k + 1 - 1 = k by omega, ← HX.out, ← HY.out]; exact HE.out))
          have HI0 : Hid (CompInv A (k + 1 + (0 + 1)) (k + 1) A) := Lib.hid (CompInv.start HA.out HKn.out)
          obtain ⟨q, hq⟩ : ∃ q, q = k + 1 := ⟨_, rfl⟩
          obtain ⟨M, hM⟩ : ∃ M, M = n - q := ⟨_, rfl⟩
          obtain ⟨D, hD⟩ : ∃ D, D = d - q := ⟨_, rfl⟩
          rw [← hq] at hlt HI0
          simp only [← hq]
          rw [← hM, ← hD]
          have hqM : q + M = n := by omega
          have hqD : q + D = d := by omega
          have HQM := Lib.hid hqM
          have HQD := Lib.hid hqD
          have HQ1 := Lib.hid (show 1 ≤ M by omega)
          clear c0 c1 e0 e1 hne HX HY HE HKn HA hk hk0 w1 hk4 hk3 hkn3 hkn hdk hdk2 hdk3 hq hM hD hqM hqD hlt HK
          go_loopw [3, 5] (fun s3 s5 wz => ∃ (kk k2 : Nat) (dk : Array En), s3 = .int .i64 (kk : Int) ∧ s5 = .int .i64 ((k2 + 1 : Nat) : Int) ∧ k2 + 1 ≤ M ∧ Hid (RowF wz g d n (fun i => dk[i]!)) ∧ Hid (CompInv A (q + (k2 + 1)) kk dk) ∧ Hid (Keeps (Just g) w wz)) (fun _ s5 _ => M - (intOf s5).toNat)
          case atStart => exact ⟨q, 0, A, rfl, rfl, HQ1.out, Lib.hid (HR.out.keep HK1.out (fun h => h)), HI0, Lib.hid (HK1.out.wider (fun _ _ h => h.elim))⟩
          case round =>
            obtain ⟨kk, k2, dk, rfl, rfl, hk2, HR2, HI, HK2⟩ := hrel
            have hM9 : M ≤ 1000000 := by have := HQM.out; omega
            have hsz := HI.out.size
            have hlt0 := HI.out.lt
            have hkn : kk < n := by have := HQM.out; omega
            by_cases hlt : k2 + 1 < M
            · have d1 : decide (((k2 + 1 : Nat) : Int) < (M : Int)) = true := decide_eq_true (by omega)
              have d2 : decide ((k2 : Int) + 1 < (M : Int)) = true := decide_eq_true (by omega)
              have d3 : decide (k2 + 1 < M) = true := decide_eq_true hlt
              have c := HR2.out.cell (i := q + (k2 + 1)) (by have := HQM.out; omega)
              have e := HR2.out.cell (i := q + k2) (by have := HQM.out; omega)
              have o := HR2.out.cell (i := kk) hkn
              have hne := fun w => enNeqT A[q + (k2 + 1)]! A[q + k2]! w
              rw [show (q + (k2 + 1)) * 2 = q * 2 + (k2 + 1) * 2 by omega, HI.out.high (q + (k2 + 1)) (by omega)] at c
              rw [show (q + k2) * 2 = q * 2 + k2 * 2 by omega, HI.out.high (q + k2) (by omega)] at e
              obtain ⟨x, hx⟩ : ∃ x, x = A[q + (k2 + 1)]! := ⟨_, rfl⟩
              obtain ⟨y, hy⟩ : ∃ y, y = A[q + k2]! := ⟨_, rfl⟩
              obtain ⟨v, hv⟩ : ∃ v, v = dk[kk]! := ⟨_, rfl⟩
              rw [← hx] at c hne
              rw [← hy] at e hne
              rw [← hv] at o
              have HX := Lib.hid hx
              have HY := Lib.hid hy
              obtain ⟨c0, c1⟩ := c
              obtain ⟨e0, e1⟩ := e
              obtain ⟨o0, o1⟩ := o
              clear hx hy hv
              have HKn := Lib.hid hkn
              have HSz := Lib.hid hsz
              clear hsz hlt0
              have b1 : (k2 : Int) < (M : Int) := by omega
              have b2 : (k2 : Int) + 1 < (M : Int) := by omega
              have b3 : (0 : Int) ≤ (k2 : Int) + 1 := by omega
              have b4 : ((k2 : Int) + 1).toNat = k2 + 1 := by omega
              have w1 : IntKind.i64.wrap (k2 : Int) = (k2 : Int) := by rw [IntKind.wrap_i64]; have := HQM.out; omega
              have b5 : (0 : Int) ≤ (k2 : Int) := by omega
              have b6 : (kk : Int) < (n : Int) := by omega
              by_cases hxy : x = y
              · have HE := Lib.hid hxy
                rw [decide_eq_false (fun h => h hxy)] at hne
                clear hxy o0 o1
                go_wp2_with fail
                go_quiet (fail)
                go_wp2_with fail
                go_roundw
                case rel =>
                  refine ⟨kk, k2 + 1, dk, rfl, by go_num, by omega, Lib.hid (by first | exact HR2.out | exact HR2.out.drew), Lib.hid ?_, Lib.hid (by first | exact HK2.out.drewN _ | exact HK2.out)⟩
                  exact HI.out.skip (keeps_neg (by omega) (by rw [show q + (k2 + 1) - 1 = q + k2 by omega, ← HX.out, ← HY.out]; exact HE.out))
                case measure => simp [intOf]; omega
              · have HE := Lib.hid hxy
                rw [decide_eq_true hxy] at hne
                clear hxy
                go_wp2_with fail
                go_quiet (fail)
                obtain ⟨W2, hW2⟩ : ∃ W2, W2 = wr.drewN nq := ⟨_, rfl⟩
                have HR3 : Hid (RowF W2 g d n (fun i => dk[i]!)) := Lib.hid (by rw [hW2]; exact HR2.out)
                have HK3 : Hid (Keeps (Just g) w W2) := Lib.hid (by rw [hW2]; exact HK2.out.drewN _)
                have t0 := cellDrewN c0 nq
                have t1 := cellDrewN c1 nq
                have r0 := cellDrewN o0 nq
                have r1 := cellDrewN o1 nq
                rw [← hW2] at t0 t1 r0 r1 ⊢
                clear hW2 c0 c1 e0 e1 o0 o1
                have f0 := HR3.out.free (kk * 2)
                have f1 := HR3.out.free (kk * 2 + 1)
                have HRn := Lib.hid (HR3.out.put HKn.out x)
                have HKx := Lib.hid (keepsPut HK3.out (.inl (Just.self g)) (kk * 2) (kk * 2 + 1) (.int .u64 (x.hash : Int)) (.int .u32 (x.at_ : Int)))
                go_wp2_with fail
                go_roundw
                case rel =>
                  refine ⟨kk + 1, k2 + 1, dk.setIfInBounds kk x, by go_num, by go_num, by omega, Lib.hid ?_, Lib.hid ?_, Lib.hid (by first | exact HKx.out | exact HKx.out.drew)⟩
                  · refine RowF.congr (by first | exact HRn.out | exact HRn.out.drew) (Nat.le_refl _) (fun i hi => ?_)
                    have hkd : kk < dk.size := by have := HKn.out; have := HSz.out; have := HN.out; omega
                    by_cases e : i = kk
                    · subst e
                      rw [if_pos rfl, Go.Sort.getElem!_set_same dk i x hkd]
                    · rw [if_neg e, Go.Sort.getElem!_set_other dk kk i x e]
                  · have h := HI.out.keep (by have := HN.out; have := HQM.out; omega) (keeps_pos (by rw [show q + (k2 + 1) - 1 = q + k2 by omega, ← HX.out, ← HY.out]; exact HE.out))
                    rw [← HX.out] at h
                    exact h
                case measure => simp [intOf]; omega
            · have d1 : decide (((k2 + 1 : Nat) : Int) < (M : Int)) = false := decide_eq_false (by omega)
              have d2 : decide ((k2 : Int) + 1 < (M : Int)) = false := decide_eq_false (by omega)
              have d3 : decide (k2 + 1 < M) = false := decide_eq_false hlt
              have hall : q + (k2 + 1) = A.size := by have := HN.out; have := HQM.out; omega
              have HI2 : Hid (CompInv A A.size kk dk) := Lib.hid (by rw [← hall]; exact HI.out)
              have hcl := fun ty => run_clear_ens HR2.out kk (n - kk) (d - kk) (by omega) (by omega) ty
              have HRc := Lib.hid (HR2.out.setCells kk (by omega) (Builtin.zeroCells #[.int .u64 0, .int .u32 0] (n - kk)).toList)
              have HKc := Lib.hid (setCells_keeps (g := g) (.inl (Just.self g)) (Builtin.zeroCells #[.int .u64 0, .int .u32 0] (n - kk)).toList (kk * 2) _ HK2.out)
              obtain ⟨V, hV⟩ : ∃ V, V = wr.setCells g (kk * 2) (Builtin.zeroCells #[.int .u64 0, .int .u32 0] (n - kk)).toList := ⟨_, rfl⟩
              rw [← hV] at HRc HKc
              simp only [← hV] at hcl
              have b6 : (kk : Int) ≤ (n : Int) := by omega
              have b7 : kk ≤ n := by omega
              have b8 : kk ≤ d := by omega
              have b9 : (kk : Int) ≤ (d : Int) := by omega
              clear hV hall hsz hlt0 HI
              go_wp2_with fail
              go_ret
              refine ⟨kk, HI2.out.len.symm, rfl, ?_, HKc.out⟩
              refine HRc.out.congr (Nat.le_refl _) (fun i hi => ?_)
              rw [List.getD_eq_getElem?_getD, HI2.out.low i hi]
              rfl
        · have HE := Lib.hid hxy
          rw [decide_eq_false hxy] at hne
          clear hxy
          go_wp2_with fail
          go_quiet (fail)
          go_wp2_with fail
          go_roundw
          case rel =>
            refine ⟨k + 1, by omega, by go_num, Lib.hid (fun j hj => ?_), Lib.hid (by first | exact HK.out.drewN _ | exact HK.out)⟩
            by_cases e : j = k + 1
            · subst e
              exact keeps_pos (by rw [show k + 1 - 1 = k by omega, ← HX.out, ← HY.out]; exact HE.out)
            · exact HA.out j (by omega)
          case measure => simp [intOf]; omega
      · have hdk : decide (((k + 1 : Nat) : Int) < (n : Int)) = false := decide_eq_false (by omega)
        have hdk2 : decide ((k : Int) + 1 < (n : Int)) = false := decide_eq_false (by omega)
        have hdk3 : decide (k + 1 < n) = false := decide_eq_false hlt
        go_wp2_with fail
        go_ret
        have hn := HN.out
        subst hn
        exact Compacted.all (fun j hj => HA.out j (by omega)) (HR.out.keep HK.out (fun h => h)) (HK.out.wider (fun _ _ h => h.elim))
end Go.Proofs.Ytbchiccgkhnkaaa

/-
  TabComp2; SeaLay; TabLay; TabSorted.
-/
import Derived.Shelf.SlSorted.Search
import Derived.Shelf.SlSortCmp.NoneTotal
import Derived.Test.YtjeammmfdniokaaGreatM02
import Derived.Test.YtjeammmfdniokaaGreatM05
import Derived.Test.YtjeammmfdniokaaGreatM32
namespace Go.Proofs.YtjeammmfdniokaaGreat
open Go.RowKit Go.Lib

theorem enEqlT (a b : En) (w : World) : (binOp .eql 109 (.agg #[.int .u64 (a.hash : Int), .int .u32 (a.at_ : Int)]) (.agg #[.int .u64 (b.hash : Int), .int .u32 (b.at_ : Int)])).run Tryz.prog w = .ok (.bool (decide (a = b))) w := by
  by_cases h1 : a.hash = b.hash
  · by_cases h2 : a.at_ = b.at_
    · have hd : decide (a = b) = true := decide_eq_true (En.ext' h1 h2)
      rw [hd]
      simp [go_sem, h1, h2]
    · have hd : decide (a = b) = false := decide_eq_false (fun h => h2 (by rw [h]))
      rw [hd]
      have e : ((a.at_ : Int) == (b.at_ : Int)) = false := by rw [beq_eq_false_iff_ne]; omega
      simp [go_sem, h1, e]
  · have hd : decide (a = b) = false := decide_eq_false (fun h => h1 (by rw [h]))
    rw [hd]
    have e : ((a.hash : Int) == (b.hash : Int)) = false := by rw [beq_eq_false_iff_ne]; omega
    simp [go_sem, e]
theorem enNeqT (a b : En) (w : World) : (binOp .neq 109 (.agg #[.int .u64 (a.hash : Int), .int .u32 (a.at_ : Int)]) (.agg #[.int .u64 (b.hash : Int), .int .u32 (b.at_ : Int)])).run Tryz.prog w = .ok (.bool (decide (a ≠ b))) w := by
  by_cases h1 : a.hash = b.hash
  · by_cases h2 : a.at_ = b.at_
    · have hd : decide (a ≠ b) = false := decide_eq_false (fun h => h (En.ext' h1 h2))
      rw [hd]
      simp [go_sem, h1, h2]
    · have hd : decide (a ≠ b) = true := decide_eq_true (fun h => h2 (by rw [h]))
      rw [hd]
      have e : ((a.at_ : Int) == (b.at_ : Int)) = false := by rw [beq_eq_false_iff_ne]; omega
      simp [go_sem, h1, e]
  · have hd : decide (a ≠ b) = true := decide_eq_true (fun h => h1 (by rw [h]))
    rw [hd]
    have e : ((a.hash : Int) == (b.hash : Int)) = false := by rw [beq_eq_false_iff_ne]; omega
    simp [go_sem, e]

theorem cellDrewN {w : World} {a : Addr} {v : Value} (h : w.cell? a = some v) (n : Nat) : (w.drewN n).cell? a = some v := h
/-- What Compact answers. -/
def Compacted (A : Array En) (g d : Nat) (w : World) (e : Ending) (w' : World) : Prop :=
  ∃ m, m = (compactUpTo A A.size).length ∧ e = .returned (.slice (some ⟨g, 0, none⟩) m d) ∧ RowF w' g d m (fun i => (compactUpTo A A.size).getD i En.none) ∧ Keeps (Just g) w w'
theorem all_kept {A : Array En} (h : ∀ j, j < A.size → keeps A j = true) : compactUpTo A A.size = A.toList := by
  rw [compactUpTo_all A _ h, range_map_get]
theorem getD_arr (A : Array En) (i : Nat) (hi : i < A.size) : A.toList.getD i En.none = A[i]! := by
  rw [List.getD_eq_getElem?_getD, Array.getElem?_toList, Array.getElem?_eq_getElem hi, getElem!_pos A i hi]
  rfl
theorem Compacted.all {A : Array En} {g d : Nat} {w w' : World} (h : ∀ j, j < A.size → keeps A j = true) (hr : RowF w' g d A.size (fun i => A[i]!)) (hk : Keeps (Just g) w w') : Compacted A g d w (.returned (.slice (some ⟨g, 0, none⟩) A.size d)) w' := by
  refine ⟨A.size, by rw [all_kept h]; simp, rfl, ?_, hk⟩
  rw [all_kept h]
  exact hr.congr (Nat.le_refl _) (fun i hi => (getD_arr A i hi).symm)

set_option maxHeartbeats 4000000 in
set_option maxRecDepth 10000 in
theorem compact_own (g d n : Nat) (A : Array En) (hn : n = A.size) (w : World) (h : RowF w g d n (fun i => A[i]!)) (_hd : d ≤ 9223372036854775807) (hn9 : n ≤ 1000000) :
    Calls Tryz.prog 104 #[.slice (some ⟨g, 0, none⟩) n d] w (Compacted A g d w) := by
  have hnd : n ≤ d := h.le
  have HR := Lib.hid h
  have HN := Lib.hid hn
  clear h hn
  by_cases h2 : n < 2
  · have h2d : decide ((n : Int) < 2) = true := decide_eq_true (by omega)
    have h2e : decide (n < 2) = true := decide_eq_true h2
    go_enter Tryz.func104, Tryz.ntmps104
    go_wp2_with fail
    go_ret
    have hn := HN.out
    subst hn
    exact Compacted.all (fun j hj => keeps_lt_one A j (by omega)) HR.out (Keeps.refl _ _)
  · have h2d : decide ((n : Int) < 2) = false := decide_eq_false (by omega)
    have h2e : decide (n < 2) = false := decide_eq_false h2
    go_enter Tryz.func104, Tryz.ntmps104
    go_wp2_with fail
    go_loopw [3] (fun i wr => ∃ k : Nat, k + 1 ≤ n ∧ i = .int .i64 ((k + 1 : Nat) : Int) ∧ Hid (∀ j, j < k + 1 → keeps A j = true) ∧ Hid (Keeps NoBlock w wr)) (fun i _ => n - (intOf i).toNat)
    case atStart => exact ⟨0, by omega, rfl, Lib.hid (keeps_lt_one A), Lib.hid (Keeps.refl _ _)⟩
    case round =>
      obtain ⟨k, hk, rfl, HA, HK⟩ := hrel
      by_cases hlt : k + 1 < n
      · have hdk : decide (((k + 1 : Nat) : Int) < (n : Int)) = true := decide_eq_true (by omega)
        have hdk2 : decide ((k : Int) + 1 < (n : Int)) = true := decide_eq_true (by omega)
        have hdk3 : decide (k + 1 < n) = true := decide_eq_true hlt
        have c0 := ((HR.out.keep HK.out (fun h => h)).cell hlt).1
        have c1 := ((HR.out.keep HK.out (fun h => h)).cell hlt).2
        have e0 := ((HR.out.keep HK.out (fun h => h)).cell (i := k) (by omega)).1
        have e1 := ((HR.out.keep HK.out (fun h => h)).cell (i := k) (by omega)).2
        have hne := fun w => enEqlT A[k + 1]! A[k]! w
        obtain ⟨x, hx⟩ : ∃ x, x = A[k + 1]! := ⟨_, rfl⟩
        obtain ⟨y, hy⟩ : ∃ y, y = A[k]! := ⟨_, rfl⟩
        simp only [← hx, ← hy] at c0 c1 e0 e1 hne
        have HX := Lib.hid hx
        have HY := Lib.hid hy
        clear hx hy
        have hkn : (k : Int) < (n : Int) := by omega
        have hkn3 : (k : Int) + 1 < (n : Int) := by omega
        have hk3 : (0 : Int) ≤ (k : Int) + 1 := by omega
        have hk4 : ((k : Int) + 1).toNat = k + 1 := by omega
        have w1 : IntKind.i64.wrap (k : Int) = (k : Int) := by rw [IntKind.wrap_i64]; omega
        have hk0 : (0 : Int) ≤ (k : Int) := by omega
        by_cases hxy : x = y
        · have HE := Lib.hid hxy
          rw [decide_eq_true hxy] at hne
          clear hxy
          go_wp2_with fail
          go_quiet (fail)
          go_wp2_with fail
          obtain ⟨W, hW⟩ : ∃ W, W = wr.drewN nq := ⟨_, rfl⟩
          have HK1 : Hid (Keeps NoBlock w W) := Lib.hid (by rw [hW]; exact HK.out.drewN _)
          rw [← hW]
          clear hW
          have HKn : Hid (keeps A (k + 1) = false) := Lib.hid (keeps_neg (by omega) (by rw [show k + 1 - 1 = k by omega, ← HX.out, ← HY.out]; exact HE.out))
          have HI0 : Hid (CompInv A (k + 1 + (0 + 1)) (k + 1) A) := Lib.hid (CompInv.start HA.out HKn.out)
          obtain ⟨q, hq⟩ : ∃ q, q = k + 1 := ⟨_, rfl⟩
          obtain ⟨M, hM⟩ : ∃ M, M = n - q := ⟨_, rfl⟩
          obtain ⟨D, hD⟩ : ∃ D, D = d - q := ⟨_, rfl⟩
          rw [← hq] at hlt HI0
          simp only [← hq]
          rw [← hM, ← hD]
          have hqM : q + M = n := by omega
          have hqD : q + D = d := by omega
          have HQM := Lib.hid hqM
          have HQD := Lib.hid hqD
          have HQ1 := Lib.hid (show 1 ≤ M by omega)
          clear c0 c1 e0 e1 hne HX HY HE HKn HA hk hk0 w1 hk4 hk3 hkn3 hkn hdk hdk2 hdk3 hq hM hD hqM hqD hlt HK
          go_loopw [3, 5] (fun s3 s5 wz => ∃ (kk k2 : Nat) (dk : Array En), s3 = .int .i64 (kk : Int) ∧ s5 = .int .i64 ((k2 + 1 : Nat) : Int) ∧ k2 + 1 ≤ M ∧ Hid (RowF wz g d n (fun i => dk[i]!)) ∧ Hid (CompInv A (q + (k2 + 1)) kk dk) ∧ Hid (Keeps (Just g) w wz)) (fun _ s5 _ => M - (intOf s5).toNat)
          case atStart => exact ⟨q, 0, A, rfl, rfl, HQ1.out, Lib.hid (HR.out.keep HK1.out (fun h => h)), HI0, Lib.hid (HK1.out.wider (fun _ _ h => h.elim))⟩
          case round =>
            obtain ⟨kk, k2, dk, rfl, rfl, hk2, HR2, HI, HK2⟩ := hrel
            have hM9 : M ≤ 1000000 := by have := HQM.out; omega
            have hsz := HI.out.size
            have hlt0 := HI.out.lt
            have hkn : kk < n := by have := HQM.out; omega
            by_cases hlt : k2 + 1 < M
            · have d1 : decide (((k2 + 1 : Nat) : Int) < (M : Int)) = true := decide_eq_true (by omega)
              have d2 : decide ((k2 : Int) + 1 < (M : Int)) = true := decide_eq_true (by omega)
              have d3 : decide (k2 + 1 < M) = true := decide_eq_true hlt
              have c := HR2.out.cell (i := q + (k2 + 1)) (by have := HQM.out; omega)
              have e := HR2.out.cell (i := q + k2) (by have := HQM.out; omega)
              have o := HR2.out.cell (i := kk) hkn
              have hne := fun w => enNeqT A[q + (k2 + 1)]! A[q + k2]! w
              rw [show (q + (k2 + 1)) * 2 = q * 2 + (k2 + 1) * 2 by omega, HI.out.high (q + (k2 + 1)) (by omega)] at c
              rw [show (q + k2) * 2 = q * 2 + k2 * 2 by omega, HI.out.high (q + k2) (by omega)] at e
              obtain ⟨x, hx⟩ : ∃ x, x = A[q + (k2 + 1)]! := ⟨_, rfl⟩
              obtain ⟨y, hy⟩ : ∃ y, y = A[q + k2]! := ⟨_, rfl⟩
              obtain ⟨v, hv⟩ : ∃ v, v = dk[kk]! := ⟨_, rfl⟩
              rw [← hx] at c hne
              rw [← hy] at e hne
              rw [← hv] at o
              have HX := Lib.hid hx
              have HY := Lib.hid hy
              obtain ⟨c0, c1⟩ := c
              obtain ⟨e0, e1⟩ := e
              obtain ⟨o0, o1⟩ := o
              clear hx hy hv
              have HKn := Lib.hid hkn
              have HSz := Lib.hid hsz
              clear hsz hlt0
              have b1 : (k2 : Int) < (M : Int) := by omega
              have b2 : (k2 : Int) + 1 < (M : Int) := by omega
              have b3 : (0 : Int) ≤ (k2 : Int) + 1 := by omega
              have b4 : ((k2 : Int) + 1).toNat = k2 + 1 := by omega
              have w1 : IntKind.i64.wrap (k2 : Int) = (k2 : Int) := by rw [IntKind.wrap_i64]; have := HQM.out; omega
              have b5 : (0 : Int) ≤ (k2 : Int) := by omega
              have b6 : (kk : Int) < (n : Int) := by omega
              by_cases hxy : x = y
              · have HE := Lib.hid hxy
                rw [decide_eq_false (fun h => h hxy)] at hne
                clear hxy o0 o1
                go_wp2_with fail
                go_quiet (fail)
                go_wp2_with fail
                go_roundw
                case rel =>
                  refine ⟨kk, k2 + 1, dk, rfl, by go_num, by omega, Lib.hid (by first | exact HR2.out | exact HR2.out.drew), Lib.hid ?_, Lib.hid (by first | exact HK2.out.drewN _ | exact HK2.out)⟩
                  exact HI.out.skip (keeps_neg (by omega) (by rw [show q + (k2 + 1) - 1 = q + k2 by omega, ← HX.out, ← HY.out]; exact HE.out))
                case measure => simp [intOf]; omega
              · have HE := Lib.hid hxy
                rw [decide_eq_true hxy] at hne
                clear hxy
                go_wp2_with fail
                go_quiet (fail)
                obtain ⟨W2, hW2⟩ : ∃ W2, W2 = wr.drewN nq := ⟨_, rfl⟩
                have HR3 : Hid (RowF W2 g d n (fun i => dk[i]!)) := Lib.hid (by rw [hW2]; exact HR2.out)
                have HK3 : Hid (Keeps (Just g) w W2) := Lib.hid (by rw [hW2]; exact HK2.out.drewN _)
                have t0 := cellDrewN c0 nq
                have t1 := cellDrewN c1 nq
                have r0 := cellDrewN o0 nq
                have r1 := cellDrewN o1 nq
                rw [← hW2] at t0 t1 r0 r1 ⊢
                clear hW2 c0 c1 e0 e1 o0 o1
                have f0 := HR3.out.free (kk * 2)
                have f1 := HR3.out.free (kk * 2 + 1)
                have HRn := Lib.hid (HR3.out.put HKn.out x)
                have HKx := Lib.hid (keepsPut HK3.out (.inl (Just.self g)) (kk * 2) (kk * 2 + 1) (.int .u64 (x.hash : Int)) (.int .u32 (x.at_ : Int)))
                go_wp2_with fail
                go_roundw
                case rel =>
                  refine ⟨kk + 1, k2 + 1, dk.setIfInBounds kk x, by go_num, by go_num, by omega, Lib.hid ?_, Lib.hid ?_, Lib.hid (by first | exact HKx.out | exact HKx.out.drew)⟩
                  · refine RowF.congr (by first | exact HRn.out | exact HRn.out.drew) (Nat.le_refl _) (fun i hi => ?_)
                    have hkd : kk < dk.size := by have := HKn.out; have := HSz.out; have := HN.out; omega
                    by_cases e : i = kk
                    · subst e
                      rw [if_pos rfl, Go.Sort.getElem!_set_same dk i x hkd]
                    · rw [if_neg e, Go.Sort.getElem!_set_other dk kk i x e]
                  · have h := HI.out.keep (by have := HN.out; have := HQM.out; omega) (keeps_pos (by rw [show q + (k2 + 1) - 1 = q + k2 by omega, ← HX.out, ← HY.out]; exact HE.out))
                    rw [← HX.out] at h
                    exact h
                case measure => simp [intOf]; omega
            · have d1 : decide (((k2 + 1 : Nat) : Int) < (M : Int)) = false := decide_eq_false (by omega)
              have d2 : decide ((k2 : Int) + 1 < (M : Int)) = false := decide_eq_false (by omega)
              have d3 : decide (k2 + 1 < M) = false := decide_eq_false hlt
              have hall : q + (k2 + 1) = A.size := by have := HN.out; have := HQM.out; omega
              have HI2 : Hid (CompInv A A.size kk dk) := Lib.hid (by rw [← hall]; exact HI.out)
              have hcl := fun ty => run_clear_ens HR2.out kk (n - kk) (d - kk) (by omega) (by omega) ty
              have HRc := Lib.hid (HR2.out.setCells kk (by omega) (Builtin.zeroCells #[.int .u64 0, .int .u32 0] (n - kk)).toList)
              have HKc := Lib.hid (setCells_keeps (g := g) (.inl (Just.self g)) (Builtin.zeroCells #[.int .u64 0, .int .u32 0] (n - kk)).toList (kk * 2) _ HK2.out)
              obtain ⟨V, hV⟩ : ∃ V, V = wr.setCells g (kk * 2) (Builtin.zeroCells #[.int .u64 0, .int .u32 0] (n - kk)).toList := ⟨_, rfl⟩
              rw [← hV] at HRc HKc
              simp only [← hV] at hcl
              have b6 : (kk : Int) ≤ (n : Int) := by omega
              have b7 : kk ≤ n := by omega
              have b8 : kk ≤ d := by omega
              have b9 : (kk : Int) ≤ (d : Int) := by omega
              clear hV hall hsz hlt0 HI
              go_wp2_with fail
              go_ret
              refine ⟨kk, HI2.out.len.symm, rfl, ?_, HKc.out⟩
              refine HRc.out.congr (Nat.le_refl _) (fun i hi => ?_)
              rw [List.getD_eq_getElem?_getD, HI2.out.low i hi]
              rfl
        · have HE := Lib.hid hxy
          rw [decide_eq_false hxy] at hne
          clear hxy
          go_wp2_with fail
          go_quiet (fail)
          go_wp2_with fail
          go_roundw
          case rel =>
            refine ⟨k + 1, by omega, by go_num, Lib.hid (fun j hj => ?_), Lib.hid (by first | exact HK.out.drewN _ | exact HK.out)⟩
            by_cases e : j = k + 1
            · subst e
              exact keeps_pos (by rw [show k + 1 - 1 = k by omega, ← HX.out, ← HY.out]; exact HE.out)
            · exact HA.out j (by omega)
          case measure => simp [intOf]; omega
      · have hdk : decide (((k + 1 : Nat) : Int) < (n : Int)) = false := decide_eq_false (by omega)
        have hdk2 : decide ((k : Int) + 1 < (n : Int)) = false := decide_eq_false (by omega)
        have hdk3 : decide (k + 1 < n) = false := decide_eq_false hlt
        go_wp2_with fail
        go_ret
        have hn := HN.out
        subst hn
        exact Compacted.all (fun j hj => HA.out j (by omega)) (HR.out.keep HK.out (fun h => h)) (HK.out.wider (fun _ _ h => h.elim))
end Go.Proofs.YtjeammmfdniokaaGreat

namespace Go.Proofs.YtjeammmfdniokaaGreat
open Go.Shelf Go.RowKit Go.Lib Go.Sort

end Go.Proofs.YtjeammmfdniokaaGreat

namespace Go.Proofs.YtjeammmfdniokaaGreat
open Go.Shelf Go.RowKit Go.Lib Go.Sort

def sortLay_ren : Go.Shelf.Ren := ⟨fun | 6 => 102 | 15 => 120 | 14 => 119 | 28 => 145 | 29 => 146 | 20 => 137 | 21 => 138 | 22 => 139 | 23 => 140 | 24 => 141 | 25 => 142 | 26 => 143 | 27 => 144 | 46 => 151 | 47 => 152 | 48 => 153 | 49 => 154 | 50 => 155 | 57 => 157 | n => n, fun | 22 => 99 | 24 => 109 | 25 => 156 | 3 => 3 | 39 => 140 | 0 => 0 | 53 => 25 | 55 => 44 | 4 => 4 | 46 => 192 | 45 => 191 | 50 => 196 | 5 => 5 | 9 => 9 | 66 => 204 | 70 => 207 | 76 => 209 | 77 => 210 | n => n, fun | n => n⟩
theorem sortLay : SlLaysF0.n6 Tryz.prog sortLay_ren := {
  mixed := by kernel_rfl
  f6 := ⟨Tryz.f102.name, by decide, Tryz.func102.trans (congrArg some (by kernel_rfl))⟩
  f14 := ⟨Tryz.f119.name, by decide, Tryz.func119.trans (congrArg some (by kernel_rfl))⟩
  f15 := Tryz.func120.trans (congrArg some (by kernel_rfl))
  f20 := ⟨Tryz.f137.name, by decide, Tryz.func137.trans (congrArg some (by kernel_rfl))⟩
  f21 := ⟨Tryz.f138.name, by decide, Tryz.func138.trans (congrArg some (by kernel_rfl))⟩
  f22 := ⟨Tryz.f139.name, by decide, Tryz.func139.trans (congrArg some (by kernel_rfl))⟩
  f23 := ⟨Tryz.f140.name, by decide, Tryz.func140.trans (congrArg some (by kernel_rfl))⟩
  f24 := ⟨Tryz.f141.name, by decide, Tryz.func141.trans (congrArg some (by kernel_rfl))⟩
  f25 := ⟨Tryz.f142.name, by decide, Tryz.func142.trans (congrArg some (by kernel_rfl))⟩
  f26 := ⟨Tryz.f143.name, by decide, Tryz.func143.trans (congrArg some (by kernel_rfl))⟩
  f27 := ⟨Tryz.f144.name, by decide, Tryz.func144.trans (congrArg some (by kernel_rfl))⟩
  f28 := Tryz.func145.trans (congrArg some (by kernel_rfl))
  f29 := Tryz.func146.trans (congrArg some (by kernel_rfl))
  f46 := ⟨Tryz.f151.name, by decide, Tryz.func151.trans (congrArg some (by kernel_rfl))⟩
  f47 := Tryz.func152.trans (congrArg some (by kernel_rfl))
  f48 := Tryz.func153.trans (congrArg some (by kernel_rfl))
  f49 := ⟨Tryz.f154.name, by decide, Tryz.func154.trans (congrArg some (by kernel_rfl))⟩
  f50 := ⟨Tryz.f155.name, by decide, Tryz.func155.trans (congrArg some (by kernel_rfl))⟩
  f57 := ⟨Tryz.f157.name, by decide, Tryz.func157.trans (congrArg some (by kernel_rfl))⟩
  t0 := Tryz.underlying0
  a0 := Tryz.isAgg0
  z0 := Tryz.sizeOf0
  v0 := Tryz.zeroValue0
  t3 := Tryz.underlying3
  a3 := Tryz.isAgg3
  z3 := Tryz.sizeOf3
  v3 := Tryz.zeroValue3
  t4 := Tryz.underlying4
  a4 := Tryz.isAgg4
  z4 := Tryz.sizeOf4
  v4 := Tryz.zeroValue4
  t5 := Tryz.underlying5
  a5 := Tryz.isAgg5
  z5 := Tryz.sizeOf5
  v5 := Tryz.zeroValue5
  t9 := Tryz.underlying9
  a9 := Tryz.isAgg9
  z9 := Tryz.sizeOf9
  v9 := Tryz.zeroValue9
  t22 := Tryz.underlying99
  a22 := Tryz.isAgg99
  z22 := Tryz.sizeOf99
  v22 := Tryz.zeroValue99
  t25 := Tryz.underlying156
  a25 := Tryz.isAgg156
  z25 := Tryz.sizeOf156
  v25 := Tryz.zeroValue156
  t39 := Tryz.underlying140
  a39 := Tryz.isAgg140
  z39 := Tryz.sizeOf140
  v39 := Tryz.zeroValue140
  t45 := Tryz.underlying191
  a45 := Tryz.isAgg191
  z45 := Tryz.sizeOf191
  v45 := Tryz.zeroValue191
  t46 := Tryz.underlying192
  a46 := Tryz.isAgg192
  z46 := Tryz.sizeOf192
  v46 := Tryz.zeroValue192
  t50 := Tryz.underlying196
  a50 := Tryz.isAgg196
  z50 := Tryz.sizeOf196
  v50 := Tryz.zeroValue196
  t53 := Tryz.underlying25
  a53 := Tryz.isAgg25
  z53 := Tryz.sizeOf25
  v53 := Tryz.zeroValue25
  t55 := Tryz.underlying44
  a55 := Tryz.isAgg44
  z55 := Tryz.sizeOf44
  v55 := Tryz.zeroValue44
  t66 := Tryz.underlying204
  a66 := Tryz.isAgg204
  z66 := Tryz.sizeOf204
  v66 := Tryz.zeroValue204
  t70 := Tryz.underlying207
  a70 := Tryz.isAgg207
  z70 := Tryz.sizeOf207
  v70 := Tryz.zeroValue207
  t76 := Tryz.underlying209
  a76 := Tryz.isAgg209
  z76 := Tryz.sizeOf209
  v76 := Tryz.zeroValue209
  t77 := Tryz.underlying210
  a77 := Tryz.isAgg210
  z77 := Tryz.sizeOf210
  v77 := Tryz.zeroValue210 }
end Go.Proofs.YtjeammmfdniokaaGreat

namespace Go.Proofs.YtjeammmfdniokaaGreat
open Go.RowKit Go.Lib Go.Sort Go.Shelf

def encE (e : En) : List Value := [enH e, enA e]
theorem swoE : SWO (ltOf cmpE) where
  irrefl x := by
    unfold ltOf
    exact decide_eq_false (fun h => LessE.irrefl _ (cmpE_less.1 h))
  trans x y z h1 h2 := by
    unfold ltOf at *
    exact decide_eq_true (cmpE_less.2 ((cmpE_less.1 (of_decide_eq_true h1)).trans (cmpE_less.1 (of_decide_eq_true h2))))
  ntrans x y z h1 h2 := by
    unfold ltOf at *
    have a1 : ¬ LessE x y := fun h => of_decide_eq_false h1 (cmpE_less.2 h)
    have a2 : ¬ LessE y z := fun h => of_decide_eq_false h2 (cmpE_less.2 h)
    refine decide_eq_false (fun h => ?_)
    have h3 := cmpE_less.1 h
    unfold LessE at *
    omega
theorem cmpLaysE (blk off size : Nat) (w : World) : CmpLays Tryz.prog 103 #[] encE 2 cmpE blk off size w :=
  fun _ _ _ _ x y => compare_grown x y _

theorem RowF.holds {w : World} {g d n : Nat} {f : Nat → En} (h : RowF w g d n f) (A : Array En) (hA : A.size = n) (he : ∀ i, i < n → f i = A[i]!) : HoldsK encE 2 w g 0 A := by
  intro j hj
  rw [size_flatK] at hj
  refine ⟨?_, h.free _⟩
  have hc := h.cell (i := j / 2) (by omega)
  rw [he (j / 2) (by omega)] at hc
  show w.cell? ⟨g, 0 + j, none⟩ = some (flatK encE 2 A)[j]!
  rw [get_flatK _ _ _ _ hj]
  by_cases h5 : j % 2 = 0
  · rw [show 0 + j = j / 2 * 2 by omega, hc.1, h5]
    rfl
  · rw [show 0 + j = j / 2 * 2 + 1 by omega, hc.2, show j % 2 = 1 by omega]
    rfl
theorem RowF.sorted {w : World} {g d n : Nat} {f : Nat → En} (h : RowF w g d n f) (A : Array En) (hA : A.size = n) (m : Nat) (os : Array Obj) :
    RowF (sortWorldK encE 2 w g 0 m A os) g d n (fun i => A[i]!) := by
  obtain ⟨cur, hw, h1, h2, h3⟩ := h
  have hlt := hw.lt
  refine ⟨putCells id 0 (flatK encE 2 A) cur, ?_, by simpa [putCells] using h1, h2, fun i hi => ?_⟩
  · show ((w.heap.modify g _) ++ os)[g]? = _
    rw [Array.getElem?_append_left (by simpa using hlt), Array.getElem?_modify, if_pos rfl, show w.heap[g]? = _ from hw]
    rfl
  · obtain ⟨c0, c1⟩ := h3 i hi
    have hsz : (flatK encE 2 A).size = n * 2 := by rw [size_flatK, hA]
    have g0 := get_flatK encE 2 A (i * 2) (by rw [hA]; omega)
    have g1 := get_flatK encE 2 A (i * 2 + 1) (by rw [hA]; omega)
    rw [show i * 2 / 2 = i by omega, show i * 2 % 2 = 0 by omega] at g0
    rw [show (i * 2 + 1) / 2 = i by omega, show (i * 2 + 1) % 2 = 1 by omega] at g1
    constructor
    · unfold putCells
      rw [Array.getElem?_mapIdx, c0]
      simp only [Option.map_some]
      rw [if_pos ⟨Nat.zero_le _, by omega⟩, Nat.sub_zero, g0]
      rfl
    · unfold putCells
      rw [Array.getElem?_mapIdx, c1]
      simp only [Option.map_some]
      rw [if_pos ⟨Nat.zero_le _, by omega⟩, Nat.sub_zero, g1]
      rfl
theorem sortWorld_keeps (w : World) (g m : Nat) (A : Array En) (os : Array Obj) : Keeps (Just g) w (sortWorldK encE 2 w g 0 m A os) := by
  refine ⟨rfl, rfl, rfl, ?_, fun k hk hn => ?_⟩
  · show w.heap.size ≤ ((w.heap.modify g _) ++ os).size
    simp
  · show ((w.heap.modify g _) ++ os)[k]? = _
    rw [Array.getElem?_append_left (by simpa using hk), Array.getElem?_modify, if_neg (fun e => hn e.symm)]

set_option maxHeartbeats 2000000 in
set_option maxRecDepth 10000 in
theorem clone_own (p : Option Addr) (n c : Nat) (l : List En) (w : World) (hn : n = l.length) (hn9 : n ≤ 1000000) (hp : p = none → n = 0 ∧ c = 0) (hat : EnsAt w p l) :
    Calls Tryz.prog 101 #[.slice p n c] w fun e w' => ∃ v, e = .returned v ∧ TwosSoFar enH enA 109 w l v w' := by
  have q22 : ∀ (w : World) (a : Option Addr) (n c n' c' : Nat), (binOp .eql 99 (.slice a n c) (.slice none n' c')).run Tryz.prog w = .ok (.bool a.isNone) w := fun w a n c n' c' => Lib.run_eql_slice_nil w _ _ a n c n' c' Tryz.underlying99
  obtain ⟨i0, hi, hz0, hz1, hz2⟩ := info_parts infoEnL
  have HN := Lib.hid hn
  cases p with
  | none =>
    obtain ⟨rfl, rfl⟩ := hp rfl
    obtain rfl : l = [] := List.length_eq_zero_iff.1 hn.symm
    clear hat hn
    go_enter Tryz.func101, Tryz.ntmps101
    go_wp2_with fail
    go_ret
    exact ⟨_, rfl, TwosSoFar.start w⟩
  | some a =>
    have HA := Lib.hid hat
    have HO0 := Lib.hid (show TwosSoFar enH enA 109 w ([] : List En) (.slice (some ⟨w.heap.size, 0, none⟩) 0 0) (w.alloc (.cells #[] 109)) from ⟨World.ownsRow_made w #[] 0 (Nat.le_refl _) (Nat.zero_le _) (by simp), (Below.refl _ w).alloc (Nat.le_refl _) _⟩)
    clear hat hn hp
    go_enter Tryz.func101, Tryz.ntmps101
    go_wp2_with (at_builtin; refine wpList_append_twos (dd := En.none) rfl _ _ 99 rfl 109 i0 (.agg #[.int .u64 0, .int .u32 0]) 16 Tryz.underlying99 hi hz0 hz1 hz2 rfl _ _ rfl HO0.out (some a) n c l rfl (fun h => by simp at h) HN.out (TwosAt.keep HA.out ((Keeps.refl NoBlock w).alloc _) (fun _ _ h => h)) (fun _ => rfl) (fun _ => rfl) (by simp; omega) (by simp; omega) ?_)
    intro v w1 hv
    have HV := Lib.hid hv
    clear hv
    go_wp2_with fail
    go_ret
    exact ⟨_, rfl, HV.out⟩

set_option maxHeartbeats 2000000 in
theorem compact_nil (w : World) : Calls Tryz.prog 104 #[.slice none 0 0] w fun e w' => e = .returned (.slice none 0 0) ∧ w' = w := by
  go_enter Tryz.func104, Tryz.ntmps104
  go_wp2_with fail
  go_ret
  exact ⟨rfl, rfl⟩

/-- What the library's sort makes of a row of one's own. -/
theorem sortfunc_own (g cap n : Nat) (l : List En) (hl : n = l.length) (hn9 : n ≤ 1000000) (w : World) (h : RowF w g cap n (fun i => l.getD i En.none)) :
    Calls Tryz.prog 102 #[.slice (some ⟨g, 0, none⟩) n cap, .func (.func 103) #[] #[]] w fun e w' =>
      e = .returned (.tuple #[]) ∧ ∃ A : Array En, A.size = n ∧ compactUpTo A A.size = sortE l ∧ RowF w' g cap n (fun i => A[i]!) ∧ Keeps (Just g) w w' := by
  have eg : ∀ args w, (callFunc 103 args).run Tryz.prog w = .ok (.enter 103 args) w := enters_of Tryz.func103 (by kernel_rfl) rfl
  have hA : l.toArray.size = n := by simp [hl]
  have hf : ∀ i, i < n → l.getD i En.none = l.toArray[i]! := fun i hi => by
    rw [← getD_arr l.toArray i (by omega)]
  have hcon := AnyQ.slices_SortFunc sortLay 2 Tryz.isAgg109 Tryz.sizeOf109 encE (fun _ => rfl) (fun x v hv => by simp [encE] at hv; rcases hv with rfl | rfl <;> rfl) cmpE swoE 103 #[] g 0 cap l.toArray w eg (cmpLaysE g 0 l.toArray.size w) (h.holds l.toArray hA hf) h.lt (by omega)
  rw [hA] at hcon
  refine Calls.mono hcon ?_
  rintro e w' ⟨rfl, A, m, os, hp, hs, rfl⟩
  obtain ⟨p1, _, p3⟩ := hp
  have hAn : A.size = n := by rw [p1, hA]
  refine ⟨rfl, A, hAn, ?_, h.sorted A hAn m os, sortWorld_keeps w g m A os⟩
  rw [compact_sortE A (fun i j hij hj => ?_)]
  · have hmem : ∀ x, x ∈ A.toList ↔ x ∈ l := fun x => by
      have h1 := p3.mem_iff (a := x)
      rw [show A.extract 0 n = A by rw [← hAn]; exact Array.extract_size, show l.toArray.extract 0 n = l.toArray by rw [← hA]; exact Array.extract_size] at h1
      exact h1
    exact sortE_same hmem
  · by_cases e : i = j
    · rw [e]; exact LessE.irrefl _
    · have h2 := hs i j (Nat.zero_le _) (by omega) (by omega)
      unfold ltOf at h2
      exact fun h3 => of_decide_eq_false h2 (cmpE_less.2 h3)

set_option maxHeartbeats 2000000 in
set_option maxRecDepth 10000 in
theorem tsorted_own (p : Option Addr) (n c : Nat) (l : List En) (w : World) (h : InE w p n c l) (hn9 : n ≤ 100000) :
    Calls Tryz.prog 84 #[.slice p n c] w fun e w' => ∃ v, e = .returned v ∧ TwosSoFar enH enA 109 w (sortE l) v w' := by
  have HCl := Lib.hid (clone_own p n c l w h.len (by omega) h.bare h.at_)
  have HNo := Lib.hid (fun fv w => AnyF.slices_SortFunc_none sortLay none 0 fv w)
  have HLn := Lib.hid h.len
  clear h
  go_enter Tryz.func84, Tryz.ntmps84
  go_wp2_with fail
  refine HCl.out.mono ?_
  rintro e w1 ⟨v, rfl, hown, hbel⟩
  have HB := Lib.hid hbel
  rcases id hown with ⟨_, ⟨rfl, h0⟩ | ⟨g, cap, cur, rfl, hb, hg, h1, h2, h3, h4⟩⟩
  · obtain rfl : l = [] := List.length_eq_zero_iff.1 h0
    clear hown hbel HCl
    go_wp2_with fail
    refine (HNo.out _ _).mono ?_
    rintro e w2 ⟨rfl, rfl⟩
    go_wp2_with fail
    refine (compact_nil _).mono ?_
    rintro e w2 ⟨rfl, rfl⟩
    go_wp2_with fail
    go_ret
    exact ⟨_, rfl, ⟨by simp [sortE, twoFlat], .inl ⟨rfl, rfl⟩⟩, HB.out⟩
  · obtain ⟨hR, hbg, hcap⟩ := RowF.ofOwn hown rfl
    have HS := Lib.hid (sortfunc_own g cap l.length l rfl (by rw [← HLn.out]; omega) _ hR)
    have HBg := Lib.hid hbg
    have HCap := Lib.hid hcap
    have HL9 := Lib.hid (show l.length ≤ 100000 by rw [← HLn.out]; exact hn9)
    clear hown hbel HCl hR hbg hcap hb hg h1 h2 h3 h4
    go_wp2_with fail
    refine HS.out.mono ?_
    rintro e w2 ⟨rfl, A, hAn, hAs, hR2, hk2⟩
    have HC := Lib.hid (compact_own g cap A.size A rfl w2 (by rw [hAn]; exact hR2) (by have := HCap.out; unfold maxLen at this; exact this) (by have := HL9.out; omega))
    rw [hAn] at HC
    have HK2 := Lib.hid hk2
    have HAs := Lib.hid hAs
    clear hR2 hk2 hAs HS
    go_wp2_with fail
    refine HC.out.mono ?_
    rintro e w3 ⟨m, hm, rfl, hR3, hk3⟩
    rw [HAs.out] at hm hR3
    have HR3 := Lib.hid hR3
    have HM := Lib.hid hm
    have HK3 := Lib.hid (HK2.out.trans hk3)
    clear hR3 hm hk3 HC
    go_wp2_with fail
    go_ret
    have hm := HM.out
    subst hm
    exact ⟨_, rfl, HR3.out.own (Nat.le_refl _) (fun _ _ => rfl) HBg.out HCap.out, HB.out.trans (HK3.out.below HB.out.size (fun k hk e => by have := HBg.out; have e' : k = g := e; omega))⟩
end Go.Proofs.YtjeammmfdniokaaGreat

/-
  RecRef2; In8; ThinSum; ThinAll; ThinLives; ChecksWalk.
-/
import Derived.BigQuiet
import Derived.Lib.SlBytesConst
import Derived.Test.YtjjeaaiajgbncaaM01
import Derived.Test.YtjjeaaiajgbncaaM02
import Derived.Test.YtjjeaaiajgbncaaM04
import Derived.Test.YtjjeaaiajgbncaaM05
namespace Go.Proofs.Ytjjeaaiajgbncaa
open Go.RowKit

/-- What the document's GetText leaves. -/
def textOut (xs : List Int) (a : Int) (t : VT) : Value := .tuple #[rdr (xs.drop t.n) (a + t.n) t.e, .string (strOfNums t.t)]

theorem str_nil : (strOfNums [] : ByteArray) = ⟨#[]⟩ := rfl

set_option maxHeartbeats 2000000 in
set_option maxRecDepth 10000 in
/-- GetText behind its Get, where that, or the bounds, stopped it. -/
theorem gettext_gone (xs : List Int) (a y zl zm : Int) (hy : ¬ y = 0) (w : World) :
    Calls Try.prog 74 #[rdr xs a y, .int .i64 zl, .int .i64 zm] w fun e w' => e = .returned (.tuple #[rdr xs a y, .string (strOfNums [])]) ∧ Keeps NoBlock w w' := by
  have HG := Lib.hid (fun w => get_gone xs a y hy w)
  have hyb : (y != 0) = true := by simpa using hy
  have hyc : (y == 0) = false := by simpa using hy
  have hyd : decide (y = 0) = false := decide_eq_false hy
  unfold rdr at HG
  unfold rdr
  go_enter Try.func74, Try.ntmps74
  go_wp2_with fail
  refine (HG.out _).mono ?_
  rintro e w1 ⟨rfl, hk⟩
  have hb : Whole w1 w.heap.size 79 #[.string (strOfNums xs), .int .i64 a, .int .i64 y] := ((Whole.new w _ _).alloc _).keep hk (fun h => h)
  have hs : Whole w1 (w.heap.size + 1) 79 #[.string { data := #[] }, .int .i64 0, .int .i64 0] := (Whole.newAt _ _ _ _ (by simp)).keep hk (fun h => h)
  have HK := Lib.hid ((((Keeps.refl NoBlock w).alloc _).alloc _).trans hk)
  have c0 := hb.cell 0 rfl
  have c1 := hb.cell 1 rfl
  have c2 := hb.cell 2 rfl
  have f0 := hb.free 0
  have f1 := hb.free 1
  have f2 := hb.free 2
  have r0 := hs.cell 0 rfl
  have r1 := hs.cell 1 rfl
  have r2 := hs.cell 2 rfl
  have g0 := hs.free 0
  have g1 := hs.free 1
  have g2 := hs.free 2
  simp only [List.getElem_toArray, List.getElem_cons_zero, List.getElem_cons_succ] at c0 c1 c2 r0 r1 r2
  clear hk hb hs
  go_wp2_with fail
  exact bodyPost_ret (v := .tuple #[rdr xs a y, .string (strOfNums [])]) (by simp [results, Try.results74, go_sem, rdr, r0, r1, r2]; rfl) rfl ⟨rfl, (HK.out.set3 (Nat.le_refl _) _ _ _).set3 (by omega) _ _ _⟩

set_option maxHeartbeats 4000000 in
set_option maxRecDepth 10000 in
theorem gettext_ref (xs : List Int) (a : Int) (least most : Nat) (zl zm : Int) (hzl : zl = (least : Int)) (hzm : zm = (most : Int)) (hl4 : least ≤ 4096) (hmp : 0 < most) (hm : most ≤ 1048576) (hl : xs.length ≤ 140737488355328) (ha : 0 ≤ a ∧ a + xs.length ≤ 140737488355328) (ho : Octets xs) (w : World) :
    Calls Try.prog 74 #[rdr xs a 0, .int .i64 zl, .int .i64 zm] w fun e w' => e = .returned (textOut xs a (vtext xs least most)) ∧ Keeps NoBlock w w' := by
  have hm0 : max (0 : Int) (most : Int) = (most : Int) := by omega
  have hm1 : IntKind.u64.wrap (most : Int) = (most : Int) := by rw [IntKind.wrap_u64]; omega
  have hl0 : max (0 : Int) (least : Int) = (least : Int) := by omega
  have hl1 : IntKind.u64.wrap (least : Int) = (least : Int) := by rw [IntKind.wrap_u64]; omega
  subst hzl
  subst hzm
  have HG := Lib.hid (fun w => get_ref xs a hl ha ho w)
  have hnl : (vget xs).n ≤ xs.length := vread_n 10 true xs
  have hxb : (vget xs).e = 0 → 0 ≤ (vget xs).x ∧ (vget xs).x < 18446744073709551616 := fun h => by
    have hb := vread_bound 9 true xs ho h
    exact ⟨hb.1, Int.lt_of_lt_of_le hb.2 (by decide)⟩
  have hdef : vtext xs least most = if (vget xs).e ≠ 0 then ⟨(vget xs).e, (vget xs).n, []⟩ else if (most : Int) < (vget xs).x then ⟨3, (vget xs).n, []⟩ else if (vget xs).x < (least : Int) then ⟨4, (vget xs).n, []⟩ else if (xs.drop (vget xs).n).length < (vget xs).x.toNat then ⟨2, (vget xs).n, []⟩ else ⟨0, (vget xs).n + (vget xs).x.toNat, (xs.drop (vget xs).n).take (vget xs).x.toNat⟩ := rfl
  rw [hdef]
  unfold refOut at HG
  unfold textOut
  have hdd : ∀ k, (xs.drop (vget xs).n).drop k = xs.drop ((vget xs).n + k) := fun k => List.drop_drop
  have hzo := ho.drop (vget xs).n
  have hzl : (xs.drop (vget xs).n).length ≤ 140737488355328 := by rw [List.length_drop]; omega
  have hza : 0 ≤ a + ((vget xs).n : Int) ∧ a + ((vget xs).n : Int) ≤ 140737488355328 := by omega
  obtain ⟨t, ht⟩ : ∃ t, t = vget xs := ⟨_, rfl⟩
  rw [← ht] at HG hnl hxb hdd hzo hzl hza ⊢
  obtain ⟨e, n, x⟩ := t
  simp only at HG hnl hxb hdd hzo hzl hza ⊢
  obtain ⟨Z, hZ⟩ : ∃ Z, Z = xs.drop n := ⟨_, rfl⟩
  obtain ⟨A, hA⟩ : ∃ A, A = a + (n : Int) := ⟨_, rfl⟩
  rw [← hZ] at HG hdd hzo hzl ⊢
  rw [← hA] at HG hza
  have HZ := Lib.hid hZ
  have HA := Lib.hid hA
  have HDD := Lib.hid hdd
  clear hl ha ho ht hdef hnl hdd hZ hA
  by_cases h1 : e = 0
  · obtain ⟨hx0, hx1⟩ := hxb h1
    subst h1
    rw [if_pos rfl] at HG
    rw [if_neg (by simp)]
    by_cases h2 : (most : Int) < x
    · rw [if_pos h2]
      simp only
      rw [← HZ.out, ← HA.out]
      have HF := Lib.hid (fun w => fail_ref Z A 3 w)
      have d2 : decide ((most : Int) < x) = true := decide_eq_true h2
      unfold rdr at HG HF
      unfold rdr
      go_enter Try.func74, Try.ntmps74
      go_wp2_with fail
      refine (HG.out _).mono ?_
      rintro e w1 ⟨rfl, hk⟩
      have hb : Whole w1 w.heap.size 79 #[.string (strOfNums xs), .int .i64 a, .int .i64 0] := ((Whole.new w _ _).alloc _).keep hk (fun h => h)
      have hs : Whole w1 (w.heap.size + 1) 79 #[.string { data := #[] }, .int .i64 0, .int .i64 0] := (Whole.newAt _ _ _ _ (by simp)).keep hk (fun h => h)
      have HK := Lib.hid ((((Keeps.refl NoBlock w).alloc _).alloc _).trans hk)
      have HB := Lib.hid (hb.set3 (.string (strOfNums Z)) (.int .i64 A) (.int .i64 0))
      have HS := Lib.hid (hs.other3 (h := w.heap.size) (by omega) (.string (strOfNums Z)) (.int .i64 A) (.int .i64 0))
      have HK1 := Lib.hid (HK.out.set3 (Nat.le_refl _) (.string (strOfNums Z)) (.int .i64 A) (.int .i64 0))
      have c0 := hb.cell 0 rfl
      have c1 := hb.cell 1 rfl
      have c2 := hb.cell 2 rfl
      have f0 := hb.free 0
      have f1 := hb.free 1
      have f2 := hb.free 2
      have r0 := hs.cell 0 rfl
      have r1 := hs.cell 1 rfl
      have r2 := hs.cell 2 rfl
      have g0 := hs.free 0
      have g1 := hs.free 1
      have g2 := hs.free 2
      simp only [List.getElem_toArray, List.getElem_cons_zero, List.getElem_cons_succ] at c0 c1 c2 r0 r1 r2
      clear hk hb hs
      go_wp2_with fail
      refine (HF.out _).mono ?_
      rintro e w2 ⟨rfl, hk2⟩
      have hb2 := HB.out.keep hk2 (fun h => h)
      have hs2 := HS.out.keep hk2 (fun h => h)
      have HK2 := Lib.hid (HK1.out.trans hk2)
      have c0 := hb2.cell 0 rfl
      have c1 := hb2.cell 1 rfl
      have c2 := hb2.cell 2 rfl
      have f0 := hb2.free 0
      have f1 := hb2.free 1
      have f2 := hb2.free 2
      have r0 := hs2.cell 0 rfl
      have r1 := hs2.cell 1 rfl
      have r2 := hs2.cell 2 rfl
      have g0 := hs2.free 0
      have g1 := hs2.free 1
      have g2 := hs2.free 2
      simp only [List.getElem_toArray, List.getElem_cons_zero, List.getElem_cons_succ] at c0 c1 c2 r0 r1 r2
      clear hk2 hb2 hs2
      go_wp2_with fail
      exact bodyPost_ret (v := .tuple #[rdr Z A 3, .string (strOfNums [])]) (by simp [results, Try.results74, go_sem, rdr, r0, r1, r2]; rfl) rfl ⟨rfl, (HK2.out.set3 (Nat.le_refl _) _ _ _).set3 (by omega) _ _ _⟩
    · rw [if_neg h2]
      have d2 : decide ((most : Int) < x) = false := decide_eq_false h2
      by_cases h3 : x < (least : Int)
      · rw [if_pos h3]
        simp only
        rw [← HZ.out, ← HA.out]
        have HF := Lib.hid (fun w => fail_ref Z A 4 w)
        have d3 : decide (x < (least : Int)) = true := decide_eq_true h3
        have hlp : 0 < least := by omega
        unfold rdr at HG HF
        unfold rdr
        go_enter Try.func74, Try.ntmps74
        go_wp2_with fail
        refine (HG.out _).mono ?_
        rintro e w1 ⟨rfl, hk⟩
        have hb : Whole w1 w.heap.size 79 #[.string (strOfNums xs), .int .i64 a, .int .i64 0] := ((Whole.new w _ _).alloc _).keep hk (fun h => h)
        have hs : Whole w1 (w.heap.size + 1) 79 #[.string { data := #[] }, .int .i64 0, .int .i64 0] := (Whole.newAt _ _ _ _ (by simp)).keep hk (fun h => h)
        have HK := Lib.hid ((((Keeps.refl NoBlock w).alloc _).alloc _).trans hk)
        have HB := Lib.hid (hb.set3 (.string (strOfNums Z)) (.int .i64 A) (.int .i64 0))
        have HS := Lib.hid (hs.other3 (h := w.heap.size) (by omega) (.string (strOfNums Z)) (.int .i64 A) (.int .i64 0))
        have HK1 := Lib.hid (HK.out.set3 (Nat.le_refl _) (.string (strOfNums Z)) (.int .i64 A) (.int .i64 0))
        have c0 := hb.cell 0 rfl
        have c1 := hb.cell 1 rfl
        have c2 := hb.cell 2 rfl
        have f0 := hb.free 0
        have f1 := hb.free 1
        have f2 := hb.free 2
        have r0 := hs.cell 0 rfl
        have r1 := hs.cell 1 rfl
        have r2 := hs.cell 2 rfl
        have g0 := hs.free 0
        have g1 := hs.free 1
        have g2 := hs.free 2
        simp only [List.getElem_toArray, List.getElem_cons_zero, List.getElem_cons_succ] at c0 c1 c2 r0 r1 r2
        clear hk hb hs
        go_wp2_with fail
        refine (HF.out _).mono ?_
        rintro e w2 ⟨rfl, hk2⟩
        have hb2 := HB.out.keep hk2 (fun h => h)
        have hs2 := HS.out.keep hk2 (fun h => h)
        have HK2 := Lib.hid (HK1.out.trans hk2)
        have c0 := hb2.cell 0 rfl
        have c1 := hb2.cell 1 rfl
        have c2 := hb2.cell 2 rfl
        have f0 := hb2.free 0
        have f1 := hb2.free 1
        have f2 := hb2.free 2
        have r0 := hs2.cell 0 rfl
        have r1 := hs2.cell 1 rfl
        have r2 := hs2.cell 2 rfl
        have g0 := hs2.free 0
        have g1 := hs2.free 1
        have g2 := hs2.free 2
        simp only [List.getElem_toArray, List.getElem_cons_zero, List.getElem_cons_succ] at c0 c1 c2 r0 r1 r2
        clear hk2 hb2 hs2
        go_wp2_with fail
        exact bodyPost_ret (v := .tuple #[rdr Z A 4, .string (strOfNums [])]) (by simp [results, Try.results74, go_sem, rdr, r0, r1, r2]; rfl) rfl ⟨rfl, (HK2.out.set3 (Nat.le_refl _) _ _ _).set3 (by omega) _ _ _⟩
      · rw [if_neg h3]
        have d3 : decide (x < (least : Int)) = false := decide_eq_false h3
        have hx2 : x ≤ 1048576 := by omega
        have hw64 : wrap64 x = x := by unfold wrap64; omega
        obtain ⟨Z2, A2, E2, T2, hv, HT⟩ : ∃ (Z2 : List Int) (A2 E2 : Int) (T2 : List Int), (Value.tuple #[rdr (List.drop (if Z.length < x.toNat then (⟨2, n, []⟩ : VT) else ⟨0, n + x.toNat, Z.take x.toNat⟩).n xs) (a + ((if Z.length < x.toNat then (⟨2, n, []⟩ : VT) else ⟨0, n + x.toNat, Z.take x.toNat⟩).n : Int)) (if Z.length < x.toNat then (⟨2, n, []⟩ : VT) else ⟨0, n + x.toNat, Z.take x.toNat⟩).e, .string (strOfNums (if Z.length < x.toNat then (⟨2, n, []⟩ : VT) else ⟨0, n + x.toNat, Z.take x.toNat⟩).t)] = Value.tuple #[rdr Z2 A2 E2, .string (strOfNums T2)]) ∧
            Hid (∀ w, Calls Try.prog 79 #[rdr Z A 0, .int .i64 x] w fun e w' => e = .returned (.tuple #[rdr Z2 A2 E2, .string (strOfNums T2)]) ∧ Keeps NoBlock w w') := by
          by_cases h4 : Z.length < x.toNat
          · refine ⟨Z, A, 2, [], by rw [if_pos h4, ← HZ.out, ← HA.out], Lib.hid fun w => ?_⟩
            exact take_ref_short Z A x x.toNat (by omega) (by omega) h4 w
          · by_cases h5 : x = 0
            · refine ⟨Z, A, 0, [], by rw [if_neg h4, h5, Int.toNat_zero, Nat.add_zero, List.take_zero, ← HZ.out, ← HA.out], Lib.hid fun w => ?_⟩
              exact take_ref_none Z A 0 x (by omega) w
            · refine ⟨Z.drop x.toNat, A + (x.toNat : Int), 0, Z.take x.toNat, by rw [if_neg h4, ← HDD.out, Int.natCast_add, ← Int.add_assoc, ← HA.out], Lib.hid fun w => ?_⟩
              exact take_ref Z A x x.toNat (by omega) (by omega) (by omega) hzl hza w
        rw [hv]
        clear hv
        by_cases hlp : 0 < least
        · unfold rdr at HG HT
          unfold rdr
          go_enter Try.func74, Try.ntmps74
          go_wp2_with fail
          refine (HG.out _).mono ?_
          rintro e w1 ⟨rfl, hk⟩
          have hb : Whole w1 w.heap.size 79 #[.string (strOfNums xs), .int .i64 a, .int .i64 0] := ((Whole.new w _ _).alloc _).keep hk (fun h => h)
          have hs : Whole w1 (w.heap.size + 1) 79 #[.string { data := #[] }, .int .i64 0, .int .i64 0] := (Whole.newAt _ _ _ _ (by simp)).keep hk (fun h => h)
          have HK := Lib.hid ((((Keeps.refl NoBlock w).alloc _).alloc _).trans hk)
          have HB := Lib.hid (hb.set3 (.string (strOfNums Z)) (.int .i64 A) (.int .i64 0))
          have HS := Lib.hid (hs.other3 (h := w.heap.size) (by omega) (.string (strOfNums Z)) (.int .i64 A) (.int .i64 0))
          have HK1 := Lib.hid (HK.out.set3 (Nat.le_refl _) (.string (strOfNums Z)) (.int .i64 A) (.int .i64 0))
          have c0 := hb.cell 0 rfl
          have c1 := hb.cell 1 rfl
          have c2 := hb.cell 2 rfl
          have f0 := hb.free 0
          have f1 := hb.free 1
          have f2 := hb.free 2
          have r0 := hs.cell 0 rfl
          have r1 := hs.cell 1 rfl
          have r2 := hs.cell 2 rfl
          have g0 := hs.free 0
          have g1 := hs.free 1
          have g2 := hs.free 2
          simp only [List.getElem_toArray, List.getElem_cons_zero, List.getElem_cons_succ] at c0 c1 c2 r0 r1 r2
          clear hk hb hs
          go_wp2_with fail
          refine (HT.out _).mono ?_
          rintro e w2 ⟨rfl, hk2⟩
          have hb2 := HB.out.keep hk2 (fun h => h)
          have hs2 := HS.out.keep hk2 (fun h => h)
          have HK2 := Lib.hid (HK1.out.trans hk2)
          have c0 := hb2.cell 0 rfl
          have c1 := hb2.cell 1 rfl
          have c2 := hb2.cell 2 rfl
          have f0 := hb2.free 0
          have f1 := hb2.free 1
          have f2 := hb2.free 2
          have r0 := hs2.cell 0 rfl
          have r1 := hs2.cell 1 rfl
          have r2 := hs2.cell 2 rfl
          have g0 := hs2.free 0
          have g1 := hs2.free 1
          have g2 := hs2.free 2
          simp only [List.getElem_toArray, List.getElem_cons_zero, List.getElem_cons_succ] at c0 c1 c2 r0 r1 r2
          clear hk2 hb2 hs2
          go_wp2_with fail
          exact bodyPost_ret (v := .tuple #[rdr Z2 A2 E2, .string (strOfNums T2)]) (by simp [results, Try.results74, go_sem, rdr, r0, r1, r2]) rfl ⟨rfl, HK2.out.set3 (by omega) _ _ _⟩
        · have hl00 : least = 0 := by omega
          subst hl00
          unfold rdr at HG HT
          unfold rdr
          go_enter Try.func74, Try.ntmps74
          go_wp2_with fail
          refine (HG.out _).mono ?_
          rintro e w1 ⟨rfl, hk⟩
          have hb : Whole w1 w.heap.size 79 #[.string (strOfNums xs), .int .i64 a, .int .i64 0] := ((Whole.new w _ _).alloc _).keep hk (fun h => h)
          have hs : Whole w1 (w.heap.size + 1) 79 #[.string { data := #[] }, .int .i64 0, .int .i64 0] := (Whole.newAt _ _ _ _ (by simp)).keep hk (fun h => h)
          have HK := Lib.hid ((((Keeps.refl NoBlock w).alloc _).alloc _).trans hk)
          have HB := Lib.hid (hb.set3 (.string (strOfNums Z)) (.int .i64 A) (.int .i64 0))
          have HS := Lib.hid (hs.other3 (h := w.heap.size) (by omega) (.string (strOfNums Z)) (.int .i64 A) (.int .i64 0))
          have HK1 := Lib.hid (HK.out.set3 (Nat.le_refl _) (.string (strOfNums Z)) (.int .i64 A) (.int .i64 0))
          have c0 := hb.cell 0 rfl
          have c1 := hb.cell 1 rfl
          have c2 := hb.cell 2 rfl
          have f0 := hb.free 0
          have f1 := hb.free 1
          have f2 := hb.free 2
          have r0 := hs.cell 0 rfl
          have r1 := hs.cell 1 rfl
          have r2 := hs.cell 2 rfl
          have g0 := hs.free 0
          have g1 := hs.free 1
          have g2 := hs.free 2
          simp only [List.getElem_toArray, List.getElem_cons_zero, List.getElem_cons_succ] at c0 c1 c2 r0 r1 r2
          clear hk hb hs
          go_wp2_with fail
          refine (HT.out _).mono ?_
          rintro e w2 ⟨rfl, hk2⟩
          have hb2 := HB.out.keep hk2 (fun h => h)
          have hs2 := HS.out.keep hk2 (fun h => h)
          have HK2 := Lib.hid (HK1.out.trans hk2)
          have c0 := hb2.cell 0 rfl
          have c1 := hb2.cell 1 rfl
          have c2 := hb2.cell 2 rfl
          have f0 := hb2.free 0
          have f1 := hb2.free 1
          have f2 := hb2.free 2
          have r0 := hs2.cell 0 rfl
          have r1 := hs2.cell 1 rfl
          have r2 := hs2.cell 2 rfl
          have g0 := hs2.free 0
          have g1 := hs2.free 1
          have g2 := hs2.free 2
          simp only [List.getElem_toArray, List.getElem_cons_zero, List.getElem_cons_succ] at c0 c1 c2 r0 r1 r2
          clear hk2 hb2 hs2
          go_wp2_with fail
          exact bodyPost_ret (v := .tuple #[rdr Z2 A2 E2, .string (strOfNums T2)]) (by simp [results, Try.results74, go_sem, rdr, r0, r1, r2]) rfl ⟨rfl, HK2.out.set3 (by omega) _ _ _⟩
  · rw [if_neg h1] at HG
    rw [if_pos h1]
    simp only
    rw [← HZ.out, ← HA.out]
    have hyb : (e != 0) = true := by simpa using h1
    have hyc : (e == 0) = false := by simpa using h1
    have hyd : decide (e = 0) = false := decide_eq_false h1
    unfold rdr at HG
    unfold rdr
    go_enter Try.func74, Try.ntmps74
    go_wp2_with fail
    refine (HG.out _).mono ?_
    rintro e w1 ⟨rfl, hk⟩
    have hb : Whole w1 w.heap.size 79 #[.string (strOfNums xs), .int .i64 a, .int .i64 0] := ((Whole.new w _ _).alloc _).keep hk (fun h => h)
    have hs : Whole w1 (w.heap.size + 1) 79 #[.string { data := #[] }, .int .i64 0, .int .i64 0] := (Whole.newAt _ _ _ _ (by simp)).keep hk (fun h => h)
    have HK := Lib.hid ((((Keeps.refl NoBlock w).alloc _).alloc _).trans hk)
    have HB := Lib.hid (hb.set3 (.string (strOfNums Z)) (.int .i64 A) (.int .i64 e))
    have HS := Lib.hid (hs.other3 (h := w.heap.size) (by omega) (.string (strOfNums Z)) (.int .i64 A) (.int .i64 e))
    have HK1 := Lib.hid (HK.out.set3 (Nat.le_refl _) (.string (strOfNums Z)) (.int .i64 A) (.int .i64 e))
    have c0 := hb.cell 0 rfl
    have c1 := hb.cell 1 rfl
    have c2 := hb.cell 2 rfl
    have f0 := hb.free 0
    have f1 := hb.free 1
    have f2 := hb.free 2
    have r0 := hs.cell 0 rfl
    have r1 := hs.cell 1 rfl
    have r2 := hs.cell 2 rfl
    have g0 := hs.free 0
    have g1 := hs.free 1
    have g2 := hs.free 2
    simp only [List.getElem_toArray, List.getElem_cons_zero, List.getElem_cons_succ] at c0 c1 c2 r0 r1 r2
    clear hk hb hs
    go_wp2_with fail
    exact bodyPost_ret (v := .tuple #[rdr Z A e, .string (strOfNums [])]) (by simp [results, Try.results74, go_sem, rdr, r0, r1, r2]; rfl) rfl ⟨rfl, HK1.out.set3 (by omega) _ _ _⟩
end Go.Proofs.Ytjjeaaiajgbncaa

namespace Go.Proofs.Ytjjeaaiajgbncaa
open Go.RowKit

/-- What a slice of bytes is. -/
structure In8 (w : World) (p : Option Addr) (N c : Nat) (xs : List Int) : Prop where
  len : N = xs.length
  cap : N ≤ c
  room : c ≤ 9223372036854775807
  bare : p = none → N = 0 ∧ c = 0
  oct : Octets xs
  at_ : Bytes8 w p xs

theorem In8.nil (w : World) : In8 w none 0 0 [] := ⟨rfl, Nat.le_refl _, by decide, fun _ => ⟨rfl, rfl⟩, fun b hb => by simp at hb, Bytes8.nil _ _⟩

theorem Bytes8.left {w : World} {p : Option Addr} {xs ys : List Int} (h : Bytes8 w p (xs ++ ys)) : Bytes8 w p xs := fun h0 => by
  obtain ⟨a, ha, hc⟩ := h (by rw [List.length_append]; omega)
  refine ⟨a, ha, fun i hi => ?_⟩
  rw [hc i (by rw [List.length_append]; omega), List.getD_eq_getElem?_getD, List.getD_eq_getElem?_getD, List.getElem?_append_left hi]

theorem cell_new (w : World) (cs : Array Value) (t : TypeId) (f : Nat × Nat) (i : Nat) {v : Value} (h : cs[i]? = some v) : (w.alloc (.cells cs t f)).cell? ⟨w.heap.size, i, none⟩ = some v := by
  have e : (w.alloc (.cells cs t f)).heap[w.heap.size]? = some (.cells cs t f) := by
    show (w.heap.push _)[w.heap.size]? = _
    simp
  unfold World.cell?
  simp only [e]
  simpa using h
end Go.Proofs.Ytjjeaaiajgbncaa

namespace Go.Proofs.Ytjjeaaiajgbncaa
open Go.RowKit

theorem and31 (n : Nat) (hn : n < 32) : bits BinOp.and IntKind.u64 (n : Int) 31 = (n : Int) := by
  have e := u64_and_nat n 31 (by omega) (by decide)
  rw [show n &&& 31 = n % 2 ^ 5 from Nat.and_two_pow_sub_one_eq_mod n 5, Nat.mod_eq_of_lt (by omega)] at e
  exact e

theorem down32 {x : Int} (h : U32 x) : bits BinOp.xor IntKind.u32 x (x / 32768) = down 15 x ∧ bits BinOp.xor IntKind.u32 x (x / 8192) = down 13 x ∧ bits BinOp.xor IntKind.u32 x (x / 65536) = down 16 x :=
  ⟨down_of32 15 h, down_of32 13 h, down_of32 16 h⟩

def lenOf : Value → Nat
  | .slice _ n _ => n
  | _ => 0

/-- 'x | uint32(low) << (8*k)' where x has k bytes. -/
theorem or_byte32 (X y : Int) (k : Nat) (hk : k < 4) (hX0 : 0 ≤ X) (hX : X < 2 ^ (8 * k)) (h0 : 0 ≤ y) (h1 : y < 256) :
    bits BinOp.or IntKind.u32 X (y * 2 ^ (8 * k)) = X + 2 ^ (8 * k) * y := by
  obtain ⟨x, rfl⟩ := Int.eq_ofNat_of_zero_le hX0
  obtain ⟨b, rfl⟩ := Int.eq_ofNat_of_zero_le h0
  have hp : (2 : Nat) ^ (8 * k) * 256 ≤ 4294967296 := by
    have e : (2 : Nat) ^ (8 * k) * 256 = 2 ^ (8 * k + 8) := by rw [Nat.pow_add]
    rw [e]
    exact Nat.pow_le_pow_right (by decide) (show 8 * k + 8 ≤ 32 by omega)
  have hx : x < 2 ^ (8 * k) := by exact_mod_cast hX
  have hb : b < 256 := by omega
  have hbp : b * 2 ^ (8 * k) < 4294967296 := by
    have : b * 2 ^ (8 * k) < 256 * 2 ^ (8 * k) := Nat.mul_lt_mul_of_pos_right hb (Nat.two_pow_pos _)
    rw [Nat.mul_comm 256] at this
    omega
  have e2 : (b : Int) * 2 ^ (8 * k) = ((b * 2 ^ (8 * k) : Nat) : Int) := by push_cast; rfl
  rw [e2, u32_or_nat _ _ (by omega) hbp, Nat.or_comm, Nat.mul_comm b, ← Nat.two_pow_add_eq_or_of_lt hx]
  push_cast
  omega

theorem Bytes8.at4 {w : World} {p : Option Addr} {xs : List Int} (h : Bytes8 w p xs) (h4 : 4 ≤ xs.length) : ∃ a, p = some a ∧ w.cell? a = some (.int .u8 (xs.getD 0 0)) ∧ w.cell? ⟨a.block, a.off + 1, none⟩ = some (.int .u8 (xs.getD 1 0)) ∧ w.cell? ⟨a.block, a.off + 2, none⟩ = some (.int .u8 (xs.getD 2 0)) ∧ w.cell? ⟨a.block, a.off + 3, none⟩ = some (.int .u8 (xs.getD 3 0)) := by
  obtain ⟨a, rfl, hc⟩ := h (by omega)
  exact ⟨a, rfl, hc 0 (by omega), hc 1 (by omega), hc 2 (by omega), hc 3 (by omega)⟩

theorem four_le {xs : List Int} (h4 : 4 ≤ xs.length) : four4 xs 0 = xs.getD 0 0 + 256 * (xs.getD 1 0) + 65536 * (xs.getD 2 0) + 16777216 * (xs.getD 3 0) := by
  match xs, h4 with
  | a :: b :: c :: d :: r, _ => simp [four4, le]; omega

end Go.Proofs.Ytjjeaaiajgbncaa

namespace Go.Proofs.Ytjjeaaiajgbncaa
open Go.RowKit

end Go.Proofs.Ytjjeaaiajgbncaa

namespace Go.Proofs.Ytjjeaaiajgbncaa
open Go.RowKit

theorem xxh_nil : xxh 0 [] = 46947589 := by
  unfold xxh tblocks
  rw [if_pos (by decide), tails_end (by decide)]
  decide +kernel
theorem xxh_abc : xxh 0 [97, 98, 99] = 852579327 := by
  unfold xxh tblocks
  rw [if_pos (by decide), tails_end (by decide)]
  decide +kernel

end Go.Proofs.Ytjjeaaiajgbncaa

namespace Go.Proofs.Ytjjeaaiajgbncaa
open Go.RowKit

theorem xxh_bound (s : Int) (xs : List Int) : U32 (xxh s xs) := tend_bound _

end Go.Proofs.Ytjjeaaiajgbncaa

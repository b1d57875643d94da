/-
  The document's Get of entries.
-/
import Derived.Test.YtbchiccgkhnkaaaTabRef3
import Derived.Test.YtbchiccgkhnkaaaRef1
namespace Go.Proofs.Ytbchiccgkhnkaaa
open Go.RowKit

theorem own_apart {w : World} {base size n g : Nat} {e t : TypeId} {v : Value} {xs : List Value} {cs : Array Value} (hte : t ≠ e) (h : w.ownsRow base e size v n xs) (hg : Whole w g t cs) : v.ownBlock ≠ some g := by
  intro hb
  rcases h.2 with ⟨rfl, _⟩ | ⟨k, cap, cur, rfl, _, hk, _⟩
  · simp [Value.ownBlock] at hb
  · obtain rfl : k = g := by simpa [Value.ownBlock] using hb
    have e := hk.symm.trans (show w.heap[k]? = _ from hg)
    simp at e
    exact hte e.2.symm
theorem TwosSoFar.setOther {α : Type} {v0 v1 : α → Value} {t : TypeId} {w0 wr : World} {l : List α} {v : Value} (h : TwosSoFar v0 v1 t w0 l v wr) {p : Addr} (hp : v.ownBlock ≠ some p.block) (hb : w0.heap.size ≤ p.block) (x : Value) : TwosSoFar v0 v1 t w0 l v (wr.setCell p x) :=
  ⟨ownsRow_setCell_other h.1 hp _, h.2.setCell hb _⟩

theorem TwosSoFar.set3 {α : Type} {v0 v1 : α → Value} {t : TypeId} {w0 wr : World} {l : List α} {v : Value} (h : TwosSoFar v0 v1 t w0 l v wr) {g : Nat} (hp : v.ownBlock ≠ some g) (hb : w0.heap.size ≤ g) (x y z : Value) : TwosSoFar v0 v1 t w0 l v (((wr.setCell ⟨g, 0, none⟩ x).setCell ⟨g, 1, none⟩ y).setCell ⟨g, 2, none⟩ z) :=
  ((h.setOther hp hb x).setOther hp hb y).setOther hp hb z

def rdrCells (xs : List Int) (a y : Int) : Array Value := #[.string (strOfNums xs), .int .i64 a, .int .i64 y]

theorem takeE_snoc : ∀ (j : Nat) (xs : List Int), takeE (j + 1) xs = takeE j xs ++ [⟨(le ((xs.drop (12 * j)).take 8)).toNat, (le (((xs.drop (12 * j)).drop 8).take 4)).toNat⟩]
  | 0, xs => by simp [takeE]
  | j + 1, xs => by
    rw [takeE, takeE_snoc j (xs.drop 12)]
    conv => rhs; rw [takeE]
    rw [List.drop_drop, show 12 + 12 * j = 12 * (j + 1) by omega]
    rfl

/-- What Get answers: the place, the error's number, the entries. -/
structure GE where
  m : Nat
  y : Int
  l : List En
def getE (n : Int) (xs : List Int) : GE :=
  if n ≤ 0 then ⟨0, 0, []⟩ else if xs.length / 12 < n.toNat then ⟨0, 2, []⟩ else if risesE (takeE n.toNat xs) = true then ⟨12 * n.toNat, 0, takeE n.toNat xs⟩ else ⟨12 * n.toNat, 8, []⟩
def GotE (w : World) (xs : List Int) (a : Int) (t : GE) (e : Ending) (w' : World) : Prop := ∃ v, e = .returned (.tuple #[rdr (xs.drop t.m) (a + t.m) t.y, v]) ∧ NewEns w t.l v w'

set_option maxHeartbeats 8000000 in
set_option maxRecDepth 10000 in
theorem getents_ref (n : Int) (xs : List Int) (ho : Octets xs) (hl : xs.length ≤ 1000000) (a : Int) (ha : 0 ≤ a ∧ a ≤ 1000000000) (w : World) :
    Calls Try.prog 24 #[rdr xs a 0, .int .i64 n] w (GotE w xs a (getE n xs)) := by
  have HF := Lib.hid (fun xs a y w => fail_ref xs a y w)
  have HR0 : Hid (Whole (w.alloc (.cells (rdrCells xs a 0) 52)) w.heap.size 52 (rdrCells xs a 0)) := Lib.hid (Whole.new _ _ _)
  have hsz := str_size xs
  unfold getE
  by_cases hn0 : n ≤ 0
  · rw [if_pos hn0]
    have hd : decide (n ≤ 0) = true := decide_eq_true hn0
    unfold GotE
    simp only [List.drop_zero, Int.natCast_zero, Int.add_zero]
    unfold rdr
    clear HF ho hl ha
    go_enter Try.func24, Try.ntmps24
    go_wp2_with fail
    exact bodyPost_ret (v := .tuple #[.agg #[.string (strOfNums xs), .int .i64 a, .int .i64 0], .slice none 0 0]) (by simp [results, Try.results24, go_sem]) rfl ⟨_, rfl, NewTwos.ofNil _ _ (((Keeps.refl _ _).alloc _).alloc _)⟩
  · rw [if_neg hn0]
    obtain ⟨N, rfl⟩ : ∃ N : Nat, n = (N : Int) := ⟨n.toNat, by omega⟩
    rw [Int.toNat_natCast]
    have hd : decide ((N : Int) ≤ 0) = false := decide_eq_false hn0
    have hd2 : decide (N ≤ 0) = false := decide_eq_false (by omega)
    have hN0 : ¬ N = 0 := by omega
    obtain ⟨L, hL⟩ : ∃ L, L = xs.length := ⟨_, rfl⟩
    rw [← hL] at hsz hl ⊢
    have hq : ((L : Int)).tdiv 12 = ((L / 12 : Nat) : Int) := by rw [Int.tdiv_eq_ediv_of_nonneg (by omega)]; omega
    obtain ⟨K, hK⟩ : ∃ K, K = L / 12 := ⟨_, rfl⟩
    rw [← hK] at hq ⊢
    have hq2 : (L : Int) / 12 = (K : Int) := by omega
    have hK9 : K ≤ 1000000 := by omega
    by_cases hs : K < N
    · rw [if_pos hs]
      have hd3 : decide ((K : Int) < (N : Int)) = true := decide_eq_true (by omega)
      have hd4 : decide (K < N) = true := decide_eq_true hs
      unfold GotE
      simp only [List.drop_zero, Int.natCast_zero, Int.add_zero]
      have HF1 := Lib.hid (fun w => HF.out xs a 2 w)
      unfold rdr at HF1 ⊢
      clear HF ho hl ha hK hL
      go_enter Try.func24, Try.ntmps24
      go_wp2_with fail
      refine (HF1.out _).mono ?_
      rintro e w1 ⟨rfl, hk⟩
      have HK := Lib.hid ((((Keeps.refl NoBlock w).alloc (.cells #[.string (strOfNums xs), .int .i64 a, .int .i64 0] 52)).alloc (.cells #[.string ⟨#[]⟩, .int .i64 0, .int .i64 0] 52)).trans hk)
      have hN := (Whole.newAt (w.alloc (.cells #[.string (strOfNums xs), .int .i64 a, .int .i64 0] 52)) 52 #[.string ⟨#[]⟩, .int .i64 0, .int .i64 0] (w.heap.size + 1) (by simp)).keep hk (fun h => h)
      have c0 := hN.cell 0 rfl
      have c1 := hN.cell 1 rfl
      have c2 := hN.cell 2 rfl
      have f0 := hN.free 0
      have f1 := hN.free 1
      have f2 := hN.free 2
      simp only [List.getElem_toArray, List.getElem_cons_zero, List.getElem_cons_succ] at c0 c1 c2
      clear hk hN
      go_wp2_with fail
      exact bodyPost_ret (v := .tuple #[.agg #[.string (strOfNums xs), .int .i64 a, .int .i64 2], .slice none 0 0]) (by simp [results, Try.results24, go_sem, c0, c1, c2]) rfl ⟨_, rfl, NewTwos.ofNil _ _ (((HK.out.setNew (by omega) 0 _).setNew (by omega) 1 _).setNew (by omega) 2 _)⟩
    · rw [if_neg hs]
      have hd3 : decide ((K : Int) < (N : Int)) = false := decide_eq_false (by omega)
      have hd4 : decide (K < N) = false := decide_eq_false hs
      have hroom : 12 * N ≤ L := by omega
      obtain ⟨t, ht⟩ : ∃ t, t = if risesE (takeE N xs) = true then (⟨12 * N, 0, takeE N xs⟩ : GE) else ⟨12 * N, 8, []⟩ := ⟨_, rfl⟩
      rw [← ht]
      have HTt := Lib.hid ht
      clear ht
      obtain ⟨i0, hi, hz0, hz1, hz2⟩ := info_parts infoEnR
      have HG := Lib.hid (fun (ys : List Int) (b : Int) (z : Int) (k : Nat) (hz : z = k) (h0 : 0 < k) (h1 : k ≤ ys.length) (h8 : k ≤ 8) (hl : ys.length ≤ 1000000) (hb : 0 ≤ b ∧ b ≤ 2000000000) (hoy : Octets ys) w => get1_ref ys b z k hz h0 h1 h8 (by omega) (by omega) hoy w)
      have HO := Lib.hid ho
      have HL := Lib.hid hL
      have HRi := Lib.hid (fun p n c l hn hn9 w hl => rising11_ref p n c l hn hn9 w hl)
      unfold rdr at HG HF ⊢
      unfold GotE
      unfold rdr
      have HW1 : Hid (Whole ((w.alloc (.cells #[.string (strOfNums xs), .int .i64 a, .int .i64 0] 52)).alloc (.cells #[.string ⟨#[]⟩, .int .i64 0, .int .i64 0] 52)) w.heap.size 52 (rdrCells xs a 0)) := Lib.hid ((Whole.new w _ _).alloc _)
      have HW2 : Hid (Whole ((w.alloc (.cells #[.string (strOfNums xs), .int .i64 a, .int .i64 0] 52)).alloc (.cells #[.string ⟨#[]⟩, .int .i64 0, .int .i64 0] 52)) (w.heap.size + 1) 52 (rdrCells [] 0 0)) := Lib.hid (Whole.newAt _ _ _ _ (by simp))
      have HB0 : Hid (TwosSoFar enH enA 69 w [] (.slice none 0 0) ((w.alloc (.cells #[.string (strOfNums xs), .int .i64 a, .int .i64 0] 52)).alloc (.cells #[.string ⟨#[]⟩, .int .i64 0, .int .i64 0] 52))) := Lib.hid (((TwosSoFar.start w).alloc _).alloc _)
      clear ho hL hK HR0
      go_enter Try.func24, Try.ntmps24
      go_wp2_with fail
      go_loopw [6, 27] (fun v i wr => ∃ j : Nat, j ≤ N ∧ i = .int .i64 (j : Int) ∧ Hid (TwosSoFar enH enA 69 w (takeE j xs) v wr) ∧ Hid (Whole wr w.heap.size 52 (rdrCells (xs.drop (12 * j)) (a + (12 * j : Nat)) 0)) ∧ Hid (Whole wr (w.heap.size + 1) 52 (rdrCells [] 0 0))) (fun _ i _ => N - (intOf i).toNat)
      case atStart => exact ⟨0, Nat.zero_le _, rfl, HB0, by simpa using HW1, HW2⟩
      case round =>
        obtain ⟨j, hj, rfl, HS, HA, HZ⟩ := hrel
        have c0 := HA.out.cell 0 rfl
        have c1 := HA.out.cell 1 rfl
        have c2 := HA.out.cell 2 rfl
        have f0 := HA.out.free 0
        have f1 := HA.out.free 1
        have f2 := HA.out.free 2
        simp only [rdrCells, List.getElem_toArray, List.getElem_cons_zero, List.getElem_cons_succ] at c0 c1 c2
        have hwz : w.heap.size + 1 < wr.heap.size := HZ.out.lt
        by_cases hlt : j < N
        · have hdj : decide ((j : Int) < (N : Int)) = true := decide_eq_true (by omega)
          have hdj2 : decide (j < N) = true := decide_eq_true hlt
          have HT := Lib.hid (takeE_snoc j xs)
          have hylen : (xs.drop (12 * j)).length + 12 * j = L := by rw [List.length_drop, ← HL.out]; omega
          have hyo := HO.out.drop (12 * j)
          have HNx : Hid (xs.drop (12 * (j + 1)) = ((xs.drop (12 * j)).drop 8).drop 4) := Lib.hid (by rw [List.drop_drop, List.drop_drop, show 12 * j + 8 + 4 = 12 * (j + 1) by omega])
          have hpos : a + ((12 * (j + 1) : Nat) : Int) = a + ((12 * j : Nat) : Int) + 8 + 4 := by omega
          obtain ⟨ys, hys⟩ : ∃ ys, ys = xs.drop (12 * j) := ⟨_, rfl⟩
          rw [← hys] at c0 HT hylen hyo HNx HA
          obtain ⟨b, hb⟩ : ∃ b, b = a + ((12 * j : Nat) : Int) := ⟨_, rfl⟩
          rw [← hb] at c1 hpos HA
          have HG8 := Lib.hid (fun w => HG.out ys b 8 8 rfl (by decide) (by omega) (by decide) (by omega) (by omega) hyo w)
          have HG4 := Lib.hid (fun w => HG.out (ys.drop 8) (b + 8) 4 4 rfl (by decide) (by rw [List.length_drop]; omega) (by decide) (by rw [List.length_drop]; omega) (by omega) (hyo.drop 8) w)
          have hb8 := le_bound (ys.take 8) (hyo.take 8)
          have hb4 := le_bound ((ys.drop 8).take 4) ((hyo.drop 8).take 4)
          rw [show (ys.take 8).length = 8 by rw [List.length_take]; omega] at hb8
          rw [show ((ys.drop 8).take 4).length = 4 by rw [List.length_take, List.length_drop]; omega] at hb4
          obtain ⟨h, hh⟩ : ∃ h : Nat, le (ys.take 8) = (h : Int) := ⟨(le (ys.take 8)).toNat, by omega⟩
          obtain ⟨u, hu⟩ : ∃ u : Nat, le ((ys.drop 8).take 4) = (u : Int) := ⟨(le ((ys.drop 8).take 4)).toNat, by omega⟩
          rw [hh, hu, Int.toNat_natCast, Int.toNat_natCast] at HT
          rw [hh] at HG8
          rw [hu] at HG4 hb4
          have wu : IntKind.u32.wrap (u : Int) = (u : Int) := by rw [IntKind.wrap_u32]; omega
          have hlenj := takeE_length j xs
          obtain ⟨y8, hy8⟩ : ∃ y8, y8 = ys.drop 8 := ⟨_, rfl⟩
          rw [← hy8] at HG8 HG4 HNx
          obtain ⟨y4, hy4⟩ : ∃ y4, y4 = y8.drop 4 := ⟨_, rfl⟩
          rw [← hy4] at HG4 HNx
          have HPos := Lib.hid hpos
          obtain ⟨R, hR⟩ : ∃ R, R = takeE j xs := ⟨_, rfl⟩
          rw [← hR] at HS HT hlenj
          have HLj := Lib.hid (show R.length ≤ 1000000 by omega)
          obtain ⟨R2, hR2⟩ : ∃ R2, R2 = takeE (j + 1) xs := ⟨_, rfl⟩
          rw [← hR2] at HT
          have HR2 := Lib.hid hR2
          clear hylen hyo hys hb hb8 hb4 hh hu hlenj hpos hy8 hy4 hR hR2
          go_wp2_with fail
          refine (HG8.out _).mono ?_
          rintro e w1 ⟨rfl, hk⟩
          have HS1 := Lib.hid (HS.out.keep hk)
          have HA1 := Lib.hid (HA.out.keep hk (fun h => h))
          have HZ1 := Lib.hid (HZ.out.keep hk (fun h => h))
          clear hk c0 c1 c2 f0 f1 f2
          have HX := Lib.hid (Whole.new w1 52 (rdrCells y8 (b + 8) 0))
          have HS2 := Lib.hid (HS1.out.alloc (.cells (rdrCells y8 (b + 8) 0) 52))
          have HA2 := Lib.hid (HA1.out.alloc (.cells (rdrCells y8 (b + 8) 0) 52))
          have HZ2 := Lib.hid (HZ1.out.alloc (.cells (rdrCells y8 (b + 8) 0) 52))
          go_wp2_with fail
          refine (HG4.out _).mono ?_
          rintro e w2 ⟨rfl, hk⟩
          have HS3 := Lib.hid (HS2.out.keep hk)
          have HX3 := Lib.hid (HX.out.keep hk (fun h => h))
          have HA3 := Lib.hid (HA2.out.keep hk (fun h => h))
          have HZ3 := Lib.hid (HZ2.out.keep hk (fun h => h))
          have HSz : Hid (w.heap.size + 1 < w1.heap.size) := Lib.hid HZ1.out.lt
          clear hk
          have x0 := HX3.out.cell 0 rfl
          have x1 := HX3.out.cell 1 rfl
          have x2 := HX3.out.cell 2 rfl
          have xf0 := HX3.out.free 0
          have xf1 := HX3.out.free 1
          have xf2 := HX3.out.free 2
          simp only [rdrCells, List.getElem_toArray, List.getElem_cons_zero, List.getElem_cons_succ] at x0 x1 x2
          have d0 := HA3.out.cell 0 rfl
          have d1 := HA3.out.cell 1 rfl
          have d2 := HA3.out.cell 2 rfl
          have df0 := HA3.out.free 0
          have df1 := HA3.out.free 1
          have df2 := HA3.out.free 2
          simp only [rdrCells, List.getElem_toArray, List.getElem_cons_zero, List.getElem_cons_succ] at d0 d1 d2
          have hne : ¬ w.heap.size = w1.heap.size := by have := HSz.out; omega
          have hne2 : ¬ w1.heap.size = w.heap.size := by have := HSz.out; omega
          have hsx : (((((((w2.setCell ⟨w1.heap.size, 0, none⟩ (.string (strOfNums y4))).setCell ⟨w1.heap.size, 1, none⟩ (.int .i64 (b + 8 + 4))).setCell ⟨w1.heap.size, 2, none⟩ (.int .i64 0)).setCell ⟨w.heap.size, 0, none⟩ (.string (strOfNums y4))).setCell ⟨w.heap.size, 1, none⟩ (.int .i64 (b + 8 + 4))).setCell ⟨w.heap.size, 2, none⟩ (.int .i64 0))).heap.size = w2.heap.size := by simp
          have HA4 := Lib.hid ((((((HA3.out.setOther (p := ⟨w1.heap.size, 0, none⟩) hne (.string (strOfNums y4))).setOther (p := ⟨w1.heap.size, 1, none⟩) hne (.int .i64 (b + 8 + 4))).setOther (p := ⟨w1.heap.size, 2, none⟩) hne (.int .i64 0)).set 0 (.string (strOfNums y4))).set 1 (.int .i64 (b + 8 + 4))).set 2 (.int .i64 0))
          have hzx : ¬ w.heap.size + 1 = w1.heap.size := by have := HSz.out; omega
          have HZ4 := Lib.hid ((((((HZ3.out.setOther (p := ⟨w1.heap.size, 0, none⟩) hzx (.string (strOfNums y4))).setOther (p := ⟨w1.heap.size, 1, none⟩) hzx (.int .i64 (b + 8 + 4))).setOther (p := ⟨w1.heap.size, 2, none⟩) hzx (.int .i64 0)).setOther (p := ⟨w.heap.size, 0, none⟩) (by simp) (.string (strOfNums y4))).setOther (p := ⟨w.heap.size, 1, none⟩) (by simp) (.int .i64 (b + 8 + 4))).setOther (p := ⟨w.heap.size, 2, none⟩) (by simp) (.int .i64 0))
          have HS4 := Lib.hid ((HS3.out.set3 (own_apart (by decide) HS3.out.1 HX3.out) (by have := HSz.out; omega) (.string (strOfNums y4)) (.int .i64 (b + 8 + 4)) (.int .i64 0)).set3 (own_apart (by decide) HS3.out.1 HA3.out) (Nat.le_refl _) (.string (strOfNums y4)) (.int .i64 (b + 8 + 4)) (.int .i64 0))
          have HA5 := Lib.hid (HA4.out.alloc (.cells #[.int .u64 (h : Int), .int .u32 (u : Int)] 69))
          have HZ5 := Lib.hid (HZ4.out.alloc (.cells #[.int .u64 (h : Int), .int .u32 (u : Int)] 69))
          have HS5 := Lib.hid (HS4.out.alloc (.cells #[.int .u64 (h : Int), .int .u32 (u : Int)] 69))
          have HW5 := Lib.hid (Whole.newAt (((((((w2.setCell ⟨w1.heap.size, 0, none⟩ (.string (strOfNums y4))).setCell ⟨w1.heap.size, 1, none⟩ (.int .i64 (b + 8 + 4))).setCell ⟨w1.heap.size, 2, none⟩ (.int .i64 0)).setCell ⟨w.heap.size, 0, none⟩ (.string (strOfNums y4))).setCell ⟨w.heap.size, 1, none⟩ (.int .i64 (b + 8 + 4))).setCell ⟨w.heap.size, 2, none⟩ (.int .i64 0))) 69 #[.int .u64 (h : Int), .int .u32 (u : Int)] w2.heap.size hsx.symm)
          have hoA := own_apart (t := 52) (by decide) HS5.out.1 HA5.out
          have hoZ := own_apart (t := 52) (by decide) HS5.out.1 HZ5.out
          have HoA := Lib.hid hoA
          have HoZ := Lib.hid hoZ
          clear hoA hoZ hsx
          go_wp2_with (at_builtin; refine wpList_append_twoG rfl _ _ 33 rfl 69 i0 (.agg #[.int .u64 0, .int .u32 0]) 16 Try.underlying33 hi hz0 hz1 hz2 rfl _ _ rfl HS5.out w2.heap.size (⟨h, u⟩ : En) rfl (HW5.out.cell 0 rfl) (HW5.out.cell 1 rfl) rfl rfl (by have := HLj.out; omega) (by have := HLj.out; omega) ?_)
          intro v9 w9 h9 g9
          have HA9 := HA5.out.grown g9 HoA.out
          have HZ9 := HZ5.out.grown g9 HoZ.out
          rw [← HT.out] at h9
          have HS9 := Lib.hid h9
          have HA9 : Hid (Whole w9 w.heap.size 52 (rdrCells y4 (b + 8 + 4) 0)) := Lib.hid HA9
          have HZ9 := Lib.hid HZ9
          rw [← HPos.out, ← HNx.out] at HA9
          rw [HR2.out] at HS9
          clear h9 g9
          go_wp2_with fail
          exact ⟨⟨j + 1, by omega, by go_num, HS9, HA9, HZ9⟩, by simp [intOf]; omega⟩
        · have hdj : decide ((j : Int) < (N : Int)) = false := decide_eq_false (by omega)
          obtain rfl : j = N := by omega
          obtain ⟨q, m, d, rfl, hm, hmd, hd9, hq9, hat, hkp⟩ := TwosSoFar.new (dd := En.none) HS.out
          rw [takeE_length] at hm
          subst hm
          have HKp := Lib.hid hkp
          have hlen := takeE_length m xs
          have hRi := fun w hat => HRi.out q m d (takeE m xs) hlen.symm (by omega) w hat
          have HAt := Lib.hid hat
          obtain ⟨R, hR⟩ : ∃ R, R = takeE m xs := ⟨_, rfl⟩
          rw [← hR] at hRi HAt hlen HTt HS
          have HRi2 := Lib.hid hRi
          have HNw := Lib.hid (fun (W : World) (hk : Keeps NoBlock w W) (ha : EnsAt W q R) => (show NewEns w R (.slice q m d) W from ⟨q, m, d, rfl, hlen.symm, hmd, hd9, hq9, ha, hk⟩))
          clear hRi hat hkp hR hlen
          by_cases hri : risesE R = true
          · rw [if_pos hri] at HTt
            rw [hri] at HRi2
            clear hri
            go_wp2_with fail
            refine (HRi2.out _ HAt.out).mono ?_
            rintro e w1 ⟨rfl, hk⟩
            have HN1 := Lib.hid (HNw.out w1 (HKp.out.trans hk) (EnsAt.keep HAt.out hk))
            have HK1 := Lib.hid (HKp.out.trans hk)
            have hA1 := HA.out.keep hk (fun h => h)
            have hZ1 := HZ.out.keep hk (fun h => h)
            have HS1 := Lib.hid (HS.out.keep hk)
            have HoZ := Lib.hid (own_apart (t := 52) (by decide) HS1.out.1 hZ1)
            clear c0 c1 c2 f0 f1 f2
            have c0 := hA1.cell 0 rfl
            have c1 := hA1.cell 1 rfl
            have c2 := hA1.cell 2 rfl
            simp only [rdrCells, List.getElem_toArray, List.getElem_cons_zero, List.getElem_cons_succ] at c0 c1 c2
            have z0 := hZ1.cell 0 rfl
            have z1 := hZ1.cell 1 rfl
            have z2 := hZ1.cell 2 rfl
            simp only [rdrCells, List.getElem_toArray, List.getElem_cons_zero, List.getElem_cons_succ] at z0 z1 z2
            have zf0 := hZ1.free 0
            have zf1 := hZ1.free 1
            have zf2 := hZ1.free 2
            have HZ1 := Lib.hid hZ1
            clear hk hA1 hZ1
            go_wp2_with fail
            rw [HTt.out]
            refine bodyPost_ret (v := .tuple #[.agg #[.string (strOfNums (xs.drop (12 * m))), .int .i64 (a + (12 * m : Nat)), .int .i64 0], .slice q m d]) (by simp [results, Try.results24, go_sem, z0, z1, z2]) rfl ⟨_, rfl, ?_⟩
            exact (HS1.out.set3 HoZ.out (by omega) _ _ _).new
          · rw [if_neg hri] at HTt
            rw [Bool.eq_false_iff.2 hri] at HRi2
            clear hri
            go_wp2_with fail
            refine (HRi2.out _ HAt.out).mono ?_
            rintro e w1 ⟨rfl, hk⟩
            have HN1 := Lib.hid (HNw.out w1 (HKp.out.trans hk) (EnsAt.keep HAt.out hk))
            have HK1 := Lib.hid (HKp.out.trans hk)
            have hA1 := HA.out.keep hk (fun h => h)
            have hZ1 := HZ.out.keep hk (fun h => h)
            have HS1 := Lib.hid (HS.out.keep hk)
            have HoZ := Lib.hid (own_apart (t := 52) (by decide) HS1.out.1 hZ1)
            clear c0 c1 c2 f0 f1 f2
            have c0 := hA1.cell 0 rfl
            have c1 := hA1.cell 1 rfl
            have c2 := hA1.cell 2 rfl
            simp only [rdrCells, List.getElem_toArray, List.getElem_cons_zero, List.getElem_cons_succ] at c0 c1 c2
            have z0 := hZ1.cell 0 rfl
            have z1 := hZ1.cell 1 rfl
            have z2 := hZ1.cell 2 rfl
            simp only [rdrCells, List.getElem_toArray, List.getElem_cons_zero, List.getElem_cons_succ] at z0 z1 z2
            have zf0 := hZ1.free 0
            have zf1 := hZ1.free 1
            have zf2 := hZ1.free 2
            have HZ1 := Lib.hid hZ1
            clear hk hA1 hZ1
            have HF8 := Lib.hid (fun w => HF.out (xs.drop (12 * m)) (a + (12 * m : Nat)) 8 w)
            go_wp2_with fail
            refine (HF8.out _).mono ?_
            rintro e w2 ⟨rfl, hk⟩
            have HK2 := Lib.hid (HK1.out.trans hk)
            have hZ2 := HZ1.out.keep hk (fun h => h)
            clear z0 z1 z2 zf0 zf1 zf2
            have z0 := hZ2.cell 0 rfl
            have z1 := hZ2.cell 1 rfl
            have z2 := hZ2.cell 2 rfl
            simp only [rdrCells, List.getElem_toArray, List.getElem_cons_zero, List.getElem_cons_succ] at z0 z1 z2
            have zf0 := hZ2.free 0
            have zf1 := hZ2.free 1
            have zf2 := hZ2.free 2
            clear hk hZ2
            go_wp2_with fail
            rw [HTt.out]
            exact bodyPost_ret (v := .tuple #[.agg #[.string (strOfNums (xs.drop (12 * m))), .int .i64 (a + (12 * m : Nat)), .int .i64 8], .slice none 0 0]) (by simp [results, Try.results24, go_sem, z0, z1, z2]) rfl ⟨_, rfl, NewTwos.ofNil _ _ (((HK2.out.setNew (by omega) 0 _).setNew (by omega) 1 _).setNew (by omega) 2 _)⟩
end Go.Proofs.Ytbchiccgkhnkaaa

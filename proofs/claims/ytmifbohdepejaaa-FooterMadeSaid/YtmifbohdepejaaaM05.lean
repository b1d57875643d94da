/-
  TabGet; BufO; NewBytes; TabLaws; CurD; CurE.
-/
import Derived.RegionTactic
import Derived.BigRegion
import Derived.ChangeAlike
import Derived.LaidEqlPtr
import Derived.Lib.Builder
import Derived.Test.YtmifbohdepejaaaM01
import Derived.Test.YtmifbohdepejaaaM02
import Derived.Test.YtmifbohdepejaaaM04
namespace Go.Proofs.Ytmifbohdepejaaa
open Go.RowKit

theorem own_apart {w : World} {base size n g : Nat} {e t : TypeId} {v : Value} {xs : List Value} {cs : Array Value} (hte : t ≠ e) (h : w.ownsRow base e size v n xs) (hg : Whole w g t cs) : v.ownBlock ≠ some g := by
  intro hb
  rcases h.2 with ⟨rfl, _⟩ | ⟨k, cap, cur, rfl, _, hk, _⟩
  · simp [Value.ownBlock] at hb
  · obtain rfl : k = g := by simpa [Value.ownBlock] using hb
    have e := hk.symm.trans (show w.heap[k]? = _ from hg)
    simp at e
    exact hte e.2.symm
theorem TwosSoFar.setOther {α : Type} {v0 v1 : α → Value} {t : TypeId} {w0 wr : World} {l : List α} {v : Value} (h : TwosSoFar v0 v1 t w0 l v wr) {p : Addr} (hp : v.ownBlock ≠ some p.block) (hb : w0.heap.size ≤ p.block) (x : Value) : TwosSoFar v0 v1 t w0 l v (wr.setCell p x) :=
  ⟨ownsRow_setCell_other h.1 hp _, h.2.setCell hb _⟩

theorem TwosSoFar.set3 {α : Type} {v0 v1 : α → Value} {t : TypeId} {w0 wr : World} {l : List α} {v : Value} (h : TwosSoFar v0 v1 t w0 l v wr) {g : Nat} (hp : v.ownBlock ≠ some g) (hb : w0.heap.size ≤ g) (x y z : Value) : TwosSoFar v0 v1 t w0 l v (((wr.setCell ⟨g, 0, none⟩ x).setCell ⟨g, 1, none⟩ y).setCell ⟨g, 2, none⟩ z) :=
  ((h.setOther hp hb x).setOther hp hb y).setOther hp hb z

def rdrCells (xs : List Int) (a y : Int) : Array Value := #[.string (strOfNums xs), .int .i64 a, .int .i64 y]

theorem takeE_snoc : ∀ (j : Nat) (xs : List Int), takeE (j + 1) xs = takeE j xs ++ [⟨(le ((xs.drop (12 * j)).take 8)).toNat, (le (((xs.drop (12 * j)).drop 8).take 4)).toNat⟩]
  | 0, xs => by simp [takeE]
  | j + 1, xs => by
    rw [takeE, takeE_snoc j (xs.drop 12)]
    conv => rhs; rw [takeE]
    rw [List.drop_drop, show 12 + 12 * j = 12 * (j + 1) by omega]
    rfl

/-- What Get answers: the place, the error's number, the entries. -/
structure GE where
  m : Nat
  y : Int
  l : List En
def getE (n : Int) (xs : List Int) : GE :=
  if n ≤ 0 then ⟨0, 0, []⟩ else if xs.length / 12 < n.toNat then ⟨0, 2, []⟩ else if risesE (takeE n.toNat xs) = true then ⟨12 * n.toNat, 0, takeE n.toNat xs⟩ else ⟨12 * n.toNat, 8, []⟩
def GotE (w : World) (xs : List Int) (a : Int) (t : GE) (e : Ending) (w' : World) : Prop := ∃ v, e = .returned (.tuple #[rdr (xs.drop t.m) (a + t.m) t.y, v]) ∧ NewEns w t.l v w'

set_option maxHeartbeats 8000000 in
set_option maxRecDepth 10000 in
theorem getents_ref (n : Int) (xs : List Int) (ho : Octets xs) (hl : xs.length ≤ 1000000) (a : Int) (ha : 0 ≤ a ∧ a ≤ 1000000000) (w : World) :
    Calls Try.prog 45 #[rdr xs a 0, .int .i64 n] w (GotE w xs a (getE n xs)) := by
  have HF := Lib.hid (fun xs a y w => fail_ref xs a y w)
  have HR0 : Hid (Whole (w.alloc (.cells (rdrCells xs a 0) 84)) w.heap.size 84 (rdrCells xs a 0)) := Lib.hid (Whole.new _ _ _)
  have hsz := str_size xs
  unfold getE
  by_cases hn0 : n ≤ 0
  · rw [if_pos hn0]
    have hd : decide (n ≤ 0) = true := decide_eq_true hn0
    unfold GotE
    simp only [List.drop_zero, Int.natCast_zero, Int.add_zero]
    unfold rdr
    clear HF ho hl ha
    go_enter Try.func45, Try.ntmps45
    go_wp2_with fail
    exact bodyPost_ret (v := .tuple #[.agg #[.string (strOfNums xs), .int .i64 a, .int .i64 0], .slice none 0 0]) (by simp [results, Try.results45, go_sem]) rfl ⟨_, rfl, NewTwos.ofNil _ _ (((Keeps.refl _ _).alloc _).alloc _)⟩
  · rw [if_neg hn0]
    obtain ⟨N, rfl⟩ : ∃ N : Nat, n = (N : Int) := ⟨n.toNat, by omega⟩
    rw [Int.toNat_natCast]
    have hd : decide ((N : Int) ≤ 0) = false := decide_eq_false hn0
    have hd2 : decide (N ≤ 0) = false := decide_eq_false (by omega)
    have hN0 : ¬ N = 0 := by omega
    obtain ⟨L, hL⟩ : ∃ L, L = xs.length := ⟨_, rfl⟩
    rw [← hL] at hsz hl ⊢
    have hq : ((L : Int)).tdiv 12 = ((L / 12 : Nat) : Int) := by rw [Int.tdiv_eq_ediv_of_nonneg (by omega)]; omega
    obtain ⟨K, hK⟩ : ∃ K, K = L / 12 := ⟨_, rfl⟩
    rw [← hK] at hq ⊢
    have hq2 : (L : Int) / 12 = (K : Int) := by omega
    have hK9 : K ≤ 1000000 := by omega
    by_cases hs : K < N
    · rw [if_pos hs]
      have hd3 : decide ((K : Int) < (N : Int)) = true := decide_eq_true (by omega)
      have hd4 : decide (K < N) = true := decide_eq_true hs
      unfold GotE
      simp only [List.drop_zero, Int.natCast_zero, Int.add_zero]
      have HF1 := Lib.hid (fun w => HF.out xs a 2 w)
      unfold rdr at HF1 ⊢
      clear HF ho hl ha hK hL
      go_enter Try.func45, Try.ntmps45
      go_wp2_with fail
      refine (HF1.out _).mono ?_
      rintro e w1 ⟨rfl, hk⟩
      have HK := Lib.hid ((((Keeps.refl NoBlock w).alloc (.cells #[.string (strOfNums xs), .int .i64 a, .int .i64 0] 84)).alloc (.cells #[.string ⟨#[]⟩, .int .i64 0, .int .i64 0] 84)).trans hk)
      have hN := (Whole.newAt (w.alloc (.cells #[.string (strOfNums xs), .int .i64 a, .int .i64 0] 84)) 84 #[.string ⟨#[]⟩, .int .i64 0, .int .i64 0] (w.heap.size + 1) (by simp)).keep hk (fun h => h)
      have c0 := hN.cell 0 rfl
      have c1 := hN.cell 1 rfl
      have c2 := hN.cell 2 rfl
      have f0 := hN.free 0
      have f1 := hN.free 1
      have f2 := hN.free 2
      simp only [List.getElem_toArray, List.getElem_cons_zero, List.getElem_cons_succ] at c0 c1 c2
      clear hk hN
      go_wp2_with fail
      exact bodyPost_ret (v := .tuple #[.agg #[.string (strOfNums xs), .int .i64 a, .int .i64 2], .slice none 0 0]) (by simp [results, Try.results45, go_sem, c0, c1, c2]) rfl ⟨_, rfl, NewTwos.ofNil _ _ (((HK.out.setNew (by omega) 0 _).setNew (by omega) 1 _).setNew (by omega) 2 _)⟩
    · rw [if_neg hs]
      have hd3 : decide ((K : Int) < (N : Int)) = false := decide_eq_false (by omega)
      have hd4 : decide (K < N) = false := decide_eq_false hs
      have hroom : 12 * N ≤ L := by omega
      obtain ⟨t, ht⟩ : ∃ t, t = if risesE (takeE N xs) = true then (⟨12 * N, 0, takeE N xs⟩ : GE) else ⟨12 * N, 8, []⟩ := ⟨_, rfl⟩
      rw [← ht]
      have HTt := Lib.hid ht
      clear ht
      obtain ⟨i0, hi, hz0, hz1, hz2⟩ := info_parts infoEnR
      have HG := Lib.hid (fun (ys : List Int) (b : Int) (z : Int) (k : Nat) (hz : z = k) (h0 : 0 < k) (h1 : k ≤ ys.length) (h8 : k ≤ 8) (hl : ys.length ≤ 1000000) (hb : 0 ≤ b ∧ b ≤ 2000000000) (hoy : Octets ys) w => get1_ref ys b z k hz h0 h1 h8 (by omega) (by omega) hoy w)
      have HO := Lib.hid ho
      have HL := Lib.hid hL
      have HRi := Lib.hid (fun p n c l hn hn9 w hl => rising11_ref p n c l hn hn9 w hl)
      unfold rdr at HG HF ⊢
      unfold GotE
      unfold rdr
      have HW1 : Hid (Whole ((w.alloc (.cells #[.string (strOfNums xs), .int .i64 a, .int .i64 0] 84)).alloc (.cells #[.string ⟨#[]⟩, .int .i64 0, .int .i64 0] 84)) w.heap.size 84 (rdrCells xs a 0)) := Lib.hid ((Whole.new w _ _).alloc _)
      have HW2 : Hid (Whole ((w.alloc (.cells #[.string (strOfNums xs), .int .i64 a, .int .i64 0] 84)).alloc (.cells #[.string ⟨#[]⟩, .int .i64 0, .int .i64 0] 84)) (w.heap.size + 1) 84 (rdrCells [] 0 0)) := Lib.hid (Whole.newAt _ _ _ _ (by simp))
      have HB0 : Hid (TwosSoFar enH enA 68 w [] (.slice none 0 0) ((w.alloc (.cells #[.string (strOfNums xs), .int .i64 a, .int .i64 0] 84)).alloc (.cells #[.string ⟨#[]⟩, .int .i64 0, .int .i64 0] 84))) := Lib.hid (((TwosSoFar.start w).alloc _).alloc _)
      clear ho hL hK HR0
      go_enter Try.func45, Try.ntmps45
      go_wp2_with fail
      go_loopw [6, 27] (fun v i wr => ∃ j : Nat, j ≤ N ∧ i = .int .i64 (j : Int) ∧ Hid (TwosSoFar enH enA 68 w (takeE j xs) v wr) ∧ Hid (Whole wr w.heap.size 84 (rdrCells (xs.drop (12 * j)) (a + (12 * j : Nat)) 0)) ∧ Hid (Whole wr (w.heap.size + 1) 84 (rdrCells [] 0 0))) (fun _ i _ => N - (intOf i).toNat)
      case atStart => exact ⟨0, Nat.zero_le _, rfl, HB0, by simpa using HW1, HW2⟩
      case round =>
        obtain ⟨j, hj, rfl, HS, HA, HZ⟩ := hrel
        have c0 := HA.out.cell 0 rfl
        have c1 := HA.out.cell 1 rfl
        have c2 := HA.out.cell 2 rfl
        have f0 := HA.out.free 0
        have f1 := HA.out.free 1
        have f2 := HA.out.free 2
        simp only [rdrCells, List.getElem_toArray, List.getElem_cons_zero, List.getElem_cons_succ] at c0 c1 c2
        have hwz : w.heap.size + 1 < wr.heap.size := HZ.out.lt
        by_cases hlt : j < N
        · have hdj : decide ((j : Int) < (N : Int)) = true := decide_eq_true (by omega)
          have hdj2 : decide (j < N) = true := decide_eq_true hlt
          have HT := Lib.hid (takeE_snoc j xs)
          have hylen : (xs.drop (12 * j)).length + 12 * j = L := by rw [List.length_drop, ← HL.out]; omega
          have hyo := HO.out.drop (12 * j)
          have HNx : Hid (xs.drop (12 * (j + 1)) = ((xs.drop (12 * j)).drop 8).drop 4) := Lib.hid (by rw [List.drop_drop, List.drop_drop, show 12 * j + 8 + 4 = 12 * (j + 1) by omega])
          have hpos : a + ((12 * (j + 1) : Nat) : Int) = a + ((12 * j : Nat) : Int) + 8 + 4 := by omega
          obtain ⟨ys, hys⟩ : ∃ ys, ys = xs.drop (12 * j) := ⟨_, rfl⟩
          rw [← hys] at c0 HT hylen hyo HNx HA
          obtain ⟨b, hb⟩ : ∃ b, b = a + ((12 * j : Nat) : Int) := ⟨_, rfl⟩
          rw [← hb] at c1 hpos HA
          have HG8 := Lib.hid (fun w => HG.out ys b 8 8 rfl (by decide) (by omega) (by decide) (by omega) (by omega) hyo w)
          have HG4 := Lib.hid (fun w => HG.out (ys.drop 8) (b + 8) 4 4 rfl (by decide) (by rw [List.length_drop]; omega) (by decide) (by rw [List.length_drop]; omega) (by omega) (hyo.drop 8) w)
          have hb8 := le_bound (ys.take 8) (hyo.take 8)
          have hb4 := le_bound ((ys.drop 8).take 4) ((hyo.drop 8).take 4)
          rw [show (ys.take 8).length = 8 by rw [List.length_take]; omega] at hb8
          rw [show ((ys.drop 8).take 4).length = 4 by rw [List.length_take, List.length_drop]; omega] at hb4
          obtain ⟨h, hh⟩ : ∃ h : Nat, le (ys.take 8) = (h : Int) := ⟨(le (ys.take 8)).toNat, by omega⟩
          obtain ⟨u, hu⟩ : ∃ u : Nat, le ((ys.drop 8).take 4) = (u : Int) := ⟨(le ((ys.drop 8).take 4)).toNat, by omega⟩
          rw [hh, hu, Int.toNat_natCast, Int.toNat_natCast] at HT
          rw [hh] at HG8
          rw [hu] at HG4 hb4
          have wu : IntKind.u32.wrap (u : Int) = (u : Int) := by rw [IntKind.wrap_u32]; omega
          have hlenj := takeE_length j xs
          obtain ⟨y8, hy8⟩ : ∃ y8, y8 = ys.drop 8 := ⟨_, rfl⟩
          rw [← hy8] at HG8 HG4 HNx
          obtain ⟨y4, hy4⟩ : ∃ y4, y4 = y8.drop 4 := ⟨_, rfl⟩
          rw [← hy4] at HG4 HNx
          have HPos := Lib.hid hpos
          obtain ⟨R, hR⟩ : ∃ R, R = takeE j xs := ⟨_, rfl⟩
          rw [← hR] at HS HT hlenj
          have HLj := Lib.hid (show R.length ≤ 1000000 by omega)
          obtain ⟨R2, hR2⟩ : ∃ R2, R2 = takeE (j + 1) xs := ⟨_, rfl⟩
          rw [← hR2] at HT
          have HR2 := Lib.hid hR2
          clear hylen hyo hys hb hb8 hb4 hh hu hlenj hpos hy8 hy4 hR hR2
          go_wp2_with fail
          refine (HG8.out _).mono ?_
          rintro e w1 ⟨rfl, hk⟩
          have HS1 := Lib.hid (HS.out.keep hk)
          have HA1 := Lib.hid (HA.out.keep hk (fun h => h))
          have HZ1 := Lib.hid (HZ.out.keep hk (fun h => h))
          clear hk c0 c1 c2 f0 f1 f2
          have HX := Lib.hid (Whole.new w1 84 (rdrCells y8 (b + 8) 0))
          have HS2 := Lib.hid (HS1.out.alloc (.cells (rdrCells y8 (b + 8) 0) 84))
          have HA2 := Lib.hid (HA1.out.alloc (.cells (rdrCells y8 (b + 8) 0) 84))
          have HZ2 := Lib.hid (HZ1.out.alloc (.cells (rdrCells y8 (b + 8) 0) 84))
          go_wp2_with fail
          refine (HG4.out _).mono ?_
          rintro e w2 ⟨rfl, hk⟩
          have HS3 := Lib.hid (HS2.out.keep hk)
          have HX3 := Lib.hid (HX.out.keep hk (fun h => h))
          have HA3 := Lib.hid (HA2.out.keep hk (fun h => h))
          have HZ3 := Lib.hid (HZ2.out.keep hk (fun h => h))
          have HSz : Hid (w.heap.size + 1 < w1.heap.size) := Lib.hid HZ1.out.lt
          clear hk
          have x0 := HX3.out.cell 0 rfl
          have x1 := HX3.out.cell 1 rfl
          have x2 := HX3.out.cell 2 rfl
          have xf0 := HX3.out.free 0
          have xf1 := HX3.out.free 1
          have xf2 := HX3.out.free 2
          simp only [rdrCells, List.getElem_toArray, List.getElem_cons_zero, List.getElem_cons_succ] at x0 x1 x2
          have d0 := HA3.out.cell 0 rfl
          have d1 := HA3.out.cell 1 rfl
          have d2 := HA3.out.cell 2 rfl
          have df0 := HA3.out.free 0
          have df1 := HA3.out.free 1
          have df2 := HA3.out.free 2
          simp only [rdrCells, List.getElem_toArray, List.getElem_cons_zero, List.getElem_cons_succ] at d0 d1 d2
          have hne : ¬ w.heap.size = w1.heap.size := by have := HSz.out; omega
          have hne2 : ¬ w1.heap.size = w.heap.size := by have := HSz.out; omega
          have hsx : (((((((w2.setCell ⟨w1.heap.size, 0, none⟩ (.string (strOfNums y4))).setCell ⟨w1.heap.size, 1, none⟩ (.int .i64 (b + 8 + 4))).setCell ⟨w1.heap.size, 2, none⟩ (.int .i64 0)).setCell ⟨w.heap.size, 0, none⟩ (.string (strOfNums y4))).setCell ⟨w.heap.size, 1, none⟩ (.int .i64 (b + 8 + 4))).setCell ⟨w.heap.size, 2, none⟩ (.int .i64 0))).heap.size = w2.heap.size := by simp
          have HA4 := Lib.hid ((((((HA3.out.setOther (p := ⟨w1.heap.size, 0, none⟩) hne (.string (strOfNums y4))).setOther (p := ⟨w1.heap.size, 1, none⟩) hne (.int .i64 (b + 8 + 4))).setOther (p := ⟨w1.heap.size, 2, none⟩) hne (.int .i64 0)).set 0 (.string (strOfNums y4))).set 1 (.int .i64 (b + 8 + 4))).set 2 (.int .i64 0))
          have hzx : ¬ w.heap.size + 1 = w1.heap.size := by have := HSz.out; omega
          have HZ4 := Lib.hid ((((((HZ3.out.setOther (p := ⟨w1.heap.size, 0, none⟩) hzx (.string (strOfNums y4))).setOther (p := ⟨w1.heap.size, 1, none⟩) hzx (.int .i64 (b + 8 + 4))).setOther (p := ⟨w1.heap.size, 2, none⟩) hzx (.int .i64 0)).setOther (p := ⟨w.heap.size, 0, none⟩) (by simp) (.string (strOfNums y4))).setOther (p := ⟨w.heap.size, 1, none⟩) (by simp) (.int .i64 (b + 8 + 4))).setOther (p := ⟨w.heap.size, 2, none⟩) (by simp) (.int .i64 0))
          have HS4 := Lib.hid ((HS3.out.set3 (own_apart (by decide) HS3.out.1 HX3.out) (by have := HSz.out; omega) (.string (strOfNums y4)) (.int .i64 (b + 8 + 4)) (.int .i64 0)).set3 (own_apart (by decide) HS3.out.1 HA3.out) (Nat.le_refl _) (.string (strOfNums y4)) (.int .i64 (b + 8 + 4)) (.int .i64 0))
          have HA5 := Lib.hid (HA4.out.alloc (.cells #[.int .u64 (h : Int), .int .u32 (u : Int)] 68))
          have HZ5 := Lib.hid (HZ4.out.alloc (.cells #[.int .u64 (h : Int), .int .u32 (u : Int)] 68))
          have HS5 := Lib.hid (HS4.out.alloc (.cells #[.int .u64 (h : Int), .int .u32 (u : Int)] 68))
          have HW5 := Lib.hid (Whole.newAt (((((((w2.setCell ⟨w1.heap.size, 0, none⟩ (.string (strOfNums y4))).setCell ⟨w1.heap.size, 1, none⟩ (.int .i64 (b + 8 + 4))).setCell ⟨w1.heap.size, 2, none⟩ (.int .i64 0)).setCell ⟨w.heap.size, 0, none⟩ (.string (strOfNums y4))).setCell ⟨w.heap.size, 1, none⟩ (.int .i64 (b + 8 + 4))).setCell ⟨w.heap.size, 2, none⟩ (.int .i64 0))) 68 #[.int .u64 (h : Int), .int .u32 (u : Int)] w2.heap.size hsx.symm)
          have hoA := own_apart (t := 84) (by decide) HS5.out.1 HA5.out
          have hoZ := own_apart (t := 84) (by decide) HS5.out.1 HZ5.out
          have HoA := Lib.hid hoA
          have HoZ := Lib.hid hoZ
          clear hoA hoZ hsx
          go_wp2_with (at_builtin; refine wpList_append_twoG rfl _ _ 32 rfl 68 i0 (.agg #[.int .u64 0, .int .u32 0]) 16 Try.underlying32 hi hz0 hz1 hz2 rfl _ _ rfl HS5.out w2.heap.size (⟨h, u⟩ : En) rfl (HW5.out.cell 0 rfl) (HW5.out.cell 1 rfl) rfl rfl (by have := HLj.out; omega) (by have := HLj.out; omega) ?_)
          intro v9 w9 h9 g9
          have HA9 := HA5.out.grown g9 HoA.out
          have HZ9 := HZ5.out.grown g9 HoZ.out
          rw [← HT.out] at h9
          have HS9 := Lib.hid h9
          have HA9 : Hid (Whole w9 w.heap.size 84 (rdrCells y4 (b + 8 + 4) 0)) := Lib.hid HA9
          have HZ9 := Lib.hid HZ9
          rw [← HPos.out, ← HNx.out] at HA9
          rw [HR2.out] at HS9
          clear h9 g9
          go_wp2_with fail
          exact ⟨⟨j + 1, by omega, by go_num, HS9, HA9, HZ9⟩, by simp [intOf]; omega⟩
        · have hdj : decide ((j : Int) < (N : Int)) = false := decide_eq_false (by omega)
          obtain rfl : j = N := by omega
          obtain ⟨q, m, d, rfl, hm, hmd, hd9, hq9, hat, hkp⟩ := TwosSoFar.new (dd := En.none) HS.out
          rw [takeE_length] at hm
          subst hm
          have HKp := Lib.hid hkp
          have hlen := takeE_length m xs
          have hRi := fun w hat => HRi.out q m d (takeE m xs) hlen.symm (by omega) w hat
          have HAt := Lib.hid hat
          obtain ⟨R, hR⟩ : ∃ R, R = takeE m xs := ⟨_, rfl⟩
          rw [← hR] at hRi HAt hlen HTt HS
          have HRi2 := Lib.hid hRi
          have HNw := Lib.hid (fun (W : World) (hk : Keeps NoBlock w W) (ha : EnsAt W q R) => (show NewEns w R (.slice q m d) W from ⟨q, m, d, rfl, hlen.symm, hmd, hd9, hq9, ha, hk⟩))
          clear hRi hat hkp hR hlen
          by_cases hri : risesE R = true
          · rw [if_pos hri] at HTt
            rw [hri] at HRi2
            clear hri
            go_wp2_with fail
            refine (HRi2.out _ HAt.out).mono ?_
            rintro e w1 ⟨rfl, hk⟩
            have HN1 := Lib.hid (HNw.out w1 (HKp.out.trans hk) (EnsAt.keep HAt.out hk))
            have HK1 := Lib.hid (HKp.out.trans hk)
            have hA1 := HA.out.keep hk (fun h => h)
            have hZ1 := HZ.out.keep hk (fun h => h)
            have HS1 := Lib.hid (HS.out.keep hk)
            have HoZ := Lib.hid (own_apart (t := 84) (by decide) HS1.out.1 hZ1)
            clear c0 c1 c2 f0 f1 f2
            have c0 := hA1.cell 0 rfl
            have c1 := hA1.cell 1 rfl
            have c2 := hA1.cell 2 rfl
            simp only [rdrCells, List.getElem_toArray, List.getElem_cons_zero, List.getElem_cons_succ] at c0 c1 c2
            have z0 := hZ1.cell 0 rfl
            have z1 := hZ1.cell 1 rfl
            have z2 := hZ1.cell 2 rfl
            simp only [rdrCells, List.getElem_toArray, List.getElem_cons_zero, List.getElem_cons_succ] at z0 z1 z2
            have zf0 := hZ1.free 0
            have zf1 := hZ1.free 1
            have zf2 := hZ1.free 2
            have HZ1 := Lib.hid hZ1
            clear hk hA1 hZ1
            go_wp2_with fail
            rw [HTt.out]
            refine bodyPost_ret (v := .tuple #[.agg #[.string (strOfNums (xs.drop (12 * m))), .int .i64 (a + (12 * m : Nat)), .int .i64 0], .slice q m d]) (by simp [results, Try.results45, go_sem, z0, z1, z2]) rfl ⟨_, rfl, ?_⟩
            exact (HS1.out.set3 HoZ.out (by omega) _ _ _).new
          · rw [if_neg hri] at HTt
            rw [Bool.eq_false_iff.2 hri] at HRi2
            clear hri
            go_wp2_with fail
            refine (HRi2.out _ HAt.out).mono ?_
            rintro e w1 ⟨rfl, hk⟩
            have HN1 := Lib.hid (HNw.out w1 (HKp.out.trans hk) (EnsAt.keep HAt.out hk))
            have HK1 := Lib.hid (HKp.out.trans hk)
            have hA1 := HA.out.keep hk (fun h => h)
            have hZ1 := HZ.out.keep hk (fun h => h)
            have HS1 := Lib.hid (HS.out.keep hk)
            have HoZ := Lib.hid (own_apart (t := 84) (by decide) HS1.out.1 hZ1)
            clear c0 c1 c2 f0 f1 f2
            have c0 := hA1.cell 0 rfl
            have c1 := hA1.cell 1 rfl
            have c2 := hA1.cell 2 rfl
            simp only [rdrCells, List.getElem_toArray, List.getElem_cons_zero, List.getElem_cons_succ] at c0 c1 c2
            have z0 := hZ1.cell 0 rfl
            have z1 := hZ1.cell 1 rfl
            have z2 := hZ1.cell 2 rfl
            simp only [rdrCells, List.getElem_toArray, List.getElem_cons_zero, List.getElem_cons_succ] at z0 z1 z2
            have zf0 := hZ1.free 0
            have zf1 := hZ1.free 1
            have zf2 := hZ1.free 2
            have HZ1 := Lib.hid hZ1
            clear hk hA1 hZ1
            have HF8 := Lib.hid (fun w => HF.out (xs.drop (12 * m)) (a + (12 * m : Nat)) 8 w)
            go_wp2_with fail
            refine (HF8.out _).mono ?_
            rintro e w2 ⟨rfl, hk⟩
            have HK2 := Lib.hid (HK1.out.trans hk)
            have hZ2 := HZ1.out.keep hk (fun h => h)
            clear z0 z1 z2 zf0 zf1 zf2
            have z0 := hZ2.cell 0 rfl
            have z1 := hZ2.cell 1 rfl
            have z2 := hZ2.cell 2 rfl
            simp only [rdrCells, List.getElem_toArray, List.getElem_cons_zero, List.getElem_cons_succ] at z0 z1 z2
            have zf0 := hZ2.free 0
            have zf1 := hZ2.free 1
            have zf2 := hZ2.free 2
            clear hk hZ2
            go_wp2_with fail
            rw [HTt.out]
            exact bodyPost_ret (v := .tuple #[.agg #[.string (strOfNums (xs.drop (12 * m))), .int .i64 (a + (12 * m : Nat)), .int .i64 8], .slice none 0 0]) (by simp [results, Try.results45, go_sem, z0, z1, z2]) rfl ⟨_, rfl, NewTwos.ofNil _ _ (((HK2.out.setNew (by omega) 0 _).setNew (by omega) 1 _).setNew (by omega) 2 _)⟩
end Go.Proofs.Ytmifbohdepejaaa

namespace Go.Proofs.Ytmifbohdepejaaa
open Go.RowKit

theorem bufNewB (w : World) (base : Nat) : BufAt (w.alloc (.cells #[.slice none 0 0] 58)) base w.heap.size [] :=
  ⟨.slice none 0 0, Whole.new _ _ _, by simp, .inl ⟨rfl, by simp⟩⟩

theorem BufAt.keepO {w w' : World} {base g : Nat} {xs : List Int} (h : BufAt w base g xs) {S : Nat → Prop} (hk : Keeps S w w') (hg : ¬ S g) (ho : ∀ j cs, Whole w j 5 cs → base ≤ j → ¬ S j) : BufAt w' base g xs := by
  obtain ⟨v, hv, hown⟩ := h
  refine ⟨v, hv.keep hk hg, hown.1, ?_⟩
  rcases hown.2 with h2 | ⟨j, cap, cur, rfl, hb, hh, r⟩
  · exact .inl h2
  · exact .inr ⟨j, cap, cur, rfl, hb, Whole.keep (show Whole w j 5 cur from hh) hk (ho j cur hh hb), r⟩

theorem BufAt.lower {w : World} {base base' g : Nat} {xs : List Int} (h : BufAt w base g xs) (hb : base' ≤ base) : BufAt w base' g xs := by
  obtain ⟨v, hv, hown⟩ := h
  refine ⟨v, hv, hown.1, ?_⟩
  rcases hown.2 with h2 | ⟨j, cap, cur, rfl, hb2, r⟩
  · exact .inl h2
  · exact .inr ⟨j, cap, cur, rfl, Nat.le_trans hb hb2, r⟩
end Go.Proofs.Ytmifbohdepejaaa

namespace Go.Proofs.Ytmifbohdepejaaa
open Go.RowKit

/-- New bytes are answered. -/
def NewBytes (w : World) (ys : List Int) (v : Value) (w' : World) : Prop :=
  ∃ (q : Option Addr) (m d : Nat), v = .slice q m d ∧ m = ys.length ∧ m ≤ d ∧ d ≤ 9223372036854775807 ∧ (q = none → m = 0 ∧ d = 0) ∧ Bytes8 w' q ys ∧ Keeps NoBlock w w'
theorem NewBytes.ofNil (w w' : World) (h : Keeps NoBlock w w') : NewBytes w [] (.slice none 0 0) w' :=
  ⟨none, 0, 0, rfl, rfl, Nat.le_refl _, by decide, fun _ => ⟨rfl, rfl⟩, Bytes8.nil _ _, h⟩
end Go.Proofs.Ytmifbohdepejaaa

namespace Go.Proofs.Ytmifbohdepejaaa
open Go.RowKit

/-- A row of entries that comes in. -/
structure InE (w : World) (p : Option Addr) (n c : Nat) (l : List En) : Prop where
  len : n = l.length
  cap : n ≤ c
  room : c ≤ 9223372036854775807
  bare : p = none → n = 0 ∧ c = 0
  fine : ∀ e ∈ l, e.Fine
  at_ : EnsAt w p l
/-- A row that was got: new memory. -/
def GotRow (w : World) (l : List En) (v : Value) (w' : World) : Prop :=
  ∃ (q : Option Addr) (m d : Nat), v = .slice q m d ∧ m = l.length ∧ m ≤ d ∧ d ≤ 9223372036854775807 ∧ (q = none → m = 0 ∧ d = 0) ∧ EnsAt w' q l ∧ (0 < m → ∀ a, q = some a → w.heap.size ≤ a.block)
/-- How Get ends. -/
def GetEPost (k : Nat) (p : Option Addr) (N c a : Nat) (t : GE) (w : World) (e : Ending) (w' : World) : Prop :=
  Keeps (Just k) w w' ∧ ((t.y = 0 ∧ (∃ v, e = .returned v ∧ GotRow w t.l v w') ∧ CurB w' k p N c (a + t.m) true 0) ∨ (t.y ≠ 0 ∧ e = .panicked (given k) ∧ CurB w' k p N c (a + t.m) true t.y))

/-- The contracts of Sorted, Rising. -/
structure SortOk : Prop where
  sorted : ∀ (p : Option Addr) (n c : Nat) (l : List En) (w : World), InE w p n c l → n ≤ 100000 →
    Calls Try.prog 20 #[.slice p n c] w fun e w' => ∃ v, e = .returned v ∧ NewEns w (sortE l) v w'
/-- .. of Compare. -/
structure CmpOk : Prop where
  cmp : ∀ (a b : En) (w : World), a.Fine → b.Fine → Calls Try.prog 52 #[enV a, enV b] w fun e w' => e = .returned (.int .i64 (cmpE a b)) ∧ Keeps NoBlock w w'
/-- .. of Rising. -/
structure RisOk : Prop where
  rising : ∀ (p : Option Addr) (n c : Nat) (l : List En) (w : World), InE w p n c l → n ≤ 100000 →
    Calls Try.prog 30 #[.slice p n c] w fun e w' => e = .returned (.bool (risesE l)) ∧ Keeps NoBlock w w'
/-- .. of Find. -/
structure FindOk : Prop where
  find : ∀ (p : Option Addr) (n c : Nat) (l : List En) (h : Nat) (w : World), InE w p n c l → n ≤ 100000 → risesE l = true → h < 18446744073709551616 →
    Calls Try.prog 49 #[.slice p n c, .int .u64 (h : Int)] w fun e w' => e = .returned (.tuple #[.int .i64 ((findE l h).1 : Int), .int .i64 ((findE l h).2 : Int)]) ∧ Keeps NoBlock w w'
/-- .. of Put, Get. -/
structure BytesOk : Prop where
  put : ∀ (base g : Nat) (xs : List Int) (p : Option Addr) (n c : Nat) (l : List En) (w : World), BufAt w base g xs → base ≤ w.heap.size → InE w p n c l → n ≤ 100000 → (0 < n → ∀ a, p = some a → ¬ OnBuf base g a.block) → xs.length ≤ 100000000 →
    Calls Try.prog 23 #[.pointer (some ⟨g, 0, none⟩), .slice p n c] w fun e w' => e = .returned (.tuple #[]) ∧ BufAt w' base g (xs ++ textE l) ∧ Keeps (OnBuf base g) w w'
  get : ∀ (k : Nat) (p : Option Addr) (xs : List Int) (N c a : Nat) (z : Int) (w : World), N = xs.length → CurB w k p N c a true 0 → Bytes8 w p xs → Octets xs → (0 < xs.length → ∀ q, p = some q → q.block ≠ k) → a ≤ N → N ≤ c → c ≤ 9223372036854775807 → N ≤ 1000000 →
    Calls Try.prog 71 #[.pointer (some ⟨k, 0, none⟩), .int .i64 z] w (GetEPost k p N c a (getE z (xs.drop a)) w)

theorem EnsAt.keepFar {w w' : World} {q : Option Addr} {l : List En} (h : EnsAt w q l) {S : Nat → Prop} (hk : Keeps S w w') (hs : 0 < l.length → ∀ a, q = some a → ¬ S a.block) : EnsAt w' q l := fun i hi => by
  obtain ⟨a, rfl, c0, c1⟩ := h i hi
  exact ⟨a, rfl, hk.cell c0 (by rw [addBlock]; exact hs (by omega) a rfl), hk.cell c1 (by show ¬ S (a.add (i * 2)).block; rw [addBlock]; exact hs (by omega) a rfl)⟩
theorem EnsAt.old {w : World} {q : Option Addr} {l : List En} (h : EnsAt w q l) (h0 : 0 < l.length) (a : Addr) (ha : q = some a) : a.block < w.heap.size := by
  obtain ⟨a', ha', c0, _⟩ := h.at_ 0 h0
  obtain rfl := Option.some.inj (ha.symm.trans ha')
  have := ltOfCell c0
  rwa [addBlock] at this
/-- A row that was there ahead of a block stays behind what turns that block alone. -/
theorem EnsAt.keepNew {w w0 w' : World} {q : Option Addr} {l : List En} (h : EnsAt w q l) (hw : Keeps NoBlock w w0) {b : Nat} (hb : w.heap.size ≤ b) (hk : Keeps (Just b) w0 w') : EnsAt w' q l :=
  EnsAt.keepFar (EnsAt.keep h hw) hk (fun h0 a ha => by have := h.old h0 a ha; unfold Just; omega)

theorem enNeR (r : En) (w : World) : (binOp .neq 68 (.agg #[.int .u64 (r.hash : Int), .int .u32 (r.at_ : Int)]) (.agg #[.int .u64 (r.hash : Int), .int .u32 (r.at_ : Int)])).run Try.prog w = .ok (.bool false) w := by
  simp [go_sem]

set_option maxHeartbeats 4000000 in
set_option maxRecDepth 10000 in
theorem same11_go (p q : Option Addr) (n c d : Nat) (l : List En) (w : World) (hn : n = l.length) (hn9 : n ≤ 1000000) (hp : EnsAt w p l) (hq : EnsAt w q l) :
    Calls Try.prog 42 #[.slice p n c, .slice q n d] w fun e w' => e = .returned (.bool true) ∧ Keeps NoBlock w w' := by
  have HP := Lib.hid hp
  have HQ := Lib.hid hq
  have HN := Lib.hid hn
  have hnn : ((n : Int) != (n : Int)) = false := by simp
  clear hp hq hn
  go_enter Try.func42, Try.ntmps42
  go_wp2_with fail
  go_loopw [13] (fun i wr => ∃ j : Nat, j ≤ n ∧ i = .int .i64 (j : Int) ∧ Hid (Keeps NoBlock w wr)) (fun i _ => n - (intOf i).toNat)
  case atStart => exact ⟨0, Nat.zero_le _, rfl, Lib.hid (Keeps.refl _ _)⟩
  case round =>
    obtain ⟨j, hj, rfl, HK⟩ := hrel
    by_cases hlt : j < n
    · have hdj : decide (j < n) = true := decide_eq_true hlt
      have hjl : j < l.length := by rw [← HN.out]; exact hlt
      obtain ⟨a, rfl, a0, a1⟩ := (HP.out.keep HK.out).at_ j hjl
      obtain ⟨b, rfl, b0, b1⟩ := (HQ.out.keep HK.out).at_ j hjl
      obtain ⟨r, hr⟩ : ∃ r, r = l.getD j En.none := ⟨_, rfl⟩
      rw [← hr] at a0 a1 b0 b1
      have hne := enNeR r
      clear hr hjl
      go_wp2_with fail
      go_quiet (fail)
      go_wp2_with fail
      go_roundw
      case rel => exact ⟨j + 1, by omega, by go_num, Lib.hid (by first | exact HK.out.drewN _ | exact HK.out)⟩
      case measure => simp [intOf]; omega
    · have hdj : decide (j < n) = false := decide_eq_false hlt
      go_wp2_with fail
      go_ret
      exact ⟨rfl, HK.out⟩

theorem sort_example : sortE [⟨5, 1⟩, ⟨2, 9⟩, ⟨5, 0⟩, ⟨2, 9⟩] = [⟨2, 9⟩, ⟨5, 0⟩, ⟨5, 1⟩] := by decide

end Go.Proofs.Ytmifbohdepejaaa

namespace Go.Proofs.Ytmifbohdepejaaa
open Go.RowKit

/-- The frame of the deferred call behind its first region, and what stands behind. -/
def doorTmps (V A E k : Nat) (a y : Int) (r : List Value) : Array Value :=
  ⟨[.pointer (some ⟨V, 0, none⟩), .pointer (some ⟨A, 0, none⟩), .pointer (some ⟨E, 0, none⟩), undef, undef, undef, .pointer (some ⟨k, 0, none⟩), .pointer (some ⟨k, 0, none⟩), .pointer (some ⟨k, 1, none⟩), .int .i64 a, .pointer (some ⟨k, 0, none⟩), .pointer (some ⟨k, 0, none⟩), .pointer (some ⟨k, 3, none⟩), .int .i64 y] ++ r⟩

/-- What the deferred call has done to memory: Run's results hold what the cursor told; the cursor is closed. -/
def Told (V A E k : Nat) (a : Nat) (y : Int) (w w' : World) : Prop :=
  Whole w' V 111 #[.pointer (some ⟨k, 0, none⟩)] ∧ Whole w' A 3 #[.int .i64 a] ∧ Whole w' E 28 #[.int .i64 y] ∧ CurB w' k none 0 0 0 false 0 ∧ Keeps (fun i => i = A ∨ i = E ∨ i = k) w w'

def MidPost (V A E k : Nat) (a : Nat) (y : Int) (w : World) : Exit → Act → World → Prop
  | .normal, a', w' => a' = { tmps := doorTmps V A E k a y (List.replicate 15 undef), defers := [] } ∧ ∃ m, w' = (((w.setCell ⟨A, 0, none⟩ (.int .i64 a)).setCell ⟨E, 0, none⟩ (.int .i64 y)).drewN m)
  | _, _, _ => False

theorem MidPost.told {V A E k a : Nat} {y : Int} {w w' : World} {e : Exit} {a' : Act} (h : MidPost V A E k a y w e a' w') :
    e = .normal ∧ a' = { tmps := doorTmps V A E k a y (List.replicate 15 undef), defers := [] } ∧ ∃ m, w' = (((w.setCell ⟨A, 0, none⟩ (.int .i64 a)).setCell ⟨E, 0, none⟩ (.int .i64 y)).drewN m) := by
  cases e with
  | normal => exact ⟨rfl, h⟩
  | _ => exact h.elim

theorem Told.alloc {V A E k a : Nat} {y : Int} {w w' : World} (h : Told V A E k a y w w') (o : Obj) : Told V A E k a y w (w'.alloc o) :=
  ⟨h.1.alloc o, h.2.1.alloc o, h.2.2.1.alloc o, Whole.alloc h.2.2.2.1 o, h.2.2.2.2.alloc o⟩

theorem infoCursor : (Try.prog.info? 143).map (fun i => i.size) = some 4 := by kernel_rfl

theorem neqSame (a : Addr) (w : World) : (binOp .neq 111 (.pointer (some a)) (.pointer (some a))).run Try.prog w = .ok (.bool false) w := by
  obtain ⟨i, hi, hs⟩ := Option.map_eq_some_iff.1 infoCursor
  first | exact run_neq_ptr_same w a Try.underlying111 hi | exact Lib.run_neq_ptr_same w a Try.underlying111 hi

theorem neqOther {a b : Addr} {w : World} {ta tb : TypeId} {ca cb : Array Value} (hne : a ≠ b) (ha : Whole w a.block ta ca) (hb : Whole w b.block tb cb) :
    (binOp .neq 111 (.pointer (some a)) (.pointer (some b))).run Try.prog w = .ok (.bool true) w := by
  obtain ⟨i, hi, hs⟩ := Option.map_eq_some_iff.1 infoCursor
  have h : ∀ d : Nat, (Op.equalIn (d + 1) 111 (.pointer (some a)) (.pointer (some b))).run Try.prog w = .ok false w := fun d => by
    simp [Op.equalIn, run_underlying Try.underlying111, sizeOf, typeInfo, hi, hs, run_sameAddr_other w hne ha hb]
  simp only [binOp]
  simp [Op.equal, Op.maxDepth, h 9999]

theorem assertStopped (q : Option Addr) (w : World) : (Instr.typeAssert (.iface 145 (.agg #[.pointer q])) 20 145 true).run Try.prog w = .ok (.tuple #[.agg #[.pointer q], .bool true]) w := by kernel_rfl

set_option maxHeartbeats 1000000 in
theorem door_idle (V A E k : Nat) (p : Option Addr) (N c a : Nat) (o : Bool) (y x0 x1 : Int) (w : World) (hV : Whole w V 111 #[.pointer (some ⟨k, 0, none⟩)]) (hA : Whole w A 3 #[.int .i64 x0]) (hE : Whole w E 28 #[.int .i64 x1]) (hC : CurB w k p N c a o y) :
    CallsD Try.prog 102 #[.pointer (some ⟨V, 0, none⟩), .pointer (some ⟨A, 0, none⟩), .pointer (some ⟨E, 0, none⟩)] .returning w fun e u' w' => e = .returned (.tuple #[]) ∧ u' = .returning ∧ Told V A E k a y w w' := by
  have hVA : V ≠ A := fun e => by subst e; exact absurd (hV.unique hA).1 (by decide)
  have hVE : V ≠ E := fun e => by subst e; exact absurd (hV.unique hE).1 (by decide)
  have hVk : V ≠ k := fun e => by subst e; exact absurd (hV.unique hC).1 (by decide)
  have hAE : A ≠ E := fun e => by subst e; exact absurd (hA.unique hE).1 (by decide)
  have hAk : A ≠ k := fun e => by subst e; exact absurd (hA.unique hC).1 (by decide)
  have hEk : E ≠ k := fun e => by subst e; exact absurd (hE.unique hC).1 (by decide)
  have cV := hV.cell 0 rfl
  have cA := hA.cell 0 rfl
  have cE := hE.cell 0 rfl
  have c1 := Whole.cell hC 1 rfl
  have c3 := Whole.cell hC 3 rfl
  have fA := hA.free 0
  have fE := hE.free 0
  simp only [List.getElem_toArray, List.getElem_cons_zero, List.getElem_cons_succ] at cV cA cE c1 c3
  refine callsD_of_wpS Try.func102 rfl fun c₀ cs hu => ?_
  simp only [Try.ntmps102, List.size_toArray, List.length_cons, List.length_nil, Nat.reduceAdd, Nat.reduceSub, Array.replicate_succ,
     Array.replicate_zero, List.push_toArray, List.append_toArray, List.nil_append, List.cons_append]
  apply wpS_seq
  refine wpS_of_wp (Code.wp_mono (Q := MidPost V A E k a y w) ?_ ?_)
  case refine_2 =>
    go_region
    all_goals (exact ⟨rfl, _, rfl⟩)
  intro e a' w' hmid
  obtain ⟨rfl, rfl, m, rfl⟩ := hmid.told
  clear hmid
  simp only [Exit.thenS]
  apply wpS_seq
  have dV : (((w.setCell ⟨A, 0, none⟩ (.int .i64 a)).setCell ⟨E, 0, none⟩ (.int .i64 y)).drewN m).cell? ⟨V, 0, none⟩ = some (.pointer (some ⟨k, 0, none⟩)) := Whole.cell ((((hV.setOther hVA _).setOther hVE _).drewN m)) 0 rfl
  obtain ⟨W, hW⟩ : ∃ W, W = (((w.setCell ⟨A, 0, none⟩ (.int .i64 a)).setCell ⟨E, 0, none⟩ (.int .i64 y)).drewN m) := ⟨_, rfl⟩
  rw [← hW] at dV ⊢
  have dC : CurB W k p N c a o y := by rw [hW]; exact ((Whole.setOther hC (Ne.symm hAk) _).setOther (Ne.symm hEk) _).drewN m
  have d0 := Whole.cell dC 0 rfl
  have d1 := Whole.cell dC 1 rfl
  have d2 := Whole.cell dC 2 rfl
  have d3 := Whole.cell dC 3 rfl
  have f0 := Whole.free dC 0
  have f1 := Whole.free dC 1
  have f2 := Whole.free dC 2
  have f3 := Whole.free dC 3
  have HW := Lib.hid hW
  clear hW cV cA cE c1 c3 fA fE
  unfold doorTmps
  refine wpS_of_wp ?_
  go_wp2
  simp only [Exit.thenS]
  have hT : Told V A E k a y w ((((W.setCell ⟨k, 0, none⟩ (.slice none 0 0)).setCell ⟨k, 1, none⟩ (.int .i64 0)).setCell ⟨k, 2, none⟩ (.bool false)).setCell ⟨k, 3, none⟩ (.int .i64 0)) := by
    have HW := HW.out
    refine ⟨?_, ?_, ?_, Whole.set (Whole.set (Whole.set (Whole.set dC 0 _) 1 _) 2 _) 3 _, ?_⟩
    · refine Whole.setOther (Whole.setOther (Whole.setOther (Whole.setOther ?_ hVk _) hVk _) hVk _) hVk _
      rw [HW]; exact ((hV.setOther hVA _).setOther hVE _).drewN m
    · refine Whole.setOther (Whole.setOther (Whole.setOther (Whole.setOther ?_ hAk _) hAk _) hAk _) hAk _
      rw [HW]; exact ((hA.set 0 _).setOther hAE _).drewN m
    · refine Whole.setOther (Whole.setOther (Whole.setOther (Whole.setOther ?_ hEk _) hEk _) hEk _) hEk _
      rw [HW]; exact ((hE.setOther (Ne.symm hAE) _).set 0 _).drewN m
    · refine Keeps.setIn (Keeps.setIn (Keeps.setIn (Keeps.setIn ?_ (.inr (.inr rfl)) _ _) (.inr (.inr rfl)) _ _) (.inr (.inr rfl)) _ _) (.inr (.inr rfl)) _ _
      rw [HW]
      exact (((Keeps.refl _ _).setIn (.inl rfl) _ _).setIn (.inr (.inl rfl)) _ _).drewN m
  obtain ⟨W2, hW2⟩ : ∃ W2, W2 = ((((W.setCell ⟨k, 0, none⟩ (.slice none 0 0)).setCell ⟨k, 1, none⟩ (.int .i64 0)).setCell ⟨k, 2, none⟩ (.bool false)).setCell ⟨k, 3, none⟩ (.int .i64 0)) := ⟨_, rfl⟩
  rw [← hW2] at hT ⊢
  clear hW2 HW dV d0 d1 d2 d3 f0 f1 f2 f3 dC hC hV hA hE
  have eV := Whole.cell hT.1 0 rfl
  simp only [List.getElem_toArray, List.getElem_cons_zero] at eV
  have HT := Lib.hid hT
  clear hT
  apply wpS_seq
  apply wpS_region
  simp [wpOpsS, go_sem, recoverD, hu, Exit.thenS]
  refine wpS_of_wp ?_
  go_wp2
  refine ⟨rfl, .returning, ?_, .tuple #[], by simp [results, Try.results102], rfl, rfl, HT.out⟩
  rw [← hu]

set_option maxHeartbeats 1000000 in
theorem door_own (older : List PanicEntry) (V A E k : Nat) (p : Option Addr) (N c a : Nat) (o : Bool) (y x0 x1 : Int) (w : World) (hV : Whole w V 111 #[.pointer (some ⟨k, 0, none⟩)]) (hA : Whole w A 3 #[.int .i64 x0]) (hE : Whole w E 28 #[.int .i64 x1]) (hC : CurB w k p N c a o y) :
    CallsD Try.prog 102 #[.pointer (some ⟨V, 0, none⟩), .pointer (some ⟨A, 0, none⟩), .pointer (some ⟨E, 0, none⟩)] (.panicking ({ v := .iface 145 (.agg #[.pointer (some ⟨k, 0, none⟩)]), recovered := false } :: older)) w fun e u' w' => e = .returned (.tuple #[]) ∧ u' = .panicking ({ v := .iface 145 (.agg #[.pointer (some ⟨k, 0, none⟩)]), recovered := true } :: older) ∧ Told V A E k a y w w' := by
  have hta := assertStopped
  have hns := neqSame
  have hVA : V ≠ A := fun e => by subst e; exact absurd (hV.unique hA).1 (by decide)
  have hVE : V ≠ E := fun e => by subst e; exact absurd (hV.unique hE).1 (by decide)
  have hVk : V ≠ k := fun e => by subst e; exact absurd (hV.unique hC).1 (by decide)
  have hAE : A ≠ E := fun e => by subst e; exact absurd (hA.unique hE).1 (by decide)
  have hAk : A ≠ k := fun e => by subst e; exact absurd (hA.unique hC).1 (by decide)
  have hEk : E ≠ k := fun e => by subst e; exact absurd (hE.unique hC).1 (by decide)
  have cV := hV.cell 0 rfl
  have cA := hA.cell 0 rfl
  have cE := hE.cell 0 rfl
  have c1 := Whole.cell hC 1 rfl
  have c3 := Whole.cell hC 3 rfl
  have fA := hA.free 0
  have fE := hE.free 0
  simp only [List.getElem_toArray, List.getElem_cons_zero, List.getElem_cons_succ] at cV cA cE c1 c3
  refine callsD_of_wpS Try.func102 rfl fun c₀ cs hu => ?_
  simp only [Try.ntmps102, List.size_toArray, List.length_cons, List.length_nil, Nat.reduceAdd, Nat.reduceSub, Array.replicate_succ,
     Array.replicate_zero, List.push_toArray, List.append_toArray, List.nil_append, List.cons_append]
  apply wpS_seq
  refine wpS_of_wp (Code.wp_mono (Q := MidPost V A E k a y w) ?_ ?_)
  case refine_2 =>
    go_region
    all_goals (exact ⟨rfl, _, rfl⟩)
  intro e a' w' hmid
  obtain ⟨rfl, rfl, m, rfl⟩ := hmid.told
  clear hmid
  simp only [Exit.thenS]
  apply wpS_seq
  have dV : (((w.setCell ⟨A, 0, none⟩ (.int .i64 a)).setCell ⟨E, 0, none⟩ (.int .i64 y)).drewN m).cell? ⟨V, 0, none⟩ = some (.pointer (some ⟨k, 0, none⟩)) := Whole.cell ((((hV.setOther hVA _).setOther hVE _).drewN m)) 0 rfl
  obtain ⟨W, hW⟩ : ∃ W, W = (((w.setCell ⟨A, 0, none⟩ (.int .i64 a)).setCell ⟨E, 0, none⟩ (.int .i64 y)).drewN m) := ⟨_, rfl⟩
  rw [← hW] at dV ⊢
  have dC : CurB W k p N c a o y := by rw [hW]; exact ((Whole.setOther hC (Ne.symm hAk) _).setOther (Ne.symm hEk) _).drewN m
  have d0 := Whole.cell dC 0 rfl
  have d1 := Whole.cell dC 1 rfl
  have d2 := Whole.cell dC 2 rfl
  have d3 := Whole.cell dC 3 rfl
  have f0 := Whole.free dC 0
  have f1 := Whole.free dC 1
  have f2 := Whole.free dC 2
  have f3 := Whole.free dC 3
  have HW := Lib.hid hW
  clear hW cV cA cE c1 c3 fA fE
  unfold doorTmps
  refine wpS_of_wp ?_
  go_wp2
  simp only [Exit.thenS]
  have hT : Told V A E k a y w ((((W.setCell ⟨k, 0, none⟩ (.slice none 0 0)).setCell ⟨k, 1, none⟩ (.int .i64 0)).setCell ⟨k, 2, none⟩ (.bool false)).setCell ⟨k, 3, none⟩ (.int .i64 0)) := by
    have HW := HW.out
    refine ⟨?_, ?_, ?_, Whole.set (Whole.set (Whole.set (Whole.set dC 0 _) 1 _) 2 _) 3 _, ?_⟩
    · refine Whole.setOther (Whole.setOther (Whole.setOther (Whole.setOther ?_ hVk _) hVk _) hVk _) hVk _
      rw [HW]; exact ((hV.setOther hVA _).setOther hVE _).drewN m
    · refine Whole.setOther (Whole.setOther (Whole.setOther (Whole.setOther ?_ hAk _) hAk _) hAk _) hAk _
      rw [HW]; exact ((hA.set 0 _).setOther hAE _).drewN m
    · refine Whole.setOther (Whole.setOther (Whole.setOther (Whole.setOther ?_ hEk _) hEk _) hEk _) hEk _
      rw [HW]; exact ((hE.setOther (Ne.symm hAE) _).set 0 _).drewN m
    · refine Keeps.setIn (Keeps.setIn (Keeps.setIn (Keeps.setIn ?_ (.inr (.inr rfl)) _ _) (.inr (.inr rfl)) _ _) (.inr (.inr rfl)) _ _) (.inr (.inr rfl)) _ _
      rw [HW]
      exact (((Keeps.refl _ _).setIn (.inl rfl) _ _).setIn (.inr (.inl rfl)) _ _).drewN m
  obtain ⟨W2, hW2⟩ : ∃ W2, W2 = ((((W.setCell ⟨k, 0, none⟩ (.slice none 0 0)).setCell ⟨k, 1, none⟩ (.int .i64 0)).setCell ⟨k, 2, none⟩ (.bool false)).setCell ⟨k, 3, none⟩ (.int .i64 0)) := ⟨_, rfl⟩
  rw [← hW2] at hT ⊢
  clear hW2 HW dV d0 d1 d2 d3 f0 f1 f2 f3 dC hC hV hA hE
  have eV := Whole.cell hT.1 0 rfl
  simp only [List.getElem_toArray, List.getElem_cons_zero] at eV
  have eV2 : ∀ o, (W2.alloc o).cell? ⟨V, 0, none⟩ = some (.pointer (some ⟨k, 0, none⟩)) := fun o => Whole.cell (hT.1.alloc o) 0 rfl
  have HT := Lib.hid hT
  clear hT
  apply wpS_seq
  apply wpS_region
  simp [wpOpsS, go_sem, recoverD, hu, Exit.thenS]
  refine wpS_of_wp ?_
  go_wp2
  refine ⟨rfl, .panicking ({ v := .iface 145 (.agg #[.pointer (some ⟨k, 0, none⟩)]), recovered := true } :: older), rfl, .tuple #[], by simp [results, Try.results102], rfl, rfl, HT.out.alloc _⟩

set_option maxHeartbeats 1000000 in
theorem door_other (older : List PanicEntry) (q : Nat) (V A E k : Nat) (p : Option Addr) (N c a : Nat) (o : Bool) (y x0 x1 : Int) (w : World) (hq : q ≠ k) (cq : Array Value) (hQ : Whole w q 143 cq) (hV : Whole w V 111 #[.pointer (some ⟨k, 0, none⟩)]) (hA : Whole w A 3 #[.int .i64 x0]) (hE : Whole w E 28 #[.int .i64 x1]) (hC : CurB w k p N c a o y) :
    CallsD Try.prog 102 #[.pointer (some ⟨V, 0, none⟩), .pointer (some ⟨A, 0, none⟩), .pointer (some ⟨E, 0, none⟩)] (.panicking ({ v := .iface 145 (.agg #[.pointer (some ⟨q, 0, none⟩)]), recovered := false } :: older)) w fun e u' w' => e = .panicked (given q) ∧ u' = .panicking ({ v := .iface 145 (.agg #[.pointer (some ⟨q, 0, none⟩)]), recovered := true } :: older) ∧ Told V A E k a y w w' := by
  have hta := assertStopped
  have hVA : V ≠ A := fun e => by subst e; exact absurd (hV.unique hA).1 (by decide)
  have hVE : V ≠ E := fun e => by subst e; exact absurd (hV.unique hE).1 (by decide)
  have hVk : V ≠ k := fun e => by subst e; exact absurd (hV.unique hC).1 (by decide)
  have hAE : A ≠ E := fun e => by subst e; exact absurd (hA.unique hE).1 (by decide)
  have hAk : A ≠ k := fun e => by subst e; exact absurd (hA.unique hC).1 (by decide)
  have hEk : E ≠ k := fun e => by subst e; exact absurd (hE.unique hC).1 (by decide)
  have hAq : q ≠ A := fun e => by subst e; exact absurd (hA.unique hQ).1 (by decide)
  have hEq : q ≠ E := fun e => by subst e; exact absurd (hE.unique hQ).1 (by decide)
  have cV := hV.cell 0 rfl
  have cA := hA.cell 0 rfl
  have cE := hE.cell 0 rfl
  have c1 := Whole.cell hC 1 rfl
  have c3 := Whole.cell hC 3 rfl
  have fA := hA.free 0
  have fE := hE.free 0
  simp only [List.getElem_toArray, List.getElem_cons_zero, List.getElem_cons_succ] at cV cA cE c1 c3
  refine callsD_of_wpS Try.func102 rfl fun c₀ cs hu => ?_
  simp only [Try.ntmps102, List.size_toArray, List.length_cons, List.length_nil, Nat.reduceAdd, Nat.reduceSub, Array.replicate_succ,
     Array.replicate_zero, List.push_toArray, List.append_toArray, List.nil_append, List.cons_append]
  apply wpS_seq
  refine wpS_of_wp (Code.wp_mono (Q := MidPost V A E k a y w) ?_ ?_)
  case refine_2 =>
    go_region
    all_goals (exact ⟨rfl, _, rfl⟩)
  intro e a' w' hmid
  obtain ⟨rfl, rfl, m, rfl⟩ := hmid.told
  clear hmid
  simp only [Exit.thenS]
  apply wpS_seq
  have dV : (((w.setCell ⟨A, 0, none⟩ (.int .i64 a)).setCell ⟨E, 0, none⟩ (.int .i64 y)).drewN m).cell? ⟨V, 0, none⟩ = some (.pointer (some ⟨k, 0, none⟩)) := Whole.cell ((((hV.setOther hVA _).setOther hVE _).drewN m)) 0 rfl
  obtain ⟨W, hW⟩ : ∃ W, W = (((w.setCell ⟨A, 0, none⟩ (.int .i64 a)).setCell ⟨E, 0, none⟩ (.int .i64 y)).drewN m) := ⟨_, rfl⟩
  rw [← hW] at dV ⊢
  have dC : CurB W k p N c a o y := by rw [hW]; exact ((Whole.setOther hC (Ne.symm hAk) _).setOther (Ne.symm hEk) _).drewN m
  have d0 := Whole.cell dC 0 rfl
  have d1 := Whole.cell dC 1 rfl
  have d2 := Whole.cell dC 2 rfl
  have d3 := Whole.cell dC 3 rfl
  have f0 := Whole.free dC 0
  have f1 := Whole.free dC 1
  have f2 := Whole.free dC 2
  have f3 := Whole.free dC 3
  have HW := Lib.hid hW
  clear hW cV cA cE c1 c3 fA fE
  unfold doorTmps
  refine wpS_of_wp ?_
  go_wp2
  simp only [Exit.thenS]
  have hT : Told V A E k a y w ((((W.setCell ⟨k, 0, none⟩ (.slice none 0 0)).setCell ⟨k, 1, none⟩ (.int .i64 0)).setCell ⟨k, 2, none⟩ (.bool false)).setCell ⟨k, 3, none⟩ (.int .i64 0)) := by
    have HW := HW.out
    refine ⟨?_, ?_, ?_, Whole.set (Whole.set (Whole.set (Whole.set dC 0 _) 1 _) 2 _) 3 _, ?_⟩
    · refine Whole.setOther (Whole.setOther (Whole.setOther (Whole.setOther ?_ hVk _) hVk _) hVk _) hVk _
      rw [HW]; exact ((hV.setOther hVA _).setOther hVE _).drewN m
    · refine Whole.setOther (Whole.setOther (Whole.setOther (Whole.setOther ?_ hAk _) hAk _) hAk _) hAk _
      rw [HW]; exact ((hA.set 0 _).setOther hAE _).drewN m
    · refine Whole.setOther (Whole.setOther (Whole.setOther (Whole.setOther ?_ hEk _) hEk _) hEk _) hEk _
      rw [HW]; exact ((hE.setOther (Ne.symm hAE) _).set 0 _).drewN m
    · refine Keeps.setIn (Keeps.setIn (Keeps.setIn (Keeps.setIn ?_ (.inr (.inr rfl)) _ _) (.inr (.inr rfl)) _ _) (.inr (.inr rfl)) _ _) (.inr (.inr rfl)) _ _
      rw [HW]
      exact (((Keeps.refl _ _).setIn (.inl rfl) _ _).setIn (.inr (.inl rfl)) _ _).drewN m
  obtain ⟨W2, hW2⟩ : ∃ W2, W2 = ((((W.setCell ⟨k, 0, none⟩ (.slice none 0 0)).setCell ⟨k, 1, none⟩ (.int .i64 0)).setCell ⟨k, 2, none⟩ (.bool false)).setCell ⟨k, 3, none⟩ (.int .i64 0)) := ⟨_, rfl⟩
  rw [← hW2] at hT ⊢
  clear hW2 HW dV d0 d1 d2 d3 f0 f1 f2 f3 dC hC hV hA hE
  have eV := Whole.cell hT.1 0 rfl
  simp only [List.getElem_toArray, List.getElem_cons_zero] at eV
  have eV2 : ∀ o, (W2.alloc o).cell? ⟨V, 0, none⟩ = some (.pointer (some ⟨k, 0, none⟩)) := fun o => Whole.cell (hT.1.alloc o) 0 rfl
  have hQ2 : Whole W2 q 143 cq := hQ.keep hT.2.2.2.2 (by
    rintro (e | e | e)
    · exact hAq e
    · exact hEq e
    · exact hq e)
  have hno : ∀ o, (binOp .neq 111 (.pointer (some ⟨q, 0, none⟩)) (.pointer (some ⟨k, 0, none⟩))).run Try.prog (W2.alloc o) = .ok (.bool true) (W2.alloc o) := fun o =>
    neqOther (by intro e; exact hq (congrArg Addr.block e)) (hQ2.alloc o) (Whole.alloc hT.2.2.2.1 o)
  have HT := Lib.hid hT
  clear hT hQ2 hAq hEq hQ
  apply wpS_seq
  apply wpS_region
  simp [wpOpsS, go_sem, recoverD, hu, Exit.thenS]
  refine wpS_of_wp ?_
  go_wp2
  exact ⟨rfl, .panicking ({ v := .iface 145 (.agg #[.pointer (some ⟨q, 0, none⟩)]), recovered := true } :: older), rfl, rfl, rfl, HT.out.alloc _⟩
end Go.Proofs.Ytmifbohdepejaaa

namespace Go.Proofs.Ytmifbohdepejaaa
open Go.RowKit

/-- The world in which the reading begins: Run's two results, the cursor, the variable that holds it, each in a block of its own behind all that there was. -/
structure Begun (w : World) (p : Option Addr) (N c : Nat) (a : Nat) (y : Int) (W : World) : Prop where
  at_ : Whole W w.heap.size 3 #[.int .i64 0]
  why : Whole W (w.heap.size + 1) 28 #[.int .i64 0]
  cur : CurB W (w.heap.size + 1 + 1) p N c a true y
  var : Whole W (w.heap.size + 1 + 1 + 1) 111 #[.pointer (some ⟨w.heap.size + 1 + 1, 0, none⟩)]

/-- The panic by which the reading of the cursor in block k is given up; what was recovered on its way here stands behind it. -/
def Gave (k : Nat) (e : Ending) : Prop :=
  ∃ older : List PanicEntry, e = .panicked ({ v := .iface 145 (.agg #[.pointer (some ⟨k, 0, none⟩)]), recovered := false } :: older) ∧ older.dropWhile (fun x => !x.goexit) = []

theorem gave_given (k : Nat) : Gave k (.panicked (given k)) := ⟨[], rfl, rfl⟩

theorem funcNotNil (f : Fn) (a b : Array Value) (w : World) : (binOp .eql 117 (.func f a b) .nilFunc).run Try.prog w = .ok (.bool false) w := by kernel_rfl
theorem funcNil (w : World) : (binOp .eql 117 .nilFunc .nilFunc).run Try.prog w = .ok (.bool true) w := by kernel_rfl

theorem Begun.keep {w : World} {p : Option Addr} {N c a : Nat} {y : Int} {W W' : World} (h : Begun w p N c a y W) {b : Nat} {z : Int} (hk : Keeps (Just (w.heap.size + 1 + 1)) W W') (hc : CurB W' (w.heap.size + 1 + 1) p N c b true z) : Begun w p N c b z W' :=
  ⟨h.at_.keep hk (by unfold Just; omega), h.why.keep hk (by unfold Just; omega), hc, h.var.keep hk (by unfold Just; omega)⟩

theorem Begun.stay {w : World} {p : Option Addr} {N c a : Nat} {y : Int} {W W' : World} (h : Begun w p N c a y W) {S : Nat → Prop} (hk : Keeps S W W') (hs : ∀ i, w.heap.size ≤ i → ¬ S i) : Begun w p N c a y W' :=
  ⟨h.at_.keep hk (hs _ (by omega)), h.why.keep hk (hs _ (by omega)), Whole.keep h.cur hk (hs _ (by omega)), h.var.keep hk (hs _ (by omega))⟩

theorem begun (w : World) (p : Option Addr) (N c : Nat) : Begun w p N c 0 0 ((((w.alloc (.cells #[.int .i64 0] 3)).alloc (.cells #[.int .i64 0] 28)).alloc (.cells #[.slice p N c, .int .i64 0, .bool true, .int .i64 0] 143)).alloc (.cells #[.pointer (some ⟨w.heap.size + 1 + 1, 0, none⟩)] 111)) :=
  ⟨(((Whole.new _ _ _).alloc _).alloc _).alloc _, ((Whole.newAt _ _ _ _ (by simp)).alloc _).alloc _, Whole.alloc (Whole.newAt _ _ _ _ (by simp)) _, Whole.newAt _ _ _ _ (by simp)⟩

theorem begun_keeps (S : Nat → Prop) (w : World) (p : Option Addr) (N c : Nat) : Keeps S w ((((w.alloc (.cells #[.int .i64 0] 3)).alloc (.cells #[.int .i64 0] 28)).alloc (.cells #[.slice p N c, .int .i64 0, .bool true, .int .i64 0] 143)).alloc (.cells #[.pointer (some ⟨w.heap.size + 1 + 1, 0, none⟩)] 111)) :=
  ((((Keeps.refl _ _).alloc _).alloc _).alloc _).alloc _

/-- Run's answer: how many bytes were read, and why the reading stopped; the cursor is closed. -/
def RunTold (w : World) (a : Nat) (y : Int) (R : World → Prop) (e : Ending) (w' : World) : Prop :=
  e = .returned (.tuple #[.int .i64 a, .int .i64 y]) ∧ ∃ w2, R w2 ∧ Told (w.heap.size + 1 + 1 + 1) w.heap.size (w.heap.size + 1) (w.heap.size + 1 + 1) a y w2 w'

/-- How a reading ends that isn't given up by another one's cursor. -/
def ReadEnds (w : World) (p : Option Addr) (N c a : Nat) (y : Int) (R : World → Prop) (e : Ending) (w2 : World) : Prop :=
  (e = .returned (.tuple #[]) ∨ Gave (w.heap.size + 1 + 1) e) ∧ Begun w p N c a y w2 ∧ R w2

set_option maxHeartbeats 1000000 in
theorem run_any (K : Nat) (cap : Array Value) (p : Option Addr) (N c a : Nat) (y : Int) (R : World → Prop) (w : World) (hK : ∀ (args : Array Value) (w : World), (callFunc K args).run Try.prog w = .ok (.enter K args) w)
    (hread : ∀ W, Begun w p N c 0 0 W → Keeps NoBlock w W → W.heap.size = w.heap.size + 1 + 1 + 1 + 1 → Calls Try.prog K (#[.pointer (some ⟨w.heap.size + 1 + 1, 0, none⟩)] ++ cap) W (ReadEnds w p N c a y R)) :
    Calls Try.prog 66 #[.slice p N c, .func (.func K) #[] cap] w (RunTold w a y R) := by
  have hmf : ∀ (fn : Fn) (first cap : Array Value) (w : World), (Instr.makeFunc fn first cap).run Try.prog w = .ok (.func fn first cap) w := fun _ _ _ _ => rfl
  have hfn := funcNotNil
  have HR := Lib.hid (hread _ (begun w p N c) (begun_keeps _ w p N c) (by simp))
  clear hread
  go_enter_defers Try.func66, Try.ntmps66
  go_wp2_with fail
  refine HR.out.mono ?_
  rintro e w2 ⟨he, hB, hR⟩
  clear HR
  have HB := Lib.hid hB; have HR := Lib.hid hR
  clear hB hR
  rcases he with rfl | ⟨older, rfl, hold⟩
  · go_wp2_with fail
    refine leaves_cons (f := 102) (args := #[.pointer (some ⟨w.heap.size + 1 + 1 + 1, 0, none⟩), .pointer (some ⟨w.heap.size, 0, none⟩), .pointer (some ⟨w.heap.size + 1, 0, none⟩)]) (by simp) (by simp [go_sem]) ?_
    refine (door_idle _ _ _ _ p N c a true y 0 0 w2 HB.out.var HB.out.at_ HB.out.why HB.out.cur).mono ?_
    rintro e u' w3 ⟨rfl, rfl, hT⟩
    have HT := Lib.hid hT
    have r1 := hT.2.1.cell 0 rfl
    have r2 := hT.2.2.1.cell 0 rfl
    clear hT
    simp only [List.getElem_toArray, List.getElem_cons_zero] at r1 r2
    simp [Leaves, settle, results, Try.results66, go_sem, r1, r2]
    exact ⟨rfl, w2, HR.out, HT.out⟩
  · simp only [bodyPostD]
    refine leaves_cons (f := 102) (args := #[.pointer (some ⟨w.heap.size + 1 + 1 + 1, 0, none⟩), .pointer (some ⟨w.heap.size, 0, none⟩), .pointer (some ⟨w.heap.size + 1, 0, none⟩)]) (by simp) (by simp [go_sem]) ?_
    refine (door_own older _ _ _ _ p N c a true y 0 0 w2 HB.out.var HB.out.at_ HB.out.why HB.out.cur).mono ?_
    rintro e u' w3 ⟨rfl, rfl, hT⟩
    have HT := Lib.hid hT
    have r1 := hT.2.1.cell 0 rfl
    have r2 := hT.2.2.1.cell 0 rfl
    clear hT
    simp only [List.getElem_toArray, List.getElem_cons_zero] at r1 r2
    simp [Leaves, settle, hold, results, Try.results66, go_sem, r1, r2]
    exact ⟨rfl, w2, HR.out, HT.out⟩

/-- Where an outer cursor, that of block q, gives the reading up: Run goes on with the panic. -/
def RunGave (q : Nat) (w : World) (a : Nat) (y : Int) (R : World → Prop) (e : Ending) (w' : World) : Prop :=
  Gave q e ∧ ∃ w2, R w2 ∧ Told (w.heap.size + 1 + 1 + 1) w.heap.size (w.heap.size + 1) (w.heap.size + 1 + 1) a y w2 w'

def ReadGave (q : Nat) (w : World) (p : Option Addr) (N c a : Nat) (y : Int) (R : World → Prop) (e : Ending) (w2 : World) : Prop :=
  Gave q e ∧ Begun w p N c a y w2 ∧ (∃ cq, Whole w2 q 143 cq) ∧ R w2

set_option maxHeartbeats 1000000 in
theorem run_gave (q : Nat) (K : Nat) (cap : Array Value) (p : Option Addr) (N c a : Nat) (y : Int) (R : World → Prop) (w : World) (hq : q ≠ w.heap.size + 1 + 1) (hK : ∀ (args : Array Value) (w : World), (callFunc K args).run Try.prog w = .ok (.enter K args) w)
    (hread : ∀ W, Begun w p N c 0 0 W → Keeps NoBlock w W → W.heap.size = w.heap.size + 1 + 1 + 1 + 1 → Calls Try.prog K (#[.pointer (some ⟨w.heap.size + 1 + 1, 0, none⟩)] ++ cap) W (ReadGave q w p N c a y R)) :
    Calls Try.prog 66 #[.slice p N c, .func (.func K) #[] cap] w (RunGave q w a y R) := by
  have hmf : ∀ (fn : Fn) (first cap : Array Value) (w : World), (Instr.makeFunc fn first cap).run Try.prog w = .ok (.func fn first cap) w := fun _ _ _ _ => rfl
  have hfn := funcNotNil
  have HR := Lib.hid (hread _ (begun w p N c) (begun_keeps _ w p N c) (by simp))
  have HQ := Lib.hid hq
  clear hread hq
  go_enter_defers Try.func66, Try.ntmps66
  go_wp2_with fail
  refine HR.out.mono ?_
  rintro e w2 ⟨⟨older, rfl, hold⟩, hB, ⟨cq, hC⟩, hR⟩
  clear HR
  have HB := Lib.hid hB; have HR := Lib.hid hR
  clear hB hR
  simp only [bodyPostD]
  refine leaves_cons (f := 102) (args := #[.pointer (some ⟨w.heap.size + 1 + 1 + 1, 0, none⟩), .pointer (some ⟨w.heap.size, 0, none⟩), .pointer (some ⟨w.heap.size + 1, 0, none⟩)]) (by simp) (by simp [go_sem]) ?_
  refine (door_other older q _ _ _ _ p N c a true y 0 0 w2 HQ.out cq hC HB.out.var HB.out.at_ HB.out.why HB.out.cur).mono ?_
  rintro e u' w3 ⟨rfl, rfl, hT⟩
  have HT := Lib.hid hT
  clear hT
  simp [Leaves, raised]
  exact ⟨⟨_, rfl, by simpa using hold⟩, w2, HR.out, HT.out⟩

theorem run_nil (p : Option Addr) (N c : Nat) (w : World) :
    Calls Try.prog 66 #[.slice p N c, .nilFunc] w fun e w' => e = .returned (.tuple #[.int .i64 0, .int .i64 0]) ∧ Keeps NoBlock w w' := by
  have hfn := funcNil
  go_enter_defers Try.func66, Try.ntmps66
  go_wp2_with fail
  simp [bodyPostD, Leaves, results, Try.results66, go_sem]
  exact ((Keeps.refl _ _).alloc _).alloc _
end Go.Proofs.Ytmifbohdepejaaa

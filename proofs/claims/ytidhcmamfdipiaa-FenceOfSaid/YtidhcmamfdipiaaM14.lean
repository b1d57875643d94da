/-
  TabRis; SeaLay; FenAsk; FenAll; Open16; TabMeOk.
-/
import Derived.Shelf.SlSortCmp.QuietGrown
import Derived.Shelf.SlSorted.Search
import Derived.Test.YtidhcmamfdipiaaM02
import Derived.Test.YtidhcmamfdipiaaM04
import Derived.Test.YtidhcmamfdipiaaM05
import Derived.Test.YtidhcmamfdipiaaM08
import Derived.Test.YtidhcmamfdipiaaM09
import Derived.Test.YtidhcmamfdipiaaM13
namespace Go.Proofs.Ytidhcmamfdipiaa
open Go.RowKit Go.Sort

theorem ltOfCell' {w : World} {a : Addr} {v : Value} (h : w.cell? a = some v) : a.block < w.heap.size := World.block_lt_of_cell? _ _ h
theorem cellG {w : World} {a : Addr} {v : Value} (h : w.cell? a = some v) (n : Nat) (os : Array Obj) : (grow (w.drewN n) os).cell? a = some v := cell_grown (ltOfCell' h) h n os
theorem keepsG {S : Nat → Prop} {w w' : World} (h : Keeps S w w') (n : Nat) (os : Array Obj) : Keeps S w (grow (w'.drewN n) os) :=
  h.then (show Grown w' _ from ⟨n, os, rfl⟩).keeps (fun _ _ h => h.elim)

end Go.Proofs.Ytidhcmamfdipiaa

namespace Go.Proofs.Ytidhcmamfdipiaa
open Go.Shelf Go.RowKit Go.Lib Go.Sort

def searchLay_ren : Go.Shelf.Ren := ⟨fun | 16 => 32 | n => n, fun | 3 => 3 | 35 => 68 | 4 => 4 | 38 => 87 | n => n, fun | n => n⟩
theorem searchLay : SlLaysO.n16 Try.prog searchLay_ren := {
  mixed := by kernel_rfl
  f16 := Try.func32.trans (congrArg some (by kernel_rfl))
  t3 := Try.underlying3
  a3 := Try.isAgg3
  z3 := Try.sizeOf3
  v3 := Try.zeroValue3
  t4 := Try.underlying4
  a4 := Try.isAgg4
  z4 := Try.sizeOf4
  v4 := Try.zeroValue4
  t35 := Try.underlying68
  a35 := Try.isAgg68
  z35 := Try.sizeOf68
  v35 := Try.zeroValue68
  t38 := Try.underlying87
  a38 := Try.isAgg87
  z38 := Try.sizeOf87
  v38 := Try.zeroValue87 }
end Go.Proofs.Ytidhcmamfdipiaa

namespace Go.Proofs.Ytidhcmamfdipiaa
open Go.RowKit Go.Sort Go.Shelf Go.Lib

set_option maxHeartbeats 2000000 in
set_option maxRecDepth 10000 in
theorem rask_from (p : Option Addr) (m c : Nat) (fs : List Nat) (hm : m = fs.length) (bl bh hash i : Nat) (hi : i < m) (_hm9 : m ≤ 1000000) (W : World)
    (hl : W.cell? ⟨bl, 0, none⟩ = some (.slice p m c)) (hb : W.cell? ⟨bh, 0, none⟩ = some (.int .u64 (hash : Int))) (hat : RowN W p fs) :
    Calls Try.prog 33 #[.int .i64 (i : Int), .pointer (some ⟨bl, 0, none⟩), .pointer (some ⟨bh, 0, none⟩)] W fun e w' => e = .returned (.bool (decide (hash ≤ fs.getD i 0))) ∧ ∃ q os, w' = grow (W.drewN q) os := by
  have mixed : Try.prog.follows .mixedOrders = true := by kernel_rfl
  obtain ⟨a, rfl, c0⟩ := hat i (by omega)
  obtain ⟨r, hr⟩ : ∃ r, r = fs.getD i 0 := ⟨_, rfl⟩
  rw [← hr] at c0 ⊢
  have hin : (i : Int) < (m : Int) := by omega
  have L0 : ∀ n os, (grow (W.drewN n) os).cell? _ = _ := fun n os => cellG hl n os
  have B0 : ∀ n os, (grow (W.drewN n) os).cell? _ = _ := fun n os => cellG hb n os
  have C0 : ∀ n os, (grow (W.drewN n) os).cell? _ = _ := fun n os => cellG c0 n os
  clear hat c0 hl hb hr hm
  go_enter Try.func33, Try.ntmps33
  go_wp2_with fail
  go_quiet_grown (fail)
  go_wp2_with fail
  go_ret
  exact ⟨rfl, nq, osq, rfl⟩
set_option maxHeartbeats 2000000 in
set_option maxRecDepth 10000 in
theorem rask_to (p : Option Addr) (m c : Nat) (fs : List Nat) (hm : m = fs.length) (bl bh hash i : Nat) (hi : i < m) (_hm9 : m ≤ 1000000) (W : World)
    (hl : W.cell? ⟨bl, 0, none⟩ = some (.slice p m c)) (hb : W.cell? ⟨bh, 0, none⟩ = some (.int .u64 (hash : Int))) (hat : RowN W p fs) :
    Calls Try.prog 34 #[.int .i64 (i : Int), .pointer (some ⟨bl, 0, none⟩), .pointer (some ⟨bh, 0, none⟩)] W fun e w' => e = .returned (.bool (decide (hash < fs.getD i 0))) ∧ ∃ q os, w' = grow (W.drewN q) os := by
  have mixed : Try.prog.follows .mixedOrders = true := by kernel_rfl
  obtain ⟨a, rfl, c0⟩ := hat i (by omega)
  obtain ⟨r, hr⟩ : ∃ r, r = fs.getD i 0 := ⟨_, rfl⟩
  rw [← hr] at c0 ⊢
  have hin : (i : Int) < (m : Int) := by omega
  have L0 : ∀ n os, (grow (W.drewN n) os).cell? _ = _ := fun n os => cellG hl n os
  have B0 : ∀ n os, (grow (W.drewN n) os).cell? _ = _ := fun n os => cellG hb n os
  have C0 : ∀ n os, (grow (W.drewN n) os).cell? _ = _ := fun n os => cellG c0 n os
  clear hat c0 hl hb hr hm
  go_enter Try.func34, Try.ntmps34
  go_wp2_with fail
  go_quiet_grown (fail)
  go_wp2_with fail
  go_ret
  exact ⟨rfl, nq, osq, rfl⟩
theorem ofFrom_sub : ∀ (i : Nat) (l : List En), List.Sublist (ofFrom i l) (l.map En.hash)
  | _, [] => List.Sublist.refl _
  | i, e :: l => by
    rw [ofFrom, List.map_cons]
    split
    · exact (ofFrom_sub (i + 1) l).cons_cons _
    · exact (ofFrom_sub (i + 1) l).cons _
theorem ofF_rises {l : List En} (h : risesE l = true) {i j : Nat} (hij : i ≤ j) (hj : j < (ofF l).length) : (ofF l).getD i 0 ≤ (ofF l).getD j 0 := by
  by_cases e : i = j
  · rw [e]; exact Nat.le_refl _
  · have hp : (l.map En.hash).Pairwise (· ≤ ·) := List.pairwise_map.2 ((risesE_pair.1 h).imp fun {a b} hab => by unfold LessE at hab; omega)
    have hq := List.Pairwise.sublist (ofFrom_sub 0 l) hp
    have := List.pairwise_iff_getElem.1 hq i j (show i < (ofF l).length by omega) hj (by omega)
    have e1 : (ofF l).getD i 0 = (ofF l)[i] := by simp [show i < (ofF l).length by omega]
    have e2 : (ofF l).getD j 0 = (ofF l)[j] := by simp [hj]
    rw [e1, e2]
    exact this
theorem count_nums (l : List Nat) (f : Nat → Bool) : (List.range l.length).countP (fun i => f (l.getD i 0)) = l.countP f := by
  have h := Lib.countP_range l.toArray f
  have e : ∀ i, i < l.length → l.toArray[i]! = l.getD i 0 := fun i hi => by
    rw [getElem!_pos l.toArray i (by simpa using hi)]
    simp [hi]
  have h2 : (List.range l.length).countP (fun i => f (l.getD i 0)) = (List.range l.toArray.size).countP (fun i => f l.toArray[i]!) := by
    rw [show l.toArray.size = l.length by simp]
    apply List.countP_congr
    intro i hi
    rw [e i (by simpa using hi)]
  rw [h2, h]

/-- A question that is asked of a fence, by boxes that hold the fences and a Hash. -/
def RaskAt (G hash : Nat) (Pq : Nat → Bool) : Prop :=
  (∀ args w, (callFunc G args).run Try.prog w = .ok (.enter G args) w) ∧
  ∀ (p : Option Addr) (m c : Nat) (fs : List Nat) (_ : m = fs.length) (bl bh i : Nat) (_ : i < m) (_ : m ≤ 1000000) (W : World), W.cell? ⟨bl, 0, none⟩ = some (.slice p m c) → W.cell? ⟨bh, 0, none⟩ = some (.int .u64 (hash : Int)) → RowN W p fs →
    Calls Try.prog G #[.int .i64 (i : Int), .pointer (some ⟨bl, 0, none⟩), .pointer (some ⟨bh, 0, none⟩)] W fun e w' => e = .returned (.bool (Pq (fs.getD i 0))) ∧ ∃ q os, w' = grow (W.drewN q) os
theorem raskFrom (hash : Nat) : RaskAt 33 hash (fun x => decide (hash ≤ x)) := ⟨enters_of Try.func33 (by kernel_rfl) rfl, fun p m c fs hm bl bh i hi hm9 W h1 h2 h3 => rask_from p m c fs hm bl bh hash i hi hm9 W h1 h2 h3⟩
theorem raskTo (hash : Nat) : RaskAt 34 hash (fun x => decide (hash < x)) := ⟨enters_of Try.func34 (by kernel_rfl) rfl, fun p m c fs hm bl bh i hi hm9 W h1 h2 h3 => rask_to p m c fs hm bl bh hash i hi hm9 W h1 h2 h3⟩

/-- The place that is searched for. -/
theorem search_nums (G hash : Nat) (Pq : Nat → Bool) (hA : RaskAt G hash Pq) (hmono : ∀ x y, x ≤ y → Pq x = true → Pq y = true) (p : Option Addr) (m c : Nat) (l : List En) (hm : m = (ofF l).length) (hr : risesE l = true) (bl bh : Nat) (hm9 : m ≤ 1000000) (V : World)
    (hl : V.cell? ⟨bl, 0, none⟩ = some (.slice p m c)) (hb : V.cell? ⟨bh, 0, none⟩ = some (.int .u64 (hash : Int))) (hat : RowN V p (ofF l)) :
    Calls Try.prog 32 #[.int .i64 (m : Int), .func (.func G) #[] #[.pointer (some ⟨bl, 0, none⟩), .pointer (some ⟨bh, 0, none⟩)]] V fun e w' => e = .returned (.int .i64 (((ofF l).countP fun x => !Pq x : Nat) : Int)) ∧ Grown V w' := by
  have hcon := Any.sort_Search searchLay G #[.pointer (some ⟨bl, 0, none⟩), .pointer (some ⟨bh, 0, none⟩)] m (fun i => Pq ((ofF l).getD i 0)) V hA.1 (by omega)
    (fun k os i hi => hA.2 p m c (ofF l) hm bl bh i hi hm9 _ (cellG hl k os) (cellG hb k os) (RowN.keep hat (show Grown V _ from ⟨k, os, rfl⟩).keeps (fun _ _ h => h)))
    (fun i j hij hj h => hmono _ _ (ofF_rises hr hij (by omega)) h)
  change Calls Try.prog 32 _ _ _ at hcon
  have hc2 := count_nums (ofF l) (fun x => !Pq x)
  rw [← hm] at hc2
  rw [hc2] at hcon
  refine hcon.mono ?_
  rintro e w' ⟨rfl, q, os, rfl⟩
  exact ⟨rfl, q, os, rfl⟩

set_option maxHeartbeats 2000000 in
set_option maxRecDepth 10000 in
theorem frange_own (p : Option Addr) (m c : Nat) (l : List En) (n h : Nat) (w : World) (hm : m = (ofF l).length) (hat : RowN w p (ofF l)) (hn : n = l.length) (hn9 : n ≤ 100000) (hr : risesE l = true) :
    Calls Try.prog 14 #[.slice p m c, .int .i64 (n : Int), .int .u64 (h : Int)] w fun e w' => e = .returned (.tuple #[.int .i64 ((rangeF (ofF l) n h).1 : Int), .int .i64 ((rangeF (ofF l) n h).2 : Int)]) ∧ Keeps NoBlock w w' := by
  have hmn : m ≤ 100000 := by rw [hm, ofF_length]; omega
  obtain ⟨V, hV⟩ : ∃ V, V = (w.alloc (.cells #[.slice p m c] 26)).alloc (.cells #[.int .u64 (h : Int)] 23) := ⟨_, rfl⟩
  have HK : Hid (Keeps NoBlock w V) := Lib.hid (by rw [hV]; exact ((Keeps.refl _ w).alloc _).alloc _)
  have hl : V.cell? ⟨w.heap.size, 0, none⟩ = some (.slice p m c) := by rw [hV]; exact Whole.cell ((Whole.new w _ _).alloc _) 0 rfl
  have hb : V.cell? ⟨w.heap.size + 1, 0, none⟩ = some (.int .u64 (h : Int)) := by rw [hV]; exact Whole.cell (Whole.newAt (w.alloc (.cells #[.slice p m c] 26)) _ _ (w.heap.size + 1) (by simp)) 0 rfl
  have hE := RowN.keep hat HK.out (fun _ _ h => h)
  have e1 : ((ofF l).countP fun f => decide (f < h)) = (ofF l).countP (fun x => !decide (h ≤ x)) := by
    apply List.countP_congr
    intro x _
    simp
  have e2 : ((ofF l).countP fun f => decide (f ≤ h)) = (ofF l).countP (fun x => !decide (h < x)) := by
    apply List.countP_congr
    intro x _
    simp
  have hR0 : rangeF (ofF l) n h = if ((ofF l).countP fun x => !decide (h < x)) = 0 then (0, 0) else (16 * (((ofF l).countP fun x => !decide (h ≤ x)) - 1), min n (16 * ((ofF l).countP fun x => !decide (h < x)))) := by
    rw [← e1, ← e2]
    rfl
  have hA9 : ((ofF l).countP fun x => !decide (h ≤ x)) ≤ (ofF l).length := List.countP_le_length
  have hB9 : ((ofF l).countP fun x => !decide (h < x)) ≤ (ofF l).length := List.countP_le_length
  have HF := Lib.hid (search_nums 33 h (fun x => decide (h ≤ x)) (raskFrom h) (fun x y hxy hx => decide_eq_true (by have := of_decide_eq_true hx; omega)) p m c l hm hr w.heap.size (w.heap.size + 1) (by omega) V hl hb hE)
  have HT := Lib.hid (fun W hk => search_nums 34 h (fun x => decide (h < x)) (raskTo h) (fun x y hxy hx => decide_eq_true (by have := of_decide_eq_true hx; omega)) p m c l hm hr w.heap.size (w.heap.size + 1) (by omega) W (Keeps.cell (S := NoBlock) hk hl (fun h => h)) (Keeps.cell (S := NoBlock) hk hb (fun h => h)) (RowN.keep hE hk (fun _ _ h => h)))
  obtain ⟨R, hR⟩ : ∃ R, R = rangeF (ofF l) n h := ⟨_, rfl⟩
  rw [← hR] at hR0 ⊢
  obtain ⟨A, hA⟩ : ∃ A, A = (ofF l).countP (fun x => !decide (h ≤ x)) := ⟨_, rfl⟩
  obtain ⟨B, hB⟩ : ∃ B, B = (ofF l).countP (fun x => !decide (h < x)) := ⟨_, rfl⟩
  rw [← hA] at HF hA9 hR0
  rw [← hB] at HT hB9 hR0
  have hA10 : A ≤ 100000 := by omega
  have hB10 : B ≤ 100000 := by omega
  have HR := Lib.hid hR0
  have HL1 := Lib.hid hl
  have HLV := Lib.hid (fun W (hk : Keeps NoBlock V W) => Keeps.cell hk hl (fun h => h))
  clear hR0 hA hB hR e1 e2 hA9 hB9 hE hat hr hm hl hb hn
  go_enter Try.func14, Try.ntmps14
  rw [hV] at HF HK HT HLV HL1
  have l1 := HL1.out
  clear hV
  go_wp2_with fail
  refine HF.out.mono ?_
  rintro e w1 ⟨rfl, hg⟩
  have HK1 := Lib.hid (HK.out.trans hg.keeps)
  have HT1 := Lib.hid (HT.out _ hg.keeps)
  have l2 := HLV.out _ hg.keeps
  clear hg HF HK HT l1 HL1 HLV
  go_wp2_with fail
  refine HT1.out.mono ?_
  rintro e w2 ⟨rfl, hg⟩
  have HK2 := Lib.hid (HK1.out.trans hg.keeps)
  clear hg HT1 HK1 l2
  by_cases hz : B = 0
  · subst hz
    rw [if_pos rfl] at HR
    go_wp2_with fail
    refine bodyPost_ret (results_tmp2 rfl _ _ _) rfl ?_
    rw [HR.out]
    exact ⟨rfl, HK2.out⟩
  · have hz1 : ((B : Int) == 0) = false := by rw [beq_eq_false_iff_ne]; omega
    have hz2 : (B == 0) = false := by rw [beq_eq_false_iff_ne]; exact hz
    have hz3 : decide (B = 0) = false := decide_eq_false hz
    rw [if_neg hz] at HR
    obtain ⟨C, hC⟩ : ∃ C, C = A - 1 := ⟨_, rfl⟩
    have hmax : max ((A : Int) - 1) 0 = (C : Int) := by omega
    have hmin : 16 * B ≤ n ∨ n < 16 * B := by omega
    rcases hmin with hmin | hmin
    · have hm1 : (16 : Int) * (B : Int) ≤ (n : Int) := by omega
      go_wp2_with fail
      all_goals (
        refine bodyPost_ret (results_tmp2 rfl _ _ _) rfl ?_
        rw [HR.out]
        exact ⟨two_ret (by dsimp only; omega) (by dsimp only; omega), HK2.out⟩)
    · have hm1 : ¬ (16 : Int) * (B : Int) ≤ (n : Int) := by omega
      go_wp2_with fail
      all_goals (
        refine bodyPost_ret (results_tmp2 rfl _ _ _) rfl ?_
        rw [HR.out]
        exact ⟨two_ret (by dsimp only; omega) (by dsimp only; omega), HK2.out⟩)
end Go.Proofs.Ytidhcmamfdipiaa

namespace Go.Proofs.Ytidhcmamfdipiaa
open Go.RowKit

theorem fenct_ok : FenCtOk := ⟨fun n w h0 h1 => fcount_own n w h0 h1⟩
theorem fen_ok : FenOk := ⟨fun p n c l w hi h9 _ => by
  refine (callsIn_wide.1 (of_in 3 (Nat.le_refl _) p n c l w hi.len hi.cap hi.room h9 hi.at_)).mono ?_
  rintro e w' ⟨v, rfl, h⟩
  exact ⟨v, rfl, fnew_row h⟩,
  fun p m c l n h w hm _ _ _ hat _ hn h9 hr _ => frange_own p m c l n h w hm hat hn h9 hr⟩
end Go.Proofs.Ytidhcmamfdipiaa

namespace Go.Proofs.Ytidhcmamfdipiaa

theorem u16_in {n : Int} (h : (Lit.int .u16 n).wf = true) : 0 ≤ n ∧ n < 65536 := by
  have : 0 ≤ n ∧ n ≤ 65535 := by simpa [Lit.wf, IntKind.min, IntKind.max, IntKind.signed, IntKind.bits] using h
  omega
end Go.Proofs.Ytidhcmamfdipiaa

namespace Go.Proofs.Ytidhcmamfdipiaa
open Go.RowKit

/-- Sorted answers a row of its own (the laws append to it, and write into it). -/
structure MergeOk : Prop where
  sorted : ∀ (p : Option Addr) (n c : Nat) (l : List En) (w : World), InE w p n c l → n ≤ 100000 →
    Calls Try.prog 8 #[.slice p n c] w fun e w' => ∃ v, e = .returned v ∧ TwosSoFar enH enA 38 w (sortE l) v w'

section
variable {α : Type} {v0 v1 : α → Value} {dd : α}
theorem twoFlat_set : ∀ (l : List α) (i : Nat) (r : α), i < l.length → v0 r = v0 (l.getD i dd) → twoFlat v0 v1 (l.set i r) = (twoFlat v0 v1 l).set (i * 2 + 1) (v1 r)
  | [], i, r, h, _ => by simp at h
  | x :: l, 0, r, _, h => by
    have h' : v0 r = v0 x := by simpa using h
    simp [twoFlat, h']
  | x :: l, i + 1, r, h, h2 => by
    have ih := twoFlat_set l i r (by simpa using h) (by simpa using h2)
    have e : (i + 1) * 2 + 1 = (i * 2 + 1) + 1 + 1 := by omega
    rw [List.set_cons_succ, e]
    show v0 x :: v1 x :: twoFlat v0 v1 (l.set i r) = (v0 x :: v1 x :: twoFlat v0 v1 l).set (i * 2 + 1 + 1 + 1) (v1 r)
    rw [List.set_cons_succ, List.set_cons_succ, ih]
/-- A row of one's own in memory: its block, whole. -/
theorem TwosSoFar.whole {t : TypeId} {w0 wr : World} {l : List α} {g n d : Nat} (h : TwosSoFar v0 v1 t w0 l (.slice (some ⟨g, 0, none⟩) n d) wr) :
    ∃ cur, Whole wr g t cur ∧ n = l.length ∧ w0.heap.size ≤ g ∧ n ≤ d ∧ d ≤ maxLen ∧ cur.size = d * 2 ∧ cur.toList.take (l.length * 2) = twoFlat v0 v1 l := by
  obtain ⟨⟨_, ho⟩, _⟩ := h
  rcases ho with ⟨hn, _⟩ | ⟨g', cap, cur, hv, hb, hg, h1, h2, h3, h4⟩
  · simp at hn
  · simp only [Value.slice.injEq, Option.some.injEq, Addr.mk.injEq, and_true] at hv
    obtain ⟨rfl, rfl, rfl⟩ := hv
    exact ⟨cur, hg, rfl, hb, h1, h2, h3, h4⟩
theorem TwosSoFar.setTwo {t : TypeId} {w0 wr : World} {l : List α} {g n d i : Nat} (h : TwosSoFar v0 v1 t w0 l (.slice (some ⟨g, 0, none⟩) n d) wr) (hi : i < l.length) (r : α) (hr : v0 r = v0 (l.getD i dd)) :
    TwosSoFar v0 v1 t w0 (l.set i r) (.slice (some ⟨g, 0, none⟩) n d) (wr.setCell ⟨g, i * 2 + 1, none⟩ (v1 r)) := by
  obtain ⟨cur, hw, hn, hb, h1, h2, h3, h4⟩ := h.whole
  refine ⟨⟨by rw [twoFlat_length], .inr ⟨g, d, cur.setIfInBounds (i * 2 + 1) (v1 r), ?_, hb, hw.set (i * 2 + 1) (v1 r), ?_, h2, ?_, ?_⟩⟩, h.2.setCell hb _⟩
  · rw [List.length_set, ← hn]
  · rw [List.length_set, ← hn]; exact h1
  · rw [Array.size_setIfInBounds]; exact h3
  · rw [List.length_set, Array.toList_setIfInBounds, List.take_set, h4, twoFlat_set (dd := dd) l i r hi hr]
theorem TwosSoFar.setFar {t : TypeId} {w0 wr : World} {l : List α} {g n d : Nat} (h : TwosSoFar v0 v1 t w0 l (.slice (some ⟨g, 0, none⟩) n d) wr) {p : Addr} (hp : g ≠ p.block) (hb : w0.heap.size ≤ p.block) (x : Value) : TwosSoFar v0 v1 t w0 l (.slice (some ⟨g, 0, none⟩) n d) (wr.setCell p x) :=
  ⟨ownsRow_setCell_other h.1 (by simp [Value.ownBlock]; exact hp) _, h.2.setCell hb _⟩
theorem TwosSoFar.cells2 {t : TypeId} {w0 wr : World} {l : List α} {g n d i : Nat} (h : TwosSoFar v0 v1 t w0 l (.slice (some ⟨g, 0, none⟩) n d) wr) (hi : i < l.length) :
    wr.cell? ⟨g, i * 2, none⟩ = some (v0 (l.getD i dd)) ∧ wr.cell? ⟨g, i * 2 + 1, none⟩ = some (v1 (l.getD i dd)) ∧ wr.frozen? ⟨g, i * 2 + 1, none⟩ = false := by
  obtain ⟨cur, hw, hn, hb, h1, h2, h3, h4⟩ := h.whole
  have hc := h.1.cells (g := g) rfl
  refine ⟨?_, ?_, hw.free _⟩
  · have := hc (i * 2 + 0) _ (by rw [twoFlat_at (dd := dd) l i 0 hi (by decide)]; rfl)
    rw [Addr.add_lit, Nat.zero_add] at this
    exact this
  · have := hc (i * 2 + 1) _ (by rw [twoFlat_at (dd := dd) l i 1 hi (by decide)]; rfl)
    rw [Addr.add_lit, Nat.zero_add] at this
    exact this
end
end Go.Proofs.Ytidhcmamfdipiaa

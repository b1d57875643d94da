/-
  StrBytes; TabHash; TabMeOk; TabRow; TabCmp; TabCmp2.
-/
import Derived.Lib.ConvBytes
import Derived.OwnWalk
import Derived.Sort.Grow
import Derived.Shelf.SlSortCmp.InsertionK
import Derived.Test.YtlejobomjgccnaaGreatM02
import Derived.Test.YtlejobomjgccnaaGreatM04
import Derived.Test.YtlejobomjgccnaaGreatM05
import Derived.Test.YtlejobomjgccnaaGreatM13
import Derived.Test.YtlejobomjgccnaaGreatM20
namespace Go.Proofs.YtlejobomjgccnaaGreat
open Go.RowKit

theorem bytesWorld_keeps (S : Nat → Prop) (w : World) (e : TypeId) (s : ByteArray) : Keeps S w (Lib.bytesWorld w e s) :=
  ⟨rfl, rfl, rfl, by rw [Lib.bytesWorld_size]; omega, fun k hk _ => Lib.bytesWorld_at_old w e s k hk⟩

theorem bytesWorld_bytes (w : World) (e : TypeId) (xs : List Int) (ho : Octets xs) : Bytes8 (Lib.bytesWorld w e (strOfNums xs)) (some ⟨w.heap.size, 0, none⟩) xs := fun _ => ⟨_, rfl, fun i hi => by
  rw [show (⟨w.heap.size, 0, none⟩ : Addr).add i = ⟨w.heap.size, i, none⟩ by
    unfold Addr.add
    split
    · rename_i h
      subst h
      rfl
    · simp]
  rw [Lib.bytesWorld_cell w e _ i (by rw [str_size]; exact hi)]
  have hb := ho (xs.getD i 0) (by rw [List.getD_eq_getElem?_getD, List.getElem?_eq_getElem hi]; exact List.getElem_mem hi)
  have e1 : (strOfNums xs).data.toList.getD i 0 = UInt8.ofNat (xs.getD i 0).toNat := by
    simp [strOfNums, List.getD_eq_getElem?_getD, hi]
  rw [e1]
  have e2 : ((UInt8.ofNat (xs.getD i 0).toNat).toNat : Int) = xs.getD i 0 := by
    simp only [UInt8.toNat_ofNat']
    omega
  rw [e2]⟩

/-- '[]byte(s)': the slice, and the world behind it. -/
theorem run_str_bytes (xs : List Int) (w : World) :
    (convert 9 52 (.string (strOfNums xs))).run Tryz.prog w = .ok (.slice (some ⟨w.heap.size, 0, none⟩) xs.length (grownCap w xs.length 0 5)) (Lib.bytesWorld w 5 (strOfNums xs)) := by
  have h := Lib.run_convert_string_bytes (P := Tryz.prog) w 9 52 5 (strOfNums xs) Tryz.underlying9 Tryz.underlying52 Tryz.underlying5
  rw [str_size] at h
  exact h
end Go.Proofs.YtlejobomjgccnaaGreat

namespace Go.Proofs.YtlejobomjgccnaaGreat
open Go.RowKit

set_option maxHeartbeats 800000 in
theorem hash_own (xs : List Int) (w : World) (ho : Octets xs) (hl : xs.length ≤ 1000000) :
    Calls Tryz.prog 57 #[.string (strOfNums xs)] w fun e w' => e = .returned (.int .u64 (wxxh 0 xs)) ∧ Keeps NoBlock w w' := by
  have hz := str_size xs
  have hc := run_str_bytes xs w
  obtain ⟨C, hC⟩ : ∃ C, C = grownCap w xs.length 0 5 := ⟨_, rfl⟩
  have hC1 : xs.length ≤ C := by rw [hC]; exact grownCap_ge _ _ _ _
  have hC2 : C ≤ 9223372036854775807 := by rw [hC]; exact grownCap_le_maxLen _ _ _ _ (by unfold maxLen; omega)
  rw [← hC] at hc
  clear hC
  obtain ⟨W, hW⟩ : ∃ W, W = Lib.bytesWorld w 5 (strOfNums xs) := ⟨_, rfl⟩
  have HB : Hid (Bytes8 W (some ⟨w.heap.size, 0, none⟩) xs) := Lib.hid (by rw [hW]; exact bytesWorld_bytes w _ xs ho)
  have HK : Hid (Keeps NoBlock w W) := Lib.hid (by rw [hW]; exact bytesWorld_keeps _ _ _ _)
  rw [← hW] at hc
  clear hW
  have HS := Lib.hid (sum_wide 0 (by unfold U64; omega) (some ⟨w.heap.size, 0, none⟩) xs.length C xs rfl hC1 hC2 (fun h => by simp at h) ho (by omega) W HB.out)
  clear ho
  go_enter Tryz.func57, Tryz.ntmps57
  go_wp2_with fail
  refine HS.out.mono ?_
  rintro e w2 ⟨rfl, hk⟩
  have HK2 := Lib.hid (HK.out.trans hk)
  clear hk
  go_wp2_with fail
  go_ret
  exact ⟨rfl, HK2.out⟩
end Go.Proofs.YtlejobomjgccnaaGreat

namespace Go.Proofs.YtlejobomjgccnaaGreat
open Go.RowKit

section
variable {α : Type} {v0 v1 : α → Value} {dd : α}
/-- A row of one's own in memory: its block, whole. -/
theorem TwosSoFar.whole {t : TypeId} {w0 wr : World} {l : List α} {g n d : Nat} (h : TwosSoFar v0 v1 t w0 l (.slice (some ⟨g, 0, none⟩) n d) wr) :
    ∃ cur, Whole wr g t cur ∧ n = l.length ∧ w0.heap.size ≤ g ∧ n ≤ d ∧ d ≤ maxLen ∧ cur.size = d * 2 ∧ cur.toList.take (l.length * 2) = twoFlat v0 v1 l := by
  obtain ⟨⟨_, ho⟩, _⟩ := h
  rcases ho with ⟨hn, _⟩ | ⟨g', cap, cur, hv, hb, hg, h1, h2, h3, h4⟩
  · simp at hn
  · simp only [Value.slice.injEq, Option.some.injEq, Addr.mk.injEq, and_true] at hv
    obtain ⟨rfl, rfl, rfl⟩ := hv
    exact ⟨cur, hg, rfl, hb, h1, h2, h3, h4⟩
end
end Go.Proofs.YtlejobomjgccnaaGreat

namespace Go.Proofs.YtlejobomjgccnaaGreat
open Go.RowKit

/-- Block g has room for d entries; the first n are those of f. -/
def RowF (wr : World) (g d n : Nat) (f : Nat → En) : Prop :=
  ∃ cur, Whole wr g 80 cur ∧ cur.size = d * 2 ∧ n ≤ d ∧ ∀ i, i < n → cur[i * 2]? = some (enH (f i)) ∧ cur[i * 2 + 1]? = some (enA (f i))
theorem RowF.lt {wr : World} {g d n : Nat} {f : Nat → En} (h : RowF wr g d n f) : g < wr.heap.size := by
  obtain ⟨cur, hw, _⟩ := h
  exact hw.lt
theorem RowF.le {wr : World} {g d n : Nat} {f : Nat → En} (h : RowF wr g d n f) : n ≤ d := by
  obtain ⟨cur, _, _, h, _⟩ := h
  exact h
theorem RowF.cell {wr : World} {g d n : Nat} {f : Nat → En} (h : RowF wr g d n f) {i : Nat} (hi : i < n) :
    wr.cell? ⟨g, i * 2, none⟩ = some (.int .u64 ((f i).hash : Int)) ∧ wr.cell? ⟨g, i * 2 + 1, none⟩ = some (.int .u32 ((f i).at_ : Int)) := by
  obtain ⟨cur, hw, _, _, hc⟩ := h
  exact ⟨hw.cell _ (hc i hi).1, hw.cell _ (hc i hi).2⟩
theorem RowF.free {wr : World} {g d n : Nat} {f : Nat → En} (h : RowF wr g d n f) (i : Nat) : wr.frozen? ⟨g, i, none⟩ = false := by
  obtain ⟨cur, hw, _⟩ := h
  exact hw.free i
theorem RowF.keep {w w' : World} {g d n : Nat} {f : Nat → En} (h : RowF w g d n f) {S : Nat → Prop} (hk : Keeps S w w') (hs : ¬ S g) : RowF w' g d n f := by
  obtain ⟨cur, hw, h1⟩ := h
  exact ⟨cur, hw.keep hk hs, h1⟩
theorem RowF.drew {w : World} {g d n : Nat} {f : Nat → En} (h : RowF w g d n f) : RowF w.drew g d n f := h
theorem RowF.congr {w : World} {g d n m : Nat} {f f' : Nat → En} (h : RowF w g d n f) (hm : m ≤ n) (he : ∀ i, i < m → f i = f' i) : RowF w g d m f' := by
  obtain ⟨cur, hw, h1, h2, h3⟩ := h
  exact ⟨cur, hw, h1, by omega, fun i hi => by rw [← he i hi]; exact h3 i (by omega)⟩
theorem RowF.put {w : World} {g d n : Nat} {f : Nat → En} (h : RowF w g d n f) {k : Nat} (hk : k < n) (x : En) :
    RowF ((w.setCell ⟨g, k * 2, none⟩ (.int .u64 (x.hash : Int))).setCell ⟨g, k * 2 + 1, none⟩ (.int .u32 (x.at_ : Int))) g d n (fun i => if i = k then x else f i) := by
  obtain ⟨cur, hw, h1, h2, h3⟩ := h
  refine ⟨_, (hw.set _ _).set _ _, by simpa using h1, h2, fun i hi => ?_⟩
  dsimp only
  by_cases e : i = k
  · subst e
    constructor
    · rw [if_pos rfl, Array.getElem?_setIfInBounds_ne (by omega), Array.getElem?_setIfInBounds_self_of_lt (by omega)]
      rfl
    · rw [if_pos rfl, Array.getElem?_setIfInBounds_self_of_lt (by simp; omega)]
      rfl
  · rw [if_neg e]
    constructor
    · rw [Array.getElem?_setIfInBounds_ne (by omega), Array.getElem?_setIfInBounds_ne (by omega)]
      exact (h3 i hi).1
    · rw [Array.getElem?_setIfInBounds_ne (by omega), Array.getElem?_setIfInBounds_ne (by omega)]
      exact (h3 i hi).2
theorem keepsPut {S : Nat → Prop} {a b : World} (h : Keeps S a b) {g : Nat} (hg : S g ∨ a.heap.size ≤ g) (i j : Nat) (u v : Value) : Keeps S a ((b.setCell ⟨g, i, none⟩ u).setCell ⟨g, j, none⟩ v) := (h.set hg u).set hg v

/-- The row as entries that can be read. -/
theorem RowF.ens {w : World} {g d n : Nat} {f : Nat → En} (h : RowF w g d n f) {l : List En} (hl : l.length ≤ n) (he : ∀ i, i < l.length → l.getD i En.none = f i) : EnsAt w (some ⟨g, 0, none⟩) l := fun i hi => by
  refine ⟨_, rfl, ?_⟩
  have hc := h.cell (i := i) (by omega)
  rw [← he i hi] at hc
  simp only [Addr.add_lit, Nat.zero_add]
  exact hc
/-- A row of one's own, place by place. -/
theorem RowF.ofOwn {w : World} {base g n d : Nat} {l : List En} (h : w.ownsRow base 80 2 (.slice (some ⟨g, 0, none⟩) n d) n (twoFlat enH enA l)) (hn : n = l.length) :
    RowF w g d n (fun i => l.getD i En.none) ∧ base ≤ g ∧ d ≤ maxLen := by
  rcases h with ⟨hl, ⟨h0, _⟩ | ⟨g', cap, cur, hv, hb, hg, h1, h2, h3, h4⟩⟩
  · simp at h0
  · simp only [Value.slice.injEq, Option.some.injEq, Addr.mk.injEq, and_true, true_and] at hv
    obtain ⟨rfl, rfl⟩ := hv
    refine ⟨⟨cur, hg, h3, h1, fun i hi => ?_⟩, hb, h2⟩
    have e : ∀ j u, j < 2 → [enH (l.getD i En.none), enA (l.getD i En.none)][j]? = some u → cur[i * 2 + j]? = some u := fun j u hj hu => by
      have h5 := twoFlat_at (v0 := enH) (v1 := enA) (dd := En.none) l i j (by omega) hj
      rw [← h4, hu, List.getElem?_take_of_lt (by omega)] at h5
      simpa using h5
    exact ⟨e 0 _ (by decide) rfl, e 1 _ (by decide) rfl⟩
/-- .. and back. -/
theorem RowF.own {w : World} {base g n d : Nat} {f : Nat → En} (h : RowF w g d n f) {l : List En} (hl : l.length ≤ n) (he : ∀ i, i < l.length → l.getD i En.none = f i) (hb : base ≤ g) (hd : d ≤ maxLen) :
    w.ownsRow base 80 2 (.slice (some ⟨g, 0, none⟩) l.length d) l.length (twoFlat enH enA l) := by
  obtain ⟨cur, hw, h1, h2, h3⟩ := h
  refine ⟨twoFlat_length l, .inr ⟨g, d, cur, rfl, hb, hw, by omega, hd, h1, ?_⟩⟩
  apply List.ext_getElem?
  intro j
  by_cases hj : j < l.length * 2
  · rw [List.getElem?_take_of_lt hj]
    have hi : j / 2 < l.length := by omega
    have h4 := h3 (j / 2) (by omega)
    rw [← he (j / 2) hi] at h4
    by_cases h5 : j % 2 = 0
    · have e : j = j / 2 * 2 + 0 := by omega
      rw [e, twoFlat_at (v0 := enH) (v1 := enA) (dd := En.none) l (j / 2) 0 hi (by decide)]
      simpa using h4.1
    · have e : j = j / 2 * 2 + 1 := by omega
      rw [e, twoFlat_at (v0 := enH) (v1 := enA) (dd := En.none) l (j / 2) 1 hi (by decide)]
      simpa using h4.2
  · rw [List.getElem?_eq_none (by rw [List.length_take]; omega), List.getElem?_eq_none (by rw [twoFlat_length]; omega)]

theorem madeTwos (n : Nat) : (madeCells (Value.agg #[.int .u64 0, .int .u32 0]).cells (n * 2)).toList = twoFlat enH enA (List.replicate n En.none) := by
  have hz : (Value.agg #[.int .u64 0, .int .u32 0]).cells = #[.int .u64 0, .int .u32 0] := rfl
  rw [hz]
  apply List.ext_getElem?
  intro j
  by_cases hj : j < n * 2
  · have hi : j / 2 < (List.replicate n En.none).length := by simp; omega
    have h6 : (madeCells #[.int .u64 0, .int .u32 0] (n * 2)).toList[j]? = some ((#[Value.int .u64 0, Value.int .u32 0])[j % 2]!) := by
      rw [Array.getElem?_toList]
      simp [madeCells, hj]
    have h7 : (List.replicate n En.none).getD (j / 2) En.none = En.none := by
      rw [List.getD_eq_getElem?_getD, List.getElem?_replicate]
      split <;> rfl
    rw [h6]
    by_cases h5 : j % 2 = 0
    · have e : j = j / 2 * 2 + 0 := by omega
      rw [h5]
      conv => rhs; rw [e]
      rw [twoFlat_at (v0 := enH) (v1 := enA) (dd := En.none) _ (j / 2) 0 hi (by decide), h7]
      rfl
    · have e : j = j / 2 * 2 + 1 := by omega
      rw [show j % 2 = 1 by omega]
      conv => rhs; rw [e]
      rw [twoFlat_at (v0 := enH) (v1 := enA) (dd := En.none) _ (j / 2) 1 hi (by decide), h7]
      rfl
  · rw [List.getElem?_eq_none (by simp [madeCells]; omega), List.getElem?_eq_none (by rw [twoFlat_length]; simp; omega)]
end Go.Proofs.YtlejobomjgccnaaGreat

namespace Go.Proofs.YtlejobomjgccnaaGreat
open Go.RowKit Go.Sort

/-- Nothing but draws, and blocks behind those that were there. -/
def Grown (w w' : World) : Prop := ∃ q os, w' = grow (w.drewN q) os
theorem Grown.refl (w : World) : Grown w w := ⟨0, #[], by rw [grow_empty]; rfl⟩
theorem Grown.drewN {w w' : World} (h : Grown w w') (n : Nat) : Grown w (w'.drewN n) := by
  obtain ⟨q, os, rfl⟩ := h
  exact ⟨q + n, os, by show grow ((w.drewN q).drewN n) os = _; rw [World.drewN_drewN]⟩
theorem Grown.drew {w w' : World} (h : Grown w w') : Grown w w'.drew := h.drewN 1
theorem Grown.alloc {w w' : World} (h : Grown w w') (o : Obj) : Grown w (w'.alloc o) := by
  obtain ⟨q, os, rfl⟩ := h
  exact ⟨q, os ++ #[o], by rw [alloc_eq_grow, grow_grow]⟩
theorem Grown.trans {a b c : World} (h : Grown a b) (g : Grown b c) : Grown a c := by
  obtain ⟨q, os, rfl⟩ := h
  obtain ⟨q', os', rfl⟩ := g
  exact ⟨q + q', os ++ os', by show grow (grow ((a.drewN q).drewN q') os) os' = _; rw [grow_grow, World.drewN_drewN]⟩
theorem Grown.keeps {w w' : World} (h : Grown w w') : Keeps NoBlock w w' := by
  obtain ⟨q, os, rfl⟩ := h
  refine ⟨rfl, rfl, rfl, by simp [grow], fun k hk _ => ?_⟩
  show ((w.drewN q).heap ++ os)[k]? = _
  rw [Array.getElem?_append_left (by show k < w.heap.size; exact hk)]
  rfl

/-- The order of two numbers. -/
def cmpN (x y : Nat) : Int := if x < y then -1 else if y < x then 1 else 0

theorem nan64_own (x : Nat) (w : World) : Calls Tryz.prog 164 #[.int .u64 (x : Int)] w fun e w' => e = .returned (.bool false) ∧ w' = w := by
  have h : ((x : Int) != (x : Int)) = false := by simp
  go_enter Tryz.func164, Tryz.ntmps164
  go_wp2_with fail
  go_ret
  exact ⟨rfl, rfl⟩
theorem nan32_own (x : Nat) (w : World) : Calls Tryz.prog 165 #[.int .u32 (x : Int)] w fun e w' => e = .returned (.bool false) ∧ w' = w := by
  have h : ((x : Int) != (x : Int)) = false := by simp
  go_enter Tryz.func165, Tryz.ntmps165
  go_wp2_with fail
  go_ret
  exact ⟨rfl, rfl⟩

set_option maxHeartbeats 1000000 in
theorem cmp64_own (x y : Nat) (w : World) : Calls Tryz.prog 123 #[.int .u64 (x : Int), .int .u64 (y : Int)] w fun e w' => e = .returned (.int .i64 (cmpN x y)) ∧ w' = w := by
  have HA := Lib.hid (fun w => nan64_own x w)
  have HB := Lib.hid (fun w => nan64_own y w)
  unfold cmpN
  by_cases h1 : x < y
  · rw [if_pos h1]
    have d1 : decide ((x : Int) < (y : Int)) = true := decide_eq_true (by omega)
    have d2 : decide (x < y) = true := decide_eq_true h1
    go_enter Tryz.func123, Tryz.ntmps123
    go_wp2_with fail
    refine (HA.out _).mono ?_
    rintro e w1 ⟨rfl, rfl⟩
    go_wp2_with fail
    refine (HB.out _).mono ?_
    rintro e w1 ⟨rfl, rfl⟩
    go_wp2_with fail
    go_ret
    exact ⟨rfl, rfl⟩
  · rw [if_neg h1]
    have d1 : decide ((x : Int) < (y : Int)) = false := decide_eq_false (by omega)
    have d2 : decide (x < y) = false := decide_eq_false h1
    by_cases h2 : y < x
    · rw [if_pos h2]
      have d3 : decide ((y : Int) < (x : Int)) = true := decide_eq_true (by omega)
      have d4 : decide (y < x) = true := decide_eq_true h2
      go_enter Tryz.func123, Tryz.ntmps123
      go_wp2_with fail
      refine (HA.out _).mono ?_
      rintro e w1 ⟨rfl, rfl⟩
      go_wp2_with fail
      refine (HB.out _).mono ?_
      rintro e w1 ⟨rfl, rfl⟩
      go_wp2_with fail
      go_ret
      exact ⟨rfl, rfl⟩
    · rw [if_neg h2]
      have d3 : decide ((y : Int) < (x : Int)) = false := decide_eq_false (by omega)
      have d4 : decide (y < x) = false := decide_eq_false h2
      go_enter Tryz.func123, Tryz.ntmps123
      go_wp2_with fail
      refine (HA.out _).mono ?_
      rintro e w1 ⟨rfl, rfl⟩
      go_wp2_with fail
      refine (HB.out _).mono ?_
      rintro e w1 ⟨rfl, rfl⟩
      go_wp2_with fail
      go_ret
      exact ⟨rfl, rfl⟩

set_option maxHeartbeats 1000000 in
theorem cmp32_own (x y : Nat) (w : World) : Calls Tryz.prog 124 #[.int .u32 (x : Int), .int .u32 (y : Int)] w fun e w' => e = .returned (.int .i64 (cmpN x y)) ∧ w' = w := by
  have HA := Lib.hid (fun w => nan32_own x w)
  have HB := Lib.hid (fun w => nan32_own y w)
  unfold cmpN
  by_cases h1 : x < y
  · rw [if_pos h1]
    have d1 : decide ((x : Int) < (y : Int)) = true := decide_eq_true (by omega)
    have d2 : decide (x < y) = true := decide_eq_true h1
    go_enter Tryz.func124, Tryz.ntmps124
    go_wp2_with fail
    refine (HA.out _).mono ?_
    rintro e w1 ⟨rfl, rfl⟩
    go_wp2_with fail
    refine (HB.out _).mono ?_
    rintro e w1 ⟨rfl, rfl⟩
    go_wp2_with fail
    go_ret
    exact ⟨rfl, rfl⟩
  · rw [if_neg h1]
    have d1 : decide ((x : Int) < (y : Int)) = false := decide_eq_false (by omega)
    have d2 : decide (x < y) = false := decide_eq_false h1
    by_cases h2 : y < x
    · rw [if_pos h2]
      have d3 : decide ((y : Int) < (x : Int)) = true := decide_eq_true (by omega)
      have d4 : decide (y < x) = true := decide_eq_true h2
      go_enter Tryz.func124, Tryz.ntmps124
      go_wp2_with fail
      refine (HA.out _).mono ?_
      rintro e w1 ⟨rfl, rfl⟩
      go_wp2_with fail
      refine (HB.out _).mono ?_
      rintro e w1 ⟨rfl, rfl⟩
      go_wp2_with fail
      go_ret
      exact ⟨rfl, rfl⟩
    · rw [if_neg h2]
      have d3 : decide ((y : Int) < (x : Int)) = false := decide_eq_false (by omega)
      have d4 : decide (y < x) = false := decide_eq_false h2
      go_enter Tryz.func124, Tryz.ntmps124
      go_wp2_with fail
      refine (HA.out _).mono ?_
      rintro e w1 ⟨rfl, rfl⟩
      go_wp2_with fail
      refine (HB.out _).mono ?_
      rintro e w1 ⟨rfl, rfl⟩
      go_wp2_with fail
      go_ret
      exact ⟨rfl, rfl⟩

set_option maxHeartbeats 1000000 in
/-- cmp.Or of two numbers: the first one, if it isn't 0. -/
theorem or_own (g : Nat) (x y : Int) (w : World) (h0 : w.cell? ⟨g, 0, none⟩ = some (.int .i64 x)) (h1 : w.cell? ⟨g, 1, none⟩ = some (.int .i64 y)) :
    Calls Tryz.prog 122 #[.slice (some ⟨g, 0, none⟩) 2 2] w fun e w' => e = .returned (.int .i64 (if x = 0 then y else x)) ∧ w' = w := by
  have G0 := Lib.hid h0
  have G1 := Lib.hid h1
  clear h0 h1
  by_cases hx : x = 0
  · have b1 : (x != 0) = false := by simpa using hx
    rw [if_pos hx]
    clear hx
    by_cases hy : y = 0
    · have b2 : (y != 0) = false := by simpa using hy
      have HY := Lib.hid hy
      clear hy
      go_enter Tryz.func122, Tryz.ntmps122
      go_wp2_with fail
      refine wp_loop_rounds 3 ?_
      rw [rounds_succ]
      have g0 := G0.out
      go_wp2_with fail
      rw [rounds_succ]
      have g1 := G1.out
      go_wp2_with fail
      rw [rounds_succ]
      go_wp2_with fail
      go_ret
      exact ⟨by rw [HY.out]; rfl, rfl⟩
    · have b2 : (y != 0) = true := by simpa using hy
      go_enter Tryz.func122, Tryz.ntmps122
      go_wp2_with fail
      refine wp_loop_rounds 3 ?_
      rw [rounds_succ]
      have g0 := G0.out
      go_wp2_with fail
      rw [rounds_succ]
      have g1 := G1.out
      go_wp2_with fail
      go_ret
      exact ⟨rfl, rfl⟩
  · have b1 : (x != 0) = true := by simpa using hx
    rw [if_neg hx]
    go_enter Tryz.func122, Tryz.ntmps122
    go_wp2_with fail
    refine wp_loop_rounds 3 ?_
    rw [rounds_succ]
    have g0 := G0.out
    go_wp2_with fail
    go_ret
    exact ⟨rfl, rfl⟩
end Go.Proofs.YtlejobomjgccnaaGreat

namespace Go.Proofs.YtlejobomjgccnaaGreat
open Go.RowKit Go.Sort

theorem cmpE_of (a b : En) : (if cmpN a.hash b.hash = 0 then cmpN a.at_ b.at_ else cmpN a.hash b.hash) = cmpE a b := by
  unfold cmpN cmpE
  have L1 : LessE a b ↔ (a.hash < b.hash ∨ a.hash = b.hash ∧ a.at_ < b.at_) := Iff.rfl
  by_cases h1 : a.hash < b.hash
  · have hne : ¬ a = b := fun e => by rw [e] at h1; omega
    rw [if_pos h1, if_neg (by omega), if_neg hne, if_pos (L1.2 (.inl h1))]
  · by_cases h2 : b.hash < a.hash
    · have hne : ¬ a = b := fun e => by rw [e] at h2; omega
      rw [if_neg h1, if_pos h2, if_neg (by omega), if_neg hne, if_neg (fun h => by have := L1.1 h; omega)]
    · have he : a.hash = b.hash := by omega
      rw [if_neg h1, if_neg h2, if_pos rfl]
      by_cases h3 : a.at_ < b.at_
      · have hne : ¬ a = b := fun e => by rw [e] at h3; omega
        rw [if_pos h3, if_neg hne, if_pos (L1.2 (.inr ⟨he, h3⟩))]
      · by_cases h4 : b.at_ < a.at_
        · have hne : ¬ a = b := fun e => by rw [e] at h4; omega
          rw [if_neg h3, if_pos h4, if_neg hne, if_neg (fun h => by have := L1.1 h; omega)]
        · rw [if_neg h3, if_neg h4, if_pos (En.ext' he (by omega))]

set_option maxHeartbeats 4000000 in
set_option maxRecDepth 10000 in
/-- Compare, whatever the numbers are: nothing but draws and new blocks. -/
theorem compare_grown (a b : En) (w : World) : Calls Tryz.prog 97 #[enV a, enV b] w fun e w' => e = .returned (.int .i64 (cmpE a b)) ∧ Grown w w' := by
  have H64 := Lib.hid (fun w => cmp64_own a.hash b.hash w)
  have H32 := Lib.hid (fun w => cmp32_own a.at_ b.at_ w)
  obtain ⟨R, hR⟩ : ∃ R, R = cmpE a b := ⟨_, rfl⟩
  have HO : Hid ((if cmpN a.hash b.hash = 0 then cmpN a.at_ b.at_ else cmpN a.hash b.hash) = R) := Lib.hid ((cmpE_of a b).trans hR.symm)
  rw [← hR]
  clear hR
  obtain ⟨X, hX⟩ : ∃ X, X = cmpN a.hash b.hash := ⟨_, rfl⟩
  obtain ⟨Y, hY⟩ : ∃ Y, Y = cmpN a.at_ b.at_ := ⟨_, rfl⟩
  rw [← hX] at H64 HO
  rw [← hY] at H32 HO
  clear hX hY
  have HWa := Lib.hid ((Whole.new w 80 (enCells a)).alloc (.cells (enCells b) 80))
  have HWb := Lib.hid (Whole.newAt (w.alloc (.cells (enCells a) 80)) 80 (enCells b) (w.heap.size + 1) (by simp))
  have HGw := Lib.hid (((Grown.refl w).alloc (.cells (enCells a) 80)).alloc (.cells (enCells b) 80))
  unfold enV
  go_enter Tryz.func97, Tryz.ntmps97
  go_wp2_with fail
  obtain ⟨W0, hW⟩ : ∃ W0, W0 = (w.alloc (.cells #[.int .u64 (a.hash : Int), .int .u32 (a.at_ : Int)] 80)).alloc (.cells #[.int .u64 (b.hash : Int), .int .u32 (b.at_ : Int)] 80) := ⟨_, rfl⟩
  have HA : Hid (Whole W0.drew w.heap.size 80 (enCells a)) := Lib.hid (by rw [hW]; exact HWa.out)
  have HB : Hid (Whole W0.drew (w.heap.size + 1) 80 (enCells b)) := Lib.hid (by rw [hW]; exact HWb.out)
  have HG : Hid (Grown w W0.drew) := Lib.hid (by rw [hW]; exact HGw.out.drew)
  rw [← hW]
  clear hW HWa HWb HGw
  obtain ⟨W, hWd⟩ : ∃ W, W = W0.drew := ⟨_, rfl⟩
  rw [← hWd] at HA HB HG
  have s0 := And.intro (And.intro (HA.out.cell 0 rfl) (HA.out.cell 1 rfl)) (And.intro (HB.out.cell 0 rfl) (HB.out.cell 1 rfl))
  simp only [enCells, List.getElem_toArray, List.getElem_cons_zero, List.getElem_cons_succ] at s0
  refine wp_region_held_drew (S := fun w' => ((w'.cell? ⟨w.heap.size, 0, none⟩ = some (.int .u64 (a.hash : Int)) ∧ w'.cell? ⟨w.heap.size, 1, none⟩ = some (.int .u32 (a.at_ : Int))) ∧ (w'.cell? ⟨w.heap.size + 1, 0, none⟩ = some (.int .u64 (b.hash : Int)) ∧ w'.cell? ⟨w.heap.size + 1, 1, none⟩ = some (.int .u32 (b.at_ : Int))))) (by kernel_rfl) (by rw [← hWd]; exact s0) (fun hHeld => ?_)
  rw [← hWd]
  rw [← hWd] at hHeld
  clear hWd
  refine wpAnyH_take (i := 0) (v := ?vT1) rfl ?aT1 ?bT1 ?cT1 ?dT1 (Or.inl ⟨?eT1, ?fT1⟩) hHeld ?gT1
  case fT1 => intro w hSw; (try dsimp only at hSw); go_simp; (try with_reducible rfl)
  case aT1 => kernel_rfl
  case bT1 => kernel_rfl
  case cT1 => kernel_rfl
  case dT1 => exact fun _ _ _ h => h
  case eT1 => rfl
  simp only [Act.put, List.getElem_toArray, List.getElem_cons_zero, List.setIfInBounds_toArray, List.set_cons_zero, List.set_cons_succ]
  refine wpAnyH_take (i := 1) (v := ?vT2) rfl ?aT2 ?bT2 ?cT2 ?dT2 (Or.inl ⟨?eT2, ?fT2⟩) hHeld ?gT2
  case fT2 => intro w hSw; (try dsimp only at hSw); go_simp; (try with_reducible rfl)
  case aT2 => kernel_rfl
  case bT2 => kernel_rfl
  case cT2 => kernel_rfl
  case dT2 => exact fun _ _ _ h => h
  case eT2 => rfl
  simp only [Act.put, List.getElem_toArray, List.getElem_cons_zero, List.getElem_cons_succ, List.setIfInBounds_toArray, List.set_cons_zero, List.set_cons_succ]
  refine wpAnyH_take (i := 2) (v := ?vT3) rfl ?aT3 ?bT3 ?cT3 ?dT3 (Or.inl ⟨?eT3, ?fT3⟩) hHeld ?gT3
  case fT3 => intro w hSw; (try dsimp only at hSw); go_simp; (try with_reducible rfl)
  case aT3 => kernel_rfl
  case bT3 => kernel_rfl
  case cT3 => kernel_rfl
  case dT3 => exact fun _ _ _ h => h
  case eT3 => rfl
  simp only [Act.put, List.getElem_toArray, List.getElem_cons_zero, List.getElem_cons_succ, List.setIfInBounds_toArray, List.set_cons_zero, List.set_cons_succ]
  refine wpAnyH_take (i := 3) (v := ?vT4) rfl ?aT4 ?bT4 ?cT4 ?dT4 (Or.inl ⟨?eT4, ?fT4⟩) hHeld ?gT4
  case fT4 => intro w hSw; (try dsimp only at hSw); go_simp; (try with_reducible rfl)
  case aT4 => kernel_rfl
  case bT4 => kernel_rfl
  case cT4 => kernel_rfl
  case dT4 => exact fun _ _ _ h => h
  case eT4 => rfl
  simp only [Act.put, List.getElem_toArray, List.getElem_cons_zero, List.getElem_cons_succ, List.setIfInBounds_toArray, List.set_cons_zero, List.set_cons_succ]
  refine wpAnyH_take (i := 5) (v := ?vT5) rfl ?aT5 ?bT5 ?cT5 ?dT5 (Or.inl ⟨?eT5, ?fT5⟩) hHeld ?gT5
  case fT5 => intro w hSw; (try dsimp only at hSw); go_simp; (try with_reducible rfl)
  case aT5 => kernel_rfl
  case bT5 => kernel_rfl
  case cT5 => kernel_rfl
  case dT5 => exact fun _ _ _ h => h
  case eT5 => rfl
  simp only [Act.put, List.getElem_toArray, List.getElem_cons_zero, List.getElem_cons_succ, List.setIfInBounds_toArray, List.set_cons_zero, List.set_cons_succ]
  refine wpAnyH_take (i := 6) (v := ?vT6) rfl ?aT6 ?bT6 ?cT6 ?dT6 (Or.inl ⟨?eT6, ?fT6⟩) hHeld ?gT6
  case fT6 => intro w hSw; (try dsimp only at hSw); go_simp; (try with_reducible rfl)
  case aT6 => kernel_rfl
  case bT6 => kernel_rfl
  case cT6 => kernel_rfl
  case dT6 => exact fun _ _ _ h => h
  case eT6 => rfl
  simp only [Act.put, List.getElem_toArray, List.getElem_cons_zero, List.getElem_cons_succ, List.setIfInBounds_toArray, List.set_cons_zero, List.set_cons_succ]
  refine wpAnyH_take (i := 7) (v := ?vT7) rfl ?aT7 ?bT7 ?cT7 ?dT7 (Or.inl ⟨?eT7, ?fT7⟩) hHeld ?gT7
  case fT7 => intro w hSw; (try dsimp only at hSw); go_simp; (try with_reducible rfl)
  case aT7 => kernel_rfl
  case bT7 => kernel_rfl
  case cT7 => kernel_rfl
  case dT7 => exact fun _ _ _ h => h
  case eT7 => rfl
  simp only [Act.put, List.getElem_toArray, List.getElem_cons_zero, List.getElem_cons_succ, List.setIfInBounds_toArray, List.set_cons_zero, List.set_cons_succ]
  refine wpAnyH_take (i := 8) (v := ?vT8) rfl ?aT8 ?bT8 ?cT8 ?dT8 (Or.inl ⟨?eT8, ?fT8⟩) hHeld ?gT8
  case fT8 => intro w hSw; (try dsimp only at hSw); go_simp; (try with_reducible rfl)
  case aT8 => kernel_rfl
  case bT8 => kernel_rfl
  case cT8 => kernel_rfl
  case dT8 => exact fun _ _ _ h => h
  case eT8 => rfl
  simp only [Act.put, List.getElem_toArray, List.getElem_cons_zero, List.getElem_cons_succ, List.setIfInBounds_toArray, List.set_cons_zero, List.set_cons_succ]
  refine wpAnyH_ready (rs := [4]) (by kernel_rfl) (by simp) ?_
  refine (AllReadyH.cons (o := _) rfl (fun K hK => ?_) AllReadyH.nil)
  go_simp
  refine (H64.out _).mono ?_
  rintro e9 w9 ⟨rfl, hw9⟩
  have hw9' : W = w9 := hw9.symm
  subst hw9'
  clear hw9
  go_wp2_with fail
  refine hK.out _ _ s0 (fun _ => ?_)
  clear hK K
  refine wpAnyH_ready (rs := [9]) (by kernel_rfl) (by simp) ?_
  refine (AllReadyH.cons (o := _) rfl (fun K hK => ?_) AllReadyH.nil)
  go_simp
  refine (H32.out _).mono ?_
  rintro e9 w9 ⟨rfl, hw9⟩
  have hw9' : W = w9 := hw9.symm
  subst hw9'
  clear hw9
  go_wp2_with fail
  refine hK.out _ _ s0 (fun _ => ?_)
  clear hK K
  refine wpAnyH_ready (rs := [10]) (by kernel_rfl) (by simp) ?_
  refine (AllReadyH.cons (o := _) rfl (fun K hK => ?_) AllReadyH.nil)
  go_simp
  have s1 : (fun w' => ((w'.cell? ⟨w.heap.size, 0, none⟩ = some (.int .u64 (a.hash : Int)) ∧ w'.cell? ⟨w.heap.size, 1, none⟩ = some (.int .u32 (a.at_ : Int))) ∧ (w'.cell? ⟨w.heap.size + 1, 0, none⟩ = some (.int .u64 (b.hash : Int)) ∧ w'.cell? ⟨w.heap.size + 1, 1, none⟩ = some (.int .u32 (b.at_ : Int))))) (W.alloc (.cells #[.int .i64 X, .int .i64 Y] 3)) := And.intro (And.intro ((HA.out.alloc _).cell 0 rfl) ((HA.out.alloc _).cell 1 rfl)) (And.intro ((HB.out.alloc _).cell 0 rfl) ((HB.out.alloc _).cell 1 rfl))
  have HR := (or_own W.heap.size X Y (W.alloc (.cells #[.int .i64 X, .int .i64 Y] 3)) (Whole.cell (Whole.new W 3 #[.int .i64 X, .int .i64 Y]) 0 rfl) (Whole.cell (Whole.new W 3 #[.int .i64 X, .int .i64 Y]) 1 rfl))
  rw [HO.out] at HR
  have HR := Lib.hid HR
  have HG := Lib.hid (HG.out.alloc (.cells #[.int .i64 X, .int .i64 Y] 3))
  refine hK.out _ _ s1 (fun _ => ?_)
  clear hK K
  refine wpAnyH_ready (rs := [11]) (by kernel_rfl) (by simp) ?_
  refine (AllReadyH.cons (o := _) rfl (fun K hK => ?_) AllReadyH.nil)
  go_simp
  refine HR.out.mono ?_
  rintro e9 w9 ⟨rfl, hw9⟩
  subst hw9
  go_wp2_with fail
  refine hK.out _ _ s1 (fun _ => ?_)
  clear hK K
  refine wpAnyH_take (i := 12) (v := ?vT9) rfl ?aT9 ?bT9 ?cT9 ?dT9 (Or.inl ⟨?eT9, ?fT9⟩) s1 ?gT9
  case fT9 => intro w hSw; (try dsimp only at hSw); go_simp; (try with_reducible rfl)
  case aT9 => kernel_rfl
  case bT9 => kernel_rfl
  case cT9 => kernel_rfl
  case dT9 => exact fun _ _ _ h => h
  case eT9 => rfl
  simp only [Act.put, List.getElem_toArray, List.getElem_cons_zero, List.getElem_cons_succ, List.setIfInBounds_toArray, List.set_cons_zero, List.set_cons_succ]
  refine wpAnyH_done (by kernel_rfl) ?_ _
  go_wp2_with fail
  go_ret
  exact ⟨rfl, by first | exact HG.out | exact HG.out.drew⟩
end Go.Proofs.YtlejobomjgccnaaGreat

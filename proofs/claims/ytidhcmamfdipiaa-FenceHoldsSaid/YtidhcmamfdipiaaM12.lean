/-
  CobsRef2; Copied; CobsLaws; CobsGrp; CobsFirst; CobsIter.
-/
import Derived.Deep.RegionHeld3
import Derived.Deep.CutRange
import Derived.Deep.DeepCutAuto
import Derived.Lib.SlBytesConst
import Derived.Lib.BytesEntry
import Derived.Laws.Externs
import Derived.RangeFuncBox
import Derived.RangeFuncNested
import Derived.RangeFuncBound
import Derived.RangeFuncCalls
import Derived.RangeFuncLeaves
import Derived.Shelf.Abstract
import Derived.Shelf.RegionOpen
import Derived.OwnWalkIn
import Derived.TacticsInMore
import Derived.LoopNIn
import Derived.LoopIn
import Derived.Maps.AppendAt
import Derived.Test.YtidhcmamfdipiaaM01
import Derived.Test.YtidhcmamfdipiaaM02
import Derived.Test.YtidhcmamfdipiaaM05
import Derived.Test.YtidhcmamfdipiaaM11
namespace Go.Proofs.Ytidhcmamfdipiaa
open Go.RowKit

/-- Where the second loop stands: what is out, what is left. -/
def UnAt (xs O R : List Int) : Prop := (dec R).map (O ++ ·) = dec xs ∧ O.length + R.length ≤ xs.length ∧ Octets O ∧ Solid R

theorem UnAt.start {xs : List Int} (h : Solid xs) : UnAt xs [] xs := ⟨by simp, by simp, fun b hb => by simp at hb, h⟩
theorem UnAt.short {xs O R : List Int} {n : Int} {r : List Int} (h : UnAt xs O R) (hR : R = n :: r) (hs : r.length + 1 < n.toNat) : dec xs = none := by
  subst hR
  rw [← h.1, dec, if_pos hs]
  rfl
theorem UnAt.done {xs O : List Int} (h : UnAt xs O []) : dec xs = some O := by
  rw [← h.1, dec]
  simp
theorem UnAt.step {xs O R : List Int} {n : Int} {r : List Int} (h : UnAt xs O R) (hR : R = n :: r) (hs : ¬ r.length + 1 < n.toNat) :
    UnAt xs (O ++ r.take (n.toNat - 1) ++ (if n < 255 ∧ r.drop (n.toNat - 1) ≠ [] then [0] else [])) (r.drop (n.toNat - 1)) := by
  subst hR
  obtain ⟨h1, h2, h3, h4⟩ := h
  have hn := h4 n List.mem_cons_self
  have hr : Solid r := fun b hb => h4 b (List.mem_cons_of_mem _ hb)
  refine ⟨?_, ?_, ?_, fun b hb => hr b (List.mem_of_mem_drop hb)⟩
  · rw [← h1, dec, if_neg hs, Option.map_map]
    congr 1
    funext o
    simp
  · have : (if n < 255 ∧ r.drop (n.toNat - 1) ≠ [] then [0] else ([] : List Int)).length ≤ 1 := by split <;> simp
    simp only [List.length_append, List.length_take, List.length_drop, List.length_cons] at h2 ⊢
    omega
  · intro b hb
    rcases List.mem_append.1 hb with hb | hb
    · rcases List.mem_append.1 hb with hb | hb
      · exact h3 b hb
      · exact hr.octets b (List.mem_of_mem_take hb)
    · split at hb
      · rw [List.mem_singleton.1 hb]; omega
      · simp at hb

end Go.Proofs.Ytidhcmamfdipiaa

namespace Go.Proofs.Ytidhcmamfdipiaa
open Go.RowKit

/-- A copy of bytes in new memory. -/
def Copied (w0 : World) (N : Nat) (xs : List Int) (v : Value) (wx : World) : Prop :=
  wx.ownsRow w0.heap.size 5 1 v N (xs.map (Value.int .u8)) ∧ Below w0.heap.size w0 wx

theorem Copied.read {w0 wx : World} {N : Nat} {xs : List Int} {v : Value} (h : Copied w0 N xs v wx) (hn : N = xs.length) : ∃ q d, v = .slice q N d ∧ N ≤ d ∧ d ≤ 9223372036854775807 ∧ Bytes8 wx q xs := by
  obtain ⟨⟨_, ⟨rfl, rfl⟩ | ⟨g, cap, cur, rfl, hg, hh, hc1, hc2, hc3, hc4⟩⟩, _⟩ := h
  · exact ⟨none, 0, rfl, Nat.le_refl _, by omega, fun h => by omega⟩
  · unfold maxLen at hc2
    refine ⟨_, cap, rfl, hc1, by omega, fun hx => ⟨_, rfl, fun i hi => ?_⟩⟩
    have hw : Whole wx g 5 cur := hh
    have hcell : cur[i]? = some (.int .u8 (xs.getD i 0)) := by
      have e : (cur.toList.take (N * 1))[i]? = (xs.map (Value.int .u8))[i]? := by rw [hc4]
      rw [List.getElem?_take, if_pos (by omega)] at e
      rw [← Array.getElem?_toList, e]
      simp [hi]
    rw [addZero]
    exact hw.cell i hcell

theorem Copied.read2 {w0 wx : World} {N : Nat} {xs : List Int} {v : Value} (h : Copied w0 N xs v wx) (hn : N = xs.length) : ∃ q d, v = .slice q N d ∧ N ≤ d ∧ d ≤ 9223372036854775807 ∧ Bytes8 wx q xs ∧ (q = none → N = 0 ∧ d = 0) := by
  obtain ⟨q, d, hv, h1, h2, h3⟩ := h.read hn
  cases q with
  | some a => exact ⟨_, d, hv, h1, h2, h3, fun h => by simp at h⟩
  | none =>
    have hN : N = 0 := by
      rcases Nat.eq_zero_or_pos N with h0 | h0
      · exact h0
      · obtain ⟨a, ha, _⟩ := h3 (by omega)
        simp at ha
    obtain ⟨⟨_, ⟨rfl, _⟩ | ⟨g, cap, cur, rfl, _⟩⟩, _⟩ := h
    · exact ⟨none, 0, by rw [hN], by omega, by omega, h3, fun _ => ⟨hN, rfl⟩⟩
    · simp at hv

theorem Copied.whole {w0 wx : World} {N : Nat} {xs : List Int} {v : Value} (h : Copied w0 N xs v wx) (hn : N = xs.length) (h0 : 0 < N) :
    ∃ g d cur, v = .slice (some ⟨g, 0, none⟩) N d ∧ N ≤ d ∧ d ≤ 9223372036854775807 ∧ w0.heap.size ≤ g ∧ Whole wx g 5 cur ∧ ∀ i, i < N → cur[i]? = some (.int .u8 (xs.getD i 0)) := by
  obtain ⟨⟨_, ⟨rfl, rfl⟩ | ⟨g, cap, cur, rfl, hg, hh, hc1, hc2, hc3, hc4⟩⟩, _⟩ := h
  · omega
  · unfold maxLen at hc2
    refine ⟨g, cap, cur, rfl, hc1, by omega, hg, hh, fun i hi => ?_⟩
    have e : (cur.toList.take (N * 1))[i]? = (xs.map (Value.int .u8))[i]? := by rw [hc4]
    rw [List.getElem?_take, if_pos (by omega)] at e
    rw [← Array.getElem?_toList, e]
    simp [show i < xs.length by omega]

/-- A block of n bytes at least. -/
def Bytish (w : World) (g n : Nat) : Prop := ∃ cur, Whole w g 5 cur ∧ ∀ i, i < n → ∃ x : Int, cur[i]? = some (.int .u8 x) ∧ 0 ≤ x ∧ x < 256

theorem Copied.both {w0 wx : World} {N : Nat} {xs : List Int} {v : Value} (h : Copied w0 N xs v wx) (hn : N = xs.length) (ho : Octets xs) :
    ∃ (q : Option Addr) (d g : Nat), v = .slice q N d ∧ N ≤ d ∧ d ≤ 9223372036854775807 ∧ Bytes8 wx q xs ∧ (q = none → N = 0 ∧ d = 0) ∧ w0.heap.size ≤ g ∧ (0 < N → q = some ⟨g, 0, none⟩) ∧ (0 < N → Bytish wx g N) := by
  obtain ⟨q, d, hv, h1, h2, h3, h4⟩ := h.read2 hn
  by_cases h0 : 0 < N
  · obtain ⟨g, d', cur, hv', _, _, hg, hw, hc⟩ := h.whole hn h0
    have e := hv.symm.trans hv'
    simp only [Value.slice.injEq] at e
    refine ⟨q, d, g, hv, h1, h2, h3, h4, hg, fun _ => e.1, fun _ => ⟨cur, hw, fun i hi => ⟨_, hc i hi, ?_⟩⟩⟩
    exact ho.getD i
  · exact ⟨q, d, w0.heap.size, hv, h1, h2, h3, h4, Nat.le_refl _, fun h => absurd h h0, fun h => absurd h h0⟩
end Go.Proofs.Ytidhcmamfdipiaa

namespace Go.Proofs.Ytidhcmamfdipiaa
open Go.RowKit

theorem stuff_none : stuff [] = [1] := by decide
theorem stuff_nought : stuff [0] = [1, 1] := by decide
theorem stuff_mid : stuff [7, 0, 8] = [2, 7, 2, 8] := by decide

theorem Bytes8.ofNew1 (w : World) (t : TypeId) (f : Nat × Nat) (a : Int) : Bytes8 (w.alloc (.cells #[.int .u8 a] t f)) (some ⟨w.heap.size, 0, none⟩) [a] := fun _ => by
  refine ⟨_, rfl, fun i hi => ?_⟩
  have : i = 0 := by simp at hi; omega
  subst this
  rw [addZero]
  exact cell_new _ _ _ _ _ rfl
theorem Bytes8.ofNew3 (w : World) (t : TypeId) (f : Nat × Nat) (a b c : Int) : Bytes8 (w.alloc (.cells #[.int .u8 a, .int .u8 b, .int .u8 c] t f)) (some ⟨w.heap.size, 0, none⟩) [a, b, c] := fun _ => by
  refine ⟨_, rfl, fun i hi => ?_⟩
  have : i = 0 ∨ i = 1 ∨ i = 2 := by simp at hi; omega
  rcases this with rfl | rfl | rfl <;> (rw [addZero]; exact cell_new _ _ _ _ _ rfl)

/-- So many bytes, none of them a nought. -/
def solidN (m : Nat) : List Int := (List.range m).map fun i => ((1 + i % 255 : Nat) : Int)
theorem solidN_length (m : Nat) : (solidN m).length = m := by simp [solidN]
theorem solidN_succ (m : Nat) : solidN (m + 1) = solidN m ++ [((1 + m % 255 : Nat) : Int)] := by
  unfold solidN
  rw [List.range_succ, List.map_append]
  rfl
theorem solidN_solid (m : Nat) : Solid (solidN m) := fun b hb => by
  obtain ⟨i, _, rfl⟩ := List.mem_map.1 hb
  omega

end Go.Proofs.Ytidhcmamfdipiaa

namespace Go.Proofs.Ytidhcmamfdipiaa

theorem takeWhile_all {xs : List Int} (h : ∀ b ∈ xs, b ≠ 0) : xs.takeWhile (fun b => decide (b ≠ 0)) = xs := by
  induction xs with
  | nil => rfl
  | cons b r ih =>
    rw [List.takeWhile_cons_of_pos (by simpa using h b List.mem_cons_self), ih (fun x hx => h x (List.mem_cons_of_mem _ hx))]

/-- How many bytes of the first group aren't noughts. -/
def firstN (xs : List Int) : Nat := ((xs.take 254).takeWhile (fun b => decide (b ≠ 0))).length

theorem firstN_le (xs : List Int) : firstN xs ≤ xs.length := by
  unfold firstN
  have h := (List.takeWhile_prefix (l := xs.take 254) (fun b => decide (b ≠ 0))).length_le
  rw [List.length_take] at h
  omega
theorem firstN_full (xs : List Int) : firstN xs ≤ 254 := by
  unfold firstN
  have h := (List.takeWhile_prefix (l := xs.take 254) (fun b => decide (b ≠ 0))).length_le
  rw [List.length_take] at h
  omega

/-- A group's bytes that aren't noughts, and those of the groups behind it. -/
def groupsOf (xs : List Int) : List (List Int) :=
  xs.take (firstN xs) :: if h : firstN xs = xs.length then [] else groupsOf (xs.drop (if firstN xs < 254 then firstN xs + 1 else firstN xs))
termination_by xs.length
decreasing_by
  have := firstN_le xs
  rw [List.length_drop]
  split <;> omega

theorem groupsOf_end {xs : List Int} (h : firstN xs = xs.length) : groupsOf xs = [xs.take (firstN xs)] := by
  rw [groupsOf, dif_pos h]
theorem groupsOf_more {xs : List Int} (h : firstN xs ≠ xs.length) : groupsOf xs = xs.take (firstN xs) :: groupsOf (xs.drop (if firstN xs < 254 then firstN xs + 1 else firstN xs)) := by
  rw [groupsOf, dif_neg h]

/-- What is written of groups. -/
def told : List (List Int) → List Int
  | [] => []
  | g :: gs => (((g.length + 1 : Nat) : Int) :: g) ++ told gs
theorem told_snoc : ∀ (gs : List (List Int)) (g : List Int), told (gs ++ [g]) = told gs ++ (((g.length + 1 : Nat) : Int) :: g)
  | [], g => by simp [told]
  | h :: gs, g => by simp [told, told_snoc gs g]
/-- How many bytes that is. -/
def toldN : List (List Int) → Nat
  | [] => 0
  | g :: gs => (g.length + 1) + toldN gs
theorem toldN_told : ∀ gs, toldN gs = (told gs).length
  | [] => rfl
  | g :: gs => by simp [told, toldN, toldN_told gs]; omega
theorem told_len : ∀ (gs : List (List Int)), (∀ g ∈ gs, g.length ≤ 254) → (told gs).length ≤ 255 * gs.length
  | [], _ => by simp [told]
  | g :: gs, h => by
    have h1 := h g List.mem_cons_self
    have h2 := told_len gs (fun x hx => h x (List.mem_cons_of_mem _ hx))
    simp only [told, List.length_append, List.length_cons]
    omega

theorem firstN_solid {xs : List Int} (h : ∀ b ∈ xs, b ≠ 0) (hl : xs.length ≤ 254) : firstN xs = xs.length := by
  unfold firstN
  rw [List.take_of_length_le hl, takeWhile_all h]
theorem firstN_nought {now r : List Int} (h : ∀ b ∈ now, b ≠ 0) (hl : now.length < 254) : firstN (now ++ 0 :: r) = now.length := by
  unfold firstN
  rw [List.take_append, List.take_of_length_le (by omega), List.takeWhile_append_of_pos (fun b hb => decide_eq_true (h b hb))]
  obtain ⟨k, hk⟩ : ∃ k, 254 - now.length = k + 1 := ⟨254 - now.length - 1, by omega⟩
  rw [hk]
  simp
theorem firstN_long {now r : List Int} (h : ∀ b ∈ now, b ≠ 0) (hl : now.length = 254) : firstN (now ++ r) = 254 := by
  unfold firstN
  rw [List.take_append, List.take_of_length_le (by omega), hl]
  simp only [Nat.sub_self, List.take_zero, List.append_nil]
  rw [takeWhile_all h, hl]

theorem stuffGo_groups : ∀ (r now : List Int), now.length < 254 → (∀ b ∈ now, b ≠ 0) → stuffGo now false r = told (groupsOf (now ++ r))
  | [], now, hl, hn => by
    rw [List.append_nil, groupsOf_end (firstN_solid hn (by omega)), firstN_solid hn (by omega), List.take_length]
    simp [stuffGo, told]
  | b :: r, now, hl, hn => by
    unfold stuffGo
    by_cases hb : b = 0
    · subst hb
      rw [if_pos rfl, groupsOf_more (by rw [firstN_nought hn hl]; simp), firstN_nought hn hl, if_pos hl, stuffGo_groups r [] (by decide) (by simp)]
      rw [show (now ++ 0 :: r).drop (now.length + 1) = r by rw [List.drop_append]; simp]
      simp [told]
    · have hn' : ∀ x ∈ now ++ [b], x ≠ 0 := fun x hx => by
        rcases List.mem_append.1 hx with h | h
        · exact hn x h
        · rw [List.mem_singleton.1 h]; exact hb
      rw [if_neg hb, show now ++ b :: r = (now ++ [b]) ++ r by simp]
      by_cases h254 : now.length + 1 = 254
      · have hl' : (now ++ [b]).length = 254 := by simpa using h254
        rw [if_pos h254]
        cases r with
        | nil =>
          rw [List.append_nil, groupsOf_end (firstN_solid hn' (by omega)), firstN_solid hn' (by omega), List.take_length]
          have e : (((now ++ [b]).length + 1 : Nat) : Int) = 255 := by rw [hl']; rfl
          simp only [stuffGo, told, e, List.append_nil]
          simp
        | cons c r =>
          have hf := firstN_long (r := c :: r) hn' hl'
          have e : ((((now ++ [b]).length) + 1 : Nat) : Int) = 255 := by rw [hl']; rfl
          have ht : stuffGo [] true (c :: r) = stuffGo [] false (c :: r) := by simp [stuffGo]
          rw [groupsOf_more (by rw [hf]; simp at hl' ⊢; omega), hf, if_neg (by decide), ht, stuffGo_groups (c :: r) [] (by decide) (by simp)]
          rw [show ((now ++ [b]) ++ c :: r).take 254 = now ++ [b] by rw [← hl', List.take_left], show ((now ++ [b]) ++ c :: r).drop 254 = c :: r by rw [← hl', List.drop_left]]
          simp only [told, e, List.nil_append]
      · rw [if_neg h254, stuffGo_groups r (now ++ [b]) (by simp; omega) hn']
theorem stuff_groups (xs : List Int) : stuff xs = told (groupsOf xs) := by
  have := stuffGo_groups xs [] (by decide) (by simp)
  simpa [stuff] using this

/-- What bytes.IndexByte answers of a nought. -/
theorem index_none {xs : List Int} (h : ∀ b ∈ xs, b ≠ 0) (ho : Octets xs) : Lib.indexByte (Lib.bytesOf xs) 0 = -1 := by
  induction xs with
  | nil => rfl
  | cons b r ih =>
    have hb := ho b List.mem_cons_self
    have hz := h b List.mem_cons_self
    have e : (UInt8.ofNat b.toNat == 0) = false := by
      have : UInt8.ofNat b.toNat ≠ 0 := fun e => by
        have := congrArg UInt8.toNat e
        simp at this
        omega
      simpa using this
    have ih := ih (fun x hx => h x (List.mem_cons_of_mem _ hx)) (fun x hx => ho x (List.mem_cons_of_mem _ hx))
    simp only [Lib.bytesOf, List.map_cons, Lib.indexByte, e] at ih ⊢
    simp [ih]
theorem index_some {now r : List Int} (h : ∀ b ∈ now, b ≠ 0) (ho : Octets now) : Lib.indexByte (Lib.bytesOf (now ++ 0 :: r)) 0 = (now.length : Int) := by
  induction now with
  | nil => rfl
  | cons b q ih =>
    have hb := ho b List.mem_cons_self
    have hz := h b List.mem_cons_self
    have e : (UInt8.ofNat b.toNat == 0) = false := by
      have : UInt8.ofNat b.toNat ≠ 0 := fun e => by
        have := congrArg UInt8.toNat e
        simp at this
        omega
      simpa using this
    have ih := ih (fun x hx => h x (List.mem_cons_of_mem _ hx)) (fun x hx => ho x (List.mem_cons_of_mem _ hx))
    simp only [Lib.bytesOf, List.map_append, List.map_cons, List.cons_append, Lib.indexByte, e] at ih ⊢
    rw [ih]
    have : ((q.length : Int) == -1) = false := by simp
    simp [this]

/-- The first nought of bytes. -/
def nought (xs : List Int) : Int := if 0 ∈ xs then ((xs.takeWhile (fun b => decide (b ≠ 0))).length : Int) else -1
theorem split_nought {xs : List Int} (h : 0 ∈ xs) : ∃ r, xs = xs.takeWhile (fun b => decide (b ≠ 0)) ++ 0 :: r := by
  induction xs with
  | nil => simp at h
  | cons b q ih =>
    by_cases hb : b = 0
    · subst hb
      exact ⟨q, by simp⟩
    · obtain ⟨r, hr⟩ := ih (by rcases List.mem_cons.1 h with h | h; exact absurd h.symm hb; exact h)
      refine ⟨r, ?_⟩
      rw [List.takeWhile_cons_of_pos (by simpa using hb), List.cons_append, ← hr]
theorem takeWhile_ne {xs : List Int} : ∀ b ∈ xs.takeWhile (fun b => decide (b ≠ 0)), b ≠ 0 := fun b hb => by
  have h : (xs.takeWhile (fun b => decide (b ≠ 0))).all (fun b => decide (b ≠ 0)) = true := List.all_takeWhile
  exact of_decide_eq_true (List.all_eq_true.1 h b hb)
theorem index_nought {xs : List Int} (ho : Octets xs) : Lib.indexByte (Lib.bytesOf xs) 0 = nought xs := by
  unfold nought
  by_cases h : 0 ∈ xs
  · rw [if_pos h]
    obtain ⟨r, hr⟩ := split_nought h
    have := index_some (now := xs.takeWhile (fun b => decide (b ≠ 0))) (r := r) takeWhile_ne (fun b hb => ho b ((List.takeWhile_prefix _).subset hb))
    rw [← hr] at this
    exact this
  · rw [if_neg h]
    exact index_none (fun b hb e => h (e ▸ hb)) ho
theorem firstN_nought_some {xs : List Int} (h : 0 ∈ xs.take 254) : nought (xs.take 254) = (firstN xs : Int) := by
  unfold nought
  rw [if_pos h]
  rfl
theorem firstN_nought_none {xs : List Int} (h : 0 ∉ xs.take 254) : nought (xs.take 254) = -1 ∧ firstN xs = (xs.take 254).length := by
  unfold nought firstN
  rw [if_neg h, takeWhile_all (fun b hb e => h (e ▸ hb))]
  exact ⟨rfl, rfl⟩
end Go.Proofs.Ytidhcmamfdipiaa

namespace Go.Proofs.Ytidhcmamfdipiaa
open Go.RowKit

theorem run_index (w : World) (p : Option Addr) (n c : Nat) (xs : List Int) (hx : n = xs.length) (ho : Octets xs) (hb : Bytes8 w p xs) (hn0 : p = none → n = 0) :
    (Extern.BytealgIndexByte.indexByte #[.slice p n c, .int .u8 0]).run Try.prog w = .ok (.int .i64 (nought xs)) w := by
  have hs := Lib.run_indexByteString (P := Try.prog) ⟨(Lib.bytesOf xs).toArray⟩ 0 w
  have hl : (Extern.Bytes.bytesOf (.slice p n c)).run Try.prog w = .ok (⟨(Lib.bytesOf xs).toArray⟩ : ByteArray) w := by
    cases p with
    | none =>
      have h0 := hn0 rfl
      obtain rfl : xs = [] := List.length_eq_zero_iff.1 (by omega)
      rfl
    | some a =>
      have h := Lib.run_loadBytesX (P := Try.prog) w xs a .empty (fun j x hj => by
        have hjl : j < xs.length := (List.getElem?_eq_some_iff.1 hj).1
        obtain ⟨a', ha', hc⟩ := hb (by omega)
        obtain rfl := Option.some.inj ha'
        rw [hc j hjl, List.getD_eq_getElem?_getD, hj]
        rfl)
      rw [← hx] at h
      have he : (⟨ByteArray.empty.data ++ (Lib.bytesOf xs).toArray⟩ : ByteArray) = ⟨(Lib.bytesOf xs).toArray⟩ := by
        apply ByteArray.ext
        show (#[] : Array UInt8) ++ (Lib.bytesOf xs).toArray = (Lib.bytesOf xs).toArray
        simp
      rw [he] at h
      exact h
  rw [show ((0 : Int).toNat.toUInt8) = (0 : UInt8) from rfl, show ((⟨(Lib.bytesOf xs).toArray⟩ : ByteArray).data.toList) = Lib.bytesOf xs from rfl, index_nought ho] at hs
  change Sem.run Try.prog (do
    let b ← Extern.Bytes.bytesOf (.slice p n c)
    let c ← Extern.Bytes.asByte (.int .u8 0)
    match (List.range b.size).find? fun i => b[i]! == c with
    | some i => pure (goInt i)
    | none => pure (goInt (-1))) w = _
  change Sem.run Try.prog (do
    let b ← Extern.Bytes.bytesOf (.string ⟨(Lib.bytesOf xs).toArray⟩)
    let c ← Extern.Bytes.asByte (.int .u8 0)
    match (List.range b.size).find? fun i => b[i]! == c with
    | some i => pure (goInt i)
    | none => pure (goInt (-1))) w = _ at hs
  rw [Sem.run_bind, hl]
  simp only [Extern.Bytes.bytesOf, Sem.run_bind, Sem.run_pure, Result.andThen] at hs ⊢
  exact hs

end Go.Proofs.Ytidhcmamfdipiaa

namespace Go.Proofs.Ytidhcmamfdipiaa
open Go.RowKit Go.Shelf
attribute [local go_sem] Oper.semAt_some

/-- A group, where it lies in the world w. -/
structure Grp (w : World) where
  q : Option Addr
  n : Nat
  d : Nat
  g : List Int
  hn : n = g.length
  hd : n ≤ d
  hd' : d ≤ 9223372036854775807
  hq : q = none → n = 0 ∧ d = 0
  hb : Bytes8 w q g
  h254 : n ≤ 254
  ho : Octets g

theorem Bytes8.below {w W : World} {p : Option Addr} {xs : List Int} (h : Bytes8 w p xs) (hB : Below w.heap.size w W) : Bytes8 W p xs :=
  h.keep (Keeps.ofBelow (S := NoBlock) hB) (fun _ _ h => h)

theorem tail_bytes {w : World} {q q' : Option Addr} {R : List Int} {m : Nat} (h : Bytes8 w q R) (hm : m = R.length) (j : Nat) (hj : j ≤ m) (hq : 0 < m - j → q' = q.map (·.add j)) : Bytes8 w q' (R.drop j) := by
  have h1 := h.piece (q := q') j (m - j) (by omega) hq
  rwa [List.take_of_length_le (by rw [List.length_drop]; omega)] at h1

def sliceLen : Value → Nat
  | .slice _ n _ => n
  | _ => 0

end Go.Proofs.Ytidhcmamfdipiaa

/-
  What the laws of package cobs ask of its functions; the laws' own helpers, lives and long.
-/
import Derived.Test.YtckebghkilamjaaCobsRef2
import Derived.Test.YtckebghkilamjaaWSumsWalk
import Derived.Test.YtckebghkilamjaaWPartsWalk
namespace Go.Proofs.Ytckebghkilamjaa
open Go.RowKit

/-- New bytes are answered. -/
def NewBytes (w : World) (ys : List Int) (v : Value) (w' : World) : Prop :=
  ∃ (q : Option Addr) (m d : Nat), v = .slice q m d ∧ m = ys.length ∧ m ≤ d ∧ d ≤ 9223372036854775807 ∧ (q = none → m = 0 ∧ d = 0) ∧ Bytes8 w' q ys ∧ Keeps NoBlock w w'

/-- The contracts of Stuff, Unstuff, Size, Most. -/
structure CobsOk : Prop where
  stuff : ∀ (p : Option Addr) (N c : Nat) (xs : List Int) (w : World), N = xs.length → N ≤ c → c ≤ 9223372036854775807 → (p = none → N = 0 ∧ c = 0) → Octets xs → N ≤ 1000000 → Bytes8 w p xs →
    Calls Try.prog 9 #[.slice p N c] w fun e w' => ∃ v, e = .returned v ∧ NewBytes w (Go.Proofs.Ytckebghkilamjaa.stuff xs) v w'
  unstuff : ∀ (p : Option Addr) (N c : Nat) (xs : List Int) (w : World), N = xs.length → N ≤ c → c ≤ 9223372036854775807 → (p = none → N = 0 ∧ c = 0) → Octets xs → N ≤ 1000000 → Bytes8 w p xs →
    Calls Try.prog 10 #[.slice p N c] w fun e w' => ∃ v, e = .returned (.tuple #[v, .int .i64 (unst xs).1]) ∧ NewBytes w (unst xs).2 v w'
  size : ∀ (p : Option Addr) (N c : Nat) (xs : List Int) (w : World), N = xs.length → N ≤ c → c ≤ 9223372036854775807 → (p = none → N = 0 ∧ c = 0) → Octets xs → N ≤ 1000000 → Bytes8 w p xs →
    Calls Try.prog 12 #[.slice p N c] w fun e w' => e = .returned (.int .i64 ((Go.Proofs.Ytckebghkilamjaa.stuff xs).length : Int)) ∧ Keeps NoBlock w w'
  most : ∀ (z : Int) (w : World), -1000000 ≤ z → z ≤ 1000000 →
    Calls Try.prog 13 #[.int .i64 z] w fun e w' => e = .returned (.int .i64 ((mostOf z.toNat : Nat) : Int)) ∧ Keeps NoBlock w w'

theorem stuff_none : stuff [] = [1] := by decide
theorem stuff_nought : stuff [0] = [1, 1] := by decide
theorem stuff_mid : stuff [7, 0, 8] = [2, 7, 2, 8] := by decide

theorem Bytes8.ofNew1 (w : World) (t : TypeId) (f : Nat × Nat) (a : Int) : Bytes8 (w.alloc (.cells #[.int .u8 a] t f)) (some ⟨w.heap.size, 0, none⟩) [a] := fun _ => by
  refine ⟨_, rfl, fun i hi => ?_⟩
  have : i = 0 := by simp at hi; omega
  subst this
  rw [addZero]
  exact cell_new _ _ _ _ _ rfl
theorem Bytes8.ofNew3 (w : World) (t : TypeId) (f : Nat × Nat) (a b c : Int) : Bytes8 (w.alloc (.cells #[.int .u8 a, .int .u8 b, .int .u8 c] t f)) (some ⟨w.heap.size, 0, none⟩) [a, b, c] := fun _ => by
  refine ⟨_, rfl, fun i hi => ?_⟩
  have : i = 0 ∨ i = 1 ∨ i = 2 := by simp at hi; omega
  rcases this with rfl | rfl | rfl <;> (rw [addZero]; exact cell_new _ _ _ _ _ rfl)

set_option maxHeartbeats 2000000 in
theorem lives5_true (H : CobsOk) (w : World) : Calls Try.prog 7 #[] w fun e w' => e = .returned (.bool true) ∧ Keeps NoBlock w w' := by
  have H0 := Lib.hid (fun w => H.stuff none 0 0 [] w rfl (Nat.le_refl _) (by decide) (fun _ => ⟨rfl, rfl⟩) (fun b hb => by simp at hb) (by decide) (Bytes8.nil _ _))
  have H1 := Lib.hid (fun w a hb => H.stuff (some a) 1 1 [0] w rfl (Nat.le_refl _) (by decide) (fun h => by simp at h) (fun b hb => by simp at hb; omega) (by decide) hb)
  have H2 := Lib.hid (fun w a hb => H.stuff (some a) 3 3 [7, 0, 8] w rfl (Nat.le_refl _) (by decide) (fun h => by simp at h) (fun b hb => by simp at hb; omega) (by decide) hb)
  rw [stuff_none] at H0
  rw [stuff_nought] at H1
  rw [stuff_mid] at H2
  have he1 : ((strOfNums [1]).toList == [1]) = true := by rw [ByteArray.toList_eq]; decide
  have he2 : ((strOfNums [1, 1]).toList == [1, 1]) = true := by rw [ByteArray.toList_eq]; decide
  have he3 : ((strOfNums [2, 7, 2, 8]).toList == [2, 7, 2, 8]) = true := by rw [ByteArray.toList_eq]; decide
  clear H
  go_enter Try.func7, Try.ntmps7
  go_wp2_with fail
  refine (H0.out _).mono ?_
  rintro e w1 ⟨v, rfl, q, m, d, rfl, hm, _, _, _, hb, hk⟩
  have hc1 := textOf q m d [1] w1 hm hb
  have HK1 := Lib.hid hk
  clear hm hb hk
  go_wp2_with fail
  refine (H1.out _ _ (Bytes8.ofNew1 _ _ _ _)).mono ?_
  rintro e w2 ⟨v, rfl, q2, m2, d2, rfl, hm, _, _, _, hb, hk⟩
  have hc2 := textOf q2 m2 d2 [1, 1] w2 hm hb
  have HK2 := Lib.hid ((HK1.out.alloc _).trans hk)
  clear hm hb hk hc1
  go_wp2_with fail
  refine (H2.out _ _ (Bytes8.ofNew3 _ _ _ _ _ _)).mono ?_
  rintro e w3 ⟨v, rfl, q3, m3, d3, rfl, hm, _, _, _, hb, hk⟩
  have hc3 := textOf q3 m3 d3 [2, 7, 2, 8] w3 hm hb
  have HK3 := Lib.hid ((HK2.out.alloc _).trans hk)
  clear hm hb hk hc2
  go_wp2_with fail
  go_ret
  exact ⟨rfl, HK3.out⟩

/-- So many bytes, none of them a nought. -/
def solidN (m : Nat) : List Int := (List.range m).map fun i => ((1 + i % 255 : Nat) : Int)
theorem solidN_length (m : Nat) : (solidN m).length = m := by simp [solidN]
theorem solidN_succ (m : Nat) : solidN (m + 1) = solidN m ++ [((1 + m % 255 : Nat) : Int)] := by
  unfold solidN
  rw [List.range_succ, List.map_append]
  rfl
theorem solidN_solid (m : Nat) : Solid (solidN m) := fun b hb => by
  obtain ⟨i, _, rfl⟩ := List.mem_map.1 hb
  omega

set_option maxHeartbeats 4000000 in
set_option maxRecDepth 10000 in
theorem long_any (p : Option Addr) (N c : Nat) (xs : List Int) (z : Int) (L : Nat) (w : World) (hx : N = xs.length) (hb : Bytes8 w p xs) (hc : N ≤ c) (hc' : c ≤ 9223372036854775807) (hn0 : p = none → N = 0 ∧ c = 0) (hN : N ≤ 1000) (hz0 : 0 ≤ z) (hL : z % 1100 = (L : Int)) :
    Calls Try.prog 8 #[.slice p N c, .int .u16 z] w fun e w' => ∃ v, e = .returned v ∧ Copied w (N + L) (xs ++ solidN L) v w' := by
  obtain ⟨i0, hi, hy0, hy1, hy2⟩ := info_parts infoByte
  have HB := Lib.hid hb
  have HX := Lib.hid hx
  have HN0 := Lib.hid hn0
  have hL1 : L < 1100 := by omega
  have hzt : z.tmod 1100 = (L : Int) := by rw [Int.tmod_eq_emod_of_nonneg hz0]; exact hL
  clear hb hx hn0
  go_enter Try.func8, Try.ntmps8
  go_upto_region 1 with (fail)
  go_cut [5] (fun s5 wx => Copied w N xs s5 wx)
  case first =>
    cases p with
    | none =>
      obtain ⟨rfl, rfl⟩ := HN0.out rfl
      go_wp2_with (at_builtin; refine wpList_append_own_none rfl _ _ 22 rfl w.heap.size 5 i0 1 Try.underlying22 hi _ _ _ rfl (World.ownsRow_made w #[] 0 (Nat.le_refl _) (Nat.zero_le _) rfl) rfl ?_)
      go_meet
      case rel =>
        have hxs : xs = [] := List.length_eq_zero_iff.1 HX.out.symm
        subst hxs
        exact ⟨World.ownsRow_made w #[] 0 (Nat.le_refl _) (Nat.zero_le _) rfl, (Below.refl _ w).alloc (Nat.le_refl _) _⟩
    | some a2 =>
      go_wp2_with (at_builtin; refine wpList_append_own _ rfl _ _ 22 rfl w.heap.size 5 i0 (.int .u8 0) 1 1 Try.underlying22 hi hy0 hy1 hy2 rfl (by decide) _ _ _ rfl (World.ownsRow_made w #[] 0 (Nat.le_refl _) (Nat.zero_le _) rfl) a2 N c (xs.map (Value.int .u8)) rfl ?qc1 ?qc2 ?qc3 ?qc4 ?qc5 ?qc6 ?_)
      case qc1 => have := HX.out; simp; omega
      case qc2 =>
        intro j u hj
        have hjn : j < xs.length := by
          have := (List.getElem?_eq_some_iff.1 hj).1
          simpa using this
        obtain ⟨a', ha', hcell⟩ := HB.out (by omega)
        obtain rfl := Option.some.inj ha'
        refine Lib.cell?_alloc_some _ ?_
        rw [hcell j hjn]
        have e : (xs.map (Value.int .u8))[j]? = some (Value.int .u8 (xs.getD j 0)) := by simp [List.getElem?_eq_getElem hjn]
        rw [e] at hj
        exact hj
      case qc3 => intro u hu; obtain ⟨x, _, rfl⟩ := List.mem_map.1 hu; rfl
      case qc4 => unfold maxLen; omega
      case qc5 => omega
      case qc6 => simp
      intro v' wg hown hgrow hnil
      have hbel : Below w.heap.size w wg := ((Below.refl _ w).alloc (Nat.le_refl _) _).grown hgrow (by simp) (by intro k hk; simp [Value.ownBlock] at hk; omega)
      have HC := Lib.hid (show Copied w N xs v' wg from ⟨by simpa using hown, hbel⟩)
      clear hown hgrow hnil hbel
      go_wp2_with fail
      go_meet
      case rel => exact HC.out
  case rest =>
    have HC := Lib.hid hcut
    clear hcut HB HN0
    go_wp2_with fail
    go_loopw [5, 13] (fun s5 i wr => ∃ j : Nat, j ≤ L ∧ i = .int .i64 (j : Int) ∧ Copied w (N + j) (xs ++ solidN j) s5 wr) (fun _ i _ => L - (intOf i).toNat)
    case atStart => exact ⟨0, Nat.zero_le _, rfl, by rw [show solidN 0 = [] from rfl, List.append_nil]; exact HC.out⟩
    case round =>
      obtain ⟨j, hj, rfl, hcop⟩ := hrel
      have HCp := Lib.hid hcop
      clear hcop
      by_cases hlt : j < L
      · have hdj : decide ((j : Int) < (L : Int)) = true := decide_eq_true (by omega)
        obtain ⟨y, hy⟩ : ∃ y, y = ((1 + j % 255 : Nat) : Int) := ⟨_, rfl⟩
        have hyj : 1 + (j : Int) % 255 = y := by rw [hy]; omega
        have hyb : 1 ≤ y ∧ y ≤ 255 := by rw [hy]; omega
        have hy3 := hyb.1
        have hy4 := hyb.2
        have HY := Lib.hid hy
        clear hy hyb
        go_wp2_with (at_builtin; refine wpList_append_own _ rfl _ _ 22 rfl w.heap.size 5 i0 (.int .u8 0) 1 1 Try.underlying22 hi hy0 hy1 hy2 rfl (by decide) _ _ _ rfl (HCp.out.1.alloc _) ⟨wr.heap.size, 0, none⟩ 1 1 [.int .u8 y] rfl ?qc1 ?qc2 ?qc3 ?qc4 ?qc5 ?qc6 ?_)
        case qc1 => rfl
        case qc2 =>
          intro k u hk
          match k, hk with
          | 0, hk =>
            obtain rfl : Value.int .u8 y = u := by simpa using hk
            exact Whole.cell (Whole.new wr _ _) 0 rfl
        case qc3 => intro u hu; simp at hu; subst hu; rfl
        case qc4 => unfold maxLen; omega
        case qc5 => omega
        case qc6 => have := HCp.out.2.size; simp; omega
        intro v' w1 hown hgrow _
        have hbel : Below w.heap.size w w1 := (HCp.out.2.alloc HCp.out.2.size _).grown hgrow (by have := HCp.out.2.size; simp; omega) (by intro k hk; exact own_base HCp.out.1 hk)
        have HC2 := Lib.hid (show Copied w (N + (j + 1)) (xs ++ solidN (j + 1)) v' w1 from ⟨by rw [solidN_succ, ← HY.out, ← List.append_assoc, List.map_append]; simpa [Nat.add_assoc] using hown, hbel⟩)
        clear hown hgrow hbel
        go_wp2_with fail
        go_roundw
        case rel => exact ⟨j + 1, by omega, rfl, HC2.out⟩
        case measure => simp [intOf]; omega
      · obtain rfl : j = L := by omega
        have hdj : decide ((j : Int) < (j : Int)) = false := decide_eq_false (by omega)
        go_wp2_with fail
        go_ret
        exact ⟨_, rfl, HCp.out⟩
end Go.Proofs.Ytckebghkilamjaa

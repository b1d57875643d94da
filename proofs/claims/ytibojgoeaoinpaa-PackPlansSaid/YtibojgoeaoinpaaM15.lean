/-
  ApartWalk; VBackRead; FtGet; FtLaws; PkLaws; PkPlWalk.
-/
import Derived.Test.YtibojgoeaoinpaaM05
import Derived.Test.YtibojgoeaoinpaaM07
import Derived.Test.YtibojgoeaoinpaaM09
import Derived.Test.YtibojgoeaoinpaaM11
import Derived.Test.YtibojgoeaoinpaaM14
namespace Go.Proofs.Ytibojgoeaoinpaa
open Go.RowKit

/-- Whether two rows are alike so far. -/
def alike (l m : List Nat) (k : Nat) : Bool := decide (l.length = m.length ∧ l.take k = m.take k)

theorem alike_zero (l m : List Nat) : alike l m 0 = decide (l.length = m.length) := by simp [alike]
theorem alike_len {l m : List Nat} {k : Nat} (h : alike l m k = true) : l.length = m.length := (of_decide_eq_true h).1
theorem take_succ_nat (xs : List Nat) (k : Nat) (h : k < xs.length) : xs.take (k + 1) = xs.take k ++ [xs.getD k 0] := by
  rw [List.take_succ_eq_append_getElem h]
  simp [h]
theorem alike_succ {l m : List Nat} {k : Nat} (hk : k < l.length) (h : alike l m k = true) : alike l m (k + 1) = decide (l.getD k 0 = m.getD k 0) := by
  obtain ⟨h1, h2⟩ := of_decide_eq_true h
  unfold alike
  rw [take_succ_nat l k hk, take_succ_nat m k (by omega), h2]
  simp [h1]
theorem alike_not {l m : List Nat} {k : Nat} (h : alike l m k = false) : alike l m (k + 1) = false := by
  have h1 := of_decide_eq_false h
  refine decide_eq_false fun hh => h1 ⟨hh.1, ?_⟩
  have := congrArg (List.take k) hh.2
  simpa [List.take_take] using this
theorem alike_all (l m : List Nat) : alike l m l.length = decide (strOfNums (vnums l) = strOfNums (vnums m)) := by
  unfold alike
  congr 1
  apply propext
  constructor
  · rintro ⟨h1, h2⟩
    rw [List.take_of_length_le (Nat.le_refl _), h1, List.take_of_length_le (Nat.le_refl _)] at h2
    rw [h2]
  · intro h
    have e := vnums_inj l m (strOf_inj (vnums_octets l) (vnums_octets m) h)
    rw [e]
    exact ⟨rfl, rfl⟩

theorem vnums_take_len {l : List Nat} (h : ∀ x ∈ l, x < 18446744073709551616) (k : Nat) : (vnums (l.take k)).length ≤ 10 * l.length := by
  have h1 := vnums_length (l.take k) (fun x hx => h x (List.mem_of_mem_take hx))
  have h2 : (l.take k).length ≤ l.length := by simp; omega
  omega

/-- A text of bytes, also behind a draw. -/
theorem textBoth {q : Option Addr} {n c : Nat} {xs : List Int} {w : World} (hx : n = xs.length) (h : Bytes8 w q xs) : (convert 58 9 (.slice q n c)).run Try.prog w = .ok (.string (strOfNums xs)) w ∧ (convert 58 9 (.slice q n c)).run Try.prog w.drew = .ok (.string (strOfNums xs)) w.drew :=
  ⟨textOf q n c xs w hx h, textOf q n c xs w.drew hx h⟩

theorem bufBytesD (base g : Nat) (xs : List Int) (w : World) (h : BufAt w base g xs) (hx : xs.length ≤ 140737488355328) :
    Calls Try.prog 37 #[.pointer (some ⟨g, 0, none⟩)] w.drew fun e w' => ∃ v, e = .returned v ∧ Fresh8 NoBlock xs.length xs w.drew v w' :=
  bufBytes base g xs w.drew h hx

theorem Keeps.fromDrew {S : Nat → Prop} {a b : World} (h : Keeps S a.drew b) : Keeps S a b := ⟨h.os, h.tape, h.output, h.size, h.block⟩

end Go.Proofs.Ytibojgoeaoinpaa


namespace Go.Proofs.Ytibojgoeaoinpaa
open Go.RowKit

theorem RowN.keepAt {w w' : World} {p : Option Addr} {l : List Nat} (h : RowN w p l) {S : Nat → Prop} (hk : Keeps S w w') (hs : 0 < l.length → ∀ q, p = some q → ¬ S q.block) : RowN w' p l := fun i hi => by
  obtain ⟨a, rfl, hc⟩ := h i hi
  exact ⟨a, rfl, hk.cell hc (by rw [addBlock]; exact hs (by omega) a rfl)⟩

theorem vnums_append : ∀ (l m : List Nat), vnums (l ++ m) = vnums l ++ vnums m
  | [], m => by simp [vnums]
  | x :: r, m => by simp [vnums, vnums_append r m]

theorem vnums_split (l : List Nat) (k : Nat) (hk : k < l.length) : (vnums l).drop (vnums (l.take k)).length = vnum (l.getD k 0) ++ vnums (l.drop (k + 1)) := by
  have e : l = l.take k ++ (l.getD k 0 :: l.drop (k + 1)) := by
    conv => lhs; rw [← List.take_append_drop k l, List.drop_eq_getElem_cons hk]
    simp [hk]
  conv => lhs; arg 2; rw [e]
  rw [vnums_append, List.drop_left]
  rfl

theorem vnums_take_le (l : List Nat) (k : Nat) : (vnums (l.take k)).length ≤ (vnums l).length := by
  conv => rhs; rw [← List.take_append_drop k l]
  rw [vnums_append, List.length_append]
  omega

end Go.Proofs.Ytibojgoeaoinpaa

namespace Go.Proofs.Ytibojgoeaoinpaa
open Go.RowKit

/-- How Get of a footer ends. -/
def FtPost (w : World) (U : GFt) (e : Ending) (w' : World) : Prop :=
  ∃ (q : Option Addr) (m d : Nat), e = .returned (.tuple #[ftV U.f.used q m d, .int .i64 U.y]) ∧ m = U.f.tab.length ∧ m ≤ d ∧ d ≤ 9223372036854775807 ∧ (q = none → m = 0 ∧ d = 0) ∧ EnsAt w' q U.f.tab ∧ Keeps NoBlock w w'
theorem FtPost.gone {w w' : World} {U : GFt} {y : Int} (hU : U = ⟨y, Ft.none⟩) (hk : Keeps NoBlock w w') : FtPost w U (.returned (.tuple #[.agg #[.int .u32 0, .slice none 0 0], .int .i64 y])) w' := by
  subst hU
  exact ⟨none, 0, 0, rfl, rfl, Nat.le_refl _, by decide, fun _ => ⟨rfl, rfl⟩, TwosAt.nil _ _, hk⟩
theorem le_short {xs : List Int} {n : Nat} (ho : Octets xs) (h : xs.length ≤ n) : 0 ≤ le xs ∧ (le xs).toNat < 2 ^ (8 * n) := by
  have h1 := le_bound xs ho
  have e : (2 : Int) ^ (8 * xs.length) = ((2 ^ (8 * xs.length) : Nat) : Int) := by simp
  have p := Nat.pow_le_pow_right (n := 2) (by decide) (show 8 * xs.length ≤ 8 * n by omega)
  rw [e] at h1
  refine ⟨h1.1, Nat.lt_of_lt_of_le ?_ p⟩
  obtain ⟨P, hP⟩ : ∃ P, P = 2 ^ (8 * xs.length) := ⟨_, rfl⟩
  rw [← hP] at h1 ⊢
  omega
theorem takeE_fine : ∀ (n : Nat) {xs : List Int}, Octets xs → ∀ e ∈ takeE n xs, e.Fine
  | 0, _, _, e, he => by simp [takeE] at he
  | n + 1, xs, ho, e, he => by
    rw [takeE] at he
    rcases List.mem_cons.1 he with rfl | he
    · have h1 := (le_short (n := 8) (ho.take 8) (by rw [List.length_take]; omega)).2
      have h2 := (le_short (n := 4) ((ho.drop 8).take 4) (by rw [List.length_take]; omega)).2
      exact ⟨h1, h2⟩
    · exact takeE_fine n (ho.drop 12) e he
theorem takeF_fine : ∀ (n : Nat) {xs : List Int}, Octets xs → ∀ x ∈ takeF n xs, x < 18446744073709551616
  | 0, _, _, e, he => by simp [takeF] at he
  | n + 1, xs, ho, e, he => by
    rw [takeF] at he
    rcases List.mem_cons.1 he with rfl | he
    · exact (le_short (n := 8) (ho.take 8) (by rw [List.length_take]; omega)).2
    · exact takeF_fine n (ho.drop 8) e he
theorem getES_fine (y n : Int) {xs : List Int} (ho : Octets xs) : (∀ e ∈ (getES y n xs).l, e.Fine) ∧ (getES y n xs).m ≤ xs.length ∧ (getES y n xs).l.length ≤ xs.length := by
  unfold getES getE
  split
  · exact ⟨fun e he => by simp at he, Nat.zero_le _, Nat.zero_le _⟩
  · split
    · exact ⟨fun e he => by simp at he, Nat.zero_le _, Nat.zero_le _⟩
    · split
      · exact ⟨fun e he => by simp at he, Nat.zero_le _, Nat.zero_le _⟩
      · split
        · exact ⟨takeE_fine _ ho, by show 12 * _ ≤ _; omega, by show (takeE _ _).length ≤ _; rw [takeE_length]; omega⟩
        · exact ⟨fun e he => by simp at he, by show 12 * _ ≤ _; omega, Nat.zero_le _⟩
theorem getFS_fine (y n : Int) {xs : List Int} (ho : Octets xs) : (∀ x ∈ (getFS y n xs).l, x < 18446744073709551616) ∧ (getFS y n xs).m ≤ xs.length ∧ (getFS y n xs).l.length ≤ xs.length := by
  unfold getFS getF
  split
  · exact ⟨fun e he => by simp at he, Nat.zero_le _, Nat.zero_le _⟩
  · split
    · exact ⟨fun e he => by simp at he, Nat.zero_le _, Nat.zero_le _⟩
    · split
      · exact ⟨fun e he => by simp at he, Nat.zero_le _, Nat.zero_le _⟩
      · split
        · exact ⟨takeF_fine _ ho, by show 8 * _ ≤ _; omega, by show (takeF _ _).length ≤ _; rw [takeF_length]; omega⟩
        · exact ⟨fun e he => by simp at he, by show 8 * _ ≤ _; omega, Nat.zero_le _⟩

theorem Whole.notCell {w : World} {g : Nat} {t : TypeId} {cs : Array Value} (h : Whole w g t cs) {a : Addr} {v : Value} (hc : w.cell? a = some v) (hn : ∀ i : Nat, cs[i]? ≠ some v) : a.block ≠ g := by
  intro e
  unfold World.cell? at hc
  rw [e] at hc
  simp only [show w.heap[g]? = _ from h] at hc
  split at hc
  · exact absurd hc (by simp)
  · exact hn _ hc
theorem EnsAt.notRdr {w : World} {q : Option Addr} {l : List En} (h : EnsAt w q l) {g : Nat} {t : TypeId} {xs : List Int} {x y : Int} (hg : Whole w g t (rdrCells xs x y)) : 0 < l.length → ∀ a, q = some a → a.block ≠ g := fun h0 a ha => by
  obtain ⟨a', ha', c0, _⟩ := h.at_ 0 h0
  obtain rfl := Option.some.inj (ha.symm.trans ha')
  have := Whole.notCell hg c0 (fun i => by
    match i with
    | 0 => simp [rdrCells]
    | 1 => simp [rdrCells]
    | 2 => simp [rdrCells]
    | k + 3 => simp [rdrCells])
  rwa [addBlock] at this
theorem EnsAt.notFt {w : World} {q : Option Addr} {l : List En} (h : EnsAt w q l) {g : Nat} {t : TypeId} {u : Nat} {q2 : Option Addr} {n c : Nat} (hg : Whole w g t (ftCells u q2 n c)) : 0 < l.length → ∀ a, q = some a → a.block ≠ g := fun h0 a ha => by
  obtain ⟨a', ha', c0, _⟩ := h.at_ 0 h0
  obtain rfl := Option.some.inj (ha.symm.trans ha')
  have := Whole.notCell hg c0 (fun i => by
    match i with
    | 0 => simp [ftCells]
    | 1 => simp [ftCells]
    | k + 2 => simp [ftCells])
  rwa [addBlock] at this
theorem put3_keeps (W : World) (g : Nat) (a b c : Value) : Keeps (Just g) W (((W.setCell ⟨g, 0, none⟩ a).setCell ⟨g, 1, none⟩ b).setCell ⟨g, 2, none⟩ c) := (((Keeps.refl (Just g) W).setIn (Just.self g) 0 a).setIn (Just.self g) 1 b).setIn (Just.self g) 2 c

end Go.Proofs.Ytibojgoeaoinpaa

namespace Go.Proofs.Ytibojgoeaoinpaa
open Go.RowKit

/-- A row of numbers of 32 bits that can be read. -/
def Row32 (w : World) (p : Option Addr) (l : List Nat) : Prop := ∀ i, i < l.length → ∃ a, p = some a ∧ w.cell? (a.add i) = some (.int .u32 (l.getD i 0 : Nat))
theorem Row32.keep {w w' : World} {p : Option Addr} {l : List Nat} (h : Row32 w p l) {S : Nat → Prop} (hk : Keeps S w w') (hs : ∀ k, k < w.heap.size → ¬ S k) : Row32 w' p l := fun i hi => by
  obtain ⟨a, rfl, hc⟩ := h i hi
  exact ⟨a, rfl, hk.cell hc (hs _ (ltOfCell hc))⟩
/-- A row of numbers of 32 bits of new memory. -/
def NewRow32 (w : World) (l : List Nat) (v : Value) (w' : World) : Prop :=
  ∃ (q : Option Addr) (m d : Nat), v = .slice q m d ∧ m = l.length ∧ m ≤ d ∧ d ≤ 9223372036854775807 ∧ (q = none → m = 0 ∧ d = 0) ∧ Row32 w' q l ∧ Keeps NoBlock w w'

/-- The contracts of Most, Check, Put, Get, Places. -/
structure FtMostOk : Prop where
  most : ∀ (z : Int) (w : World), -500000 ≤ z → z ≤ 500000 → Calls Try.prog 21 #[.int .i64 z] w fun e w' => e = .returned (.int .i64 ((mostFt z.toNat : Nat) : Int)) ∧ Keeps NoBlock w w'
theorem mostFt_one : mostFt 1 = 39 := by decide

theorem ftEnd_fine {f : Ft} {fs : List Nat} {r : List Int} (h : f.Fine) : (ftEnd f fs r).f.Fine ∧ (ftEnd f fs r).f.tab.length ≤ f.tab.length := by
  have h0 : Ft.none.Fine ∧ Ft.none.tab.length ≤ f.tab.length := ⟨⟨(show (0 : Nat) < 4294967296 by decide), fun e he => by simp [Ft.none] at he⟩, Nat.zero_le _⟩
  unfold ftEnd
  repeat' split
  · exact h0
  · exact h0
  · exact h0
  · exact ⟨h, Nat.le_refl _⟩
/-- What is got of any bytes is a footer of no more entries than bytes. -/
theorem getFt_small (ys : List Int) (ho : Octets ys) : (getFt ys).f.Fine ∧ (getFt ys).f.tab.length ≤ ys.length := by
  have h0 : Ft.none.Fine ∧ Ft.none.tab.length ≤ ys.length := ⟨⟨(show (0 : Nat) < 4294967296 by decide), fun e he => by simp [Ft.none] at he⟩, Nat.zero_le _⟩
  obtain ⟨hb1, hb2⟩ := open_bound ho
  unfold getFt
  split
  · exact h0
  · obtain ⟨t, ht⟩ : ∃ t, t = (openN ys).2 := ⟨_, rfl⟩
    rw [← ht] at hb1 hb2 ⊢
    clear ht
    match t with
    | [] => exact h0
    | b :: r =>
      rw [readFt]
      split
      · have hr := hb1.drop 1
        simp only [List.drop_succ_cons, List.drop_zero] at hr
        simp only [List.length_cons] at hb2
        unfold ftCount ftUsed ftRows
        split
        · exact h0
        · split
          · exact h0
          · split
            · exact h0
            · split
              · exact h0
              · obtain ⟨n, hn⟩ : ∃ n, n = (le (r.take 4)).toNat := ⟨_, rfl⟩
                have hu := (le_short (n := 4) ((hr.drop 4).take 4) (by rw [List.length_take]; omega)).2
                have he := getES_fine 0 (n : Int) ((hr.drop 4).drop 4)
                have ee : getES 0 (n : Int) ((r.drop 4).drop 4) = getE (n : Int) ((r.drop 4).drop 4) := if_neg (by simp)
                rw [ee] at he
                rw [← hn]
                unfold ftFences
                split
                · exact h0
                · have hf := ftEnd_fine (f := ⟨(le ((r.drop 4).take 4)).toNat, (getE (n : Int) ((r.drop 4).drop 4)).l⟩) (fs := (getF (countF (n : Int) : Nat) (((r.drop 4).drop 4).drop (getE (n : Int) ((r.drop 4).drop 4)).m)).l) (r := (((r.drop 4).drop 4).drop (getE (n : Int) ((r.drop 4).drop 4)).m).drop (getF (countF (n : Int) : Nat) (((r.drop 4).drop 4).drop (getE (n : Int) ((r.drop 4).drop 4)).m)).m) ⟨hu, he.1⟩
                  refine ⟨hf.1, Nat.le_trans hf.2 (Nat.le_trans he.2.2 ?_)⟩
                  rw [List.length_drop, List.length_drop]
                  omega
      · exact h0
end Go.Proofs.Ytibojgoeaoinpaa

namespace Go.Proofs.Ytibojgoeaoinpaa
open Go.RowKit

structure PkPlanOk : Prop where
  plan : ∀ (e s : Nat) (p : Option Addr) (n c : Nat) (zs : List Int) (w : World), e < 256 → s < 4294967296 → InZ w p n c zs → n ≤ 1000 →
    Calls Try.prog 16 #[confV e s, .slice p n c] w fun r w' => ∃ v, r = .returned (.tuple #[v, .int .i64 (planP e s zs).1]) ∧ NewRow32 w (planP e s zs).2 v w'
structure PkLargeOk : Prop where
  large : ∀ (e s : Nat) (z : Int) (w : World), e < 256 → s < 4294967296 → -9223372036854775808 ≤ z → z ≤ 9223372036854775807 →
    Calls Try.prog 20 #[confV e s, .int .i64 z] w fun r w' => r = .returned (.bool (largeP e s z)) ∧ Keeps NoBlock w w'
structure PkEmptyOk : Prop where
  empty : ∀ (e s n : Nat) (w : World), e < 256 → s < 4294967296 → n < 4294967296 →
    Calls Try.prog 8 #[confV e s, .int .u32 (n : Int)] w fun r w' => r = .returned (.tuple #[roomV (if mayHead e s n = true then emptyP e s n else Rm.none), .int .i64 (if mayHead e s n = true then 0 else 1)]) ∧ Keeps NoBlock w w'
structure PkFitsOk : Prop where
  fits : ∀ (r : Rm) (z : Int) (w : World), r.Real → -9223372036854775808 ≤ z → z ≤ 9223372036854775807 →
    Calls Try.prog 11 #[roomV r, .int .i64 z] w fun e w' => e = .returned (.bool (fitsP r z)) ∧ Keeps NoBlock w w'
structure PkLeftOk : Prop where
  left : ∀ (r : Rm) (w : World), r.Real → Calls Try.prog 13 #[roomV r] w fun e w' => e = .returned (.int .i64 ((leftP r : Nat) : Int)) ∧ Keeps NoBlock w w'
structure PkTakeOk : Prop where
  take : ∀ (r : Rm) (z : Int) (w : World), r.Real → r.count < 10000 → -9223372036854775808 ≤ z → z ≤ 9223372036854775807 →
    Calls Try.prog 14 #[roomV r, .int .i64 z] w fun e w' => e = .returned (.tuple #[roomV (if fitsP r z = true then takeP r z else Rm.none), .int .i64 (if fitsP r z = true then 0 else 7)]) ∧ Keeps NoBlock w w'

theorem live_plan1 : planP 12 1 [3000, 3000] = (7, []) := by decide +kernel
theorem live_plan2 : planP 12 2 [3000, 3000] = (0, [0, 1]) := by decide +kernel

theorem two_in (w : World) : InZ (w.alloc (.cells #[.int .i64 3000, .int .i64 3000] 3)) (some ⟨w.heap.size, 0, none⟩) 2 2 [3000, 3000] :=
  ⟨rfl, Nat.le_refl _, by decide, fun h => by simp at h, fun z hz => by
    simp only [List.mem_cons, List.not_mem_nil, or_false, or_self] at hz
    subst hz
    decide, fun i hi => ⟨_, rfl, by
      have hW := Whole.new w 3 #[.int .i64 3000, .int .i64 3000]
      have : i = 0 ∨ i = 1 := by simp at hi; omega
      rcases this with rfl | rfl
      · exact hW.cell 0 rfl
      · exact hW.cell 1 rfl⟩⟩

set_option maxHeartbeats 2000000 in
set_option maxRecDepth 10000 in
theorem lives14_true (H : PkPlanOk) (w : World) : Calls Try.prog 7 #[] w fun e w' => e = .returned (.bool true) ∧ Keeps NoBlock w w' := by
  have H1 := Lib.hid (fun w => H.plan 12 1 (some ⟨(w : World).heap.size, 0, none⟩) 2 2 [3000, 3000] _ (by decide) (by decide) (two_in w) (by decide))
  have H2 := Lib.hid (fun w => H.plan 12 2 (some ⟨(w : World).heap.size, 0, none⟩) 2 2 [3000, 3000] _ (by decide) (by decide) (two_in w) (by decide))
  rw [live_plan1] at H1
  rw [live_plan2] at H2
  unfold confV at H1 H2
  clear H
  go_enter Try.func7, Try.ntmps7
  go_wp2_with fail
  refine (H1.out _).mono ?_
  rintro e w1 ⟨v, rfl, q, m, d, rfl, hm, hmd, hd, hq, hat, hk⟩
  have HK := Lib.hid (((Keeps.refl NoBlock w).alloc (.cells #[.int .i64 3000, .int .i64 3000] 3)).trans hk)
  clear hm hmd hd hq hat hk
  go_wp2_with fail
  refine (H2.out _).mono ?_
  rintro e w2 ⟨v, rfl, q2, m2, d2, rfl, hm, hmd, hd, hq, hat, hk⟩
  have HK := Lib.hid ((HK.out.alloc (.cells #[.int .i64 3000, .int .i64 3000] 3)).trans hk)
  obtain rfl : m2 = 2 := hm
  obtain ⟨a, rfl, x0⟩ := hat 0 (by decide)
  obtain ⟨a', ha', x1⟩ := hat 1 (by decide)
  obtain rfl := Option.some.inj ha'
  rw [show a.add 0 = a by cases a; rfl] at x0
  rw [show a.add 1 = ⟨a.block, a.off + 1, none⟩ from rfl] at x1
  simp only [List.getD_cons_zero, List.getD_cons_succ] at x0 x1
  clear hmd hd hq hat hk ha'
  go_wp2_with fail
  go_ret
  exact ⟨rfl, HK.out⟩
end Go.Proofs.Ytibojgoeaoinpaa

namespace Go.Proofs.Ytibojgoeaoinpaa
open Go.RowKit

theorem plan14_ref (e s : Nat) (p : Option Addr) (n c : Nat) (zs : List Int) (hn9 : n ≤ 1000) (w : World) (hz : InZ w p n c zs) :
    Calls Try.prog 17 #[confV e s, .slice p n c] w (PlanPost w (planP e s zs)) := by
  cases hm : mayC e s with
  | true => exact plan14_may e s p n c zs hm (by omega) w hz
  | false => exact plan14_not e s p n c zs hm w
theorem runP_small {e s : Nat} (hm : mayC e s = true) (zs : List Int) (h9 : zs.length ≤ 10000) (hy : (runP e s zs).y = 0) : ∀ x ∈ (runP e s zs).out, x < s := by
  have : ∀ j, j ≤ zs.length → (runP e s (zs.take j)).y = 0 → ∀ x ∈ (runP e s (zs.take j)).out, x < s := by
    intro j
    induction j with
    | zero => intro _ _ x hx; simp [runP] at hx
    | succ j ih =>
      intro hj hy
      rw [runP_step (by omega)] at hy ⊢
      have hy0 : (runP e s (zs.take j)).y = 0 := by
        by_cases hq : (runP e s (zs.take j)).y = 0
        · exact hq
        · rw [stepP_gone hq] at hy; exact hy
      have ih2 := ih (by omega) hy0
      obtain ⟨r1, r2, r3, r4⟩ := runP_real hm (zs.take j) (by rw [List.length_take]; omega) hy0
      obtain ⟨st, hst⟩ : ∃ st, st = runP e s (zs.take j) := ⟨_, rfl⟩
      rw [← hst] at hy hy0 ih2 r1 r2 r3 r4 ⊢
      have hsm := r1.small
      unfold stepP at hy ⊢
      rw [if_neg (by rw [hy0]; simp)] at hy ⊢
      split at hy
      · rename_i hf
        rw [if_pos hf]
        split at hy
        · rename_i hg
          rw [if_pos hg]
          intro x hx
          rcases List.mem_append.1 hx with h | h
          · exact ih2 x h
          · simp at h; omega
        · rename_i hg
          rw [if_neg hg]
          split at hy
          · exact absurd hy (by decide)
          · rename_i hn
            rw [if_neg hn]
            intro x hx
            rcases List.mem_append.1 hx with h | h
            · exact ih2 x h
            · simp at h; omega
      · exact absurd hy (by decide)
  have := this zs.length (Nat.le_refl _)
  rw [List.take_length] at this
  exact this hy
theorem planP_small (e s : Nat) (zs : List Int) (h9 : zs.length ≤ 10000) : ∀ x ∈ (planP e s zs).2, x < 65536 := by
  unfold planP
  split
  · rename_i hm
    by_cases hy : (runP e s zs).y = 0
    · intro x hx
      have := runP_small hm zs h9 hy x hx
      have := (mayC_true.1 hm).2.2.2
      omega
    · intro x hx
      rw [show ((runP e s zs).y, (runP e s zs).out).2 = (runP e s zs).out from rfl, runP_none hy] at hx
      simp at hx
  · intro x hx
    simp at hx
theorem InZ.keep {w w' : World} {p : Option Addr} {n c : Nat} {zs : List Int} (h : InZ w p n c zs) (hk : Keeps NoBlock w w') : InZ w' p n c zs :=
  ⟨h.len, h.cap, h.room, h.bare, h.fine, h.at_.keep hk (fun _ _ h => h)⟩

set_option maxHeartbeats 2000000 in
set_option maxRecDepth 10000 in
theorem pkplans_walk (H : PkPlanOk) (e s : Nat) (p : Option Addr) (n c : Nat) (zs : List Int) (w : World) (he : e < 256) (hs : s < 4294967296) (hz : InZ w p n c zs) :
    Calls Try.prog 4 #[confV e s, .slice p n c] w fun e w' => e = .returned (.bool true) ∧ Keeps NoBlock w w' := by
  have HLv := Lib.hid (fun w => lives14_true H w)
  have HC0 := Lib.hid (Whole.new w 24 (confCells e s))
  have HK0 := Lib.hid ((Keeps.refl NoBlock w).alloc (.cells (confCells e s) 24))
  by_cases hg : n ≤ 200
  rotate_left
  · have hgd : decide ((200 : Int) < (n : Int)) = true := decide_eq_true (by omega)
    have hgd2 : decide (200 < n) = true := decide_eq_true (by omega)
    clear H hz
    unfold confV
    go_enter Try.func4, Try.ntmps4
    go_wp2_with fail
    refine (HLv.out _).mono ?_
    rintro e9 w1 ⟨rfl, hk⟩
    have HK := Lib.hid (HK0.out.trans hk)
    clear hk
    go_wp2_with fail
    refine (HLv.out _).mono ?_
    rintro e9 w2 ⟨rfl, hk⟩
    have HK := Lib.hid (HK.out.trans hk)
    clear hk
    go_wp2_with fail
    go_ret
    exact ⟨rfl, HK.out⟩
  have hgd : decide ((200 : Int) < (n : Int)) = false := decide_eq_false (by omega)
  have hgd2 : decide (200 < n) = false := decide_eq_false (by omega)
  have HP := Lib.hid (fun w h => H.plan e s p n c zs w he hs h (by omega))
  have HR := Lib.hid (fun w h => plan14_ref e s p n c zs (by omega) w h)
  have HIn := Lib.hid (fun w2 (hk : Keeps NoBlock w w2) => hz.keep hk)
  have hol : (planP e s zs).2.length ≤ zs.length := by
    unfold planP
    split
    · by_cases hy : (runP e s zs).y = 0
      · exact Nat.le_of_eq (runP_out zs hy)
      · show (runP e s zs).out.length ≤ _
        rw [runP_none hy]
        exact Nat.zero_le _
    · exact Nat.zero_le _
  rw [← hz.len] at hol
  have hsm := planP_small e s zs (by have := hz.len; omega)
  obtain ⟨Y, hY⟩ : ∃ Y, Y = (planP e s zs).1 := ⟨_, rfl⟩
  obtain ⟨O, hO⟩ : ∃ O, O = (planP e s zs).2 := ⟨_, rfl⟩
  unfold PlanPost at HR
  rw [← hY] at HP HR
  rw [← hO] at HP HR hol hsm
  have HSm := Lib.hid hsm
  have hYY : (Y != Y) = false := by simp
  have HOl := Lib.hid hol
  clear H hz hY hO he hs hol hsm
  unfold confV at HP HR ⊢
  go_enter Try.func4, Try.ntmps4
  go_wp2_with fail
  refine (HLv.out _).mono ?_
  rintro e9 w1 ⟨rfl, hk⟩
  have HK := Lib.hid (HK0.out.trans hk)
  have HC := Lib.hid (HC0.out.keep hk (fun h => h))
  have c0 := HC.out.cell 0 rfl
  have c1 := HC.out.cell 1 rfl
  simp only [confCells, List.getElem_toArray, List.getElem_cons_zero, List.getElem_cons_succ] at c0 c1
  clear hk
  go_wp2_with fail
  refine (HP.out _ (HIn.out _ HK.out)).mono ?_
  rintro e9 w2 ⟨v, rfl, q, m, d, rfl, hm, hmd, hd, hq, hat, hk⟩
  have HK := Lib.hid (HK.out.trans hk)
  have HC := Lib.hid (HC.out.keep hk (fun h => h))
  have HA := Lib.hid hat
  have HM := Lib.hid hm
  clear hm hmd hd hq hat hk c0 c1
  have c0 := HC.out.cell 0 rfl
  have c1 := HC.out.cell 1 rfl
  simp only [confCells, List.getElem_toArray, List.getElem_cons_zero, List.getElem_cons_succ] at c0 c1
  go_wp2_with fail
  refine (HR.out _ (HIn.out _ HK.out)).mono ?_
  rintro e9 w3 ⟨q2, m2, d2, rfl, hm2, hat2, hk⟩
  have hmm : m = m2 := by rw [HM.out, hm2]
  subst hmm
  have hm9 : m ≤ 200 := by have := HM.out; have := HOl.out; omega
  have HK := Lib.hid (HK.out.trans hk)
  have HA := Lib.hid (Row32.keep HA.out hk (fun _ _ h => h))
  have HB := Lib.hid hat2
  have hmm2 : ((m : Int) != (m : Int)) = false := by simp
  clear hm2 hat2 hk c0 c1
  go_wp2_with fail
  go_loopw [42] (fun i wr => ∃ j : Nat, j ≤ m ∧ i = .int .i64 (j : Int) ∧ Hid (Keeps NoBlock w3 wr)) (fun i _ => m - (intOf i).toNat)
  case atStart => exact ⟨0, Nat.zero_le _, rfl, Lib.hid (Keeps.refl _ _)⟩
  case round =>
    obtain ⟨j, hj, rfl, HKr⟩ := hrel
    by_cases hlt : j < m
    · have hdj : decide (j < m) = true := decide_eq_true hlt
      have hdj2 : decide ((j : Int) < (m : Int)) = true := decide_eq_true (by omega)
      have hjl : j < O.length := by rw [← HM.out]; exact hlt
      obtain ⟨a, rfl, a0⟩ := Row32.keep HA.out HKr.out (fun _ _ h => h) j hjl
      obtain ⟨b, rfl, b0⟩ := RowN.keep HB.out HKr.out (fun _ _ h => h) j hjl
      have hx3 := HSm.out (O.getD j 0) (by simp [hjl])
      obtain ⟨x, hx⟩ : ∃ x, x = O.getD j 0 := ⟨_, rfl⟩
      rw [← hx] at a0 b0 hx3
      have hx9 : IntKind.u64.wrap (x : Int) = (x : Int) := by rw [IntKind.wrap_u64]; omega
      have hxx : ((x : Int) != (x : Int)) = false := by simp
      clear hx hjl
      go_wp2_with fail
      go_quiet (fail)
      go_wp2_with fail
      go_roundw
      case rel => exact ⟨j + 1, by omega, by go_num, Lib.hid (by first | exact HKr.out.drewN _ | exact HKr.out)⟩
      case measure => simp [intOf]; omega
    · have hdj : decide (j < m) = false := decide_eq_false hlt
      have hdj2 : decide ((j : Int) < (m : Int)) = false := decide_eq_false (by omega)
      go_wp2_with fail
      go_ret
      exact ⟨rfl, HK.out.trans HKr.out⟩
end Go.Proofs.Ytibojgoeaoinpaa

/-
  BufO; NewBytes; TabLaws; ThinRef; WideRef; ThinRefSum.
-/
import Derived.Deep.RegionHeld3
import Derived.Deep.CutRange
import Derived.Deep.DeepCutAuto
import Derived.StillTailTactics
import Derived.Test.YtidhcmamfdipiaaM01
import Derived.Test.YtidhcmamfdipiaaM02
import Derived.Test.YtidhcmamfdipiaaM04
namespace Go.Proofs.Ytidhcmamfdipiaa
open Go.RowKit

theorem bufNewB (w : World) (base : Nat) : BufAt (w.alloc (.cells #[.slice none 0 0] 42)) base w.heap.size [] :=
  ⟨.slice none 0 0, Whole.new _ _ _, by simp, .inl ⟨rfl, by simp⟩⟩

theorem BufAt.keepO {w w' : World} {base g : Nat} {xs : List Int} (h : BufAt w base g xs) {S : Nat → Prop} (hk : Keeps S w w') (hg : ¬ S g) (ho : ∀ j cs, Whole w j 5 cs → base ≤ j → ¬ S j) : BufAt w' base g xs := by
  obtain ⟨v, hv, hown⟩ := h
  refine ⟨v, hv.keep hk hg, hown.1, ?_⟩
  rcases hown.2 with h2 | ⟨j, cap, cur, rfl, hb, hh, r⟩
  · exact .inl h2
  · exact .inr ⟨j, cap, cur, rfl, hb, Whole.keep (show Whole w j 5 cur from hh) hk (ho j cur hh hb), r⟩

theorem BufAt.lower {w : World} {base base' g : Nat} {xs : List Int} (h : BufAt w base g xs) (hb : base' ≤ base) : BufAt w base' g xs := by
  obtain ⟨v, hv, hown⟩ := h
  refine ⟨v, hv, hown.1, ?_⟩
  rcases hown.2 with h2 | ⟨j, cap, cur, rfl, hb2, r⟩
  · exact .inl h2
  · exact .inr ⟨j, cap, cur, rfl, Nat.le_trans hb hb2, r⟩
end Go.Proofs.Ytidhcmamfdipiaa

namespace Go.Proofs.Ytidhcmamfdipiaa
open Go.RowKit

/-- New bytes are answered. -/
def NewBytes (w : World) (ys : List Int) (v : Value) (w' : World) : Prop :=
  ∃ (q : Option Addr) (m d : Nat), v = .slice q m d ∧ m = ys.length ∧ m ≤ d ∧ d ≤ 9223372036854775807 ∧ (q = none → m = 0 ∧ d = 0) ∧ Bytes8 w' q ys ∧ Keeps NoBlock w w'
theorem NewBytes.ofNil (w w' : World) (h : Keeps NoBlock w w') : NewBytes w [] (.slice none 0 0) w' :=
  ⟨none, 0, 0, rfl, rfl, Nat.le_refl _, by decide, fun _ => ⟨rfl, rfl⟩, Bytes8.nil _ _, h⟩
end Go.Proofs.Ytidhcmamfdipiaa

namespace Go.Proofs.Ytidhcmamfdipiaa
open Go.RowKit

/-- A row of entries that comes in. -/
structure InE (w : World) (p : Option Addr) (n c : Nat) (l : List En) : Prop where
  len : n = l.length
  cap : n ≤ c
  room : c ≤ 9223372036854775807
  bare : p = none → n = 0 ∧ c = 0
  fine : ∀ e ∈ l, e.Fine
  at_ : EnsAt w p l
/-- A row that was got: new memory. -/
def GotRow (w : World) (l : List En) (v : Value) (w' : World) : Prop :=
  ∃ (q : Option Addr) (m d : Nat), v = .slice q m d ∧ m = l.length ∧ m ≤ d ∧ d ≤ 9223372036854775807 ∧ (q = none → m = 0 ∧ d = 0) ∧ EnsAt w' q l ∧ (0 < m → ∀ a, q = some a → w.heap.size ≤ a.block)
/-- How Get ends. -/
def GetEPost (k : Nat) (p : Option Addr) (N c a : Nat) (t : GE) (w : World) (e : Ending) (w' : World) : Prop :=
  Keeps (Just k) w w' ∧ ((t.y = 0 ∧ (∃ v, e = .returned v ∧ GotRow w t.l v w') ∧ CurB w' k p N c (a + t.m) true 0) ∨ (t.y ≠ 0 ∧ e = .panicked (given k) ∧ CurB w' k p N c (a + t.m) true t.y))

/-- The contracts of Sorted, Rising. -/
structure SortOk : Prop where
  sorted : ∀ (p : Option Addr) (n c : Nat) (l : List En) (w : World), InE w p n c l → n ≤ 100000 →
    Calls Try.prog 8 #[.slice p n c] w fun e w' => ∃ v, e = .returned v ∧ NewEns w (sortE l) v w'
/-- .. of Compare. -/
structure CmpOk : Prop where
  cmp : ∀ (a b : En) (w : World), a.Fine → b.Fine → Calls Try.prog 29 #[enV a, enV b] w fun e w' => e = .returned (.int .i64 (cmpE a b)) ∧ Keeps NoBlock w w'
/-- .. of Find. -/
structure FindOk : Prop where
  find : ∀ (p : Option Addr) (n c : Nat) (l : List En) (h : Nat) (w : World), InE w p n c l → n ≤ 100000 → risesE l = true → h < 18446744073709551616 →
    Calls Try.prog 16 #[.slice p n c, .int .u64 (h : Int)] w fun e w' => e = .returned (.tuple #[.int .i64 ((findE l h).1 : Int), .int .i64 ((findE l h).2 : Int)]) ∧ Keeps NoBlock w w'
theorem EnsAt.keepFar {w w' : World} {q : Option Addr} {l : List En} (h : EnsAt w q l) {S : Nat → Prop} (hk : Keeps S w w') (hs : 0 < l.length → ∀ a, q = some a → ¬ S a.block) : EnsAt w' q l := fun i hi => by
  obtain ⟨a, rfl, c0, c1⟩ := h i hi
  exact ⟨a, rfl, hk.cell c0 (by rw [addBlock]; exact hs (by omega) a rfl), hk.cell c1 (by show ¬ S (a.add (i * 2)).block; rw [addBlock]; exact hs (by omega) a rfl)⟩
theorem EnsAt.old {w : World} {q : Option Addr} {l : List En} (h : EnsAt w q l) (h0 : 0 < l.length) (a : Addr) (ha : q = some a) : a.block < w.heap.size := by
  obtain ⟨a', ha', c0, _⟩ := h.at_ 0 h0
  obtain rfl := Option.some.inj (ha.symm.trans ha')
  have := ltOfCell c0
  rwa [addBlock] at this
/-- A row that was there ahead of a block stays behind what turns that block alone. -/
theorem EnsAt.keepNew {w w0 w' : World} {q : Option Addr} {l : List En} (h : EnsAt w q l) (hw : Keeps NoBlock w w0) {b : Nat} (hb : w.heap.size ≤ b) (hk : Keeps (Just b) w0 w') : EnsAt w' q l :=
  EnsAt.keepFar (EnsAt.keep h hw) hk (fun h0 a ha => by have := h.old h0 a ha; unfold Just; omega)

theorem enNeR (r : En) (w : World) : (binOp .neq 66 (.agg #[.int .u64 (r.hash : Int), .int .u32 (r.at_ : Int)]) (.agg #[.int .u64 (r.hash : Int), .int .u32 (r.at_ : Int)])).run Try.prog w = .ok (.bool false) w := by
  simp [go_sem]

theorem sort_example : sortE [⟨5, 1⟩, ⟨2, 9⟩, ⟨5, 0⟩, ⟨2, 9⟩] = [⟨2, 9⟩, ⟨5, 0⟩, ⟨5, 1⟩] := by decide

end Go.Proofs.Ytidhcmamfdipiaa

namespace Go.Proofs.Ytidhcmamfdipiaa
open Go.RowKit

theorem half_half (x : Int) (k : Nat) : x / 2 ^ k / 2 = x / 2 ^ (k + 1) := by
  have hp : (0 : Int) < 2 ^ k := Int.pow_pos (by decide)
  rw [Int.pow_succ, Int.ediv_ediv, if_neg (fun h => absurd h.1 (by omega)), Int.sub_zero]

/-- Four numbers in a row, as cells. -/
def row4 (kd : IntKind) (v : Nat → Int) : Array Value := #[.int kd (v 0), .int kd (v 1), .int kd (v 2), .int kd (v 3)]
theorem row4_get {kd : IntKind} {v : Nat → Int} {k : Nat} (hk : k < 4) : (row4 kd v)[k]? = some (.int kd (v k)) := by
  have : k = 0 ∨ k = 1 ∨ k = 2 ∨ k = 3 := by omega
  rcases this with rfl | rfl | rfl | rfl <;> rfl
theorem row4_set {kd : IntKind} {v : Nat → Int} {k : Nat} (hk : k < 4) (x : Int) : (row4 kd v).setIfInBounds k (.int kd x) = row4 kd (upd v k x) := by
  have : k = 0 ∨ k = 1 ∨ k = 2 ∨ k = 3 := by omega
  rcases this with rfl | rfl | rfl | rfl <;> rfl
end Go.Proofs.Ytidhcmamfdipiaa

namespace Go.Proofs.Ytidhcmamfdipiaa
open Go.RowKit

/-- What Value reads of eight, of four. -/
theorem four8_value (ys : List Int) (k : Nat) : le ((ys.drop (8 * k)).take 8) = four8 ys k := rfl
theorem four4_value (ys : List Int) (k : Nat) : le ((ys.drop (4 * k)).take 4) = four4 ys k := rfl
theorem wtaken_drop (v : Nat → Int) (xs : List Int) (k : Nat) : wtaken (wnums v xs k) (xs.drop (32 * k)) 4 = wnums v xs (k + 1) := rfl
end Go.Proofs.Ytidhcmamfdipiaa

namespace Go.Proofs.Ytidhcmamfdipiaa
open Go.RowKit

theorem join_sum {a b c d : Int} (_ha : U32 a) (_hb : U32 b) (_hc : U32 c) (_hd : U32 d) :
    (IntKind.u64.wrap (IntKind.u64.wrap (IntKind.u64.wrap (a + b) + c) + d)).tmod 4294967296 = (a + b + c + d) % 4294967296 := by
  unfold U32 at *
  rw [IntKind.wrap_u64, IntKind.wrap_u64, IntKind.wrap_u64, Int.tmod_eq_emod_of_nonneg (by omega)]
  omega

end Go.Proofs.Ytidhcmamfdipiaa

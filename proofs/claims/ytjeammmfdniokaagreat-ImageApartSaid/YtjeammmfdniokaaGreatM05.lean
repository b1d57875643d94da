/-
  BufO; NewBytes; TabLaws; CurD; CurE; VarGet.
-/
import Derived.RegionTactic
import Derived.BigRegion
import Derived.ChangeAlike
import Derived.LaidEqlPtr
import Derived.Lib.Builder
import Derived.Test.YtjeammmfdniokaaGreatM01
import Derived.Test.YtjeammmfdniokaaGreatM02
import Derived.Test.YtjeammmfdniokaaGreatM04
namespace Go.Proofs.YtjeammmfdniokaaGreat
open Go.RowKit

theorem bufNewB (w : World) (base : Nat) : BufAt (w.alloc (.cells #[.slice none 0 0] 126)) base w.heap.size [] :=
  ⟨.slice none 0 0, Whole.new _ _ _, by simp, .inl ⟨rfl, by simp⟩⟩

theorem BufAt.keepO {w w' : World} {base g : Nat} {xs : List Int} (h : BufAt w base g xs) {S : Nat → Prop} (hk : Keeps S w w') (hg : ¬ S g) (ho : ∀ j cs, Whole w j 5 cs → base ≤ j → ¬ S j) : BufAt w' base g xs := by
  obtain ⟨v, hv, hown⟩ := h
  refine ⟨v, hv.keep hk hg, hown.1, ?_⟩
  rcases hown.2 with h2 | ⟨j, cap, cur, rfl, hb, hh, r⟩
  · exact .inl h2
  · exact .inr ⟨j, cap, cur, rfl, hb, Whole.keep (show Whole w j 5 cur from hh) hk (ho j cur hh hb), r⟩

theorem BufAt.lower {w : World} {base base' g : Nat} {xs : List Int} (h : BufAt w base g xs) (hb : base' ≤ base) : BufAt w base' g xs := by
  obtain ⟨v, hv, hown⟩ := h
  refine ⟨v, hv, hown.1, ?_⟩
  rcases hown.2 with h2 | ⟨j, cap, cur, rfl, hb2, r⟩
  · exact .inl h2
  · exact .inr ⟨j, cap, cur, rfl, Nat.le_trans hb hb2, r⟩
end Go.Proofs.YtjeammmfdniokaaGreat

namespace Go.Proofs.YtjeammmfdniokaaGreat
open Go.RowKit

/-- New bytes are answered. -/
def NewBytes (w : World) (ys : List Int) (v : Value) (w' : World) : Prop :=
  ∃ (q : Option Addr) (m d : Nat), v = .slice q m d ∧ m = ys.length ∧ m ≤ d ∧ d ≤ 9223372036854775807 ∧ (q = none → m = 0 ∧ d = 0) ∧ Bytes8 w' q ys ∧ Keeps NoBlock w w'
theorem NewBytes.ofNil (w w' : World) (h : Keeps NoBlock w w') : NewBytes w [] (.slice none 0 0) w' :=
  ⟨none, 0, 0, rfl, rfl, Nat.le_refl _, by decide, fun _ => ⟨rfl, rfl⟩, Bytes8.nil _ _, h⟩
end Go.Proofs.YtjeammmfdniokaaGreat

namespace Go.Proofs.YtjeammmfdniokaaGreat
open Go.RowKit

/-- A row of entries that comes in. -/
structure InE (w : World) (p : Option Addr) (n c : Nat) (l : List En) : Prop where
  len : n = l.length
  cap : n ≤ c
  room : c ≤ 9223372036854775807
  bare : p = none → n = 0 ∧ c = 0
  fine : ∀ e ∈ l, e.Fine
  at_ : EnsAt w p l
theorem EnsAt.keepFar {w w' : World} {q : Option Addr} {l : List En} (h : EnsAt w q l) {S : Nat → Prop} (hk : Keeps S w w') (hs : 0 < l.length → ∀ a, q = some a → ¬ S a.block) : EnsAt w' q l := fun i hi => by
  obtain ⟨a, rfl, c0, c1⟩ := h i hi
  exact ⟨a, rfl, hk.cell c0 (by rw [addBlock]; exact hs (by omega) a rfl), hk.cell c1 (by show ¬ S (a.add (i * 2)).block; rw [addBlock]; exact hs (by omega) a rfl)⟩
theorem EnsAt.old {w : World} {q : Option Addr} {l : List En} (h : EnsAt w q l) (h0 : 0 < l.length) (a : Addr) (ha : q = some a) : a.block < w.heap.size := by
  obtain ⟨a', ha', c0, _⟩ := h.at_ 0 h0
  obtain rfl := Option.some.inj (ha.symm.trans ha')
  have := ltOfCell c0
  rwa [addBlock] at this
end Go.Proofs.YtjeammmfdniokaaGreat

namespace Go.Proofs.YtjeammmfdniokaaGreat
open Go.RowKit

/-- The frame of the deferred call behind its first region, and what stands behind. -/
def doorTmps (V A E k : Nat) (a y : Int) (r : List Value) : Array Value :=
  ⟨[.pointer (some ⟨V, 0, none⟩), .pointer (some ⟨A, 0, none⟩), .pointer (some ⟨E, 0, none⟩), undef, undef, undef, .pointer (some ⟨k, 0, none⟩), .pointer (some ⟨k, 0, none⟩), .pointer (some ⟨k, 1, none⟩), .int .i64 a, .pointer (some ⟨k, 0, none⟩), .pointer (some ⟨k, 0, none⟩), .pointer (some ⟨k, 3, none⟩), .int .i64 y] ++ r⟩

def MidPost (V A E k : Nat) (a : Nat) (y : Int) (w : World) : Exit → Act → World → Prop
  | .normal, a', w' => a' = { tmps := doorTmps V A E k a y (List.replicate 15 undef), defers := [] } ∧ ∃ m, w' = (((w.setCell ⟨A, 0, none⟩ (.int .i64 a)).setCell ⟨E, 0, none⟩ (.int .i64 y)).drewN m)
  | _, _, _ => False

theorem MidPost.told {V A E k a : Nat} {y : Int} {w w' : World} {e : Exit} {a' : Act} (h : MidPost V A E k a y w e a' w') :
    e = .normal ∧ a' = { tmps := doorTmps V A E k a y (List.replicate 15 undef), defers := [] } ∧ ∃ m, w' = (((w.setCell ⟨A, 0, none⟩ (.int .i64 a)).setCell ⟨E, 0, none⟩ (.int .i64 y)).drewN m) := by
  cases e with
  | normal => exact ⟨rfl, h⟩
  | _ => exact h.elim

end Go.Proofs.YtjeammmfdniokaaGreat

namespace Go.Proofs.YtjeammmfdniokaaGreat
open Go.RowKit

end Go.Proofs.YtjeammmfdniokaaGreat

namespace Go.Proofs.YtjeammmfdniokaaGreat
open Go.RowKit

def VR.up (i X : Nat) (t : VR) : VR := ⟨t.e, t.n + i, X + 2 ^ (7 * i) * t.x⟩

section
variable {k : Nat} {p : Option Addr} {xs : List Int} {N c a : Nat} {w : World} {i X : Nat} {wr : World}

end

end Go.Proofs.YtjeammmfdniokaaGreat

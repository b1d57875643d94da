/-
  Contracts of package cursor's Buffer: Byte, Raw, number, Four, Eight, Len, Bytes.
-/
import Derived.Test.YtckebghkilamjaaCurC
import Derived.Laws.AppendOwnNone
namespace Go.Proofs.Ytckebghkilamjaa
open Go.RowKit

/-- The blocks that a writing may turn: the Buffer's, and those from base on. -/
def OnBuf (base g : Nat) : Nat → Prop := fun k => k = g ∨ base ≤ k

theorem Keeps.grown {S : Nat → Prop} {a b c : World} {row : Option Nat} (h : Keeps S a b) (hg : b.grownBy c row) (hr : ∀ k, row = some k → S k ∨ a.heap.size ≤ k) : Keeps S a c :=
  ⟨hg.os.trans h.os, hg.tape.trans h.tape, hg.output.trans h.output, Nat.le_trans h.size hg.size, fun k hk hn => (hg.block k (Nat.lt_of_lt_of_le hk h.size) (fun e => by
    rcases hr k e.symm with h1 | h1
    · exact hn h1
    · omega)).trans (h.block k hk hn)⟩

theorem onBuf_below {base g : Nat} {w w' : World} (h : Keeps (OnBuf base g) w w') (hb : base ≤ g) (hs : base ≤ w.heap.size) : Below base w w' :=
  h.below hs fun k hk hS => by
    rcases hS with rfl | h1
    · omega
    · omega

theorem own_slice {w : World} {base n : Nat} {v : Value} {xs : List Value} (h : w.ownsRow base 5 1 v n xs) : ∃ p c, v = .slice p n c := by
  rcases h with ⟨_, ⟨rfl, rfl⟩ | ⟨j, cap, cur, rfl, hb, _⟩⟩
  · exact ⟨none, 0, rfl⟩
  · exact ⟨_, _, rfl⟩

theorem own_base {w : World} {base n k : Nat} {v : Value} {xs : List Value} (h : w.ownsRow base 5 1 v n xs) (hk : v.ownBlock = some k) : base ≤ k := by
  rcases h with ⟨_, ⟨rfl, rfl⟩ | ⟨j, cap, cur, rfl, hb, _⟩⟩
  · simp [Value.ownBlock] at hk
  · obtain rfl : j = k := by simpa [Value.ownBlock] using hk
    exact hb

theorem Whole.grown {w w' : World} {g : Nat} {t : TypeId} {cs : Array Value} (h : Whole w g t cs) {row : Option Nat} (hg : w.grownBy w' row) (hr : row ≠ some g) : Whole w' g t cs :=
  (hg.block g h.lt (fun e => hr e.symm)).trans h

theorem own_bytes {w : World} {base n : Nat} {v : Value} {xs : List Int} (hn : n = xs.length) (h : w.ownsRow base 5 1 v n (xs.map (Value.int .u8))) : ∃ p c, v = .slice p n c ∧ Bytes8 w p xs ∧ (p = none → c = 0) := by
  rcases h with ⟨hl, ⟨rfl, rfl⟩ | ⟨g, cap, cur, rfl, hg, hh, hc1, hc2, hc3, hc4⟩⟩
  · exact ⟨none, 0, rfl, fun h => by omega, fun _ => rfl⟩
  · refine ⟨_, cap, rfl, Whole.bytes (show Whole w g 5 cur from hh) xs (fun i hi => ?_), fun h => by simp at h⟩
    have e : (cur.toList.take (n * 1))[i]? = (xs.map (Value.int .u8))[i]? := by rw [hc4]
    rw [List.getElem?_take, if_pos (by omega)] at e
    rw [← Array.getElem?_toList, e]
    simp [hi]

end Go.Proofs.Ytckebghkilamjaa

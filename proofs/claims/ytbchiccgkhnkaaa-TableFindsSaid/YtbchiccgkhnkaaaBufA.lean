/-
  Contracts of package cursor's Buffer: Byte, Raw, number, Four, Eight, Len, Bytes.
-/
import Derived.Test.YtbchiccgkhnkaaaCurC
import Derived.Laws.AppendOwnNone
namespace Go.Proofs.Ytbchiccgkhnkaaa
open Go.RowKit

/-- A Buffer in block g, whose bytes are xs; its bytes lie in memory from block base on. -/
def BufAt (w : World) (base g : Nat) (xs : List Int) : Prop :=
  ∃ v, Whole w g 40 #[v] ∧ w.ownsRow base 5 1 v xs.length (xs.map (Value.int .u8))

/-- The blocks that a writing may turn: the Buffer's, and those from base on. -/
def OnBuf (base g : Nat) : Nat → Prop := fun k => k = g ∨ base ≤ k

/-- What each of its writings leaves, wherever its bytes lie. -/
def BufOkK (base g : Nat) (xs : List Int) (w : World) (e : Ending) (w' : World) : Prop :=
  e = .returned (.pointer (some ⟨g, 0, none⟩)) ∧ BufAt w' base g xs ∧ Keeps (OnBuf base g) w w'

theorem Keeps.grown {S : Nat → Prop} {a b c : World} {row : Option Nat} (h : Keeps S a b) (hg : b.grownBy c row) (hr : ∀ k, row = some k → S k ∨ a.heap.size ≤ k) : Keeps S a c :=
  ⟨hg.os.trans h.os, hg.tape.trans h.tape, hg.output.trans h.output, Nat.le_trans h.size hg.size, fun k hk hn => (hg.block k (Nat.lt_of_lt_of_le hk h.size) (fun e => by
    rcases hr k e.symm with h1 | h1
    · exact hn h1
    · omega)).trans (h.block k hk hn)⟩

theorem onBuf_below {base g : Nat} {w w' : World} (h : Keeps (OnBuf base g) w w') (hb : base ≤ g) (hs : base ≤ w.heap.size) : Below base w w' :=
  h.below hs fun k hk hS => by
    rcases hS with rfl | h1
    · omega
    · omega

/-- What each of its writings leaves. -/
def BufOk (base g : Nat) (xs : List Int) (w : World) (e : Ending) (w' : World) : Prop :=
  e = .returned (.pointer (some ⟨g, 0, none⟩)) ∧ BufAt w' base g xs ∧ Below base w w'

theorem ownBlock_ne {w : World} {base g n : Nat} {v : Value} {xs : List Value} {cs : Array Value} (h : w.ownsRow base 5 1 v n xs) (hg : Whole w g 40 cs) : v.ownBlock ≠ some g := by
  rcases h with ⟨_, ⟨rfl, rfl⟩ | ⟨k, cap, cur, rfl, _, hh, _⟩⟩
  · simp [Value.ownBlock]
  · intro e
    obtain rfl : k = g := by simpa [Value.ownBlock] using e
    exact absurd (Whole.unique (show Whole w k 5 cur from hh) hg).1 (by decide)

theorem own_slice {w : World} {base n : Nat} {v : Value} {xs : List Value} (h : w.ownsRow base 5 1 v n xs) : ∃ p c, v = .slice p n c := by
  rcases h with ⟨_, ⟨rfl, rfl⟩ | ⟨j, cap, cur, rfl, hb, _⟩⟩
  · exact ⟨none, 0, rfl⟩
  · exact ⟨_, _, rfl⟩

theorem own_base {w : World} {base n k : Nat} {v : Value} {xs : List Value} (h : w.ownsRow base 5 1 v n xs) (hk : v.ownBlock = some k) : base ≤ k := by
  rcases h with ⟨_, ⟨rfl, rfl⟩ | ⟨j, cap, cur, rfl, hb, _⟩⟩
  · simp [Value.ownBlock] at hk
  · obtain rfl : j = k := by simpa [Value.ownBlock] using hk
    exact hb

theorem Whole.grown {w w' : World} {g : Nat} {t : TypeId} {cs : Array Value} (h : Whole w g t cs) {row : Option Nat} (hg : w.grownBy w' row) (hr : row ≠ some g) : Whole w' g t cs :=
  (hg.block g h.lt (fun e => hr e.symm)).trans h

set_option maxHeartbeats 800000 in
theorem bufByteK (base g : Nat) (xs : List Int) (x : Int) (w : World) (h : BufAt w base g xs) (hs : base ≤ w.heap.size) (hx : xs.length + 1 ≤ 140737488355328) :
    Calls Try.prog 83 #[.pointer (some ⟨g, 0, none⟩), .int .u8 x] w (BufOkK base g (xs ++ [x]) w) := by
  obtain ⟨v, hg, hown⟩ := h
  obtain ⟨i0, hi, hz0, hz1, hz2⟩ := info_parts infoByte
  have hgw := hg.lt
  have c0 := hg.cell 0 rfl
  simp only [List.getElem_toArray, List.getElem_cons_zero] at c0
  have hne := ownBlock_ne hown hg
  have HG := Lib.hid hg; have HO := Lib.hid hown; have HN := Lib.hid hne; have HX := Lib.hid hx
  clear hg hown hne hx
  go_enter Try.func83, Try.ntmps83
  go_wp2_with (at_builtin; refine wpList_append_own _ rfl _ _ 38 rfl base 5 i0 (.int .u8 0) 1 1 Try.underlying38 hi hz0 hz1 hz2 rfl (by decide) _ _ _ rfl (HO.out.alloc _) ⟨w.heap.size, 0, none⟩ 1 1 [.int .u8 x] rfl ?qc1 ?qc2 ?qc3 ?qc4 ?qc5 ?qc6 ?_)
  case qc1 => rfl
  case qc2 =>
    intro j u hj
    match j, hj with
    | 0, hj =>
      obtain rfl : Value.int .u8 x = u := by simpa using hj
      exact Whole.cell (Whole.new w _ _) 0 rfl
  case qc3 => intro u hu; simp at hu; subst hu; rfl
  case qc4 => have := HX.out; unfold maxLen; omega
  case qc5 => have := HX.out; omega
  case qc6 => simp; omega
  intro v' w1 hown hgrow _
  obtain ⟨p', c', hv'⟩ := own_slice hown
  have hg1 := Whole.grown (HG.out.alloc _) hgrow HN.out
  have d0 := hg1.cell 0 rfl
  simp only [List.getElem_toArray, List.getElem_cons_zero] at d0
  have f0 := hg1.free 0
  have hne' := ownBlock_ne hown hg1
  have HB := Lib.hid (show BufAt (w1.setCell ⟨g, 0, none⟩ v') base g (xs ++ [x]) from ⟨v', hg1.set 0 v', by simpa using ownsRow_setCell_other hown (a := ⟨g, 0, none⟩) hne' v'⟩)
  have HL := Lib.hid ((((Keeps.refl (OnBuf base g) w).alloc _).grown hgrow (fun k hk => .inl (.inr (own_base HO.out hk)))).setIn (.inl rfl) 0 v')
  clear hown hgrow hg1 hne' c0
  subst hv'
  go_wp2_with fail
  go_ret
  exact ⟨rfl, HB.out, HL.out⟩

theorem bufByte (base g : Nat) (xs : List Int) (x : Int) (w : World) (h : BufAt w base g xs) (hb : base ≤ g) (hs : base ≤ w.heap.size) (hx : xs.length + 1 ≤ 140737488355328) :
    Calls Try.prog 83 #[.pointer (some ⟨g, 0, none⟩), .int .u8 x] w (BufOk base g (xs ++ [x]) w) :=
  (bufByteK base g xs x w h hs hx).mono fun _ _ ⟨h1, h2, h3⟩ => ⟨h1, h2, onBuf_below h3 hb hs⟩

theorem own_bytes {w : World} {base n : Nat} {v : Value} {xs : List Int} (hn : n = xs.length) (h : w.ownsRow base 5 1 v n (xs.map (Value.int .u8))) : ∃ p c, v = .slice p n c ∧ Bytes8 w p xs ∧ (p = none → c = 0) := by
  rcases h with ⟨hl, ⟨rfl, rfl⟩ | ⟨g, cap, cur, rfl, hg, hh, hc1, hc2, hc3, hc4⟩⟩
  · exact ⟨none, 0, rfl, fun h => by omega, fun _ => rfl⟩
  · refine ⟨_, cap, rfl, Whole.bytes (show Whole w g 5 cur from hh) xs (fun i hi => ?_), fun h => by simp at h⟩
    have e : (cur.toList.take (n * 1))[i]? = (xs.map (Value.int .u8))[i]? := by rw [hc4]
    rw [List.getElem?_take, if_pos (by omega)] at e
    rw [← Array.getElem?_toList, e]
    simp [hi]

theorem bufBytes (base g : Nat) (xs : List Int) (w : World) (h : BufAt w base g xs) (hx : xs.length ≤ 140737488355328) :
    Calls Try.prog 18 #[.pointer (some ⟨g, 0, none⟩)] w fun e w' => ∃ v, e = .returned v ∧ Fresh8 NoBlock xs.length xs w v w' := by
  obtain ⟨v, hg, hown⟩ := h
  obtain ⟨p, c, rfl, hbt, _⟩ := own_bytes rfl hown
  have c0 := hg.cell 0 rfl
  simp only [List.getElem_toArray, List.getElem_cons_zero] at c0
  have HB := Lib.hid hbt
  clear hg hown hbt
  go_enter Try.func18, Try.ntmps18
  go_wp2_with fail
  refine (clone_any p xs.length c xs _ rfl hx HB.out).mono ?_
  rintro e w2 ⟨v, rfl, hfr⟩
  have HF := Lib.hid hfr
  clear hfr
  go_wp2_with fail
  go_ret
  exact ⟨v, rfl, HF.out⟩
end Go.Proofs.Ytbchiccgkhnkaaa

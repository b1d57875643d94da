/-
  Package cursor's Buffer, once more: what its writings leave of other blocks, told by their types.
-/
import Derived.Test.YtbchiccgkhnkaaaBufK
namespace Go.Proofs.Ytbchiccgkhnkaaa
open Go.RowKit

/-- Blocks that hold neither bytes nor a Buffer stay. -/
def Stays (w w' : World) : Prop := ∀ (k : Nat) (t : TypeId) (cs : Array Value), t ≠ 5 → t ≠ 40 → Whole w k t cs → Whole w' k t cs
theorem Stays.refl (w : World) : Stays w w := fun _ _ _ _ _ h => h
theorem Stays.trans {a b c : World} (h : Stays a b) (g : Stays b c) : Stays a c := fun k t cs h1 h2 h3 => g k t cs h1 h2 (h k t cs h1 h2 h3)
/-- What each of its writings leaves. -/
def BufOkT (base g : Nat) (xs : List Int) (w : World) (e : Ending) (w' : World) : Prop :=
  e = .returned (.pointer (some ⟨g, 0, none⟩)) ∧ BufAt w' base g xs ∧ Keeps (OnBuf base g) w w' ∧ Stays w w'

theorem own_not {w : World} {base n k : Nat} {v : Value} {xs : List Value} {t : TypeId} {cs : Array Value} (h : w.ownsRow base 5 1 v n xs) (ht : t ≠ 5) (hk : Whole w k t cs) : v.ownBlock ≠ some k := by
  rcases h with ⟨_, ⟨rfl, rfl⟩ | ⟨j, cap, cur, rfl, _, hh, _⟩⟩
  · simp [Value.ownBlock]
  · intro e
    obtain rfl : j = k := by simpa [Value.ownBlock] using e
    exact absurd (Whole.unique (show Whole w j 5 cur from hh) hk).1.symm ht

set_option maxHeartbeats 800000 in
theorem bufByteT (base g : Nat) (xs : List Int) (x : Int) (w : World) (h : BufAt w base g xs) (hs : base ≤ w.heap.size) (hx : xs.length + 1 ≤ 140737488355328) :
    Calls Try.prog 83 #[.pointer (some ⟨g, 0, none⟩), .int .u8 x] w (BufOkT base g (xs ++ [x]) w) := by
  obtain ⟨v, hg, hown⟩ := h
  obtain ⟨i0, hi, hz0, hz1, hz2⟩ := info_parts infoByte
  have hgw := hg.lt
  have c0 := hg.cell 0 rfl
  simp only [List.getElem_toArray, List.getElem_cons_zero] at c0
  have hne := ownBlock_ne hown hg
  have HG := Lib.hid hg; have HO := Lib.hid hown; have HN := Lib.hid hne; have HX := Lib.hid hx
  clear hg hown hne hx
  go_enter Try.func83, Try.ntmps83
  go_wp2_with (at_builtin; refine wpList_append_own _ rfl _ _ 38 rfl base 5 i0 (.int .u8 0) 1 1 Try.underlying38 hi hz0 hz1 hz2 rfl (by decide) _ _ _ rfl (HO.out.alloc _) ⟨w.heap.size, 0, none⟩ 1 1 [.int .u8 x] rfl ?qc1 ?qc2 ?qc3 ?qc4 ?qc5 ?qc6 ?_)
  case qc1 => rfl
  case qc2 =>
    intro j u hj
    match j, hj with
    | 0, hj =>
      obtain rfl : Value.int .u8 x = u := by simpa using hj
      exact Whole.cell (Whole.new w _ _) 0 rfl
  case qc3 => intro u hu; simp at hu; subst hu; rfl
  case qc4 => have := HX.out; unfold maxLen; omega
  case qc5 => have := HX.out; omega
  case qc6 => simp; omega
  intro v' w1 hown hgrow _
  obtain ⟨p', c', hv'⟩ := own_slice hown
  have hg1 := Whole.grown (HG.out.alloc _) hgrow HN.out
  have d0 := hg1.cell 0 rfl
  simp only [List.getElem_toArray, List.getElem_cons_zero] at d0
  have f0 := hg1.free 0
  have hne' := ownBlock_ne hown hg1
  have HB := Lib.hid (show BufAt (w1.setCell ⟨g, 0, none⟩ v') base g (xs ++ [x]) from ⟨v', hg1.set 0 v', by simpa using ownsRow_setCell_other hown (a := ⟨g, 0, none⟩) hne' v'⟩)
  have HL := Lib.hid ((((Keeps.refl (OnBuf base g) w).alloc _).grown hgrow (fun k hk => .inl (.inr (own_base HO.out hk)))).setIn (.inl rfl) 0 v')
  have HSt : Hid (Stays w (w1.setCell ⟨g, 0, none⟩ v')) := Lib.hid (fun k t cs h1 h2 h3 => by
    have hA := h3.alloc (.cells #[.int .u8 x] 5)
    have hB := HO.out.alloc (.cells #[.int .u8 x] 5)
    refine (hA.grown hgrow (own_not hB h1 hA)).setOther (p := ⟨g, 0, none⟩) (fun e => ?_) v'
    have e' : k = g := e
    subst e'
    exact absurd (Whole.unique HG.out h3).1.symm h2)
  clear hown hgrow hg1 hne' c0
  subst hv'
  go_wp2_with fail
  go_ret
  exact ⟨rfl, HB.out, HL.out, HSt.out⟩

def InLoopT (base g : Nat) (xs : List Int) (x : Int) (w : World) (k : Nat) (wr : World) : Prop := BufAt wr base g (xs ++ digits x k) ∧ Keeps (OnBuf base g) w wr ∧ Stays w wr

set_option maxHeartbeats 800000 in
theorem bufNumberT (base g : Nat) (xs : List Int) (x : Int) (n : Nat) (z : Int) (hz : z = n) (w : World) (h : BufAt w base g xs) (hs : base ≤ w.heap.size) (hx : xs.length + n ≤ 140737488355328) (hn : n ≤ 8) (_x0 : 0 ≤ x) (x1 : x < 18446744073709551616) :
    Calls Try.prog 64 #[.pointer (some ⟨g, 0, none⟩), .int .u64 x, .int .i64 z] w (BufOkT base g (xs ++ digits x n) w) := by
  subst hz
  have H := Lib.hid h; have HX := Lib.hid hx; have HX1 := Lib.hid x1
  clear h hx x1
  go_enter Try.func64, Try.ntmps64
  go_wp2_with fail
  go_loopw [9] (fun i wr => ∃ k : Nat, k ≤ n ∧ i = .int .i64 k ∧ InLoopT base g xs x w k wr) (fun i _ => n - (intOf i).toNat)
  case atStart => exact ⟨0, Nat.zero_le _, rfl, by simpa [digits] using H.out, Keeps.refl _ _, Stays.refl _⟩
  case round =>
    obtain ⟨k, hk, rfl, hin⟩ := hrel
    have HI := Lib.hid hin
    clear hin
    by_cases hlt : k < n
    · go_wp2_with fail
      refine (bufByteT base g (xs ++ digits x k) _ _ HI.out.1 (by have := HI.out.2.1.size; omega) (by have := HX.out; simp [digits_length]; omega)).mono ?_
      rintro e w2 ⟨rfl, hbuf, hbel, hst⟩
      have HB := Lib.hid hbuf; have HL := Lib.hid (HI.out.2.1.trans hbel)
      have HT := Lib.hid (HI.out.2.2.trans hst)
      clear hbuf hbel hst
      go_wp2_with fail
      go_roundw
      case rel =>
        refine ⟨k + 1, by omega, by go_num, ?_, HL.out, HT.out⟩
        have := HB.out
        rw [List.append_assoc] at this
        exact this
      case measure => simp [intOf]; omega
    · go_wp2_with fail
      go_ret
      obtain rfl : k = n := by omega
      exact ⟨rfl, HI.out.1, HI.out.2⟩

theorem bufFourT (base g : Nat) (xs : List Int) (x : Int) (w : World) (h : BufAt w base g xs) (hs : base ≤ w.heap.size) (hx : xs.length + 4 ≤ 140737488355328) (x0 : 0 ≤ x) (x1 : x < 4294967296) :
    Calls Try.prog 39 #[.pointer (some ⟨g, 0, none⟩), .int .u32 x] w (BufOkT base g (xs ++ digits x 4) w) := by
  have H := Lib.hid h
  clear h
  go_enter Try.func39, Try.ntmps39
  go_wp2_with fail
  refine (bufNumberT base g xs _ 4 _ (by rfl) _ H.out hs hx (by omega) (by omega) (by omega)).mono ?_
  rintro e w2 ⟨rfl, hbuf, hbel, hst⟩
  have HB := Lib.hid hbuf; have HL := Lib.hid hbel; have HT := Lib.hid hst
  clear hbuf hbel hst
  go_wp2_with fail
  go_ret
  exact ⟨rfl, HB.out, HL.out, HT.out⟩

theorem bufEightT (base g : Nat) (xs : List Int) (x : Int) (w : World) (h : BufAt w base g xs) (hs : base ≤ w.heap.size) (hx : xs.length + 8 ≤ 140737488355328) (x0 : 0 ≤ x) (x1 : x < 18446744073709551616) :
    Calls Try.prog 38 #[.pointer (some ⟨g, 0, none⟩), .int .u64 x] w (BufOkT base g (xs ++ digits x 8) w) := by
  have H := Lib.hid h; have HX1 := Lib.hid x1
  clear h x1
  go_enter Try.func38, Try.ntmps38
  go_wp2_with fail
  refine (bufNumberT base g xs _ 8 _ (by rfl) _ H.out hs hx (by omega) x0 HX1.out).mono ?_
  rintro e w2 ⟨rfl, hbuf, hbel, hst⟩
  have HB := Lib.hid hbuf; have HL := Lib.hid hbel; have HT := Lib.hid hst
  clear hbuf hbel hst
  go_wp2_with fail
  go_ret
  exact ⟨rfl, HB.out, HL.out, HT.out⟩
end Go.Proofs.Ytbchiccgkhnkaaa

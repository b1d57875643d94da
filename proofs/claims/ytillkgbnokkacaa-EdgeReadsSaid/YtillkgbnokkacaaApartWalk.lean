/-
  The law VarintApart: its walk.
-/
import Derived.Test.YtillkgbnokkacaaLives2
import Derived.Test.YtillkgbnokkacaaOpenW
namespace Go.Proofs.Ytillkgbnokkacaa
open Go.RowKit

theorem strOf_inj {xs ys : List Int} (hx : Octets xs) (hy : Octets ys) (h : strOfNums xs = strOfNums ys) : xs = ys := by
  have e : (strOfNums xs).data.toList = (strOfNums ys).data.toList := by rw [h]
  rw [strOfNums_data, strOfNums_data] at e
  have hm : ∀ {zs : List Int}, Octets zs → (zs.map fun n => UInt8.ofNat n.toNat).map (fun u => ((u.toNat : Nat) : Int)) = zs := fun {zs} hz => by
    rw [List.map_map]
    conv => rhs; rw [← List.map_id zs]
    exact List.map_congr_left fun z hzm => by
      have := hz z hzm
      simp [UInt8.toNat_ofNat']
      omega
  rw [← hm hx, ← hm hy, e]

/-- Whether two rows are alike so far. -/
def alike (l m : List Nat) (k : Nat) : Bool := decide (l.length = m.length ∧ l.take k = m.take k)

theorem alike_zero (l m : List Nat) : alike l m 0 = decide (l.length = m.length) := by simp [alike]
theorem alike_len {l m : List Nat} {k : Nat} (h : alike l m k = true) : l.length = m.length := (of_decide_eq_true h).1
theorem take_succ_nat (xs : List Nat) (k : Nat) (h : k < xs.length) : xs.take (k + 1) = xs.take k ++ [xs.getD k 0] := by
  rw [List.take_succ_eq_append_getElem h]
  simp [h]
theorem alike_succ {l m : List Nat} {k : Nat} (hk : k < l.length) (h : alike l m k = true) : alike l m (k + 1) = decide (l.getD k 0 = m.getD k 0) := by
  obtain ⟨h1, h2⟩ := of_decide_eq_true h
  unfold alike
  rw [take_succ_nat l k hk, take_succ_nat m k (by omega), h2]
  simp [h1]
theorem alike_not {l m : List Nat} {k : Nat} (h : alike l m k = false) : alike l m (k + 1) = false := by
  have h1 := of_decide_eq_false h
  refine decide_eq_false fun hh => h1 ⟨hh.1, ?_⟩
  have := congrArg (List.take k) hh.2
  simpa [List.take_take] using this
theorem alike_all (l m : List Nat) : alike l m l.length = decide (strOfNums (vnums l) = strOfNums (vnums m)) := by
  unfold alike
  congr 1
  apply propext
  constructor
  · rintro ⟨h1, h2⟩
    rw [List.take_of_length_le (Nat.le_refl _), h1, List.take_of_length_le (Nat.le_refl _)] at h2
    rw [h2]
  · intro h
    have e := vnums_inj l m (strOf_inj (vnums_octets l) (vnums_octets m) h)
    rw [e]
    exact ⟨rfl, rfl⟩

theorem text_beq (a b : ByteArray) : (a.toList == b.toList) = decide (a = b) := by
  rw [Bool.eq_iff_iff, beq_iff_eq, decide_eq_true_iff, ByteArray.toList_eq, ByteArray.toList_eq]
  exact ⟨fun h => ByteArray.ext (Array.toList_inj.1 h), fun h => by rw [h]⟩

theorem vnums_take_len {l : List Nat} (h : ∀ x ∈ l, x < 18446744073709551616) (k : Nat) : (vnums (l.take k)).length ≤ 10 * l.length := by
  have h1 := vnums_length (l.take k) (fun x hx => h x (List.mem_of_mem_take hx))
  have h2 : (l.take k).length ≤ l.length := by simp; omega
  omega

theorem bufNewB (w : World) (base : Nat) : BufAt (w.alloc (.cells #[.slice none 0 0] 35)) base w.heap.size [] :=
  ⟨.slice none 0 0, Whole.new _ _ _, by simp, .inl ⟨rfl, by simp⟩⟩

theorem BufAt.keepO {w w' : World} {base g : Nat} {xs : List Int} (h : BufAt w base g xs) {S : Nat → Prop} (hk : Keeps S w w') (hg : ¬ S g) (ho : ∀ j cs, Whole w j 5 cs → base ≤ j → ¬ S j) : BufAt w' base g xs := by
  obtain ⟨v, hv, hown⟩ := h
  refine ⟨v, hv.keep hk hg, hown.1, ?_⟩
  rcases hown.2 with h2 | ⟨j, cap, cur, rfl, hb, hh, r⟩
  · exact .inl h2
  · exact .inr ⟨j, cap, cur, rfl, hb, Whole.keep (show Whole w j 5 cur from hh) hk (ho j cur hh hb), r⟩

theorem BufAt.lower {w : World} {base base' g : Nat} {xs : List Int} (h : BufAt w base g xs) (hb : base' ≤ base) : BufAt w base' g xs := by
  obtain ⟨v, hv, hown⟩ := h
  refine ⟨v, hv, hown.1, ?_⟩
  rcases hown.2 with h2 | ⟨j, cap, cur, rfl, hb2, r⟩
  · exact .inl h2
  · exact .inr ⟨j, cap, cur, rfl, Nat.le_trans hb hb2, r⟩

/-- A text of bytes, also behind a draw. -/
theorem textBoth {q : Option Addr} {n c : Nat} {xs : List Int} {w : World} (hx : n = xs.length) (h : Bytes8 w q xs) : (convert 33 9 (.slice q n c)).run Try.prog w = .ok (.string (strOfNums xs)) w ∧ (convert 33 9 (.slice q n c)).run Try.prog w.drew = .ok (.string (strOfNums xs)) w.drew :=
  ⟨textOf q n c xs w hx h, textOf q n c xs w.drew hx h⟩

theorem bufBytesD (base g : Nat) (xs : List Int) (w : World) (h : BufAt w base g xs) (hx : xs.length ≤ 140737488355328) :
    Calls Try.prog 21 #[.pointer (some ⟨g, 0, none⟩)] w.drew fun e w' => ∃ v, e = .returned v ∧ Fresh8 NoBlock xs.length xs w.drew v w' :=
  bufBytes base g xs w.drew h hx

theorem Keeps.fromDrew {S : Nat → Prop} {a b : World} (h : Keeps S a.drew b) : Keeps S a b := ⟨h.os, h.tape, h.output, h.size, h.block⟩

end Go.Proofs.Ytillkgbnokkacaa


/-
  Package wide: copy into a State.
-/
import Derived.Test.YtbchiccgkhnkaaaWideState
import Derived.Laws.CopyRow
import Derived.Deep.CutRange
import Derived.Deep.DeepCutAuto
namespace Go.Proofs.Ytbchiccgkhnkaaa
open Go.RowKit

theorem take_mid {α : Type} (A B C : List α) (n : Nat) (h : n = A.length + B.length) : (A ++ B ++ C).take n = A ++ B := by
  rw [List.take_append_of_le_length (by simp; omega), List.take_of_length_le (by simp; omega)]

/-- The bytes don't fill the block that is open. -/
theorem part_short (v : Nat → Int) (xs ys ps : List Int) (N : Nat) (hN : N = ys.length) (ht : ps.take (xs.length % 32) = wleft xs) (hs : xs.length % 32 + N < 32) :
    (ps.take (xs.length % 32) ++ ys.take (min N (32 - xs.length % 32)) ++ ps.drop (xs.length % 32 + min N (32 - xs.length % 32))).take ((xs ++ ys).length % 32) = wleft (xs ++ ys) ∧ wnums v (xs ++ ys) ((xs ++ ys).length / 32) = wnums v xs (xs.length / 32) := by
  have e1 : (xs ++ ys).length % 32 = xs.length % 32 + N := by rw [List.length_append]; omega
  have e2 : (xs ++ ys).length / 32 = xs.length / 32 := by rw [List.length_append]; omega
  have e3 : ys.take (min N (32 - xs.length % 32)) = ys := List.take_of_length_le (by omega)
  refine ⟨?_, ?_⟩
  · rw [e1, e3, ht, take_mid _ _ _ _ (by rw [wleft_length]; omega)]
    unfold wleft
    rw [e2, List.drop_append_of_le_length (by omega)]
  · rw [e2, wnums_append _ _ _ _ (by omega)]
/-- They fill it. -/
theorem part_full (v : Nat → Int) (xs ys ps : List Int) (N : Nat) (hN : N = ys.length) (hp : ps.length = 32) (ht : ps.take (xs.length % 32) = wleft xs) (hs : 32 ≤ xs.length % 32 + N) :
    wtaken (wnums v xs (xs.length / 32)) (ps.take (xs.length % 32) ++ ys.take (min N (32 - xs.length % 32)) ++ ps.drop (xs.length % 32 + min N (32 - xs.length % 32))) 4 = wnums v (xs ++ ys) (xs.length / 32 + 1) ∧ ys.drop (min N (32 - xs.length % 32)) = (xs ++ ys).drop (32 * (xs.length / 32 + 1)) := by
  have e1 : min N (32 - xs.length % 32) = 32 - xs.length % 32 := by omega
  have e2 : ps.drop (xs.length % 32 + (32 - xs.length % 32)) = [] := List.drop_eq_nil_of_le (by omega)
  rw [e1, e2, List.append_nil, ht]
  refine ⟨?_, ?_⟩
  · show _ = wtaken (wnums v (xs ++ ys) (xs.length / 32)) ((xs ++ ys).drop (32 * (xs.length / 32))) 4
    rw [wnums_append _ _ _ _ (by omega), List.drop_append_of_le_length (by omega)]
    have e3 : xs.drop (32 * (xs.length / 32)) ++ ys = wleft xs ++ ys.take (32 - xs.length % 32) ++ ys.drop (32 - xs.length % 32) := by
      rw [List.append_assoc, List.take_append_drop]
      rfl
    rw [e3, wtaken_append _ (wleft xs ++ ys.take (32 - xs.length % 32)) _ _ (by rw [List.length_append, wleft_length, List.length_take]; omega)]
  · rw [List.drop_append, show xs.drop (32 * (xs.length / 32 + 1)) = [] from List.drop_eq_nil_of_le (by omega), List.nil_append]
    congr 1
    omega
/-- What stands behind the last whole block goes into the part. -/
theorem part_end (all ps : List Int) (k m : Nat) (hm : m = (all.drop (32 * k)).length) (hk : 32 * k ≤ all.length) (hs : m < 32) :
    (ps.take 0 ++ (all.drop (32 * k)).take (min m 32) ++ ps.drop (0 + min m 32)).take (all.length % 32) = wleft all ∧ k = all.length / 32 := by
  rw [List.length_drop] at hm
  have e : k = all.length / 32 := by omega
  refine ⟨?_, e⟩
  rw [List.take_zero, List.nil_append]
  rw [List.take_append_of_le_length (by simp; omega), List.take_of_length_le (by simp; omega), List.take_of_length_le (by simp; omega)]
  unfold wleft
  rw [e]

theorem Keeps.setRow {S : Nat → Prop} {a b : World} (h : Keeps S a b) {g : Nat} (hg : S g) (cs : Array Value) : Keeps S a (b.setRow g cs) := by
  refine ⟨h.os, h.tape, h.output, ?_, fun k hk hn => ?_⟩
  · refine Nat.le_trans h.size ?_
    unfold World.setRow
    simp
  · refine Eq.trans ?_ (h.block k hk hn)
    have hkg : ¬ g = k := fun e => hn (e ▸ hg)
    unfold World.setRow
    simp [Array.getElem?_modify, hkg]
theorem Whole.setRow {w : World} {g : Nat} {t : TypeId} {cs : Array Value} (h : Whole w g t cs) (cs' : Array Value) : Whole (w.setRow g cs') g t cs' := setRow_heap w g cs cs' t (0, 0) h

/-- Bytes are copied into a State's part. -/
theorem copy_part {w : World} {g : Nat} {s : Int} {v : Nat → Int} {ps : List Int} {z : Int} (h : StAt w g s v ps z) (o D off : Nat) (hoff : off = 5 + o) (hD : o + D ≤ 32) (p : Option Addr) (N c : Nat) (ys : List Int) (hx : N = ys.length) (hn0 : p = none → N = 0 ∧ c = 0) (hb : Bytes8 w p ys) (ho : Octets ys) :
    ∃ w', (Builtin.copy_ #[38, 38] 3 #[.slice (some ⟨g, off, none⟩) D D, .slice p N c]).run Try.prog w = .ok (.int .i64 ((min N D : Nat) : Int)) w' ∧ StAt w' g s v (ps.take o ++ ys.take (min N D) ++ ps.drop (o + min N D)) z ∧ Keeps (Just g) w w' := by
  obtain ⟨hl, hpo, hwh⟩ := h
  subst hoff
  obtain ⟨i0, hi, hz0, hz1, hz2⟩ := info_parts infoByte
  cases p with
  | none =>
    obtain ⟨rfl, rfl⟩ := hn0 rfl
    refine ⟨w, ?_, ⟨by simpa using hl, by simpa using hpo, by simpa using hwh⟩, Keeps.refl _ _⟩
    rw [Nat.zero_min]
    exact run_copy_nil Try.prog w _ _ _ _ _ _ _ Try.underlying38 (by rw [hi]; rfl)
  | some a =>
    have hlen : (ys.take (min N D)).length = min N D := by rw [List.length_take]; omega
    have e := run_copy_row Try.prog w 38 38 3 5 g (5 + o) D D a N c (scells s v ps z) 123 ((ys.take (min N D)).map (Value.int .u8)) Try.underlying38 (by rw [hi]; simpa using hz1) hwh (by rw [List.length_map, hlen])
      (fun j u hj => by
        have hj1 := (List.getElem?_eq_some_iff.1 hj).1
        rw [List.length_map, hlen] at hj1
        obtain ⟨a', ha', hcell⟩ := hb (by omega)
        obtain rfl := Option.some.inj ha'
        rw [hcell j (by omega)]
        rw [← hj]
        simp [show j < min N D by omega, show j < ys.length by omega])
      (by rw [List.length_map, hlen]; show 5 + o + min N D ≤ (scells s v ps z).size; simp [scells, hl]; omega)
      (fun u hu => by obtain ⟨x, _, rfl⟩ := List.mem_map.1 hu; rfl)
    rw [List.length_map, hlen] at e
    have hc := scells_copy s v (ps := ps) (cs := ys.take (min N D)) z o hl (by rw [hlen]; omega)
    rw [hlen] at hc
    rw [hc] at e
    refine ⟨_, e, ⟨?_, ?_, hwh.setRow _⟩, (Keeps.refl _ _).setRow (Just.self g) _⟩
    · simp [hl]; omega
    · intro b hb'
      simp only [List.mem_append] at hb'
      rcases hb' with (hb' | hb') | hb'
      · exact hpo.take _ b hb'
      · exact ho.take _ b hb'
      · exact hpo.drop _ b hb'
end Go.Proofs.Ytbchiccgkhnkaaa

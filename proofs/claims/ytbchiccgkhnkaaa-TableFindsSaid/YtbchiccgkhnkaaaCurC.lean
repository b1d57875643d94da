/-
  Contracts of bytes.Clone and of Take: a copy in new memory.
-/
import Derived.Test.YtbchiccgkhnkaaaCurB
namespace Go.Proofs.Ytbchiccgkhnkaaa
open Go.RowKit

theorem infoByte : (Try.prog.info? 5).map (fun i => (i.zero, i.size, i.bytes)) = some (some (.int .u8 0), 1, 1) := by kernel_rfl

/-- A slice of bytes in new memory (nil, if so wanted, too). -/
def Fresh8 (S : Nat → Prop) (n : Nat) (xs : List Int) (w : World) (v : Value) (w' : World) : Prop :=
  ∃ q c, v = .slice q n c ∧ n ≤ c ∧ c ≤ maxLen ∧ Bytes8 w' q xs ∧ (∀ a, q = some a → w.heap.size ≤ a.block ∧ a.block < w'.heap.size) ∧ Keeps S w w'

theorem fresh_of_own {S : Nat → Prop} {w w' : World} {v : Value} {n : Nat} {xs : List Int} (hn : n = xs.length) (hown : w'.ownsRow w.heap.size 5 1 v n (xs.map (Value.int .u8))) (hb : Below w.heap.size w w') : Fresh8 S n xs w v w' := by
  rcases hown with ⟨hl, ⟨rfl, rfl⟩ | ⟨g, cap, cur, rfl, hg, hh, hc1, hc2, hc3, hc4⟩⟩
  · exact ⟨none, 0, rfl, Nat.le_refl _, Nat.zero_le _, fun h => by omega, fun a h => by simp at h, .ofBelow hb⟩
  · refine ⟨_, cap, rfl, hc1, hc2, fun hx => ⟨_, rfl, fun i hi => ?_⟩, fun a ha => ?_, .ofBelow hb⟩
    · have hw : Whole w' g 5 cur := hh
      have hcell : cur[i]? = some (.int .u8 (xs.getD i 0)) := by
        have e : (cur.toList.take (n * 1))[i]? = (xs.map (Value.int .u8))[i]? := by rw [hc4]
        rw [List.getElem?_take, if_pos (by omega)] at e
        rw [← Array.getElem?_toList, e]
        simp [hi]
      have := hw.cell i hcell
      have e : Addr.add ⟨g, 0, none⟩ i = ⟨g, i, none⟩ := by unfold Addr.add; split <;> simp_all
      rw [e]
      exact this
    · obtain rfl := Option.some.inj ha
      exact ⟨hg, lt_of_block hh⟩

set_option maxHeartbeats 800000 in
theorem clone_some (a : Addr) (n c : Nat) (xs : List Int) (w : World) (hx : n = xs.length) (hbig : n ≤ 140737488355328) (hc : Bytes8 w (some a) xs) :
    Calls Try.prog 41 #[.slice (some a) n c] w fun e w' => ∃ v, e = .returned v ∧ Fresh8 NoBlock n xs w v w' := by
  obtain ⟨i0, hi, hz0, hz1, hz2⟩ := info_parts infoByte
  have q22 : ∀ (w : World) (a : Option Addr) (n c n' c' : Nat), (binOp .eql 38 (.slice a n c) (.slice none n' c')).run Try.prog w = .ok (.bool a.isNone) w := fun w a n c n' c' => Lib.run_eql_slice_nil w _ _ a n c n' c' Try.underlying38
  have u22 : ∀ w, Sem.run Try.prog (underlying 38) w = .ok (TypeDesc.slice 5) w := run_underlying Try.underlying38
  have z5 : ∀ w, Sem.run Try.prog (Go.sizeOf 5) w = .ok 1 w := fun w => by simp [Go.sizeOf, typeInfo, hi, hz1]
  have HX := Lib.hid hx; have HC := Lib.hid hc
  clear hx hc
  go_enter Try.func41, Try.ntmps41
  go_wp2_with (at_builtin; refine wpList_append_own _ rfl _ _ 38 rfl w.heap.size 5 i0 (.int .u8 0) 1 1 Try.underlying38 hi hz0 hz1 hz2 rfl (by decide) _ _ _ rfl (World.ownsRow_made w #[] 0 (Nat.le_refl _) (Nat.zero_le _) rfl) a n c (xs.map (Value.int .u8)) rfl ?qc1 ?qc2 ?qc3 ?qc4 ?qc5 ?qc6 ?_)
  case qc1 => have := HX.out; simp; omega
  case qc2 =>
    intro j u hj
    have hjn : j < xs.length := by
      have := (List.getElem?_eq_some_iff.1 hj).1
      simpa using this
    obtain ⟨a', ha', hcell⟩ := HC.out (by omega)
    obtain rfl := Option.some.inj ha'
    refine Lib.cell?_alloc_some _ ?_
    rw [hcell j hjn]
    have e : (xs.map (Value.int .u8))[j]? = some (Value.int .u8 (xs.getD j 0)) := by simp [List.getElem?_eq_getElem hjn]
    rw [e] at hj
    exact hj
  case qc3 => intro u hu; obtain ⟨x, _, rfl⟩ := List.mem_map.1 hu; rfl
  case qc4 => unfold maxLen; omega
  case qc5 => omega
  case qc6 => simp
  intro v' w1 hown hgrow hnil
  have hbel : Below w.heap.size w w1 := ((Below.refl _ w).alloc (Nat.le_refl _) _).grown hgrow (by simp) (by intro k hk; simp [Value.ownBlock] at hk; omega)
  have HF := Lib.hid (fresh_of_own (S := NoBlock) HX.out (by simpa using hown) hbel)
  clear hown hgrow hnil hbel
  go_wp2
  go_ret
  exact ⟨v', rfl, HF.out⟩

theorem clone_nil (n c : Nat) (w : World) : Calls Try.prog 41 #[.slice none n c] w fun e w' => e = .returned (.slice none 0 0) ∧ w = w' := by
  have q22 : ∀ (w : World) (a : Option Addr) (n c n' c' : Nat), (binOp .eql 38 (.slice a n c) (.slice none n' c')).run Try.prog w = .ok (.bool a.isNone) w := fun w a n c n' c' => Lib.run_eql_slice_nil w _ _ a n c n' c' Try.underlying38
  go_enter Try.func41, Try.ntmps41
  go_wp2
  go_ret
  exact ⟨rfl, rfl⟩

theorem fresh_nil (w : World) : Fresh8 NoBlock 0 [] w (.slice none 0 0) w :=
  ⟨none, 0, rfl, Nat.le_refl _, Nat.zero_le _, Bytes8.nil _ _, fun a h => by simp at h, Keeps.refl _ _⟩

theorem clone_any (q : Option Addr) (n c : Nat) (xs : List Int) (w : World) (hx : n = xs.length) (hbig : n ≤ 140737488355328) (hc : Bytes8 w q xs) :
    Calls Try.prog 41 #[.slice q n c] w fun e w' => ∃ v, e = .returned v ∧ Fresh8 NoBlock n xs w v w' := by
  cases q with
  | some a => exact clone_some a n c xs w hx hbig hc
  | none =>
    have h0 : xs.length = 0 := by
      rcases Nat.eq_zero_or_pos xs.length with h | h
      · exact h
      · obtain ⟨a, ha, _⟩ := hc h
        simp at ha
    have hn : n = 0 := by omega
    have hx0 : xs = [] := List.length_eq_zero_iff.1 h0
    subst hx0; subst hn
    refine (clone_nil 0 c w).mono ?_
    rintro e w' ⟨rfl, rfl⟩
    exact ⟨_, rfl, fresh_nil w⟩

/-- What was fresh behind another step, is. -/
theorem Fresh8.after {S S' : Nat → Prop} {n : Nat} {xs : List Int} {w w1 w2 : World} {v : Value} (h : Fresh8 S' n xs w1 v w2) (hk : Keeps S w w1) (hs : ∀ k, S' k → S k) : Fresh8 S n xs w v w2 := by
  obtain ⟨q, c, rfl, h1, h2, h3, h4, h5⟩ := h
  exact ⟨q, c, rfl, h1, h2, h3, fun a ha => ⟨Nat.le_trans hk.size (h4 a ha).1, (h4 a ha).2⟩, hk.then h5 fun k _ hS => hs k hS⟩

/-- Take's answer: the next bytes in new memory; the cursor has gone past them. -/
def TakeOk (k : Nat) (p : Option Addr) (xs : List Int) (N c a n : Nat) (w : World) (e : Ending) (w' : World) : Prop :=
  ∃ v, e = .returned v ∧ Fresh8 (Just k) n ((xs.drop a).take n) w v w' ∧ CurB w' k p N c (a + n) true 0

end Go.Proofs.Ytbchiccgkhnkaaa

/-
  Rows of structs of two cells in memory, of whatever kind: what can be read, what is one's own.
-/
import Derived.Test.YtbchiccgkhnkaaaGrow
namespace Go.Proofs.Ytbchiccgkhnkaaa
open Go.RowKit

section
variable {α : Type} {v0 v1 : α → Value} {dd : α}

/-- A row that can be read. -/
def TwosAt (v0 v1 : α → Value) (dd : α) (w : World) (p : Option Addr) (l : List α) : Prop :=
  ∀ i, i < l.length → ∃ a : Addr, p = some a ∧ w.cell? (a.add (i * 2)) = some (v0 (l.getD i dd)) ∧ w.cell? ⟨(a.add (i * 2)).block, (a.add (i * 2)).off + 1, none⟩ = some (v1 (l.getD i dd))
theorem TwosAt.keep {w w' : World} {p : Option Addr} {l : List α} (h : TwosAt v0 v1 dd w p l) {S : Nat → Prop} (hk : Keeps S w w') (hs : ∀ k, k < w.heap.size → ¬ S k) : TwosAt v0 v1 dd w' p l := fun i hi => by
  obtain ⟨a, rfl, c0, c1⟩ := h i hi
  exact ⟨a, rfl, hk.cell c0 (hs _ (ltOfCell c0)), hk.cell c1 (hs _ (ltOfCell c1))⟩
theorem TwosAt.nil (w : World) (p : Option Addr) : TwosAt v0 v1 dd w p [] := fun i hi => by simp at hi

def twoFlat (v0 v1 : α → Value) (l : List α) : List Value := l.flatMap fun x => [v0 x, v1 x]
theorem twoFlat_append (a b : List α) : twoFlat v0 v1 (a ++ b) = twoFlat v0 v1 a ++ twoFlat v0 v1 b := List.flatMap_append
theorem twoFlat_length : ∀ l : List α, (twoFlat v0 v1 l).length = l.length * 2
  | [] => rfl
  | x :: l => by
    rw [twoFlat, List.flatMap_cons, List.length_append, ← twoFlat, twoFlat_length l]
    simp
    omega
theorem twoFlat_at : ∀ (l : List α) (i j : Nat), i < l.length → j < 2 → (twoFlat v0 v1 l)[i * 2 + j]? = [v0 (l.getD i dd), v1 (l.getD i dd)][j]?
  | [], i, j, h, _ => by simp at h
  | r :: l, 0, j, _, hj => by
    rw [twoFlat, List.flatMap_cons, List.getElem?_append_left (by simp; omega)]
    simp
  | r :: l, i + 1, j, h, hj => by
    rw [twoFlat, List.flatMap_cons, List.getElem?_append_right (by simp; omega), ← twoFlat]
    have e : (i + 1) * 2 + j - [v0 r, v1 r].length = i * 2 + j := by simp; omega
    rw [e, twoFlat_at l i j (by simpa using h) hj]
    simp

theorem add_even_one (a : Addr) (i : Nat) : (⟨(a.add (i * 2)).block, (a.add (i * 2)).off + 1, none⟩ : Addr) = a.add (i * 2 + 1) := by
  unfold Addr.add
  rw [if_neg (show ¬ i * 2 + 1 = 0 by omega)]
  split
  · rename_i h
    rw [h]
  · rfl

/-- The cells of a row that can be read, as an append asks for them. -/
theorem TwosAt.cells {w : World} {ad : Addr} {l : List α} (h : TwosAt v0 v1 dd w (some ad) l) {j : Nat} {u : Value} (hj : (twoFlat v0 v1 l)[j]? = some u) : w.cell? (ad.add j) = some u := by
  have hlt : j < l.length * 2 := by
    have := (List.getElem?_eq_some_iff.1 hj).1
    rwa [twoFlat_length] at this
  have hi : j / 2 < l.length := by omega
  obtain ⟨a, ha, c0, c1⟩ := h (j / 2) hi
  obtain rfl := Option.some.inj ha
  by_cases h2 : j % 2 = 0
  · have e : j = j / 2 * 2 + 0 := by omega
    rw [e, twoFlat_at (dd := dd) l (j / 2) 0 hi (by decide)] at hj
    rw [show j = j / 2 * 2 by omega, c0]
    simpa using hj
  · have e : j = j / 2 * 2 + 1 := by omega
    rw [e, twoFlat_at (dd := dd) l (j / 2) 1 hi (by decide)] at hj
    rw [add_even_one] at c1
    rw [e, c1]
    simpa using hj

theorem TwosAt.ofOwn {w : World} {base n : Nat} {t : TypeId} {v : Value} {l : List α} (h : w.ownsRow base t 2 v n (twoFlat v0 v1 l)) (hn : n = l.length) :
    ∃ p c, v = .slice p n c ∧ n ≤ c ∧ c ≤ 9223372036854775807 ∧ (p = none → n = 0 ∧ c = 0) ∧ TwosAt v0 v1 dd w p l := by
  have h' := h
  rcases h with ⟨_, ⟨rfl, rfl⟩ | ⟨g, cap, cur, rfl, hg, hh, hc1, hc2, hc3, hc4⟩⟩
  · exact ⟨none, 0, rfl, Nat.le_refl _, by decide, fun _ => ⟨rfl, rfl⟩, fun i hi => by omega⟩
  · refine ⟨_, cap, rfl, hc1, by unfold maxLen at hc2; omega, fun h => by simp at h, fun i hi => ?_⟩
    have hc := h'.cells (g := g) rfl
    have ha : ∀ j u, j < 2 → [v0 (l.getD i dd), v1 (l.getD i dd)][j]? = some u → w.cell? ⟨g, i * 2 + j, none⟩ = some u := fun j u hj hu => by
      have := hc (i * 2 + j) u (by rw [twoFlat_at (dd := dd) l i j hi hj]; exact hu)
      rw [Addr.add_lit, Nat.zero_add] at this
      exact this
    refine ⟨⟨g, 0, none⟩, rfl, ?_, ?_⟩
    all_goals simp only [Addr.add_lit, Nat.zero_add]
    · exact ha 0 _ (by decide) rfl
    · exact ha 1 _ (by decide) rfl

/-- A new row. -/
def NewTwos (v0 v1 : α → Value) (dd : α) (w : World) (l : List α) (v : Value) (w' : World) : Prop :=
  ∃ (q : Option Addr) (m d : Nat), v = .slice q m d ∧ m = l.length ∧ m ≤ d ∧ d ≤ 9223372036854775807 ∧ (q = none → m = 0 ∧ d = 0) ∧ TwosAt v0 v1 dd w' q l ∧ Keeps NoBlock w w'
theorem NewTwos.ofNil (w w' : World) (h : Keeps NoBlock w w') : NewTwos v0 v1 dd w [] (.slice none 0 0) w' :=
  ⟨none, 0, 0, rfl, rfl, Nat.le_refl _, by decide, fun _ => ⟨rfl, rfl⟩, TwosAt.nil _ _, h⟩

/-- A row of one's own so far. -/
def TwosSoFar (v0 v1 : α → Value) (t : TypeId) (w0 : World) (l : List α) (v : Value) (wr : World) : Prop := wr.ownsRow w0.heap.size t 2 v l.length (twoFlat v0 v1 l) ∧ Below w0.heap.size w0 wr
theorem TwosSoFar.start {t : TypeId} (w0 : World) : TwosSoFar v0 v1 t w0 ([] : List α) (.slice none 0 0) w0 := ⟨⟨by simp [twoFlat], .inl ⟨rfl, rfl⟩⟩, Below.refl _ _⟩
theorem TwosSoFar.alloc {t : TypeId} {w0 wr : World} {l : List α} {v : Value} (h : TwosSoFar v0 v1 t w0 l v wr) (o : Obj) : TwosSoFar v0 v1 t w0 l v (wr.alloc o) := ⟨World.ownsRow.alloc h.1 o, h.2.alloc h.2.size o⟩
theorem TwosSoFar.keep {t : TypeId} {w0 wr w' : World} {l : List α} {v : Value} (h : TwosSoFar v0 v1 t w0 l v wr) (hk : Keeps NoBlock wr w') : TwosSoFar v0 v1 t w0 l v w' := by
  refine ⟨⟨h.1.1, ?_⟩, h.2.trans (hk.below h.2.size (fun _ _ h => h))⟩
  rcases h.1.2 with hn | ⟨g, cap, cur, rfl, hb, hgg, rest⟩
  · exact .inl hn
  · have hlt : g < wr.heap.size := (Array.getElem?_eq_some_iff.1 hgg).1
    exact .inr ⟨g, cap, cur, rfl, hb, (hk.block g hlt (fun h => h)).trans hgg, rest⟩
theorem TwosSoFar.keeps {t : TypeId} {w0 wr : World} {l : List α} {v : Value} (h : TwosSoFar v0 v1 t w0 l v wr) : Keeps NoBlock w0 wr := .ofBelow h.2
theorem TwosSoFar.new {t : TypeId} {w0 wr : World} {l : List α} {v : Value} (h : TwosSoFar v0 v1 t w0 l v wr) : NewTwos v0 v1 dd w0 l v wr := by
  obtain ⟨p, c, hv, h1, h2, h3, h4⟩ := TwosAt.ofOwn (dd := dd) h.1 rfl
  exact ⟨p, _, c, hv, rfl, h1, h2, h3, h4, Keeps.ofBelow h.2⟩

/-- One more is appended to a row of one's own: it stands in a block of its own; of what was there the row's block alone turns. -/
theorem wpList_append_twoG {w w0 : World} {ops : Array Oper} {rest : List Oper} {o : Oper} {a : Act} {Q : Exit → Act → World → Prop} (hgd : o.guard = none) (s x : Operand) (t : TypeId)
    (ho : o.op = .call { callee := .builtin .append, args := #[s, x], argTypes := #[t, t] })
    (e : TypeId) (i : TypeInfo) (z : Value) (bytes : Nat) (ht : Try.prog.underlying t = some (.slice e)) (hi : Try.prog.info? e = some i) (hz : i.zero = some z)
    (hsize : i.size = 2) (hby : i.bytes = bytes) (hzs : z.cells.size = 2)
    (v : Value) (l : List α) (hs : a.eval s = v) (hown : TwosSoFar v0 v1 e w0 l v w) (g : Nat) (r : α) (hx : a.eval x = .slice (some ⟨g, 0, none⟩) 1 1)
    (h0 : w.cell? ⟨g, 0, none⟩ = some (v0 r)) (h1 : w.cell? ⟨g, 1, none⟩ = some (v1 r)) (o0 : (v0 r).oneCell' = true) (o1 : (v1 r).oneCell' = true)
    (hbytes : (l.length + 1) * bytes ≤ 140737488355328) (hroom : l.length ≤ 140737488355327)
    (h : ∀ v' w', TwosSoFar v0 v1 e w0 (l ++ [r]) v' w' → w.grownBy w' v.ownBlock → wpList Try.prog ops Q rest (a.put o.dst v') w') : wpList Try.prog ops Q (o :: rest) a w := by
  refine wpList_append_own w hgd s x t ho w0.heap.size e i z 2 bytes ht hi hz hsize hby hzs (by decide) v l.length (twoFlat v0 v1 l) hs hown.1 ⟨g, 0, none⟩ 1 1 (twoFlat v0 v1 [r]) hx (by rw [twoFlat_length]; rfl) ?_ ?_ (by unfold maxLen; omega) hbytes hown.2.size ?_
  · intro j u hj
    rw [Addr.add_lit, Nat.zero_add]
    match j, hj with
    | 0, hj => obtain rfl := Option.some.inj hj; exact h0
    | 1, hj => obtain rfl := Option.some.inj hj; exact h1
    | k + 2, hj => simp [twoFlat] at hj
  · intro u hu
    simp only [twoFlat, List.flatMap_cons, List.flatMap_nil, List.append_nil, List.mem_cons, List.not_mem_nil, or_false] at hu
    rcases hu with rfl | rfl
    · exact o0
    · exact o1
  · intro v' w' h2 h3 _
    refine h v' w' ⟨?_, hown.2.trans ((Below.refl _ w).grown h3 hown.2.size (fun k hk => own_from hown.1 hk))⟩ h3
    rw [twoFlat_append, List.length_append]
    exact h2
/-- A block that was there behind the row's beginning, but no row: an append leaves it. -/
theorem TwosSoFar.apart {t : TypeId} {w0 wr : World} {l : List α} {v : Value} (h : TwosSoFar v0 v1 t w0 l v wr) {k : Nat} (hk : wr.heap.size ≤ k) : v.ownBlock ≠ some k := fun e => by
  have := (h.1.lt k e).2
  omega

/-- One more is appended to a row of one's own: it stands in a block of its own. -/
theorem wpList_append_two {w w0 : World} {ops : Array Oper} {rest : List Oper} {o : Oper} {a : Act} {Q : Exit → Act → World → Prop} (hgd : o.guard = none) (s x : Operand) (t : TypeId)
    (ho : o.op = .call { callee := .builtin .append, args := #[s, x], argTypes := #[t, t] })
    (e : TypeId) (i : TypeInfo) (z : Value) (bytes : Nat) (ht : Try.prog.underlying t = some (.slice e)) (hi : Try.prog.info? e = some i) (hz : i.zero = some z)
    (hsize : i.size = 2) (hby : i.bytes = bytes) (hzs : z.cells.size = 2)
    (v : Value) (l : List α) (hs : a.eval s = v) (hown : TwosSoFar v0 v1 e w0 l v w) (g : Nat) (r : α) (hx : a.eval x = .slice (some ⟨g, 0, none⟩) 1 1)
    (h0 : w.cell? ⟨g, 0, none⟩ = some (v0 r)) (h1 : w.cell? ⟨g, 1, none⟩ = some (v1 r)) (o0 : (v0 r).oneCell' = true) (o1 : (v1 r).oneCell' = true)
    (hbytes : (l.length + 1) * bytes ≤ 140737488355328) (hroom : l.length ≤ 140737488355327)
    (h : ∀ v' w', TwosSoFar v0 v1 e w0 (l ++ [r]) v' w' → wpList Try.prog ops Q rest (a.put o.dst v') w') : wpList Try.prog ops Q (o :: rest) a w := by
  exact wpList_append_twoG hgd s x t ho e i z bytes ht hi hz hsize hby hzs v l hs hown g r hx h0 h1 o0 o1 hbytes hroom (fun v' w' h2 _ => h v' w' h2)
/-- A row that can be read is appended to one of one's own. -/
theorem wpList_append_twos {w w0 : World} {ops : Array Oper} {rest : List Oper} {o : Oper} {a : Act} {Q : Exit → Act → World → Prop} (hgd : o.guard = none) (s x : Operand) (t : TypeId)
    (ho : o.op = .call { callee := .builtin .append, args := #[s, x], argTypes := #[t, t] })
    (e : TypeId) (i : TypeInfo) (z : Value) (bytes : Nat) (ht : Try.prog.underlying t = some (.slice e)) (hi : Try.prog.info? e = some i) (hz : i.zero = some z)
    (hsize : i.size = 2) (hby : i.bytes = bytes) (hzs : z.cells.size = 2)
    (v : Value) (l : List α) (hs : a.eval s = v) (hown : TwosSoFar v0 v1 e w0 l v w) (p : Option Addr) (m c : Nat) (l2 : List α) (hx : a.eval x = .slice p m c) (hp0 : p = none → m = 0 ∧ c = 0) (hm : m = l2.length) (hat : TwosAt v0 v1 dd w p l2)
    (o0 : ∀ r, (v0 r).oneCell' = true) (o1 : ∀ r, (v1 r).oneCell' = true)
    (hbytes : (l.length + m) * bytes ≤ 140737488355328) (hroom : l.length + m ≤ 140737488355327)
    (h : ∀ v' w', TwosSoFar v0 v1 e w0 (l ++ l2) v' w' → wpList Try.prog ops Q rest (a.put o.dst v') w') : wpList Try.prog ops Q (o :: rest) a w := by
  refine wpList_append_any hgd s x t ho w0.heap.size e i z 2 bytes ht hi hz hsize hby hzs (by decide) v l.length (twoFlat v0 v1 l) hs hown.1 p m c (twoFlat v0 v1 l2) hx hp0 (by rw [twoFlat_length, hm]) ?_ ?_ (by unfold maxLen; omega) hbytes hown.2.size ?_
  · intro ad had j u hj
    subst had
    exact TwosAt.cells hat hj
  · intro u hu
    obtain ⟨r, _, hr⟩ := List.mem_flatMap.1 hu
    simp only [List.mem_cons, List.not_mem_nil, or_false] at hr
    rcases hr with rfl | rfl
    · exact o0 r
    · exact o1 r
  · intro v' w' h2 h3
    refine h v' w' ⟨?_, hown.2.trans h3⟩
    rw [twoFlat_append, List.length_append, ← hm]
    exact h2
/-- A row that can be read is appended to one of one's own; what was there ahead of its beginning stays. -/
theorem wpList_append_twosB {w w0 : World} {ops : Array Oper} {rest : List Oper} {o : Oper} {a : Act} {Q : Exit → Act → World → Prop} (hgd : o.guard = none) (s x : Operand) (t : TypeId)
    (ho : o.op = .call { callee := .builtin .append, args := #[s, x], argTypes := #[t, t] })
    (e : TypeId) (i : TypeInfo) (z : Value) (bytes : Nat) (ht : Try.prog.underlying t = some (.slice e)) (hi : Try.prog.info? e = some i) (hz : i.zero = some z)
    (hsize : i.size = 2) (hby : i.bytes = bytes) (hzs : z.cells.size = 2)
    (v : Value) (l : List α) (hs : a.eval s = v) (hown : TwosSoFar v0 v1 e w0 l v w) (p : Option Addr) (m c : Nat) (l2 : List α) (hx : a.eval x = .slice p m c) (hp0 : p = none → m = 0 ∧ c = 0) (hm : m = l2.length) (hat : TwosAt v0 v1 dd w p l2)
    (o0 : ∀ r, (v0 r).oneCell' = true) (o1 : ∀ r, (v1 r).oneCell' = true)
    (hbytes : (l.length + m) * bytes ≤ 140737488355328) (hroom : l.length + m ≤ 140737488355327)
    (h : ∀ v' w', TwosSoFar v0 v1 e w0 (l ++ l2) v' w' → Below w0.heap.size w w' → wpList Try.prog ops Q rest (a.put o.dst v') w') : wpList Try.prog ops Q (o :: rest) a w := by
  refine wpList_append_any hgd s x t ho w0.heap.size e i z 2 bytes ht hi hz hsize hby hzs (by decide) v l.length (twoFlat v0 v1 l) hs hown.1 p m c (twoFlat v0 v1 l2) hx hp0 (by rw [twoFlat_length, hm]) ?_ ?_ (by unfold maxLen; omega) hbytes hown.2.size ?_
  · intro ad had j u hj
    subst had
    exact TwosAt.cells hat hj
  · intro u hu
    obtain ⟨r, _, hr⟩ := List.mem_flatMap.1 hu
    simp only [List.mem_cons, List.not_mem_nil, or_false] at hr
    rcases hr with rfl | rfl
    · exact o0 r
    · exact o1 r
  · intro v' w' h2 h3
    refine h v' w' ⟨?_, hown.2.trans h3⟩ h3
    rw [twoFlat_append, List.length_append, ← hm]
    exact h2
theorem TwosSoFar.made {t : TypeId} (w : World) : TwosSoFar v0 v1 t w ([] : List α) (.slice (some ⟨w.heap.size, 0, none⟩) 0 0) (w.alloc (.cells #[] t)) :=
  ⟨World.ownsRow_made w #[] 0 (Nat.le_refl _) (Nat.zero_le _) rfl, (Below.refl _ _).alloc (Nat.le_refl _) _⟩
end
end Go.Proofs.Ytbchiccgkhnkaaa

/-
  Rows2; TabRef; TabRef2; TabRef3; Ref1; TabGet.
-/
import Derived.Deep.QuietTactic
import Derived.StillTailTactics
import Derived.Deep.RegionHeld3
import Derived.Test.YtibojgoeaoinpaaM02
import Derived.Test.YtibojgoeaoinpaaM03
namespace Go.Proofs.Ytibojgoeaoinpaa
open Go.RowKit

section
variable {α : Type} {v0 v1 : α → Value} {dd : α}

/-- A row that can be read. -/
def TwosAt (v0 v1 : α → Value) (dd : α) (w : World) (p : Option Addr) (l : List α) : Prop :=
  ∀ i, i < l.length → ∃ a : Addr, p = some a ∧ w.cell? (a.add (i * 2)) = some (v0 (l.getD i dd)) ∧ w.cell? ⟨(a.add (i * 2)).block, (a.add (i * 2)).off + 1, none⟩ = some (v1 (l.getD i dd))
theorem TwosAt.keep {w w' : World} {p : Option Addr} {l : List α} (h : TwosAt v0 v1 dd w p l) {S : Nat → Prop} (hk : Keeps S w w') (hs : ∀ k, k < w.heap.size → ¬ S k) : TwosAt v0 v1 dd w' p l := fun i hi => by
  obtain ⟨a, rfl, c0, c1⟩ := h i hi
  exact ⟨a, rfl, hk.cell c0 (hs _ (ltOfCell c0)), hk.cell c1 (hs _ (ltOfCell c1))⟩
theorem TwosAt.nil (w : World) (p : Option Addr) : TwosAt v0 v1 dd w p [] := fun i hi => by simp at hi

def twoFlat (v0 v1 : α → Value) (l : List α) : List Value := l.flatMap fun x => [v0 x, v1 x]
theorem twoFlat_append (a b : List α) : twoFlat v0 v1 (a ++ b) = twoFlat v0 v1 a ++ twoFlat v0 v1 b := List.flatMap_append
theorem twoFlat_length : ∀ l : List α, (twoFlat v0 v1 l).length = l.length * 2
  | [] => rfl
  | x :: l => by
    rw [twoFlat, List.flatMap_cons, List.length_append, ← twoFlat, twoFlat_length l]
    simp
    omega
theorem twoFlat_at : ∀ (l : List α) (i j : Nat), i < l.length → j < 2 → (twoFlat v0 v1 l)[i * 2 + j]? = [v0 (l.getD i dd), v1 (l.getD i dd)][j]?
  | [], i, j, h, _ => by simp at h
  | r :: l, 0, j, _, hj => by
    rw [twoFlat, List.flatMap_cons, List.getElem?_append_left (by simp; omega)]
    simp
  | r :: l, i + 1, j, h, hj => by
    rw [twoFlat, List.flatMap_cons, List.getElem?_append_right (by simp; omega), ← twoFlat]
    have e : (i + 1) * 2 + j - [v0 r, v1 r].length = i * 2 + j := by simp; omega
    rw [e, twoFlat_at l i j (by simpa using h) hj]
    simp

theorem add_even_one (a : Addr) (i : Nat) : (⟨(a.add (i * 2)).block, (a.add (i * 2)).off + 1, none⟩ : Addr) = a.add (i * 2 + 1) := by
  unfold Addr.add
  rw [if_neg (show ¬ i * 2 + 1 = 0 by omega)]
  split
  · rename_i h
    rw [h]
  · rfl

/-- The cells of a row that can be read, as an append asks for them. -/
theorem TwosAt.cells {w : World} {ad : Addr} {l : List α} (h : TwosAt v0 v1 dd w (some ad) l) {j : Nat} {u : Value} (hj : (twoFlat v0 v1 l)[j]? = some u) : w.cell? (ad.add j) = some u := by
  have hlt : j < l.length * 2 := by
    have := (List.getElem?_eq_some_iff.1 hj).1
    rwa [twoFlat_length] at this
  have hi : j / 2 < l.length := by omega
  obtain ⟨a, ha, c0, c1⟩ := h (j / 2) hi
  obtain rfl := Option.some.inj ha
  by_cases h2 : j % 2 = 0
  · have e : j = j / 2 * 2 + 0 := by omega
    rw [e, twoFlat_at (dd := dd) l (j / 2) 0 hi (by decide)] at hj
    rw [show j = j / 2 * 2 by omega, c0]
    simpa using hj
  · have e : j = j / 2 * 2 + 1 := by omega
    rw [e, twoFlat_at (dd := dd) l (j / 2) 1 hi (by decide)] at hj
    rw [add_even_one] at c1
    rw [e, c1]
    simpa using hj

theorem TwosAt.ofOwn {w : World} {base n : Nat} {t : TypeId} {v : Value} {l : List α} (h : w.ownsRow base t 2 v n (twoFlat v0 v1 l)) (hn : n = l.length) :
    ∃ p c, v = .slice p n c ∧ n ≤ c ∧ c ≤ 9223372036854775807 ∧ (p = none → n = 0 ∧ c = 0) ∧ TwosAt v0 v1 dd w p l := by
  have h' := h
  rcases h with ⟨_, ⟨rfl, rfl⟩ | ⟨g, cap, cur, rfl, hg, hh, hc1, hc2, hc3, hc4⟩⟩
  · exact ⟨none, 0, rfl, Nat.le_refl _, by decide, fun _ => ⟨rfl, rfl⟩, fun i hi => by omega⟩
  · refine ⟨_, cap, rfl, hc1, by unfold maxLen at hc2; omega, fun h => by simp at h, fun i hi => ?_⟩
    have hc := h'.cells (g := g) rfl
    have ha : ∀ j u, j < 2 → [v0 (l.getD i dd), v1 (l.getD i dd)][j]? = some u → w.cell? ⟨g, i * 2 + j, none⟩ = some u := fun j u hj hu => by
      have := hc (i * 2 + j) u (by rw [twoFlat_at (dd := dd) l i j hi hj]; exact hu)
      rw [Addr.add_lit, Nat.zero_add] at this
      exact this
    refine ⟨⟨g, 0, none⟩, rfl, ?_, ?_⟩
    all_goals simp only [Addr.add_lit, Nat.zero_add]
    · exact ha 0 _ (by decide) rfl
    · exact ha 1 _ (by decide) rfl

/-- A new row. -/
def NewTwos (v0 v1 : α → Value) (dd : α) (w : World) (l : List α) (v : Value) (w' : World) : Prop :=
  ∃ (q : Option Addr) (m d : Nat), v = .slice q m d ∧ m = l.length ∧ m ≤ d ∧ d ≤ 9223372036854775807 ∧ (q = none → m = 0 ∧ d = 0) ∧ TwosAt v0 v1 dd w' q l ∧ Keeps NoBlock w w'
theorem NewTwos.ofNil (w w' : World) (h : Keeps NoBlock w w') : NewTwos v0 v1 dd w [] (.slice none 0 0) w' :=
  ⟨none, 0, 0, rfl, rfl, Nat.le_refl _, by decide, fun _ => ⟨rfl, rfl⟩, TwosAt.nil _ _, h⟩

/-- A row of one's own so far. -/
def TwosSoFar (v0 v1 : α → Value) (t : TypeId) (w0 : World) (l : List α) (v : Value) (wr : World) : Prop := wr.ownsRow w0.heap.size t 2 v l.length (twoFlat v0 v1 l) ∧ Below w0.heap.size w0 wr
theorem TwosSoFar.start {t : TypeId} (w0 : World) : TwosSoFar v0 v1 t w0 ([] : List α) (.slice none 0 0) w0 := ⟨⟨by simp [twoFlat], .inl ⟨rfl, rfl⟩⟩, Below.refl _ _⟩
theorem TwosSoFar.alloc {t : TypeId} {w0 wr : World} {l : List α} {v : Value} (h : TwosSoFar v0 v1 t w0 l v wr) (o : Obj) : TwosSoFar v0 v1 t w0 l v (wr.alloc o) := ⟨World.ownsRow.alloc h.1 o, h.2.alloc h.2.size o⟩
theorem TwosSoFar.keep {t : TypeId} {w0 wr w' : World} {l : List α} {v : Value} (h : TwosSoFar v0 v1 t w0 l v wr) (hk : Keeps NoBlock wr w') : TwosSoFar v0 v1 t w0 l v w' := by
  refine ⟨⟨h.1.1, ?_⟩, h.2.trans (hk.below h.2.size (fun _ _ h => h))⟩
  rcases h.1.2 with hn | ⟨g, cap, cur, rfl, hb, hgg, rest⟩
  · exact .inl hn
  · have hlt : g < wr.heap.size := (Array.getElem?_eq_some_iff.1 hgg).1
    exact .inr ⟨g, cap, cur, rfl, hb, (hk.block g hlt (fun h => h)).trans hgg, rest⟩
theorem TwosSoFar.keeps {t : TypeId} {w0 wr : World} {l : List α} {v : Value} (h : TwosSoFar v0 v1 t w0 l v wr) : Keeps NoBlock w0 wr := .ofBelow h.2
theorem TwosSoFar.new {t : TypeId} {w0 wr : World} {l : List α} {v : Value} (h : TwosSoFar v0 v1 t w0 l v wr) : NewTwos v0 v1 dd w0 l v wr := by
  obtain ⟨p, c, hv, h1, h2, h3, h4⟩ := TwosAt.ofOwn (dd := dd) h.1 rfl
  exact ⟨p, _, c, hv, rfl, h1, h2, h3, h4, Keeps.ofBelow h.2⟩

/-- One more is appended to a row of one's own: it stands in a block of its own; of what was there the row's block alone turns. -/
theorem wpList_append_twoG {w w0 : World} {ops : Array Oper} {rest : List Oper} {o : Oper} {a : Act} {Q : Exit → Act → World → Prop} (hgd : o.guard = none) (s x : Operand) (t : TypeId)
    (ho : o.op = .call { callee := .builtin .append, args := #[s, x], argTypes := #[t, t] })
    (e : TypeId) (i : TypeInfo) (z : Value) (bytes : Nat) (ht : Try.prog.underlying t = some (.slice e)) (hi : Try.prog.info? e = some i) (hz : i.zero = some z)
    (hsize : i.size = 2) (hby : i.bytes = bytes) (hzs : z.cells.size = 2)
    (v : Value) (l : List α) (hs : a.eval s = v) (hown : TwosSoFar v0 v1 e w0 l v w) (g : Nat) (r : α) (hx : a.eval x = .slice (some ⟨g, 0, none⟩) 1 1)
    (h0 : w.cell? ⟨g, 0, none⟩ = some (v0 r)) (h1 : w.cell? ⟨g, 1, none⟩ = some (v1 r)) (o0 : (v0 r).oneCell' = true) (o1 : (v1 r).oneCell' = true)
    (hbytes : (l.length + 1) * bytes ≤ 140737488355328) (hroom : l.length ≤ 140737488355327)
    (h : ∀ v' w', TwosSoFar v0 v1 e w0 (l ++ [r]) v' w' → w.grownBy w' v.ownBlock → wpList Try.prog ops Q rest (a.put o.dst v') w') : wpList Try.prog ops Q (o :: rest) a w := by
  refine wpList_append_own w hgd s x t ho w0.heap.size e i z 2 bytes ht hi hz hsize hby hzs (by decide) v l.length (twoFlat v0 v1 l) hs hown.1 ⟨g, 0, none⟩ 1 1 (twoFlat v0 v1 [r]) hx (by rw [twoFlat_length]; rfl) ?_ ?_ (by unfold maxLen; omega) hbytes hown.2.size ?_
  · intro j u hj
    rw [Addr.add_lit, Nat.zero_add]
    match j, hj with
    | 0, hj => obtain rfl := Option.some.inj hj; exact h0
    | 1, hj => obtain rfl := Option.some.inj hj; exact h1
    | k + 2, hj => simp [twoFlat] at hj
  · intro u hu
    simp only [twoFlat, List.flatMap_cons, List.flatMap_nil, List.append_nil, List.mem_cons, List.not_mem_nil, or_false] at hu
    rcases hu with rfl | rfl
    · exact o0
    · exact o1
  · intro v' w' h2 h3 _
    refine h v' w' ⟨?_, hown.2.trans ((Below.refl _ w).grown h3 hown.2.size (fun k hk => own_from hown.1 hk))⟩ h3
    rw [twoFlat_append, List.length_append]
    exact h2
/-- A block that was there behind the row's beginning, but no row: an append leaves it. -/
theorem TwosSoFar.apart {t : TypeId} {w0 wr : World} {l : List α} {v : Value} (h : TwosSoFar v0 v1 t w0 l v wr) {k : Nat} (hk : wr.heap.size ≤ k) : v.ownBlock ≠ some k := fun e => by
  have := (h.1.lt k e).2
  omega

/-- One more is appended to a row of one's own: it stands in a block of its own. -/
theorem wpList_append_two {w w0 : World} {ops : Array Oper} {rest : List Oper} {o : Oper} {a : Act} {Q : Exit → Act → World → Prop} (hgd : o.guard = none) (s x : Operand) (t : TypeId)
    (ho : o.op = .call { callee := .builtin .append, args := #[s, x], argTypes := #[t, t] })
    (e : TypeId) (i : TypeInfo) (z : Value) (bytes : Nat) (ht : Try.prog.underlying t = some (.slice e)) (hi : Try.prog.info? e = some i) (hz : i.zero = some z)
    (hsize : i.size = 2) (hby : i.bytes = bytes) (hzs : z.cells.size = 2)
    (v : Value) (l : List α) (hs : a.eval s = v) (hown : TwosSoFar v0 v1 e w0 l v w) (g : Nat) (r : α) (hx : a.eval x = .slice (some ⟨g, 0, none⟩) 1 1)
    (h0 : w.cell? ⟨g, 0, none⟩ = some (v0 r)) (h1 : w.cell? ⟨g, 1, none⟩ = some (v1 r)) (o0 : (v0 r).oneCell' = true) (o1 : (v1 r).oneCell' = true)
    (hbytes : (l.length + 1) * bytes ≤ 140737488355328) (hroom : l.length ≤ 140737488355327)
    (h : ∀ v' w', TwosSoFar v0 v1 e w0 (l ++ [r]) v' w' → wpList Try.prog ops Q rest (a.put o.dst v') w') : wpList Try.prog ops Q (o :: rest) a w := by
  exact wpList_append_twoG hgd s x t ho e i z bytes ht hi hz hsize hby hzs v l hs hown g r hx h0 h1 o0 o1 hbytes hroom (fun v' w' h2 _ => h v' w' h2)
/-- A row that can be read is appended to one of one's own. -/
theorem wpList_append_twos {w w0 : World} {ops : Array Oper} {rest : List Oper} {o : Oper} {a : Act} {Q : Exit → Act → World → Prop} (hgd : o.guard = none) (s x : Operand) (t : TypeId)
    (ho : o.op = .call { callee := .builtin .append, args := #[s, x], argTypes := #[t, t] })
    (e : TypeId) (i : TypeInfo) (z : Value) (bytes : Nat) (ht : Try.prog.underlying t = some (.slice e)) (hi : Try.prog.info? e = some i) (hz : i.zero = some z)
    (hsize : i.size = 2) (hby : i.bytes = bytes) (hzs : z.cells.size = 2)
    (v : Value) (l : List α) (hs : a.eval s = v) (hown : TwosSoFar v0 v1 e w0 l v w) (p : Option Addr) (m c : Nat) (l2 : List α) (hx : a.eval x = .slice p m c) (hp0 : p = none → m = 0 ∧ c = 0) (hm : m = l2.length) (hat : TwosAt v0 v1 dd w p l2)
    (o0 : ∀ r, (v0 r).oneCell' = true) (o1 : ∀ r, (v1 r).oneCell' = true)
    (hbytes : (l.length + m) * bytes ≤ 140737488355328) (hroom : l.length + m ≤ 140737488355327)
    (h : ∀ v' w', TwosSoFar v0 v1 e w0 (l ++ l2) v' w' → wpList Try.prog ops Q rest (a.put o.dst v') w') : wpList Try.prog ops Q (o :: rest) a w := by
  refine wpList_append_any hgd s x t ho w0.heap.size e i z 2 bytes ht hi hz hsize hby hzs (by decide) v l.length (twoFlat v0 v1 l) hs hown.1 p m c (twoFlat v0 v1 l2) hx hp0 (by rw [twoFlat_length, hm]) ?_ ?_ (by unfold maxLen; omega) hbytes hown.2.size ?_
  · intro ad had j u hj
    subst had
    exact TwosAt.cells hat hj
  · intro u hu
    obtain ⟨r, _, hr⟩ := List.mem_flatMap.1 hu
    simp only [List.mem_cons, List.not_mem_nil, or_false] at hr
    rcases hr with rfl | rfl
    · exact o0 r
    · exact o1 r
  · intro v' w' h2 h3
    refine h v' w' ⟨?_, hown.2.trans h3⟩
    rw [twoFlat_append, List.length_append, ← hm]
    exact h2
/-- A row that can be read is appended to one of one's own; what was there ahead of its beginning stays. -/
theorem wpList_append_twosB {w w0 : World} {ops : Array Oper} {rest : List Oper} {o : Oper} {a : Act} {Q : Exit → Act → World → Prop} (hgd : o.guard = none) (s x : Operand) (t : TypeId)
    (ho : o.op = .call { callee := .builtin .append, args := #[s, x], argTypes := #[t, t] })
    (e : TypeId) (i : TypeInfo) (z : Value) (bytes : Nat) (ht : Try.prog.underlying t = some (.slice e)) (hi : Try.prog.info? e = some i) (hz : i.zero = some z)
    (hsize : i.size = 2) (hby : i.bytes = bytes) (hzs : z.cells.size = 2)
    (v : Value) (l : List α) (hs : a.eval s = v) (hown : TwosSoFar v0 v1 e w0 l v w) (p : Option Addr) (m c : Nat) (l2 : List α) (hx : a.eval x = .slice p m c) (hp0 : p = none → m = 0 ∧ c = 0) (hm : m = l2.length) (hat : TwosAt v0 v1 dd w p l2)
    (o0 : ∀ r, (v0 r).oneCell' = true) (o1 : ∀ r, (v1 r).oneCell' = true)
    (hbytes : (l.length + m) * bytes ≤ 140737488355328) (hroom : l.length + m ≤ 140737488355327)
    (h : ∀ v' w', TwosSoFar v0 v1 e w0 (l ++ l2) v' w' → Below w0.heap.size w w' → wpList Try.prog ops Q rest (a.put o.dst v') w') : wpList Try.prog ops Q (o :: rest) a w := by
  refine wpList_append_any hgd s x t ho w0.heap.size e i z 2 bytes ht hi hz hsize hby hzs (by decide) v l.length (twoFlat v0 v1 l) hs hown.1 p m c (twoFlat v0 v1 l2) hx hp0 (by rw [twoFlat_length, hm]) ?_ ?_ (by unfold maxLen; omega) hbytes hown.2.size ?_
  · intro ad had j u hj
    subst had
    exact TwosAt.cells hat hj
  · intro u hu
    obtain ⟨r, _, hr⟩ := List.mem_flatMap.1 hu
    simp only [List.mem_cons, List.not_mem_nil, or_false] at hr
    rcases hr with rfl | rfl
    · exact o0 r
    · exact o1 r
  · intro v' w' h2 h3
    refine h v' w' ⟨?_, hown.2.trans h3⟩ h3
    rw [twoFlat_append, List.length_append, ← hm]
    exact h2
theorem TwosSoFar.made {t : TypeId} (w : World) : TwosSoFar v0 v1 t w ([] : List α) (.slice (some ⟨w.heap.size, 0, none⟩) 0 0) (w.alloc (.cells #[] t)) :=
  ⟨World.ownsRow_made w #[] 0 (Nat.le_refl _) (Nat.zero_le _) rfl, (Below.refl _ _).alloc (Nat.le_refl _) _⟩
end
end Go.Proofs.Ytibojgoeaoinpaa

namespace Go.Proofs.Ytibojgoeaoinpaa
open Go.RowKit

/-- An entry, as a value; its cells. -/
def enH (e : En) : Value := .int .u64 (e.hash : Int)
def enA (e : En) : Value := .int .u32 (e.at_ : Int)
def enV (e : En) : Value := .agg #[.int .u64 (e.hash : Int), .int .u32 (e.at_ : Int)]
def enCells (e : En) : Array Value := #[.int .u64 (e.hash : Int), .int .u32 (e.at_ : Int)]
def EnsAt (w : World) (p : Option Addr) (l : List En) : Prop := TwosAt enH enA En.none w p l
def NewEns (w : World) (l : List En) (v : Value) (w' : World) : Prop := NewTwos enH enA En.none w l v w'
theorem EnsAt.at_ {w : World} {p : Option Addr} {l : List En} (h : EnsAt w p l) (j : Nat) (hj : j < l.length) : ∃ a : Addr, p = some a ∧ w.cell? (a.add (j * 2)) = some (.int .u64 ((l.getD j En.none).hash : Int)) ∧ w.cell? ⟨(a.add (j * 2)).block, (a.add (j * 2)).off + 1, none⟩ = some (.int .u32 ((l.getD j En.none).at_ : Int)) := h j hj
theorem EnsAt.keep {w w' : World} {p : Option Addr} {l : List En} (h : EnsAt w p l) (hk : Keeps NoBlock w w') : EnsAt w' p l := TwosAt.keep h hk (fun _ _ h => h)
end Go.Proofs.Ytibojgoeaoinpaa

namespace Go.Proofs.Ytibojgoeaoinpaa
open Go.RowKit

/-- Put's row so far. -/
structure PutSt (l : List En) (e : En) (j : Nat) (o : List En) (b : Bool) : Prop where
  yes : b = true → o ++ l.drop j = putE l e
  no : b = false → o = l.take j ∧ o ++ putE (l.drop j) e = putE l e
  len : o.length ≤ j + 1
theorem PutSt.start (l : List En) (e : En) : PutSt l e 0 [] false := ⟨fun h => by simp at h, fun _ => ⟨rfl, rfl⟩, Nat.zero_le _⟩
theorem drop_getD {l : List En} {j : Nat} (hj : j < l.length) : l.drop j = l.getD j En.none :: l.drop (j + 1) := by
  rw [List.drop_eq_getElem_cons hj]
  simp [hj]
theorem take_getD {l : List En} {j : Nat} (hj : j < l.length) : l.take (j + 1) = l.take j ++ [l.getD j En.none] := by
  rw [List.take_succ_eq_append_getElem hj]
  simp [hj]
theorem PutSt.done {l : List En} {e : En} {j : Nat} {o : List En} (h : PutSt l e j o true) (hj : j < l.length) (hl : o.length ≤ j + 1) : PutSt l e (j + 1) (o ++ [l.getD j En.none]) true :=
  ⟨fun _ => by rw [← h.yes rfl, drop_getD hj, List.append_assoc]; rfl, fun h => by simp at h, by rw [List.length_append]; simp; exact hl⟩
theorem PutSt.same {l : List En} {e : En} {j : Nat} {o : List En} (h : PutSt l e j o false) (hj : j < l.length) (he : l.getD j En.none = e) : PutSt l e (j + 1) (o ++ [l.getD j En.none]) true := by
  obtain ⟨h1, h2⟩ := h.no rfl
  refine ⟨fun _ => ?_, fun h => by simp at h, ?_⟩
  · rw [← h2, drop_getD hj, putE, if_pos he, List.append_assoc]
    rfl
  · rw [h1, List.length_append, List.length_take]; simp; omega
theorem PutSt.ahead {l : List En} {e : En} {j : Nat} {o : List En} (h : PutSt l e j o false) (hj : j < l.length) (he : l.getD j En.none ≠ e) (hl : LessE e (l.getD j En.none)) : PutSt l e (j + 1) ((o ++ [e]) ++ [l.getD j En.none]) true := by
  obtain ⟨h1, h2⟩ := h.no rfl
  refine ⟨fun _ => ?_, fun h => by simp at h, ?_⟩
  · rw [← h2, drop_getD hj, putE, if_neg he, if_pos hl, List.append_assoc, List.append_assoc]
    rfl
  · rw [h1, List.length_append, List.length_append, List.length_take]; simp; omega
theorem PutSt.on {l : List En} {e : En} {j : Nat} {o : List En} (h : PutSt l e j o false) (hj : j < l.length) (he : l.getD j En.none ≠ e) (hl : ¬ LessE e (l.getD j En.none)) : PutSt l e (j + 1) (o ++ [l.getD j En.none]) false := by
  obtain ⟨h1, h2⟩ := h.no rfl
  refine ⟨fun h => by simp at h, fun _ => ⟨?_, ?_⟩, ?_⟩
  · rw [h1, take_getD hj]
  · rw [← h2, drop_getD hj, putE, if_neg he, if_neg hl, List.append_assoc]
    rfl
  · rw [h1, List.length_append, List.length_take]; simp; omega

end Go.Proofs.Ytibojgoeaoinpaa

namespace Go.Proofs.Ytibojgoeaoinpaa
open Go.RowKit

theorem sortE_step {l : List En} {j : Nat} (hj : j < l.length) : putE (sortE (l.take j)) (l.getD j En.none) = sortE (l.take (j + 1)) := by
  rw [take_getD hj, sortE_snoc]

theorem findE_take {l : List En} {h j : Nat} (hj : j < l.length) : findE (l.take (j + 1)) h = ((findE (l.take j) h).1 + (if (l.getD j En.none).hash < h then 1 else 0), (findE (l.take j) h).2 + (if (l.getD j En.none).hash ≤ h then 1 else 0)) := by
  unfold findE
  rw [take_getD hj, List.countP_append, List.countP_append, List.countP_cons, List.countP_cons]
  simp
theorem findE_le (l : List En) (h : Nat) : (findE l h).1 ≤ l.length ∧ (findE l h).2 ≤ l.length := ⟨List.countP_le_length, List.countP_le_length⟩

theorem risesE_adj : ∀ {l : List En}, risesE l = true ↔ ∀ i, i + 1 < l.length → LessE (l.getD i En.none) (l.getD (i + 1) En.none)
  | [] => by simp [risesE]
  | [a] => by simp [risesE]
  | a :: b :: l => by
    rw [risesE, Bool.and_eq_true, risesE_adj (l := b :: l), decide_eq_true_eq]
    constructor
    · rintro ⟨h1, h2⟩ i hi
      cases i with
      | zero => exact h1
      | succ i => exact h2 i (by simpa using hi)
    · intro h
      exact ⟨h 0 (by simp), fun i hi => h (i + 1) (by simpa using hi)⟩

theorem textE_take {l : List En} {j : Nat} (hj : j < l.length) : textE (l.take (j + 1)) = textE (l.take j) ++ (digits ((l.getD j En.none).hash : Int) 8 ++ digits ((l.getD j En.none).at_ : Int) 4) := by
  rw [take_getD hj, textE_snoc]

end Go.Proofs.Ytibojgoeaoinpaa

namespace Go.Proofs.Ytibojgoeaoinpaa
open Go.RowKit

/-- A Reader, as a value. -/
def rdr (xs : List Int) (a y : Int) : Value := .agg #[.string (strOfNums xs), .int .i64 a, .int .i64 y]

theorem str_take (xs : List Int) (n : Nat) : (strOfNums xs).extract 0 n = strOfNums (xs.take n) := by
  apply ByteArray.ext
  simp [strOfNums, List.map_take]
theorem str_drop (xs : List Int) (n : Nat) : (strOfNums xs).extract n (strOfNums xs).size = strOfNums (xs.drop n) := by
  apply ByteArray.ext
  simp only [strOfNums, ByteArray.size]
  simp [List.map_drop]
  rw [List.take_of_length_le (by simp)]

def strSize : Value → Nat
  | .string b => b.size
  | _ => 0
theorem strSize_of (xs : List Int) : strSize (.string (strOfNums xs)) = xs.length := str_size xs

theorem str_piece (xs : List Int) (a b : Nat) (i n : Nat) (ha : a = i) (hb : b = i + n) : (strOfNums xs).extract a b = strOfNums ((xs.drop i).take n) := by
  subst ha hb
  apply ByteArray.ext
  simp [strOfNums, List.map_drop, List.map_take]

theorem str_get (xs : List Int) (h : Octets xs) (k : Nat) (hk : k < (strOfNums xs).size) : (((strOfNums xs)[k].toNat : Nat) : Int) = xs.getD k 0 := by
  have hl : k < xs.length := by rwa [str_size] at hk
  have h1 : (strOfNums xs).data.toList[k]? = some ((strOfNums xs)[k]) := by
    rw [Array.getElem?_toList]
    exact Array.getElem?_eq_getElem hk
  rw [strOfNums_data, List.getElem?_map, List.getElem?_eq_getElem hl] at h1
  have e : UInt8.ofNat (xs[k]).toNat = (strOfNums xs)[k] := by simpa using h1
  have hb := h _ (List.getElem_mem hl)
  rw [← e, UInt8.toNat_ofNat', show xs.getD k 0 = xs[k] by simp [hl]]
  omega

theorem le_step (xs : List Int) (ho : Octets xs) (h8 : xs.length ≤ 8) (m : Nat) (hm : m < xs.length) :
    IntKind.u64.wrap (IntKind.u64.wrap (le (xs.drop (m + 1)) * 256) + IntKind.u64.wrap (xs.getD m 0)) = le (xs.drop m) := by
  have hd : xs.drop m = xs.getD m 0 :: xs.drop (m + 1) := by
    rw [List.drop_eq_getElem_cons hm]
    simp [hm]
  have hb := le_bound (xs.drop m) (ho.drop m)
  have hb2 := le_bound (xs.drop (m + 1)) (ho.drop (m + 1))
  have hg := ho.getD m
  have hp : (2 : Int) ^ (8 * (xs.drop m).length) ≤ 18446744073709551616 := by
    have h1 : 2 ^ (8 * (xs.drop m).length) ≤ 2 ^ 64 := Nat.pow_le_pow_right (by omega) (by rw [List.length_drop]; omega)
    have e : (2 : Int) ^ (8 * (xs.drop m).length) = ((2 ^ (8 * (xs.drop m).length) : Nat) : Int) := by push_cast; rfl
    rw [e]
    exact Int.le_trans (Int.ofNat_le.2 h1) (by decide)
  rw [hd] at hb ⊢
  rw [hd] at hp
  simp only [le] at hb ⊢
  obtain ⟨q, hq⟩ : ∃ q, q = le (xs.drop (m + 1)) := ⟨_, rfl⟩
  rw [← hq] at hb hb2 ⊢
  have h1 : xs.getD m 0 + 256 * q < 18446744073709551616 := Int.lt_of_lt_of_le hb.2 hp
  rw [IntKind.wrap_u64, IntKind.wrap_u64, IntKind.wrap_u64]
  omega

set_option maxHeartbeats 800000 in
set_option maxRecDepth 10000 in
theorem value_ref (xs : List Int) (ho : Octets xs) (h8 : xs.length ≤ 8) (w : World) :
    Calls Try.prog 49 #[.string (strOfNums xs)] w fun e w' => e = .returned (.int .u64 (le xs)) ∧ w = w' := by
  have HO := Lib.hid ho
  have hss : (strOfNums xs).size = xs.length := str_size xs
  obtain ⟨n, hn⟩ : ∃ n, n = xs.length := ⟨_, rfl⟩
  have HN := Lib.hid hn
  rw [← hn] at hss h8
  clear ho hn
  go_enter Try.func49, Try.ntmps49
  go_wp2
  go_loop [3, 4] (fun x i => ∃ k : Nat, k ≤ n ∧ i = .int .i64 ((k : Int) - 1) ∧ x = .int .u64 (le (xs.drop k))) (fun _ i => (intOf i + 1).toNat)
  case atStart => exact ⟨n, Nat.le_refl _, rfl, by rw [HN.out]; simp [le]⟩
  case round =>
    obtain ⟨k, hk, rfl, rfl⟩ := hrel
    by_cases hlt : 1 ≤ k
    · obtain ⟨m, rfl⟩ : ∃ m, k = m + 1 := ⟨k - 1, by omega⟩
      have hi : ((m + 1 : Nat) : Int) - 1 = (m : Int) := by omega
      rw [hi]
      go_wp2
      go_round
      case rel =>
        refine ⟨m, by omega, rfl, congrArg (Value.int IntKind.u64) ?_⟩
        rw [str_get xs HO.out m (by omega)]
        exact le_step xs HO.out (by have := HN.out; omega) m (by have := HN.out; omega)
      case measure => simp [intOf]
    · obtain rfl : k = 0 := by omega
      go_wp2
      go_ret
      exact ⟨by simp, rfl⟩

end Go.Proofs.Ytibojgoeaoinpaa

namespace Go.Proofs.Ytibojgoeaoinpaa
open Go.RowKit

theorem own_apart {w : World} {base size n g : Nat} {e t : TypeId} {v : Value} {xs : List Value} {cs : Array Value} (hte : t ≠ e) (h : w.ownsRow base e size v n xs) (hg : Whole w g t cs) : v.ownBlock ≠ some g := by
  intro hb
  rcases h.2 with ⟨rfl, _⟩ | ⟨k, cap, cur, rfl, _, hk, _⟩
  · simp [Value.ownBlock] at hb
  · obtain rfl : k = g := by simpa [Value.ownBlock] using hb
    have e := hk.symm.trans (show w.heap[k]? = _ from hg)
    simp at e
    exact hte e.2.symm
theorem TwosSoFar.setOther {α : Type} {v0 v1 : α → Value} {t : TypeId} {w0 wr : World} {l : List α} {v : Value} (h : TwosSoFar v0 v1 t w0 l v wr) {p : Addr} (hp : v.ownBlock ≠ some p.block) (hb : w0.heap.size ≤ p.block) (x : Value) : TwosSoFar v0 v1 t w0 l v (wr.setCell p x) :=
  ⟨ownsRow_setCell_other h.1 hp _, h.2.setCell hb _⟩

theorem TwosSoFar.set3 {α : Type} {v0 v1 : α → Value} {t : TypeId} {w0 wr : World} {l : List α} {v : Value} (h : TwosSoFar v0 v1 t w0 l v wr) {g : Nat} (hp : v.ownBlock ≠ some g) (hb : w0.heap.size ≤ g) (x y z : Value) : TwosSoFar v0 v1 t w0 l v (((wr.setCell ⟨g, 0, none⟩ x).setCell ⟨g, 1, none⟩ y).setCell ⟨g, 2, none⟩ z) :=
  ((h.setOther hp hb x).setOther hp hb y).setOther hp hb z

def rdrCells (xs : List Int) (a y : Int) : Array Value := #[.string (strOfNums xs), .int .i64 a, .int .i64 y]

theorem takeE_snoc : ∀ (j : Nat) (xs : List Int), takeE (j + 1) xs = takeE j xs ++ [⟨(le ((xs.drop (12 * j)).take 8)).toNat, (le (((xs.drop (12 * j)).drop 8).take 4)).toNat⟩]
  | 0, xs => by simp [takeE]
  | j + 1, xs => by
    rw [takeE, takeE_snoc j (xs.drop 12)]
    conv => rhs; rw [takeE]
    rw [List.drop_drop, show 12 + 12 * j = 12 * (j + 1) by omega]
    rfl

/-- What Get answers: the place, the error's number, the entries. -/
structure GE where
  m : Nat
  y : Int
  l : List En
def getE (n : Int) (xs : List Int) : GE :=
  if n ≤ 0 then ⟨0, 0, []⟩ else if xs.length / 12 < n.toNat then ⟨0, 2, []⟩ else if risesE (takeE n.toNat xs) = true then ⟨12 * n.toNat, 0, takeE n.toNat xs⟩ else ⟨12 * n.toNat, 8, []⟩
def GotE (w : World) (xs : List Int) (a : Int) (t : GE) (e : Ending) (w' : World) : Prop := ∃ v, e = .returned (.tuple #[rdr (xs.drop t.m) (a + t.m) t.y, v]) ∧ NewEns w t.l v w'

end Go.Proofs.Ytibojgoeaoinpaa

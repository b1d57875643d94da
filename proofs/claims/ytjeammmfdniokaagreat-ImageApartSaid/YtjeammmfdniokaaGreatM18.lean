/-
  SgSt; ImRows; ImRoom; RecRise; InR; ImPlan.
-/
import Derived.Test.YtjeammmfdniokaaGreatM12
import Derived.Test.YtjeammmfdniokaaGreatM13
import Derived.Test.YtjeammmfdniokaaGreatM14
import Derived.Test.YtjeammmfdniokaaGreatM16
import Derived.Test.YtjeammmfdniokaaGreatM17
namespace Go.Proofs.YtjeammmfdniokaaGreat
open Go.RowKit

/-- What a builder has behind a call is its own already, or new. -/
def SubF (F' F : Nat → Prop) (w : World) : Prop := ∀ k, F' k → F k ∨ w.heap.size ≤ k
structure BSt (At : BAt) (w0 wr : World) (F : Nat → Prop) (v : Value) (e s n : Nat) (l : List Rec) : Prop where
  at_ : At wr F v e s n l
  new : ∀ k, F k → w0.heap.size ≤ k
  kept : Keeps NoBlock w0 wr
theorem BSt.keep {At : BAt} (HB : SgBuild At) {w0 wr w' : World} {F : Nat → Prop} {v : Value} {e s n : Nat} {l : List Rec} (h : BSt At w0 wr F v e s n l) (hk : Keeps NoBlock wr w') : BSt At w0 w' F v e s n l :=
  ⟨HB.keep h.at_ hk (fun _ _ h => h), h.new, h.kept.trans hk⟩
theorem BSt.call {At : BAt} {w0 wr w' : World} {F : Nat → Prop} {v : Value} {e s n : Nat} {l l2 : List Rec} (h : BSt At w0 wr F v e s n l) (hs : SgSame At F wr v e s n l2 w') : Keeps F wr w' ∧ ∃ F', SubF F' F wr ∧ BSt At w0 w' F' v e s n l2 := by
  obtain ⟨hk, F', h1, h2⟩ := hs
  exact ⟨hk, F', h1, h2, fun k hk' => (h1 k hk').elim (h.new k) (fun h3 => Nat.le_trans h.kept.size h3), h.kept.then hk (fun k _ hf => by have := h.new k hf; omega)⟩
theorem BSt.gives {At : BAt} {w0 wr w' : World} {F : Nat → Prop} {v u : Value} {e s n : Nat} {l : List Rec} {ys : List Int} (h : BSt At w0 wr F v e s n l) (hs : SgGives At F wr v e s n l ys u w') :
    Keeps F wr w' ∧ OwnB wr ys u w' ∧ ∃ F', SubF F' F wr ∧ BSt At w0 w' F' v e s n l ∧ ∀ k, F' k → u.ownBlock ≠ some k := by
  obtain ⟨hk, ho, F', h1, h2, h3⟩ := hs
  exact ⟨hk, ho, F', h1, ⟨h2, fun k hk' => (h1 k hk').elim (h.new k) (fun h3 => Nat.le_trans h.kept.size h3), h.kept.then hk (fun k _ hf => by have := h.new k hf; omega)⟩, h3⟩
theorem keepsOfGrown {w w' : World} {row : Option Nat} (hg : w.grownBy w' row) : Keeps (fun k => row = some k) w w' :=
  (Keeps.refl _ w).grown hg (fun _ hk => .inl hk)
theorem BSt.grown {At : BAt} (HB : SgBuild At) {w0 wr w' : World} {F : Nat → Prop} {v hv : Value} {e s n : Nat} {l : List Rec} (h : BSt At w0 wr F v e s n l) (hg : wr.grownBy w' hv.ownBlock) (hf : ∀ k, F k → hv.ownBlock ≠ some k) (hb : ∀ k, hv.ownBlock = some k → w0.heap.size ≤ k) : BSt At w0 w' F v e s n l :=
  ⟨HB.keep h.at_ (keepsOfGrown hg) hf, h.new, h.kept.then (keepsOfGrown hg) (fun k _ hr => by have := hb k hr; omega)⟩

/-- A row of one's own that the builder doesn't touch. -/
def OwnR (w0 : World) (F : Nat → Prop) (t : TypeId) (size : Nat) (hv : Value) (n : Nat) (xs : List Value) (wr : World) : Prop := wr.ownsRow w0.heap.size t size hv n xs ∧ ∀ k, F k → hv.ownBlock ≠ some k
theorem OwnR.start (w0 : World) (F : Nat → Prop) (t : TypeId) (size : Nat) (wr : World) : OwnR w0 F t size (.slice none 0 0) 0 [] wr := ⟨World.ownsRow_nil _ _ _ _, fun k _ h => by simp [Value.ownBlock] at h⟩
theorem ownBlocks {w w' : World} {base size n : Nat} {t : TypeId} {v : Value} {xs : List Value} (h : w.ownsRow base t size v n xs) (hb : ∀ k, v.ownBlock = some k → w'.heap[k]? = w.heap[k]?) : w'.ownsRow base t size v n xs := by
  refine ⟨h.1, ?_⟩
  rcases h.2 with hn | ⟨g, cap, cur, rfl, hg, hh, rest⟩
  · exact .inl hn
  · exact .inr ⟨g, cap, cur, rfl, hg, (hb g rfl).trans hh, rest⟩
theorem OwnR.keep {w0 wr w' : World} {F : Nat → Prop} {t : TypeId} {size n : Nat} {hv : Value} {xs : List Value} (h : OwnR w0 F t size hv n xs wr) (hk : Keeps NoBlock wr w') : OwnR w0 F t size hv n xs w' :=
  ⟨ownBlocks h.1 (fun k hk' => hk.block k (h.1.lt k hk').2 (fun h => h)), h.2⟩
theorem OwnR.call {w0 wr w' : World} {F F' : Nat → Prop} {t : TypeId} {size n : Nat} {hv : Value} {xs : List Value} (h : OwnR w0 F t size hv n xs wr) (hk : Keeps F wr w') (hs : SubF F' F wr) : OwnR w0 F' t size hv n xs w' :=
  ⟨ownBlocks h.1 (fun k hk' => hk.block k (h.1.lt k hk').2 (fun hf => h.2 k hf hk')), fun k hf he => (hs k hf).elim (fun h1 => h.2 k h1 he) (fun h1 => by have := (h.1.lt k he).2; omega)⟩
theorem OwnR.grown {w0 wr w' : World} {F : Nat → Prop} {t : TypeId} {size n : Nat} {hv ov : Value} {xs : List Value} (h : OwnR w0 F t size hv n xs wr) (hg : wr.grownBy w' ov.ownBlock) (ho : ∀ k, hv.ownBlock = some k → ov.ownBlock ≠ some k) : OwnR w0 F t size hv n xs w' :=
  ⟨ownBlocks h.1 (fun k hk' => hg.block k (h.1.lt k hk').2 (fun e => ho k hk' e.symm)), h.2⟩
theorem OwnR.added {w0 wr w' : World} {F : Nat → Prop} {t : TypeId} {size n m g cap : Nat} {hv : Value} {xs xs' : List Value} (h : OwnR w0 F t size hv n xs wr) (hF : ∀ k, F k → k < wr.heap.size) (hr : w'.ownsRow w0.heap.size t size (.slice (some ⟨g, 0, none⟩) m cap) m xs') (hg : hv.ownBlock = some g ∨ g = wr.heap.size) :
    OwnR w0 F t size (.slice (some ⟨g, 0, none⟩) m cap) m xs' w' :=
  ⟨hr, fun k hf e => by
    have e' : g = k := by simpa [Value.ownBlock] using e
    subst e'
    rcases hg with h1 | h1
    · exact h.2 _ hf h1
    · have := hF _ hf; omega⟩
/-- Bytes of one's own, whose block may go on, that the builder doesn't touch. -/
def OwnG (w0 : World) (F : Nat → Prop) (hv : Value) (n : Nat) (xs : List Value) (wr : World) : Prop := OwnP wr w0.heap.size hv n xs ∧ ∀ k, F k → hv.ownBlock ≠ some k
theorem OwnG.keep {w0 wr w' : World} {F : Nat → Prop} {n : Nat} {hv : Value} {xs : List Value} (h : OwnG w0 F hv n xs wr) (hk : Keeps NoBlock wr w') : OwnG w0 F hv n xs w' :=
  ⟨h.1.kept (fun k hk' => hk.block k (h.1.lt k hk').2 (fun h => h)), h.2⟩
theorem OwnG.call {w0 wr w' : World} {F F' : Nat → Prop} {n : Nat} {hv : Value} {xs : List Value} (h : OwnG w0 F hv n xs wr) (hk : Keeps F wr w') (hs : SubF F' F wr) : OwnG w0 F' hv n xs w' :=
  ⟨h.1.kept (fun k hk' => hk.block k (h.1.lt k hk').2 (fun hf => h.2 k hf hk')), fun k hf he => (hs k hf).elim (fun h1 => h.2 k h1 he) (fun h1 => by have := (h.1.lt k he).2; omega)⟩
/-- The bytes that a builder gave out, beside it. -/
theorem OwnG.given {w0 wr w' : World} {F' : Nat → Prop} {u : Value} {ys : List Int} (h : OwnB wr ys u w') (hk : w0.heap.size ≤ wr.heap.size) (hf : ∀ k, F' k → u.ownBlock ≠ some k) : OwnG w0 F' u ys.length (ys.map (Value.int .u8)) w' := ⟨h.base hk, hf⟩
/-- Rows of unlike types are apart. -/
theorem rows_apart {w : World} {b1 b2 s1 s2 n1 n2 : Nat} {t1 t2 : TypeId} {v1 v2 : Value} {x1 x2 : List Value} (ht : t1 ≠ t2) (h1 : w.ownsRow b1 t1 s1 v1 n1 x1) (h2 : w.ownsRow b2 t2 s2 v2 n2 x2) : ∀ k, v1.ownBlock = some k → v2.ownBlock ≠ some k := fun k e1 e2 => by
  rcases h1.2 with ⟨rfl, _⟩ | ⟨g, cap, cur, rfl, _, hh, _⟩
  · simp [Value.ownBlock] at e1
  · rcases h2.2 with ⟨rfl, _⟩ | ⟨g', cap', cur', rfl, _, hh', _⟩
    · simp [Value.ownBlock] at e2
    · have a1 : g = k := by simpa [Value.ownBlock] using e1
      have a2 : g' = k := by simpa [Value.ownBlock] using e2
      subst a1
      subst a2
      rw [hh] at hh'
      simp at hh'
      exact ht hh'.2

theorem addL_none {e s n : Nat} {l : List Rec} {r : Rec} (h : addE e s n l r ≠ 0) : addL e s n l r = l := by unfold addL; rw [if_neg h]
theorem addL_some {e s n : Nat} {l : List Rec} {r : Rec} (h : addE e s n l r = 0) : addL e s n l r = l ++ [r] := by unfold addL; rw [if_pos h]
theorem addE_zero {e s n : Nat} {l : List Rec} {r : Rec} (h : addE e s n l r = 0) : checkR r = 0 ∧ fitsP (sgRoom e s n l) ((recB r).length : Int) = true := by
  unfold addE at h
  split at h
  · rename_i h1
    exact absurd h h1
  · rename_i h1
    split at h
    · simp at h
    · split at h
      · simp at h
      · rename_i h2 h3
        exact ⟨by simpa using h1, by simpa using h3⟩
theorem sgRoom_take (e s n : Nat) (l : List Rec) (r : Rec) : sgRoom e s n (l ++ [r]) = takeP (sgRoom e s n l) ((recB r).length : Int) := by
  unfold sgRoom takeP
  rw [outS_snoc, List.length_append, List.length_append, Int.toNat_natCast]
  rfl
structure AccOk (e s n : Nat) (m : Nat) (l : List Rec) : Prop where
  room : InRoom (sgRoom e s n l) l
  fine : ∀ x ∈ l, x.Fine ∧ checkR x = 0
  few : l.length ≤ m
theorem AccOk.start {e s n : Nat} (h : mayHead e s n = true) : AccOk e s n 0 [] := ⟨sgRoom_empty h, fun x hx => by simp at hx, Nat.le_refl _⟩
theorem AccOk.step {e s n m : Nat} {l : List Rec} (h : AccOk e s n m l) (hm : m < 10000) {r : Rec} (hr : r.Fine) : AccOk e s n (m + 1) (addL e s n l r) := by
  by_cases h0 : addE e s n l r = 0
  · rw [addL_some h0]
    obtain ⟨h1, h2⟩ := addE_zero h0
    have hf := h.few
    refine ⟨by rw [sgRoom_take]; exact inRoom_take h.room h2 (by show l.length < 10000; omega), fun x hx => ?_, by rw [List.length_append]; simp; omega⟩
    rcases List.mem_append.1 hx with hx | hx
    · exact h.fine x hx
    · obtain rfl := List.mem_singleton.1 hx
      exact ⟨hr, h1⟩
  · rw [addL_none h0]
    exact ⟨h.room, h.fine, by have := h.few; omega⟩
end Go.Proofs.YtjeammmfdniokaaGreat

namespace Go.Proofs.YtjeammmfdniokaaGreat
open Go.RowKit

theorem getD_app {α : Type} (a b : List α) (d : α) {i : Nat} (h : i < a.length) : (a ++ b).getD i d = a.getD i d := by
  rw [List.getD_eq_getElem?_getD, List.getD_eq_getElem?_getD, List.getElem?_append_left h]
def nilS : Value := .slice none 0 0
theorem infoRcs : (Tryz.prog.info? 22).map (fun i => (i.zero, i.size, i.bytes)) = some (some (.slice none 0 0), 1, 24) := by kernel_rfl

/-- The heads hs of parts ps, each of a row of its own. -/
structure HeadsOk (w0 wr : World) (ps : List (List Rec)) (hs : List Value) : Prop where
  len : hs.length = ps.length
  row : ∀ i, i < ps.length → wr.ownsRow w0.heap.size 46 4 (hs.getD i nilS) (ps.getD i []).length (rcFlat (ps.getD i []))
  apart : ∀ i j k, i < ps.length → j < ps.length → i ≠ j → (hs.getD i nilS).ownBlock = some k → (hs.getD j nilS).ownBlock ≠ some k
/-- Parts, so far: a row of heads of one's own. -/
structure PartsSoFar (w0 : World) (ps : List (List Rec)) (hs : List Value) (v : Value) (wr : World) : Prop where
  heads : HeadsOk w0 wr ps hs
  own : wr.ownsRow w0.heap.size 22 1 v hs.length hs
  below : Below w0.heap.size w0 wr
theorem PartsSoFar.start (w0 : World) : PartsSoFar w0 [] [] nilS w0 :=
  ⟨⟨rfl, fun i hi => by simp at hi, fun i j k hi => by simp at hi⟩, World.ownsRow_nil _ _ _ _, Below.refl _ _⟩
/-- What leaves the rows' blocks leaves the rows. -/
theorem HeadsOk.kept {w0 wr w' : World} {ps : List (List Rec)} {hs : List Value} (h : HeadsOk w0 wr ps hs) (hk : ∀ i k, i < ps.length → (hs.getD i nilS).ownBlock = some k → w'.heap[k]? = wr.heap[k]?) : HeadsOk w0 w' ps hs :=
  ⟨h.len, fun i hi => ownBlocks (h.row i hi) (fun k hk' => hk i k hi hk'), h.apart⟩
theorem PartsSoFar.keep {w0 wr w' : World} {ps : List (List Rec)} {hs : List Value} {v : Value} (h : PartsSoFar w0 ps hs v wr) (hk : Keeps NoBlock wr w') : PartsSoFar w0 ps hs v w' :=
  ⟨h.heads.kept (fun i k hi hk' => hk.block k ((h.heads.row i hi).lt k hk').2 (fun h => h)), ownBlocks h.own (fun k hk' => hk.block k (h.own.lt k hk').2 (fun h => h)), h.below.trans (hk.below h.below.size (fun _ _ h => h))⟩
theorem PartsSoFar.keeps {w0 wr : World} {ps : List (List Rec)} {hs : List Value} {v : Value} (h : PartsSoFar w0 ps hs v wr) : Keeps NoBlock w0 wr := .ofBelow h.below
/-- A part more, without records. -/
theorem PartsSoFar.snoc {w0 wr w' : World} {ps : List (List Rec)} {hs : List Value} {v v' : Value} (h : PartsSoFar w0 ps hs v wr) (hr : w'.ownsRow w0.heap.size 22 1 v' (hs.length + 1) (hs ++ [nilS])) (hg : wr.grownBy w' v.ownBlock) : PartsSoFar w0 (ps ++ [[]]) (hs ++ [nilS]) v' w' := by
  have hl := h.heads.len
  refine ⟨⟨by rw [List.length_append, List.length_append, hl]; rfl, fun i hi => ?_, fun i j k hi hj hij => ?_⟩, by rw [List.length_append]; exact hr, h.below.trans ((Below.refl _ wr).grown hg h.below.size (fun k hk => own_from h.own hk))⟩
  · rw [List.length_append, List.length_singleton] at hi
    by_cases he : i < ps.length
    · rw [getD_app _ _ _ (by omega), getD_app _ _ _ he]
      exact ownBlocks (h.heads.row i he) (fun k hk => hg.block k ((h.heads.row i he).lt k hk).2 (fun e => rows_apart (by decide) (h.heads.row i he) h.own k hk e.symm))
    · obtain rfl : i = ps.length := by omega
      have e1 : (hs ++ [nilS]).getD ps.length nilS = nilS := by rw [List.getD_eq_getElem?_getD, List.getElem?_append_right (by omega), hl, Nat.sub_self]; rfl
      have e2 : (ps ++ [[]]).getD ps.length ([] : List Rec) = [] := by rw [List.getD_eq_getElem?_getD, List.getElem?_append_right (by omega), Nat.sub_self]; rfl
      rw [e1, e2]
      exact World.ownsRow_nil _ _ _ _
  · rw [List.length_append, List.length_singleton] at hi hj
    have e1 : ∀ x, ps.length ≤ x → (hs ++ [nilS]).getD x nilS = nilS := fun x hx => by
      rw [List.getD_eq_getElem?_getD, List.getElem?_append_right (by omega)]
      rcases Nat.eq_zero_or_pos (x - hs.length) with h0 | h0
      · rw [h0]; rfl
      · rw [List.getElem?_eq_none (by simp; omega)]; rfl
    by_cases hi' : i < ps.length
    · by_cases hj' : j < ps.length
      · rw [getD_app _ _ _ (by omega), getD_app _ _ _ (by omega)]
        exact h.heads.apart i j k hi' hj' hij
      · rw [e1 j (by omega)]
        intro _
        simp [nilS, Value.ownBlock]
    · rw [e1 i (by omega)]
      intro hk
      simp [nilS, Value.ownBlock] at hk
/-- A record more in part m: its row has grown, its head stands anew. -/
theorem HeadsOk.put {w0 wr w' : World} {ps : List (List Rec)} {hs : List Value} (h : HeadsOk w0 wr ps hs) {m g cap : Nat} (hm : m < ps.length) (r : Rec)
    (hr : w'.ownsRow w0.heap.size 46 4 (.slice (some ⟨g, 0, none⟩) ((ps.getD m []).length + 1) cap) ((ps.getD m []).length + 1) (rcFlat (ps.getD m []) ++ rcFour r))
    (hg : wr.grownBy w' (hs.getD m nilS).ownBlock) (hn : (hs.getD m nilS).ownBlock = some g ∨ wr.heap.size ≤ g) :
    HeadsOk w0 w' (ps.set m (ps.getD m [] ++ [r])) (hs.set m (.slice (some ⟨g, 0, none⟩) ((ps.getD m []).length + 1) cap)) := by
  have hl := h.len
  have e1 : ∀ x, (hs.set m (.slice (some ⟨g, 0, none⟩) ((ps.getD m []).length + 1) cap)).getD x nilS = if x = m then .slice (some ⟨g, 0, none⟩) ((ps.getD m []).length + 1) cap else hs.getD x nilS := fun x => by
    rw [List.getD_eq_getElem?_getD, List.getElem?_set]
    by_cases hx : m = x
    · subst hx
      rw [if_pos rfl, if_pos rfl, if_pos (by omega)]
      rfl
    · rw [if_neg hx, if_neg (fun e => hx e.symm), List.getD_eq_getElem?_getD]
  have e2 : ∀ x, (ps.set m (ps.getD m [] ++ [r])).getD x [] = if x = m then ps.getD m [] ++ [r] else ps.getD x [] := fun x => by
    rw [List.getD_eq_getElem?_getD, List.getElem?_set]
    by_cases hx : m = x
    · subst hx
      rw [if_pos rfl, if_pos rfl, if_pos hm]
      simp
    · rw [if_neg hx, if_neg (fun e => hx e.symm), List.getD_eq_getElem?_getD]
  have hgl : ∀ i, i < ps.length → i ≠ m → (hs.getD i nilS).ownBlock ≠ some g := fun i hi him hk => by
    rcases hn with hn | hn
    · exact h.apart i m g hi hm him hk hn
    · have := ((h.row i hi).lt g hk).2
      omega
  refine ⟨by rw [List.length_set, List.length_set, hl], fun i hi => ?_, fun i j k hi hj hij => ?_⟩
  · rw [List.length_set] at hi
    rw [e1, e2]
    by_cases him : i = m
    · rw [if_pos him, if_pos him, List.length_append, rcFlat_append, show rcFlat [r] = rcFour r by simp [rcFlat]]
      exact hr
    · rw [if_neg him, if_neg him]
      exact ownBlocks (h.row i hi) (fun k hk => hg.block k ((h.row i hi).lt k hk).2 (fun e => h.apart i m k hi hm him hk e.symm))
  · rw [List.length_set] at hi hj
    rw [e1, e1]
    by_cases him : i = m
    · rw [if_pos him, if_neg (fun e => hij (him.trans e.symm))]
      intro hk
      have : g = k := by simpa [Value.ownBlock] using hk
      subst this
      exact hgl j hj (fun e => hij (him.trans e.symm))
    · rw [if_neg him]
      by_cases hjm : j = m
      · rw [if_pos hjm]
        intro hk e
        have : g = k := by simpa [Value.ownBlock] using e
        subst this
        exact hgl i hi him hk
      · rw [if_neg hjm]
        exact h.apart i j k hi hj hij
end Go.Proofs.YtjeammmfdniokaaGreat

namespace Go.Proofs.YtjeammmfdniokaaGreat

/-- A part and a room of its number that it fits into. -/
structure PartIn (e s i : Nat) (p : List Rec) : Prop where
  room : ∃ r : Rm, InRoom r p ∧ r.e = e ∧ r.s = s ∧ r.num = i
  full : 0 < p.length
theorem PartIn.length {e s i : Nat} {p : List Rec} (h : PartIn e s i p) (b : Bool) : (textS e s i p b).length = 2 ^ e ∧ (framesS e s i p b).length ≤ 2 ^ e := by
  obtain ⟨r, h1, rfl, rfl, rfl⟩ := h.room
  exact ⟨text_length h1 b (fun _ => h.full), frames_fit h1 b (fun _ => h.full)⟩
/-- How far parts and rooms have come. -/
inductive PartsOk (e s : Nat) : List (List Rec) → Rm → Prop
  | start : PartsOk e s [] (emptyP e s 0)
  | more (init : List (List Rec)) (last : List Rec) (r : Rm) : InRoom r last → r.e = e → r.s = s → r.num = init.length → 0 < last.length →
      (∀ i p, init[i]? = some p → PartIn e s i p) → PartsOk e s (init ++ [last]) r
theorem PartsOk.all {e s : Nat} {out : List (List Rec)} {r : Rm} (h : PartsOk e s out r) : ∀ i p, out[i]? = some p → PartIn e s i p := by
  cases h with
  | start => intro i p h; simp at h
  | more init last r h1 h2 h3 h4 h5 h6 =>
    intro i p hp
    by_cases hi : i < init.length
    · rw [List.getElem?_append_left hi] at hp
      exact h6 i p hp
    · rw [List.getElem?_append_right (by omega)] at hp
      by_cases he : i - init.length = 0
      · rw [he] at hp
        have hpl : last = p := by simpa using hp
        subst hpl
        exact ⟨⟨r, h1, h2, h3, by omega⟩, h5⟩
      · have : i - init.length ≥ ([last] : List (List Rec)).length := by simp; omega
        rw [List.getElem?_eq_none this] at hp
        simp at hp
theorem parts_step {e s : Nat} (hm : mayC e s = true) {out : List (List Rec)} {st : PSt} (x : Rec) (hy : st.y = 0) (h : PartsOk e s out st.r) (hc : out.flatten.length < 10000) (h2 : (stepP e s st ((recB x).length : Int)).y = 0) :
    ∃ k, (stepP e s st ((recB x).length : Int)).out = st.out ++ [k] ∧ PartsOk e s (putPart out k x) (stepP e s st ((recB x).length : Int)).r := by
  obtain ⟨m1, m2, m3, m4⟩ := mayC_true.1 hm
  have hmay : ∀ k, k < s → mayHead e s k = true := fun k hk => mayHead_true.2 ⟨m1, m2, m3, m4, hk⟩
  unfold stepP at h2 ⊢
  rw [if_neg (by rw [hy]; simp)] at h2 ⊢
  split at h2
  · rename_i q2
    rw [if_pos q2]
    split at h2
    · rename_i q3
      rw [if_pos q3]
      refine ⟨_, rfl, ?_⟩
      obtain ⟨y, r, o⟩ := st
      simp only at h q3 ⊢
      cases h with
      | start =>
        have h1 := inRoom_take (inRoom_empty (hmay 0 (by omega))) q3 (by show 0 < _; omega)
        show PartsOk e s (putPart [] 0 x) _
        rw [show putPart ([] : List (List Rec)) 0 x = [] ++ [[x]] from putPart_next [] x]
        exact .more [] [x] _ h1 rfl rfl rfl (by simp) (fun i p hp => by simp at hp)
      | more init last r a1 a2 a3 a4 a5 a6 =>
        have hcl : last.length < 10000 := by
          rw [List.flatten_append, List.length_append] at hc
          simp at hc
          omega
        have h1 := inRoom_take a1 q3 (by rw [a1.count]; exact hcl)
        rw [show r.num = init.length from a4, putPart_last]
        exact .more init (last ++ [x]) _ h1 a2 a3 a4 (by simp) a6
    · rename_i q3
      rw [if_neg q3]
      split at h2
      · exact absurd h2 (by decide)
      · rename_i q4
        rw [if_neg q4]
        refine ⟨_, rfl, ?_⟩
        obtain ⟨y, r, o⟩ := st
        simp only at h q3 q4 ⊢
        cases h with
        | start =>
          exfalso
          exact q3 (fits_empty (by omega) (by omega) (Nat.zero_le _) q2)
        | more init last r a1 a2 a3 a4 a5 a6 =>
          have hk : r.num + 1 = (init ++ [last]).length := by simp; omega
          have hall := (PartsOk.more init last r a1 a2 a3 a4 a5 a6).all
          have hf := fits_empty (e := e) (s := s) (m := r.num + 1) (n := s - 1) (by omega) (by omega) (by omega) q2
          have h1 := inRoom_take (inRoom_empty (hmay (r.num + 1) (by omega))) hf (by show 0 < _; omega)
          have hpp : putPart (init ++ [last]) (r.num + 1) x = (init ++ [last]) ++ [[x]] := by rw [hk]; exact putPart_next _ x
          rw [hpp]
          exact .more (init ++ [last]) [x] _ h1 rfl rfl hk (by simp) hall
  · exact absurd h2 (by decide)
theorem fold_parts {e s : Nat} (hm : mayC e s = true) : ∀ (l : List Rec) (out : List (List Rec)) (st : PSt), st.y = 0 → PartsOk e s out st.r → out.flatten.length + l.length ≤ 10000 → ((sizesR l).foldl (stepP e s) st).y = 0 →
    ∃ t r, ((sizesR l).foldl (stepP e s) st).out = st.out ++ t ∧ PartsOk e s (partsGo out l t) r
  | [], out, st, _, h, _, _ => ⟨[], st.r, by simp [sizesR], h⟩
  | x :: l, out, st, hy, h, hc, h2 => by
    have e1 : sizesR (x :: l) = ((recB x).length : Int) :: sizesR l := rfl
    rw [e1, List.foldl_cons] at h2 ⊢
    have hy2 : (stepP e s st ((recB x).length : Int)).y = 0 := by
      by_cases hq : (stepP e s st ((recB x).length : Int)).y = 0
      · exact hq
      · rw [foldP_gone _ hq] at h2; exact h2
    obtain ⟨k, hk, hp⟩ := parts_step hm x hy h (by rw [List.length_cons] at hc; omega) hy2
    have hkk : (putPart out k x).flatten.length ≤ out.flatten.length + 1 := by
      unfold putPart
      have hset : ∀ (o : List (List Rec)) (j : Nat), (o.set j (o.getD j [] ++ [x])).flatten.length ≤ o.flatten.length + 1 := by
        intro o
        induction o with
        | nil => intro j; simp
        | cons a o ih =>
          intro j
          cases j with
          | zero =>
            simp only [List.set_cons_zero, List.flatten_cons, List.length_append, List.getD_cons_zero, List.length_cons, List.length_nil]
            omega
          | succ j =>
            have := ih j
            simp only [List.set_cons_succ, List.flatten_cons, List.length_append, List.getD_cons_succ] at this ⊢
            omega
      split
      · have := hset (out ++ [[]]) k
        simp only [List.flatten_append, List.length_append, List.flatten_cons, List.flatten_nil, List.length_nil, Nat.add_zero] at this
        exact this
      · exact hset out k
    obtain ⟨t, r, ht, hr⟩ := fold_parts hm l (putPart out k x) _ hy2 hp (by rw [List.length_cons] at hc; omega) h2
    exact ⟨k :: t, r, by rw [ht, hk]; simp, hr⟩
/-- Each segment of an image has its records in a room of its number. -/
theorem plan_parts {e s : Nat} {l : List Rec} (h9 : l.length ≤ 10000) (h : (planI e s l).1 = 0) : mayC e s = true ∧ ∀ i p, (partsGo [] l (planI e s l).2)[i]? = some p → PartIn e s i p := by
  unfold planI at h ⊢
  split at h
  · rename_i hm
    rw [if_pos hm]
    split at h
    · rename_i hr; exact absurd h hr
    · rename_i hr
      rw [if_neg hr]
      have hy : (runP e s (sizesR l)).y = 0 := by
        unfold planP at h
        rw [if_pos hm] at h
        exact h
      obtain ⟨t, r, ht, hp⟩ := fold_parts hm l [] ⟨0, emptyP e s 0, []⟩ rfl .start (by simpa using h9) hy
      have ho : (planP e s (sizesR l)).2 = t := by
        unfold planP
        rw [if_pos hm]
        show (runP e s (sizesR l)).out = t
        unfold runP
        rw [ht]
        rfl
      rw [ho]
      exact ⟨hm, hp.all⟩
  · exact absurd h (by decide)
theorem segs_length {e s : Nat} (m : Nat) : ∀ (ps : List (List Rec)) (i : Nat), (∀ j p, ps[j]? = some p → PartIn e s (i + j) p) → (segsGo e s m i ps).length = ps.length * 2 ^ e
  | [], i, _ => by simp [segsGo]
  | p :: ps, i, h => by
    have h0 := (h 0 p rfl).length (decide (i + 1 < m))
    rw [Nat.add_zero] at h0
    rw [segsGo, List.length_append, h0.1, segs_length m ps (i + 1) (fun j q hq => by
      have := h (j + 1) q (by simpa using hq)
      rwa [show i + (j + 1) = i + 1 + j by omega] at this), List.length_cons, Nat.add_mul, Nat.one_mul]
    omega
/-- An image has as many bytes as its segments. -/
theorem image_length {e s : Nat} {l : List Rec} (h9 : l.length ≤ 10000) (h : (planI e s l).1 = 0) : (encI e s l).2.length = (partsGo [] l (planI e s l).2).length * 2 ^ e := by
  unfold encI
  rw [if_neg (by rw [h]; simp)]
  exact segs_length _ _ 0 (fun j p hp => by rw [Nat.zero_add]; exact (plan_parts h9 h).2 j p hp)
end Go.Proofs.YtjeammmfdniokaaGreat

namespace Go.Proofs.YtjeammmfdniokaaGreat
open Go.RowKit

theorem firstBad_append : ∀ (a b : List Rec), firstBad (a ++ b) = if firstBad a = 0 then firstBad b else firstBad a
  | [], b => by simp [firstBad]
  | r :: a, b => by
    rw [List.cons_append, firstBad, firstBad]
    by_cases h : checkR r = 0
    · rw [if_pos h, if_pos h, firstBad_append a b]
    · rw [if_neg h, if_neg h, if_neg h]
theorem firstBad_take {l : List Rec} {j : Nat} (hj : j < l.length) (h : firstBad (l.take j) = 0) : firstBad (l.take (j + 1)) = checkR (l.getD j Rec.none) := by
  rw [List.take_succ_eq_append_getElem hj, firstBad_append, if_pos h]
  unfold firstBad
  have e : l.getD j Rec.none = l[j] := by simp [hj]
  rw [e]
  by_cases hc : checkR l[j] = 0
  · rw [if_pos hc, hc]
    rfl
  · rw [if_neg hc]
theorem firstBad_stop {l : List Rec} {j : Nat} (h : firstBad (l.take j) ≠ 0) : firstBad l = firstBad (l.take j) := by
  conv => lhs; rw [← List.take_append_drop j l]
  rw [firstBad_append, if_neg h]

theorem rises_adj : ∀ {l : List Rec}, risesR l = true ↔ ∀ i, i + 1 < l.length → (l.getD i Rec.none).seq < (l.getD (i + 1) Rec.none).seq
  | [] => by simp [risesR]
  | [a] => by simp [risesR]
  | a :: b :: l => by
    unfold risesR
    rw [Bool.and_eq_true, rises_adj, decide_eq_true_eq]
    constructor
    · rintro ⟨h1, h2⟩ i hi
      cases i with
      | zero => exact h1
      | succ i => exact h2 i (by simpa using hi)
    · intro h
      exact ⟨h 0 (by simp), fun i hi => h (i + 1) (by simpa using hi)⟩

set_option maxHeartbeats 4000000 in
set_option maxRecDepth 10000 in
theorem rising7_ref (p : Option Addr) (n c : Nat) (l : List Rec) (hn : n = l.length) (hn9 : n ≤ 1000000) (hs : ∀ r ∈ l, r.key.length ≤ 140737488355328 ∧ r.val.length ≤ 140737488355328) (hf : ∀ r ∈ l, r.Fine) (w : World) (hl : RecsAt w p l) :
    Calls Tryz.prog 28 #[.slice p n c] w fun e w' => e = .returned (.int .i64 (risingR l)) ∧ Keeps NoBlock w w' := by
  have HL := Lib.hid hl
  have HN := Lib.hid hn
  have HS := Lib.hid hs
  have HFi := Lib.hid hf
  have HC := Lib.hid (fun (r : Rec) (hr : r ∈ l) w => check7_ref r (hs r hr).1 (hs r hr).2 w)
  clear hl hn hs hf
  go_enter Tryz.func28, Tryz.ntmps28
  go_wp2_with fail
  go_loopw [10] (fun i wr => ∃ j : Nat, j ≤ n ∧ i = .int .i64 (j : Int) ∧ firstBad (l.take j) = 0 ∧ Keeps NoBlock w wr) (fun i _ => n - (intOf i).toNat)
  case atStart => exact ⟨0, Nat.zero_le _, rfl, rfl, Keeps.refl _ _⟩
  case round =>
    obtain ⟨j, hj, rfl, hall, hk⟩ := hrel
    have HK := Lib.hid hk
    have HA := Lib.hid hall
    clear hk hall
    by_cases hlt : j < n
    · have hdj : decide ((j : Int) < (n : Int)) = true := decide_eq_true (by omega)
      have hjl : j < l.length := by rw [← HN.out]; exact hlt
      obtain ⟨a, rfl, c0, c1, c2, c3⟩ := (HL.out.keep HK.out (fun _ _ h => h)) j hjl
      have hmem : l.getD j Rec.none ∈ l := by simp [hjl]
      have HCr := Lib.hid (HC.out _ hmem)
      have HT := Lib.hid (firstBad_take hjl HA.out)
      obtain ⟨r, hr⟩ : ∃ r, r = l.getD j Rec.none := ⟨_, rfl⟩
      rw [← hr] at c0 c1 c2 c3 HCr HT
      obtain ⟨z, hz⟩ : ∃ z, z = checkR r := ⟨_, rfl⟩
      rw [← hz] at HCr HT
      unfold recV at HCr
      clear hr hmem hjl hz
      go_wp2_with fail
      refine (HCr.out _).mono ?_
      rintro e w1 ⟨rfl, hk⟩
      have HK1 := Lib.hid ((HK.out.alloc _).trans hk)
      clear hk
      by_cases h0 : z = 0
      · have hzb : (z != 0) = false := by simpa using h0
        have hzd : decide (z = 0) = true := decide_eq_true h0
        have HT0 : Hid (firstBad (l.take (j + 1)) = 0) := Lib.hid (by rw [HT.out]; exact h0)
        subst h0
        clear HT
        go_wp2_with fail
        exact ⟨⟨j + 1, by omega, by go_num, HT0.out, HK1.out⟩, by simp [intOf]; omega⟩
      · have hzb : (z != 0) = true := by simpa using h0
        have hzd : decide (z = 0) = false := decide_eq_false h0
        have HR : Hid (risingR l = z) := Lib.hid (by
          have hf : firstBad l = z := by rw [firstBad_stop (j := j + 1) (by rw [HT.out]; exact h0), HT.out]
          unfold risingR
          rw [hf, if_pos h0])
        go_wp2_with fail
        go_ret
        rw [HR.out]
        exact ⟨rfl, HK1.out⟩
    · have hdj : decide ((j : Int) < (n : Int)) = false := decide_eq_false (by omega)
      have HB : Hid (firstBad l = 0) := Lib.hid (by
        have := HA.out
        rwa [List.take_of_length_le (by rw [← HN.out]; omega)] at this)
      clear HA
      obtain ⟨wk, hwk⟩ : ∃ wk, wk = wr := ⟨_, rfl⟩
      subst hwk
      go_wp2_with fail
      go_loopw [22] (fun i wr => ∃ k : Nat, k ≤ n ∧ i = .int .i64 (k : Int) ∧ Hid (∀ i, i + 1 < k → (l.getD i Rec.none).seq < (l.getD (i + 1) Rec.none).seq) ∧ Keeps NoBlock w wr) (fun i _ => n - (intOf i).toNat)
      case atStart => exact ⟨0, Nat.zero_le _, rfl, Lib.hid (fun i h => by omega), HK.out⟩
      case round =>
        obtain ⟨k, hk, rfl, HA2, hkk⟩ := hrel
        have HK2 := Lib.hid hkk
        clear hkk
        by_cases hlt2 : k < n
        · have hdk : decide ((k : Int) < (n : Int)) = true := decide_eq_true (by omega)
          have hkl : k < l.length := by rw [← HN.out]; exact hlt2
          obtain ⟨a, rfl, c0, c1, c2, c3⟩ := (HL.out.keep HK2.out (fun _ _ h => h)) k hkl
          have hmem : l.getD k Rec.none ∈ l := by simp [hkl]
          have h64 := (HFi.out _ hmem).seq
          obtain ⟨r, hr⟩ : ∃ r, r = l.getD k Rec.none := ⟨_, rfl⟩
          rw [← hr] at c0 c1 c2 c3 h64
          have HRr := Lib.hid hr
          clear hr hmem hkl
          by_cases hk0 : k = 0
          · have hkp : decide ((0 : Int) < (k : Int)) = false := decide_eq_false (by omega)
            have hkp2 : decide (0 < k) = false := decide_eq_false (by omega)
            have HK0 := Lib.hid hk0
            clear hk0
            have HKn := Lib.hid (HK2.out.alloc (.cells #[.bool r.del, .int .u64 (r.seq : Int), .string (strOfNums r.key), .string (strOfNums r.val)] 46))
            go_wp2_with fail
            obtain ⟨W, hW⟩ : ∃ W, W = wr.alloc (.cells #[.bool r.del, .int .u64 (r.seq : Int), .string (strOfNums r.key), .string (strOfNums r.val)] 46) := ⟨_, rfl⟩
            rw [← hW] at HKn ⊢
            have hw1 : W.cell? ⟨wr.heap.size, 1, none⟩ = some (.int .u64 (r.seq : Int)) := by rw [hW]; exact Whole.cell (Whole.new wr _ _) 1 rfl
            clear hW
            have s0 : W.drew.cell? ⟨wr.heap.size, 1, none⟩ = some (.int .u64 (r.seq : Int)) := hw1
            go_region
            go_wp2_with fail
            exact ⟨⟨k + 1, by omega, by go_num, Lib.hid (fun i h => by have := HK0.out; omega), by first | exact HKn.out | exact HKn.out.drew⟩, by simp [intOf]; omega⟩
          · obtain ⟨m, rfl⟩ : ∃ m, k = m + 1 := ⟨k - 1, by omega⟩
            have hkp : decide ((0 : Int) < ((m + 1 : Nat) : Int)) = true := decide_eq_true (by omega)
            obtain ⟨b, hb, d0, d1, d2, d3⟩ := (HL.out.keep HK2.out (fun _ _ h => h)) m (by have := HN.out; omega)
            obtain rfl := Option.some.inj hb
            obtain ⟨s, hs⟩ : ∃ s, s = l.getD m Rec.none := ⟨_, rfl⟩
            rw [← hs] at d0 d1 d2 d3
            have HSs := Lib.hid hs
            clear hs hb hk0
            have hmn : (m : Int) < (n : Int) := by omega
            have hmn2 : m < n := by omega
            have w1 : IntKind.i64.wrap (m : Int) = (m : Int) := by rw [IntKind.wrap_i64]; omega
            have hm0 : (0 : Int) ≤ (m : Int) := by omega
            have HKn := Lib.hid (HK2.out.alloc (.cells #[.bool r.del, .int .u64 (r.seq : Int), .string (strOfNums r.key), .string (strOfNums r.val)] 46))
            have hd1 := ((Keeps.refl NoBlock wr).alloc (.cells #[.bool r.del, .int .u64 (r.seq : Int), .string (strOfNums r.key), .string (strOfNums r.val)] 46)).cell d1 (fun h => h)
            have hadj : (∀ i, i + 1 < m + 1 + 1 → (l.getD i Rec.none).seq < (l.getD (i + 1) Rec.none).seq) ↔ s.seq < r.seq := by
              constructor
              · intro h
                have := h m (by omega)
                rw [← HRr.out, ← HSs.out] at this
                exact this
              · intro h i hi
                by_cases he : i = m
                · rw [he, ← HRr.out, ← HSs.out]
                  exact h
                · exact HA2.out i (by omega)
            have hbad : ¬ s.seq < r.seq → risingR l = 8 := fun h => by
              have hr : risesR l ≠ true := fun e => h (by
                have := rises_adj.1 e m (by have := HN.out; omega)
                rwa [← HRr.out, ← HSs.out] at this)
              unfold risingR
              rw [HB.out, if_neg (by simp), if_neg hr]
            have HAd := Lib.hid hadj
            have HBd := Lib.hid hbad
            clear hadj hbad
            by_cases hsr : s.seq < r.seq
            · have hdd : decide ((r.seq : Int) ≤ (s.seq : Int)) = false := decide_eq_false (by omega)
              go_wp2_with fail
              obtain ⟨W, hW⟩ : ∃ W, W = wr.alloc (.cells #[.bool r.del, .int .u64 (r.seq : Int), .string (strOfNums r.key), .string (strOfNums r.val)] 46) := ⟨_, rfl⟩
              rw [← hW] at HKn hd1 ⊢
              have hw1 : W.cell? ⟨wr.heap.size, 1, none⟩ = some (.int .u64 (r.seq : Int)) := by rw [hW]; exact Whole.cell (Whole.new wr _ _) 1 rfl
              clear hW
              have s0 : W.drew.cell? ⟨wr.heap.size, 1, none⟩ = some (.int .u64 (r.seq : Int)) ∧ W.drew.cell? ⟨(a.add (m * 4)).block, (a.add (m * 4)).off + 1, none⟩ = some (.int .u64 (s.seq : Int)) := ⟨hw1, hd1⟩
              go_region_held3 (fun w' => w'.cell? ⟨wr.heap.size, 1, none⟩ = some (.int .u64 (r.seq : Int)) ∧ w'.cell? ⟨(a.add (m * 4)).block, (a.add (m * 4)).off + 1, none⟩ = some (.int .u64 (s.seq : Int)))
                (first | exact s0 | exact ⟨hw1, hd1⟩)
                (fail)
              go_wp2_with fail
              exact ⟨⟨m + 1 + 1, by omega, by go_num, Lib.hid (HAd.out.2 hsr), by first | exact HKn.out | exact HKn.out.drew⟩, by simp [intOf]; omega⟩
            · have hdd : decide ((r.seq : Int) ≤ (s.seq : Int)) = true := decide_eq_true (by omega)
              have HRz := Lib.hid (HBd.out hsr)
              go_wp2_with fail
              obtain ⟨W, hW⟩ : ∃ W, W = wr.alloc (.cells #[.bool r.del, .int .u64 (r.seq : Int), .string (strOfNums r.key), .string (strOfNums r.val)] 46) := ⟨_, rfl⟩
              rw [← hW] at HKn hd1 ⊢
              have hw1 : W.cell? ⟨wr.heap.size, 1, none⟩ = some (.int .u64 (r.seq : Int)) := by rw [hW]; exact Whole.cell (Whole.new wr _ _) 1 rfl
              clear hW
              have s0 : W.drew.cell? ⟨wr.heap.size, 1, none⟩ = some (.int .u64 (r.seq : Int)) ∧ W.drew.cell? ⟨(a.add (m * 4)).block, (a.add (m * 4)).off + 1, none⟩ = some (.int .u64 (s.seq : Int)) := ⟨hw1, hd1⟩
              go_region_held3 (fun w' => w'.cell? ⟨wr.heap.size, 1, none⟩ = some (.int .u64 (r.seq : Int)) ∧ w'.cell? ⟨(a.add (m * 4)).block, (a.add (m * 4)).off + 1, none⟩ = some (.int .u64 (s.seq : Int)))
                (first | exact s0 | exact ⟨hw1, hd1⟩)
                (fail)
              go_wp2_with fail
              go_ret
              rw [HRz.out]
              exact ⟨rfl, by first | exact HKn.out | exact HKn.out.drew⟩
        · have hdk : decide ((k : Int) < (n : Int)) = false := decide_eq_false (by omega)
          have HRz : Hid (risingR l = 0) := Lib.hid (risingR_zero.2 ⟨HB.out, rises_adj.2 (fun i hi => HA2.out i (by have := HN.out; omega))⟩)
          go_wp2_with fail
          go_ret
          rw [HRz.out]
          exact ⟨rfl, HK2.out⟩
end Go.Proofs.YtjeammmfdniokaaGreat

namespace Go.Proofs.YtjeammmfdniokaaGreat
open Go.RowKit

/-- Records that come in, whose keys and values are no longer than may be thought of. -/
structure InR (w : World) (p : Option Addr) (n c : Nat) (l : List Rec) : Prop where
  len : n = l.length
  cap : n ≤ c
  room : c ≤ 9223372036854775807
  fine : ∀ r ∈ l, r.Fine
  key : ∀ r ∈ l, r.key.length ≤ 100000
  val : ∀ r ∈ l, r.val.length ≤ 100000
  at_ : RecsAt w p l
theorem InR.keep {w w' : World} {p : Option Addr} {n c : Nat} {l : List Rec} (h : InR w p n c l) (hk : Keeps NoBlock w w') : InR w' p n c l :=
  ⟨h.len, h.cap, h.room, h.fine, h.key, h.val, h.at_.keep hk (fun _ _ h => h)⟩
theorem getR_mem {l : List Rec} {j : Nat} (h : j < l.length) : l.getD j Rec.none ∈ l := by simp [h]
end Go.Proofs.YtjeammmfdniokaaGreat

namespace Go.Proofs.YtjeammmfdniokaaGreat
open Go.RowKit

theorem infoInt : (Tryz.prog.info? 3).map (fun i => (i.zero, i.size, i.bytes)) = some (some (.int .i64 0), 1, 8) := by kernel_rfl

theorem sizesR_take {l : List Rec} {j : Nat} (hj : j < l.length) : sizesR (l.take (j + 1)) = sizesR (l.take j) ++ [((recB (l.getD j Rec.none)).length : Int)] := by
  unfold sizesR
  rw [List.take_succ_eq_append_getElem hj, List.map_append]
  simp [hj]
theorem sizesR_length (l : List Rec) : (sizesR l).length = l.length := by unfold sizesR; rw [List.length_map]
theorem recB_few {r : Rec} (hf : r.Fine) (h1 : r.key.length ≤ 100000) (h2 : r.val.length ≤ 100000) : (recB r).length ≤ 1000000 := by
  have a1 := (seal_length (bodyR r)).2
  have a2 := sizeN_bound (bodyR r).length
  have a3 := bodyR_length hf (by omega) (by omega)
  show (sealN (bodyR r)).length ≤ _
  omega

set_option maxHeartbeats 4000000 in
set_option maxRecDepth 10000 in
theorem plan16_ref (e s : Nat) (p : Option Addr) (n c : Nat) (l : List Rec) (hn9 : n ≤ 10000) (w : World) (hi : InR w p n c l) :
    Calls Tryz.prog 15 #[confV e s, .slice p n c] w (PlanPost w (planI e s l)) := by
  have HM := Lib.hid (fun w => may_ref e s w)
  have HRs := Lib.hid (fun (w : World) hl => rising7_ref p n c l hi.len (by omega) (fun r hr => ⟨by have := hi.key r hr; omega, by have := hi.val r hr; omega⟩) hi.fine w hl)
  have HI := Lib.hid hi
  have HK := Lib.hid ((Keeps.refl NoBlock w).alloc (.cells (confCells e s) 27))
  have HC := Lib.hid (Whole.new w 27 (confCells e s))
  clear hi
  by_cases hm : mayC e s = true
  rotate_left
  · rw [Bool.not_eq_true] at hm
    have hp : planI e s l = (1, []) := by unfold planI; rw [if_neg (by rw [hm]; simp)]
    rw [hm] at HM
    have HP := Lib.hid hp
    clear hm hp
    unfold confV at HM ⊢
    go_enter Tryz.func15, Tryz.ntmps15
    go_wp2_with fail
    refine (HM.out _).mono ?_
    rintro e9 w1 ⟨rfl, hk⟩
    have HK := Lib.hid (HK.out.trans hk)
    clear hk
    go_wp2_with fail
    exact bodyPost_ret (v := .tuple #[.slice none 0 0, .int .i64 1]) (by simp [results, Tryz.results15, go_sem]) rfl (PlanPost.gone HP.out HK.out)
  obtain ⟨y, hy⟩ : ∃ y, y = risingR l := ⟨_, rfl⟩
  rw [← hy] at HRs
  by_cases hr : y = 0
  rotate_left
  · have hp : planI e s l = (y, []) := by unfold planI; rw [if_pos hm, ← hy, if_pos hr]
    rw [hm] at HM
    have HP := Lib.hid hp
    have hz0 : (y == 0) = false := beq_eq_false_iff_ne.2 hr
    clear hm hp hy hr
    unfold confV at HM ⊢
    go_enter Tryz.func15, Tryz.ntmps15
    go_wp2_with fail
    refine (HM.out _).mono ?_
    rintro e9 w1 ⟨rfl, hk⟩
    have HK := Lib.hid (HK.out.trans hk)
    clear hk
    go_wp2_with fail
    refine (HRs.out _ (HI.out.at_.keep HK.out (fun _ _ h => h))).mono ?_
    rintro e9 w2 ⟨rfl, hk⟩
    have HK := Lib.hid (HK.out.trans hk)
    clear hk
    go_wp2_with fail
    exact bodyPost_ret (v := .tuple #[.slice none 0 0, .int .i64 y]) (by simp [results, Tryz.results15, go_sem]) rfl (PlanPost.gone HP.out HK.out)
  subst hr
  have hp : planI e s l = planP e s (sizesR l) := by unfold planI; rw [if_pos hm, ← hy, if_neg (by simp)]
  rw [hp]
  have HPl := Lib.hid (fun q d w (h : InZ w q n d (sizesR l)) => plan14_may e s q n d (sizesR l) hm hn9 w h)
  rw [hm] at HM
  have HRc := Lib.hid (fun j (hj : j < l.length) w => record9_ref (l.getD j Rec.none) (HI.out.fine _ (getR_mem hj)) (by have := HI.out.key _ (getR_mem hj); omega) (by have := HI.out.val _ (getR_mem hj); omega) w)
  have HFe := Lib.hid (fun j (hj : j < l.length) => recB_few (HI.out.fine _ (getR_mem hj)) (HI.out.key _ (getR_mem hj)) (HI.out.val _ (getR_mem hj)))
  obtain ⟨i0, hi, hz0, hz1, hz2⟩ := info_parts infoInt
  have hnl : n = l.length := HI.out.len
  have HN := Lib.hid hnl
  clear hm hp hy hnl
  obtain ⟨T, hT⟩ : ∃ T, T = planP e s (sizesR l) := ⟨_, rfl⟩
  rw [← hT] at HPl ⊢
  clear hT
  unfold confV at HM HPl ⊢
  go_enter Tryz.func15, Tryz.ntmps15
  go_wp2_with fail
  refine (HM.out _).mono ?_
  rintro e9 w1 ⟨rfl, hk⟩
  have HK := Lib.hid (HK.out.trans hk)
  have HC := Lib.hid (HC.out.keep hk (fun h => h))
  clear hk
  go_wp2_with fail
  refine (HRs.out _ (HI.out.at_.keep HK.out (fun _ _ h => h))).mono ?_
  rintro e9 w2 ⟨rfl, hk⟩
  have HK := Lib.hid (HK.out.trans hk)
  have HC := Lib.hid (HC.out.keep hk (fun h => h))
  clear hk
  go_wp2_with fail
  go_loopw [7, 20] (fun v i wr => ∃ j : Nat, j ≤ n ∧ i = .int .i64 (j : Int) ∧ Hid (OnesSoFar intV 3 w2 (sizesR (l.take j)) v wr)) (fun _ i _ => n - (intOf i).toNat)
  case atStart => exact ⟨0, Nat.zero_le _, rfl, Lib.hid (OnesSoFar.start w2)⟩
  case round =>
    obtain ⟨j, hj, rfl, HS⟩ := hrel
    by_cases hlt : j < n
    · have hdj : decide ((j : Int) < (n : Int)) = true := decide_eq_true (by omega)
      have hdj2 : decide (j < n) = true := decide_eq_true hlt
      have hjl : j < l.length := by rw [← HN.out]; exact hlt
      obtain ⟨a, rfl, c0, c1, c2, c3⟩ := (HI.out.at_.keep (HK.out.trans HS.out.keeps) (fun _ _ h => h)) j hjl
      have HRj := Lib.hid (HRc.out j hjl)
      have hfe := HFe.out j hjl
      have hst := sizesR_take hjl
      have hlen : (sizesR (l.take j)).length ≤ 1000000 := by rw [sizesR_length, List.length_take]; omega
      obtain ⟨r, hr⟩ : ∃ r, r = l.getD j Rec.none := ⟨_, rfl⟩
      rw [← hr] at c0 c1 c2 c3 HRj hfe hst
      have hzs := str_size (recB r)
      have hrb : sealN (bodyR r) = recB r := rfl
      rw [hrb] at HRj
      obtain ⟨Z, hZ⟩ : ∃ Z, Z = (recB r).length := ⟨_, rfl⟩
      rw [← hZ] at hzs hfe hst
      obtain ⟨U, hU⟩ : ∃ U, U = sizesR (l.take j) := ⟨_, rfl⟩
      rw [← hU] at HS hst hlen
      have HLe := Lib.hid hlen
      have HT := Lib.hid hst
      have HS1 := Lib.hid (HS.out.alloc (.cells #[.bool r.del, .int .u64 (r.seq : Int), .string (strOfNums r.key), .string (strOfNums r.val)] 46))
      unfold recV at HRj
      clear hr hjl hlen hst hrb hZ hU
      go_wp2_with fail
      refine (HRj.out _).mono ?_
      rintro e9 w5 ⟨rfl, hk⟩
      have HS2 := Lib.hid ((HS1.out.keep hk).alloc (.cells #[.int .i64 (Z : Int)] 3))
      have HW : Hid (Whole (w5.alloc (.cells #[.int .i64 (Z : Int)] 3)) w5.heap.size 3 #[.int .i64 (Z : Int)]) := Lib.hid (Whole.new _ _ _)
      clear hk HS1 c0 c1 c2 c3
      go_wp2_with (at_builtin; refine wpList_append_oneG (v0 := intV) rfl _ _ 66 rfl 3 i0 (.int .i64 0) 8 Tryz.underlying66 hi hz0 hz1 hz2 rfl _ U rfl HS2.out w5.heap.size (Z : Int) rfl (HW.out.cell 0 rfl) rfl (by have := HLe.out; omega) (by have := HLe.out; omega) ?_)
      intro v' w6 h5 hg5
      have HS5 : Hid (OnesSoFar intV 3 w2 (sizesR (l.take (j + 1))) v' w6) := Lib.hid (by rw [HT.out]; exact h5)
      clear h5 hg5
      go_wp2_with fail
      exact ⟨⟨j + 1, by omega, by go_num, HS5⟩, by simp [intOf]; omega⟩
    · have hdj : decide ((j : Int) < (n : Int)) = false := decide_eq_false (by omega)
      have hdj2 : decide (j < n) = false := decide_eq_false hlt
      have HS2 := HS
      rw [List.take_of_length_le (by have := HN.out; omega)] at HS2
      obtain ⟨q, m, d, rfl, hmq, hmd, hd, hq, hat, hk⟩ := OnesSoFar.new (dd := 0) HS2.out
      rw [sizesR_length, ← HN.out] at hmq
      have hmn : n = m := hmq.symm
      clear hmq
      subst hmn
      have HPz := Lib.hid (HPl.out q d wr ⟨by rw [sizesR_length]; exact HN.out, hmd, hd, fun h => hq h, fun z hz => by
        obtain ⟨r, hr, rfl⟩ := List.mem_map.1 hz
        have := recB_few (HI.out.fine r hr) (HI.out.key r hr) (HI.out.val r hr)
        omega, hat⟩)
      have HC9 := Lib.hid (HC.out.keep hk (fun h => h))
      have HK9 := Lib.hid (HK.out.trans hk)
      have g0 := HC9.out.cell 0 rfl
      have g1 := HC9.out.cell 1 rfl
      simp only [confCells, List.getElem_toArray, List.getElem_cons_zero, List.getElem_cons_succ] at g0 g1
      clear hmd hd hq hat hk HS HS2
      go_wp2_with fail
      refine HPz.out.mono ?_
      rintro e9 w7 ⟨q2, m2, d2, rfl, hm2, hrow, hk⟩
      have HK10 := Lib.hid (HK9.out.trans hk)
      have HRo := Lib.hid hrow
      have HMo := Lib.hid hm2
      clear hm2 hrow hk
      go_wp2_with fail
      exact bodyPost_ret (v := .tuple #[.slice q2 m2 d2, .int .i64 T.1]) (by simp [results, Tryz.results15, go_sem]) rfl ⟨q2, m2, d2, rfl, HMo.out, HRo.out, HK10.out⟩
end Go.Proofs.YtjeammmfdniokaaGreat

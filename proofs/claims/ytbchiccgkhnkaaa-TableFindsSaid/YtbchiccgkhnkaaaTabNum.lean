/-
  Package table over plain numbers: entries, their order, sorted each once.
-/
import Derived.Test.YtbchiccgkhnkaaaElNum
namespace Go.Proofs.Ytbchiccgkhnkaaa

structure En where
  hash : Nat
  at_ : Nat
instance : DecidableEq En := fun a b => decidable_of_iff (a.hash = b.hash ∧ a.at_ = b.at_) ⟨fun h => by cases a; cases b; simp at h; rw [h.1, h.2], fun h => by rw [h]; exact ⟨rfl, rfl⟩⟩
def En.none : En := ⟨0, 0⟩
structure En.Fine (e : En) : Prop where
  hash : e.hash < 18446744073709551616
  at_ : e.at_ < 4294967296
theorem En.ext' {a b : En} (h1 : a.hash = b.hash) (h2 : a.at_ = b.at_) : a = b := by cases a; cases b; simp at h1 h2; rw [h1, h2]
theorem En.ne {a b : En} (h : a ≠ b) : a.hash ≠ b.hash ∨ a.at_ ≠ b.at_ := by
  by_cases h1 : a.hash = b.hash
  · exact .inr fun h2 => h (En.ext' h1 h2)
  · exact .inl h1

/-- Does one stand ahead of another one? -/
def LessE (a b : En) : Prop := a.hash < b.hash ∨ a.hash = b.hash ∧ a.at_ < b.at_
instance (a b : En) : Decidable (LessE a b) := by unfold LessE; infer_instance
theorem LessE.trans {a b c : En} (h : LessE a b) (g : LessE b c) : LessE a c := by unfold LessE at *; omega
theorem LessE.irrefl (a : En) : ¬ LessE a a := by unfold LessE; omega
theorem LessE.total {a b : En} (h : a ≠ b) : LessE a b ∨ LessE b a := by
  have := En.ne h
  unfold LessE
  omega
theorem LessE.not {a b : En} (h : ¬ LessE a b) (hne : a ≠ b) : LessE b a := (LessE.total hne).resolve_left h

def cmpE (a b : En) : Int := if a = b then 0 else if LessE a b then -1 else 1
theorem cmpE_turn (a b : En) : cmpE b a = - cmpE a b := by
  unfold cmpE
  by_cases h : a = b
  · rw [if_pos h, if_pos h.symm]; rfl
  · rw [if_neg h, if_neg (fun e => h e.symm)]
    by_cases h1 : LessE a b
    · rw [if_pos h1, if_neg (fun h2 => LessE.irrefl _ (h1.trans h2))]; rfl
    · rw [if_neg h1, if_pos (LessE.not h1 h)]
theorem cmpE_on {a b c : En} (h1 : cmpE a b ≤ 0) (h2 : cmpE b c ≤ 0) : cmpE a c ≤ 0 := by
  have key : ∀ {a b : En}, cmpE a b ≤ 0 → a = b ∨ LessE a b := fun {a b} h => by
    unfold cmpE at h
    by_cases e : a = b
    · exact .inl e
    · rw [if_neg e] at h
      by_cases l : LessE a b
      · exact .inr l
      · rw [if_neg l] at h
        omega
  have back : ∀ {a b : En}, a = b ∨ LessE a b → cmpE a b ≤ 0 := fun {a b} h => by
    unfold cmpE
    by_cases e : a = b
    · rw [if_pos e]; omega
    · rw [if_neg e, if_pos (h.resolve_left e)]; omega
  rcases key h1 with rfl | l1
  · exact h2
  · rcases key h2 with rfl | l2
    · exact h1
    · exact back (.inr (l1.trans l2))
theorem cmpE_near (a b : En) : -1 ≤ cmpE a b ∧ cmpE a b ≤ 1 := by
  unfold cmpE
  split
  · omega
  · split <;> omega
theorem cmpE_less {a b : En} : cmpE a b < 0 ↔ LessE a b := by
  unfold cmpE
  by_cases e : a = b
  · subst e
    rw [if_pos rfl]
    exact ⟨fun h => by omega, fun h => absurd h (LessE.irrefl _)⟩
  · rw [if_neg e]
    by_cases l : LessE a b
    · rw [if_pos l]; exact ⟨fun _ => l, fun _ => by omega⟩
    · rw [if_neg l]; exact ⟨fun h => by omega, fun h => absurd h l⟩

/-- One more, in its place, once. -/
def putE : List En → En → List En
  | [], e => [e]
  | x :: l, e => if x = e then x :: l else if LessE e x then e :: x :: l else x :: putE l e
def sortE (l : List En) : List En := l.foldl putE []
/-- Do they rise? -/
def risesE : List En → Bool
  | [] => true
  | [_] => true
  | a :: b :: l => decide (LessE a b) && risesE (b :: l)

theorem risesE_pair : ∀ {l : List En}, risesE l = true ↔ l.Pairwise LessE
  | [] => by simp [risesE]
  | [a] => by simp [risesE]
  | a :: b :: l => by
    rw [risesE, Bool.and_eq_true, decide_eq_true_iff, risesE_pair (l := b :: l), List.pairwise_cons (a := a)]
    constructor
    · rintro ⟨h1, h2⟩
      refine ⟨fun c hc => ?_, h2⟩
      rcases List.mem_cons.1 hc with rfl | hc
      · exact h1
      · exact h1.trans ((List.pairwise_cons.1 h2).1 c hc)
    · rintro ⟨h1, h2⟩
      exact ⟨h1 b List.mem_cons_self, h2⟩

theorem putE_mem : ∀ (l : List En) (e x : En), x ∈ putE l e ↔ x ∈ l ∨ x = e
  | [], e, x => by simp [putE]
  | y :: l, e, x => by
    unfold putE
    by_cases h1 : y = e
    · rw [if_pos h1]
      constructor
      · exact .inl
      · rintro (h | rfl)
        · exact h
        · rw [h1]; exact List.mem_cons_self
    · rw [if_neg h1]
      by_cases h2 : LessE e y
      · rw [if_pos h2, List.mem_cons]
        exact Or.comm
      · rw [if_neg h2, List.mem_cons, putE_mem l e x, List.mem_cons]
        exact or_assoc.symm
theorem putE_rises : ∀ {l : List En} (e : En), l.Pairwise LessE → (putE l e).Pairwise LessE
  | [], e, _ => by simp [putE]
  | y :: l, e, h => by
    obtain ⟨h1, h2⟩ := List.pairwise_cons.1 h
    unfold putE
    by_cases e1 : y = e
    · rw [if_pos e1]; exact h
    · rw [if_neg e1]
      by_cases e2 : LessE e y
      · rw [if_pos e2]
        refine List.pairwise_cons.2 ⟨fun c hc => ?_, h⟩
        rcases List.mem_cons.1 hc with rfl | hc
        · exact e2
        · exact e2.trans (h1 c hc)
      · rw [if_neg e2]
        refine List.pairwise_cons.2 ⟨fun c hc => ?_, putE_rises e h2⟩
        rcases (putE_mem l e c).1 hc with hc | rfl
        · exact h1 c hc
        · exact LessE.not e2 (fun hh => e1 hh.symm)
theorem putE_len : ∀ (l : List En) (e : En), (putE l e).length ≤ l.length + 1
  | [], e => by simp [putE]
  | y :: l, e => by
    unfold putE
    split
    · simp
    · split
      · simp
      · have := putE_len l e
        simp only [List.length_cons]
        omega

theorem fold_mem : ∀ (l m : List En) (x : En), x ∈ l.foldl putE m ↔ x ∈ m ∨ x ∈ l
  | [], m, x => by simp
  | y :: l, m, x => by
    rw [List.foldl_cons, fold_mem l (putE m y) x, putE_mem, List.mem_cons]
    exact or_assoc
theorem fold_rises : ∀ (l : List En) {m : List En}, m.Pairwise LessE → (l.foldl putE m).Pairwise LessE
  | [], _, h => h
  | y :: l, _, h => fold_rises l (putE_rises y h)
theorem fold_len : ∀ (l m : List En), (l.foldl putE m).length ≤ m.length + l.length
  | [], m => by simp
  | y :: l, m => by
    have h1 := fold_len l (putE m y)
    have h2 := putE_len m y
    rw [List.foldl_cons, List.length_cons]
    omega
theorem sortE_mem {l : List En} {x : En} : x ∈ sortE l ↔ x ∈ l := by
  unfold sortE
  rw [fold_mem]
  simp
theorem sortE_pair (l : List En) : (sortE l).Pairwise LessE := fold_rises l List.Pairwise.nil
theorem sortE_rises (l : List En) : risesE (sortE l) = true := risesE_pair.2 (sortE_pair l)
theorem sortE_len (l : List En) : (sortE l).length ≤ l.length := by
  have := fold_len l []
  simpa [sortE] using this
theorem sortE_fine {l : List En} (h : ∀ e ∈ l, e.Fine) : ∀ e ∈ sortE l, e.Fine := fun e he => h e (sortE_mem.1 he)
theorem sortE_snoc (l : List En) (e : En) : sortE (l ++ [e]) = putE (sortE l) e := by
  unfold sortE
  rw [List.foldl_append]
  rfl

/-- Rows that rise are told by what is in them. -/
theorem rises_only : ∀ {l m : List En}, l.Pairwise LessE → m.Pairwise LessE → (∀ x, x ∈ l ↔ x ∈ m) → l = m
  | [], [], _, _, _ => rfl
  | [], b :: m, _, _, h => by have := (h b).2 List.mem_cons_self; simp at this
  | a :: l, [], _, _, h => by have := (h a).1 List.mem_cons_self; simp at this
  | a :: l, b :: m, hl, hm, h => by
    obtain ⟨a1, a2⟩ := List.pairwise_cons.1 hl
    obtain ⟨b1, b2⟩ := List.pairwise_cons.1 hm
    have hab : a = b := by
      rcases List.mem_cons.1 ((h a).1 List.mem_cons_self) with e | e
      · exact e
      · rcases List.mem_cons.1 ((h b).2 List.mem_cons_self) with f | f
        · exact f.symm
        · exact absurd ((b1 a e).trans (a1 b f)) (LessE.irrefl _)
    subst hab
    rw [rises_only a2 b2 fun x => ?_]
    constructor
    · intro hx
      rcases List.mem_cons.1 ((h x).1 (List.mem_cons_of_mem _ hx)) with e | e
      · subst e
        exact absurd (a1 _ hx) (LessE.irrefl _)
      · exact e
    · intro hx
      rcases List.mem_cons.1 ((h x).2 (List.mem_cons_of_mem _ hx)) with e | e
      · subst e
        exact absurd (b1 _ hx) (LessE.irrefl _)
      · exact e
theorem sortE_same {l m : List En} (h : ∀ x, x ∈ l ↔ x ∈ m) : sortE l = sortE m := rises_only (sortE_pair l) (sortE_pair m) fun x => by rw [sortE_mem, sortE_mem]; exact h x
theorem sortE_merge (l m : List En) : sortE (sortE m ++ sortE l) = sortE (l ++ m) := sortE_same fun x => by
  rw [List.mem_append, List.mem_append, sortE_mem, sortE_mem]
  exact Or.comm
theorem sortE_self {l : List En} (h : risesE l = true) : sortE l = l := rises_only (sortE_pair l) (risesE_pair.1 h) fun _ => sortE_mem

/-- How many stand ahead of a Hash, and how many have it, too. -/
def findE (l : List En) (h : Nat) : Nat × Nat := (l.countP fun e => decide (e.hash < h), l.countP fun e => decide (e.hash ≤ h))
/-- Their bytes. -/
def textE : List En → List Int
  | [] => []
  | e :: l => digits (e.hash : Int) 8 ++ digits (e.at_ : Int) 4 ++ textE l
theorem textE_length : ∀ l : List En, (textE l).length = 12 * l.length
  | [] => rfl
  | e :: l => by
    rw [textE, List.length_append, List.length_append, digits_length, digits_length, textE_length l, List.length_cons]
    omega
theorem textE_octets : ∀ l : List En, Octets (textE l)
  | [] => fun b hb => by simp [textE] at hb
  | e :: l => ((digits_octets _ 8).app (digits_octets _ 4)).app (textE_octets l)
theorem textE_snoc (l : List En) (e : En) : textE (l ++ [e]) = textE l ++ (digits (e.hash : Int) 8 ++ digits (e.at_ : Int) 4) := by
  induction l with
  | nil => simp [textE]
  | cons x l ih => rw [List.cons_append, textE, ih, textE]; simp only [List.append_assoc]
/-- The next n entries of bytes. -/
def takeE : Nat → List Int → List En
  | 0, _ => []
  | n + 1, xs => ⟨(le (xs.take 8)).toNat, (le ((xs.drop 8).take 4)).toNat⟩ :: takeE n (xs.drop 12)
theorem takeE_length : ∀ (n : Nat) (xs : List Int), (takeE n xs).length = n
  | 0, _ => rfl
  | n + 1, xs => by rw [takeE, List.length_cons, takeE_length n]
end Go.Proofs.Ytbchiccgkhnkaaa

/-
  Stuffed bytes over plain numbers, as chapter 5 has it.
-/
import Derived.Test.YtbchiccgkhnkaaaNum
namespace Go.Proofs.Ytbchiccgkhnkaaa

/-- What is written from here on: 'now' stands open, 'full': a group of 254 has just been shut. -/
def stuffGo : List Int → Bool → List Int → List Int
  | now, full, [] => if full then [] else ((now.length + 1 : Nat) : Int) :: now
  | now, _, b :: r =>
    if b = 0 then (((now.length + 1 : Nat) : Int) :: now) ++ stuffGo [] false r
    else if now.length + 1 = 254 then (255 :: (now ++ [b])) ++ stuffGo [] true r
    else stuffGo (now ++ [b]) false r
def stuff (xs : List Int) : List Int := stuffGo [] false xs

/-- What groups say, whether Stuff would say them so or not; none: one says more than there is. -/
def dec : List Int → Option (List Int)
  | [] => some []
  | n :: r =>
    if r.length + 1 < n.toNat then none
    else (dec (r.drop (n.toNat - 1))).map fun o => r.take (n.toNat - 1) ++ (if n < 255 ∧ r.drop (n.toNat - 1) ≠ [] then [0] else []) ++ o
termination_by xs => xs.length
decreasing_by simp; omega
/-- Unstuff: the error's number, the bytes. -/
def unst (xs : List Int) : Int × List Int :=
  if 0 ∈ xs then (4, [])
  else if xs = [] then (2, [])
  else match dec xs with
    | none => (2, [])
    | some o => if stuff o = xs then (0, o) else (4, [])

def mostOf (n : Nat) : Nat := if n = 0 then 1 else n + 1 + (n - 1) / 254
def Solid (xs : List Int) : Prop := ∀ b ∈ xs, 1 ≤ b ∧ b < 256

theorem Solid.octets {xs : List Int} (h : Solid xs) : Octets xs := fun b hb => ⟨by have := (h b hb).1; omega, (h b hb).2⟩
theorem Solid.snoc {xs : List Int} (h : Solid xs) {b : Int} (hb : 1 ≤ b ∧ b < 256) : Solid (xs ++ [b]) := fun x hx =>
  (List.mem_append.1 hx).elim (h x) (fun h => by rw [List.mem_singleton.1 h]; exact hb)
theorem Solid.app {xs ys : List Int} (h : Solid xs) (g : Solid ys) : Solid (xs ++ ys) := fun x hx => (List.mem_append.1 hx).elim (h x) (g x)
theorem Solid.nil : Solid [] := fun b hb => by simp at hb
theorem Solid.cons {xs : List Int} (h : Solid xs) {b : Int} (hb : 1 ≤ b ∧ b < 256) : Solid (b :: xs) := fun x hx =>
  (List.mem_cons.1 hx).elim (fun e => by rw [e]; exact hb) (h x)
theorem Solid.noZero {xs : List Int} (h : Solid xs) : (0 : Int) ∉ xs := fun h0 => by have := (h 0 h0).1; omega

theorem stuffGo_solid : ∀ (r now : List Int) (full : Bool), Octets r → Solid now → now.length < 254 → Solid (stuffGo now full r)
  | [], now, full, _, hn, hl => by
    unfold stuffGo
    split
    · exact Solid.nil
    · exact hn.cons ⟨by omega, by omega⟩
  | b :: r, now, full, hr, hn, hl => by
    have hrr : Octets r := fun x hx => hr x (List.mem_cons_of_mem _ hx)
    have hb := hr b List.mem_cons_self
    unfold stuffGo
    split
    · exact (hn.cons ⟨by omega, by omega⟩).app (stuffGo_solid r [] false hrr Solid.nil (by decide))
    · split
      · exact ((hn.snoc ⟨by omega, hb.2⟩).cons ⟨by decide, by decide⟩).app (stuffGo_solid r [] true hrr Solid.nil (by decide))
      · exact stuffGo_solid r (now ++ [b]) false hrr (hn.snoc ⟨by omega, hb.2⟩) (by simp; omega)
theorem stuff_solid {xs : List Int} (h : Octets xs) : Solid (stuff xs) := stuffGo_solid xs [] false h Solid.nil (by decide)
theorem stuffGo_pos : ∀ (r now : List Int), stuffGo now false r ≠ []
  | [], now => by unfold stuffGo; simp
  | b :: r, now => by
    unfold stuffGo
    split
    · simp
    · split
      · simp
      · exact stuffGo_pos r _
theorem stuff_pos (xs : List Int) : stuff xs ≠ [] := stuffGo_pos xs []

/-- One group ahead of what is read. -/
theorem dec_group (g rest : List Int) (hg : g.length ≤ 254) : dec ((((g.length + 1 : Nat) : Int) :: g) ++ rest) = (dec rest).map fun o => g ++ (if g.length < 254 ∧ rest ≠ [] then [0] else []) ++ o := by
  rw [List.cons_append, dec]
  have e : ((g.length + 1 : Nat) : Int).toNat - 1 = g.length := by omega
  rw [if_neg (by simp), e, List.take_left, List.drop_left]
  have e2 : (((g.length + 1 : Nat) : Int) < 255 ∧ rest ≠ []) = (g.length < 254 ∧ rest ≠ []) := by
    apply propext
    constructor
    · intro h; exact ⟨by omega, h.2⟩
    · intro h; exact ⟨by omega, h.2⟩
  simp only [e2]

theorem dec_stuffGo : ∀ (r now : List Int) (full : Bool), now.length < 254 → (full = true → now = []) → dec (stuffGo now full r) = some (now ++ r)
  | [], now, full, hl, hf => by
    unfold stuffGo
    by_cases h : full = true
    · rw [if_pos h, hf h, dec]
      rfl
    · rw [if_neg h]
      have e := dec_group now [] (by omega)
      rw [List.append_nil] at e
      rw [e, dec]
      simp
  | b :: r, now, full, hl, hf => by
    unfold stuffGo
    by_cases hb : b = 0
    · rw [if_pos hb, dec_group now _ (by omega), dec_stuffGo r [] false (by decide) (by simp), if_pos ⟨by omega, stuffGo_pos r []⟩, hb]
      simp
    · rw [if_neg hb]
      by_cases h254 : now.length + 1 = 254
      · rw [if_pos h254]
        have e := dec_group (now ++ [b]) (stuffGo [] true r) (by simp; omega)
        rw [List.length_append, show ((now.length + [b].length + 1 : Nat) : Int) = 255 by simp; omega] at e
        rw [e, dec_stuffGo r [] true (by decide) (fun _ => rfl), if_neg (by simp; omega)]
        simp
      · rw [if_neg h254, dec_stuffGo r (now ++ [b]) false (by simp; omega) (by simp)]
        simp
theorem dec_stuff (xs : List Int) : dec (stuff xs) = some xs := dec_stuffGo xs [] false (by decide) (by simp)
theorem stuff_inj {xs ys : List Int} (h : stuff xs = stuff ys) : xs = ys := by
  have := dec_stuff xs
  rw [h, dec_stuff] at this
  exact (Option.some.inj this).symm
theorem unst_stuff {xs : List Int} (h : Octets xs) : unst (stuff xs) = (0, xs) := by
  unfold unst
  rw [if_neg (stuff_solid h).noZero, if_neg (stuff_pos xs), dec_stuff]
  simp
theorem unst_zero {xs ys : List Int} (h : unst xs = (0, ys)) : stuff ys = xs := by
  unfold unst at h
  split at h
  · simp at h
  · split at h
    · simp at h
    · split at h
      · simp at h
      · split at h
        · simp only [Prod.mk.injEq, true_and] at h
          subst h
          assumption
        · simp at h

/-- How many groups so many bytes without noughts have. -/
def groups (n : Nat) : Nat := if n = 0 then 1 else (n - 1) / 254 + 1
theorem stuffGo_len : ∀ (r now : List Int) (full : Bool), now.length < 254 → (full = true → now = []) → (stuffGo now full r).length ≤ now.length + r.length + (if full then (r.length + 253) / 254 else groups (now.length + r.length))
  | [], now, full, hl, hf => by
    unfold stuffGo
    by_cases h : full = true
    · rw [if_pos h]
      simp
    · rw [if_neg h, if_neg h]
      unfold groups
      simp only [List.length_cons, List.length_nil, Nat.add_zero]
      split <;> omega
  | b :: r, now, full, hl, hf => by
    unfold stuffGo
    have hg : groups (now.length + (r.length + 1)) ≤ (if full then (r.length + 1 + 253) / 254 else groups (now.length + (r.length + 1))) := by
      by_cases h : full = true
      · rw [if_pos h, hf h]
        unfold groups
        simp only [List.length_nil, Nat.zero_add]
        rw [if_neg (by omega)]
        omega
      · rw [if_neg h]
        exact Nat.le_refl _
    rw [List.length_cons]
    refine Nat.le_trans ?_ (Nat.add_le_add_left hg _)
    clear hg
    by_cases hb : b = 0
    · rw [if_pos hb]
      have := stuffGo_len r [] false (by decide) (by simp)
      rw [if_neg (by simp)] at this
      simp only [List.length_append, List.length_cons, List.length_nil, Nat.zero_add] at this ⊢
      have hgm : groups r.length ≤ groups (now.length + (r.length + 1)) := by
        unfold groups
        split <;> split <;> omega
      omega
    · rw [if_neg hb]
      by_cases h254 : now.length + 1 = 254
      · rw [if_pos h254]
        have := stuffGo_len r [] true (by decide) (fun _ => rfl)
        rw [if_pos rfl] at this
        simp only [List.length_append, List.length_cons, List.length_nil, Nat.zero_add] at this ⊢
        unfold groups
        rw [if_neg (by omega)]
        omega
      · rw [if_neg h254]
        have := stuffGo_len r (now ++ [b]) false (by simp; omega) (by simp)
        rw [if_neg (by simp)] at this
        simp only [List.length_append, List.length_cons, List.length_nil, Nat.zero_add] at this ⊢
        rw [show now.length + 1 + r.length = now.length + (r.length + 1) by omega] at this
        exact this
theorem stuff_most (xs : List Int) : (stuff xs).length ≤ mostOf xs.length := by
  have := stuffGo_len xs [] false (by decide) (by simp)
  rw [if_neg (by simp)] at this
  simp only [List.length_nil, Nat.zero_add] at this
  unfold groups at this
  unfold stuff mostOf
  split <;> (rename_i h; simp only [h, if_true, if_false] at this; omega)

theorem stuffGo_len_solid : ∀ (r now : List Int) (full : Bool), Solid r → now.length < 254 → (full = true → now = []) → (stuffGo now full r).length = now.length + r.length + (if full then (r.length + 253) / 254 else groups (now.length + r.length))
  | [], now, full, _, hl, hf => by
    unfold stuffGo
    by_cases h : full = true
    · rw [if_pos h, if_pos h, hf h]
      simp
    · rw [if_neg h, if_neg h]
      unfold groups
      simp only [List.length_cons, List.length_nil, Nat.add_zero]
      split <;> omega
  | b :: r, now, full, hs, hl, hf => by
    unfold stuffGo
    have hrr : Solid r := fun x hx => hs x (List.mem_cons_of_mem _ hx)
    have hb := hs b List.mem_cons_self
    have hg : groups (now.length + (r.length + 1)) = (if full then (r.length + 1 + 253) / 254 else groups (now.length + (r.length + 1))) := by
      by_cases h : full = true
      · rw [if_pos h, hf h]
        unfold groups
        simp only [List.length_nil, Nat.zero_add]
        rw [if_neg (by omega)]
        omega
      · rw [if_neg h]
    rw [List.length_cons, ← hg]
    clear hg
    rw [if_neg (by omega)]
    by_cases h254 : now.length + 1 = 254
    · rw [if_pos h254]
      have := stuffGo_len_solid r [] true hrr (by decide) (fun _ => rfl)
      rw [if_pos rfl] at this
      simp only [List.length_append, List.length_cons, List.length_nil, Nat.zero_add] at this ⊢
      unfold groups
      rw [if_neg (by omega)]
      omega
    · rw [if_neg h254]
      have := stuffGo_len_solid r (now ++ [b]) false hrr (by simp; omega) (by simp)
      rw [if_neg (by simp)] at this
      simp only [List.length_append, List.length_cons, List.length_nil, Nat.zero_add] at this ⊢
      rw [show now.length + 1 + r.length = now.length + (r.length + 1) by omega] at this
      exact this
theorem stuff_most_solid {xs : List Int} (h : Solid xs) : (stuff xs).length = mostOf xs.length := by
  have := stuffGo_len_solid xs [] false h (by decide) (by simp)
  rw [if_neg (by simp)] at this
  simp only [List.length_nil, Nat.zero_add] at this
  unfold groups at this
  unfold stuff mostOf
  split <;> (rename_i h; simp only [h, if_true, if_false] at this; omega)
end Go.Proofs.Ytbchiccgkhnkaaa

/-
  Package cobs: the groups of bytes, over plain numbers.
-/
import Derived.Test.YtckebghkilamjaaCobsNum
import Derived.Lib.BytesEntry
namespace Go.Proofs.Ytckebghkilamjaa

theorem takeWhile_all {xs : List Int} (h : ∀ b ∈ xs, b ≠ 0) : xs.takeWhile (fun b => decide (b ≠ 0)) = xs := by
  induction xs with
  | nil => rfl
  | cons b r ih =>
    rw [List.takeWhile_cons_of_pos (by simpa using h b List.mem_cons_self), ih (fun x hx => h x (List.mem_cons_of_mem _ hx))]

/-- How many bytes of the first group aren't noughts. -/
def firstN (xs : List Int) : Nat := ((xs.take 254).takeWhile (fun b => decide (b ≠ 0))).length

theorem firstN_le (xs : List Int) : firstN xs ≤ xs.length := by
  unfold firstN
  have h := (List.takeWhile_prefix (l := xs.take 254) (fun b => decide (b ≠ 0))).length_le
  rw [List.length_take] at h
  omega
theorem firstN_full (xs : List Int) : firstN xs ≤ 254 := by
  unfold firstN
  have h := (List.takeWhile_prefix (l := xs.take 254) (fun b => decide (b ≠ 0))).length_le
  rw [List.length_take] at h
  omega

/-- A group's bytes that aren't noughts, and those of the groups behind it. -/
def groupsOf (xs : List Int) : List (List Int) :=
  xs.take (firstN xs) :: if h : firstN xs = xs.length then [] else groupsOf (xs.drop (if firstN xs < 254 then firstN xs + 1 else firstN xs))
termination_by xs.length
decreasing_by
  have := firstN_le xs
  rw [List.length_drop]
  split <;> omega

theorem groupsOf_end {xs : List Int} (h : firstN xs = xs.length) : groupsOf xs = [xs.take (firstN xs)] := by
  rw [groupsOf, dif_pos h]
theorem groupsOf_more {xs : List Int} (h : firstN xs ≠ xs.length) : groupsOf xs = xs.take (firstN xs) :: groupsOf (xs.drop (if firstN xs < 254 then firstN xs + 1 else firstN xs)) := by
  rw [groupsOf, dif_neg h]

/-- What is written of groups. -/
def told : List (List Int) → List Int
  | [] => []
  | g :: gs => (((g.length + 1 : Nat) : Int) :: g) ++ told gs
theorem told_snoc : ∀ (gs : List (List Int)) (g : List Int), told (gs ++ [g]) = told gs ++ (((g.length + 1 : Nat) : Int) :: g)
  | [], g => by simp [told]
  | h :: gs, g => by simp [told, told_snoc gs g]
/-- How many bytes that is. -/
def toldN : List (List Int) → Nat
  | [] => 0
  | g :: gs => (g.length + 1) + toldN gs
theorem toldN_told : ∀ gs, toldN gs = (told gs).length
  | [] => rfl
  | g :: gs => by simp [told, toldN, toldN_told gs]; omega
theorem told_len : ∀ (gs : List (List Int)), (∀ g ∈ gs, g.length ≤ 254) → (told gs).length ≤ 255 * gs.length
  | [], _ => by simp [told]
  | g :: gs, h => by
    have h1 := h g List.mem_cons_self
    have h2 := told_len gs (fun x hx => h x (List.mem_cons_of_mem _ hx))
    simp only [told, List.length_append, List.length_cons]
    omega

theorem firstN_solid {xs : List Int} (h : ∀ b ∈ xs, b ≠ 0) (hl : xs.length ≤ 254) : firstN xs = xs.length := by
  unfold firstN
  rw [List.take_of_length_le hl, takeWhile_all h]
theorem firstN_nought {now r : List Int} (h : ∀ b ∈ now, b ≠ 0) (hl : now.length < 254) : firstN (now ++ 0 :: r) = now.length := by
  unfold firstN
  rw [List.take_append, List.take_of_length_le (by omega), List.takeWhile_append_of_pos (fun b hb => decide_eq_true (h b hb))]
  obtain ⟨k, hk⟩ : ∃ k, 254 - now.length = k + 1 := ⟨254 - now.length - 1, by omega⟩
  rw [hk]
  simp
theorem firstN_long {now r : List Int} (h : ∀ b ∈ now, b ≠ 0) (hl : now.length = 254) : firstN (now ++ r) = 254 := by
  unfold firstN
  rw [List.take_append, List.take_of_length_le (by omega), hl]
  simp only [Nat.sub_self, List.take_zero, List.append_nil]
  rw [takeWhile_all h, hl]

theorem stuffGo_groups : ∀ (r now : List Int), now.length < 254 → (∀ b ∈ now, b ≠ 0) → stuffGo now false r = told (groupsOf (now ++ r))
  | [], now, hl, hn => by
    rw [List.append_nil, groupsOf_end (firstN_solid hn (by omega)), firstN_solid hn (by omega), List.take_length]
    simp [stuffGo, told]
  | b :: r, now, hl, hn => by
    unfold stuffGo
    by_cases hb : b = 0
    · subst hb
      rw [if_pos rfl, groupsOf_more (by rw [firstN_nought hn hl]; simp), firstN_nought hn hl, if_pos hl, stuffGo_groups r [] (by decide) (by simp)]
      rw [show (now ++ 0 :: r).drop (now.length + 1) = r by rw [List.drop_append]; simp]
      simp [told]
    · have hn' : ∀ x ∈ now ++ [b], x ≠ 0 := fun x hx => by
        rcases List.mem_append.1 hx with h | h
        · exact hn x h
        · rw [List.mem_singleton.1 h]; exact hb
      rw [if_neg hb, show now ++ b :: r = (now ++ [b]) ++ r by simp]
      by_cases h254 : now.length + 1 = 254
      · have hl' : (now ++ [b]).length = 254 := by simpa using h254
        rw [if_pos h254]
        cases r with
        | nil =>
          rw [List.append_nil, groupsOf_end (firstN_solid hn' (by omega)), firstN_solid hn' (by omega), List.take_length]
          have e : (((now ++ [b]).length + 1 : Nat) : Int) = 255 := by rw [hl']; rfl
          simp only [stuffGo, told, e, List.append_nil]
          simp
        | cons c r =>
          have hf := firstN_long (r := c :: r) hn' hl'
          have e : ((((now ++ [b]).length) + 1 : Nat) : Int) = 255 := by rw [hl']; rfl
          have ht : stuffGo [] true (c :: r) = stuffGo [] false (c :: r) := by simp [stuffGo]
          rw [groupsOf_more (by rw [hf]; simp at hl' ⊢; omega), hf, if_neg (by decide), ht, stuffGo_groups (c :: r) [] (by decide) (by simp)]
          rw [show ((now ++ [b]) ++ c :: r).take 254 = now ++ [b] by rw [← hl', List.take_left], show ((now ++ [b]) ++ c :: r).drop 254 = c :: r by rw [← hl', List.drop_left]]
          simp only [told, e, List.nil_append]
      · rw [if_neg h254, stuffGo_groups r (now ++ [b]) (by simp; omega) hn']
theorem stuff_groups (xs : List Int) : stuff xs = told (groupsOf xs) := by
  have := stuffGo_groups xs [] (by decide) (by simp)
  simpa [stuff] using this

/-- What bytes.IndexByte answers of a nought. -/
theorem index_none {xs : List Int} (h : ∀ b ∈ xs, b ≠ 0) (ho : Octets xs) : Lib.indexByte (Lib.bytesOf xs) 0 = -1 := by
  induction xs with
  | nil => rfl
  | cons b r ih =>
    have hb := ho b List.mem_cons_self
    have hz := h b List.mem_cons_self
    have e : (UInt8.ofNat b.toNat == 0) = false := by
      have : UInt8.ofNat b.toNat ≠ 0 := fun e => by
        have := congrArg UInt8.toNat e
        simp at this
        omega
      simpa using this
    have ih := ih (fun x hx => h x (List.mem_cons_of_mem _ hx)) (fun x hx => ho x (List.mem_cons_of_mem _ hx))
    simp only [Lib.bytesOf, List.map_cons, Lib.indexByte, e] at ih ⊢
    simp [ih]
theorem index_some {now r : List Int} (h : ∀ b ∈ now, b ≠ 0) (ho : Octets now) : Lib.indexByte (Lib.bytesOf (now ++ 0 :: r)) 0 = (now.length : Int) := by
  induction now with
  | nil => rfl
  | cons b q ih =>
    have hb := ho b List.mem_cons_self
    have hz := h b List.mem_cons_self
    have e : (UInt8.ofNat b.toNat == 0) = false := by
      have : UInt8.ofNat b.toNat ≠ 0 := fun e => by
        have := congrArg UInt8.toNat e
        simp at this
        omega
      simpa using this
    have ih := ih (fun x hx => h x (List.mem_cons_of_mem _ hx)) (fun x hx => ho x (List.mem_cons_of_mem _ hx))
    simp only [Lib.bytesOf, List.map_append, List.map_cons, List.cons_append, Lib.indexByte, e] at ih ⊢
    rw [ih]
    have : ((q.length : Int) == -1) = false := by simp
    simp [this]

/-- The first nought of bytes. -/
def nought (xs : List Int) : Int := if 0 ∈ xs then ((xs.takeWhile (fun b => decide (b ≠ 0))).length : Int) else -1
theorem split_nought {xs : List Int} (h : 0 ∈ xs) : ∃ r, xs = xs.takeWhile (fun b => decide (b ≠ 0)) ++ 0 :: r := by
  induction xs with
  | nil => simp at h
  | cons b q ih =>
    by_cases hb : b = 0
    · subst hb
      exact ⟨q, by simp⟩
    · obtain ⟨r, hr⟩ := ih (by rcases List.mem_cons.1 h with h | h; exact absurd h.symm hb; exact h)
      refine ⟨r, ?_⟩
      rw [List.takeWhile_cons_of_pos (by simpa using hb), List.cons_append, ← hr]
theorem takeWhile_ne {xs : List Int} : ∀ b ∈ xs.takeWhile (fun b => decide (b ≠ 0)), b ≠ 0 := fun b hb => by
  have h : (xs.takeWhile (fun b => decide (b ≠ 0))).all (fun b => decide (b ≠ 0)) = true := List.all_takeWhile
  exact of_decide_eq_true (List.all_eq_true.1 h b hb)
theorem index_nought {xs : List Int} (ho : Octets xs) : Lib.indexByte (Lib.bytesOf xs) 0 = nought xs := by
  unfold nought
  by_cases h : 0 ∈ xs
  · rw [if_pos h]
    obtain ⟨r, hr⟩ := split_nought h
    have := index_some (now := xs.takeWhile (fun b => decide (b ≠ 0))) (r := r) takeWhile_ne (fun b hb => ho b ((List.takeWhile_prefix _).subset hb))
    rw [← hr] at this
    exact this
  · rw [if_neg h]
    exact index_none (fun b hb e => h (e ▸ hb)) ho
theorem firstN_nought_some {xs : List Int} (h : 0 ∈ xs.take 254) : nought (xs.take 254) = (firstN xs : Int) := by
  unfold nought
  rw [if_pos h]
  rfl
theorem firstN_nought_none {xs : List Int} (h : 0 ∉ xs.take 254) : nought (xs.take 254) = -1 ∧ firstN xs = (xs.take 254).length := by
  unfold nought firstN
  rw [if_neg h, takeWhile_all (fun b hb e => h (e ▸ hb))]
  exact ⟨rfl, rfl⟩
end Go.Proofs.Ytckebghkilamjaa

/-
  Package cobs: what Unstuff goes through, over plain numbers.
-/
import Derived.Test.YtckebghkilamjaaCobsNum
namespace Go.Proofs.Ytckebghkilamjaa

/-- From group to group: what is left, what was told, how long the group ahead was. -/
def urun : List Int → List Int → Nat → Int × List Int
  | [], P, _ => (0, P)
  | n :: r, P, a =>
    if r.length + 1 < n.toNat then (2, [])
    else if r.drop (n.toNat - 1) = [] then (if n.toNat - 1 = 0 ∧ a = 254 then (4, []) else (0, P ++ r.take (n.toNat - 1)))
    else urun (r.drop (n.toNat - 1)) (P ++ r.take (n.toNat - 1) ++ (if n.toNat - 1 < 254 then [0] else [])) (n.toNat - 1)
termination_by xs => xs.length
decreasing_by simp; omega

/-- The last group isn't empty behind a full one. -/
def form : List Int → Nat → Bool
  | [], _ => true
  | n :: r, a => if r.drop (n.toNat - 1) = [] then !decide (n.toNat - 1 = 0 ∧ a = 254) else form (r.drop (n.toNat - 1)) (n.toNat - 1)
termination_by xs => xs.length
decreasing_by simp; omega

theorem urun_dec : ∀ (m : Nat) (R P : List Int) (a : Nat), R.length ≤ m → R ≠ [] → Solid R → urun R P a = match dec R with
    | none => (2, [])
    | some o => if form R a = true then (0, P ++ o) else (4, [])
  | 0, R, _, _, hm, hR, _ => absurd (List.length_eq_zero_iff.1 (by omega)) hR
  | m + 1, [], _, _, _, hR, _ => absurd rfl hR
  | m + 1, n :: r, P, a, hm, _, hs => by
    have hn := hs n List.mem_cons_self
    rw [urun, dec, form]
    by_cases h1 : r.length + 1 < n.toNat
    · rw [if_pos h1, if_pos h1]
    · rw [if_neg h1, if_neg h1]
      by_cases h2 : r.drop (n.toNat - 1) = []
      · rw [if_pos h2, if_pos h2, h2, dec]
        by_cases h3 : n.toNat - 1 = 0 ∧ a = 254
        · simp [h3]
        · have e : (!decide (n.toNat - 1 = 0 ∧ a = 254)) = true := by rw [decide_eq_false h3]; rfl
          rw [if_neg h3]
          simp only [e, Option.map_some, ne_eq, not_true_eq_false, and_false, if_false, List.append_nil, if_true]
      · rw [if_neg h2, if_neg h2, urun_dec m _ _ _ (by simp at hm ⊢; omega) h2 (fun b hb => hs b (List.mem_cons_of_mem _ (List.mem_of_mem_drop hb)))]
        have e : (if n < 255 ∧ r.drop (n.toNat - 1) ≠ [] then ([0] : List Int) else []) = if n.toNat - 1 < 254 then [0] else [] := by
          by_cases h4 : n < 255
          · rw [if_pos ⟨h4, h2⟩, if_pos (by omega)]
          · rw [if_neg (fun h => h4 h.1), if_neg (by omega)]
        rw [e]
        cases dec (r.drop (n.toNat - 1)) with
        | none => rfl
        | some o => simp

theorem stuffGo_short : ∀ (g now r : List Int) (f : Bool), (∀ b ∈ g, b ≠ 0) → g ≠ [] → now.length + g.length < 254 → stuffGo now f (g ++ r) = stuffGo (now ++ g) false r
  | [], _, _, _, _, hg, _ => absurd rfl hg
  | b :: g, now, r, f, h0, _, hl => by
    have hb := h0 b List.mem_cons_self
    rw [List.length_cons] at hl
    rw [List.cons_append, stuffGo, if_neg hb, if_neg (by omega)]
    by_cases hg : g = []
    · subst hg; rfl
    · rw [stuffGo_short g (now ++ [b]) r false (fun x hx => h0 x (List.mem_cons_of_mem _ hx)) hg (by simp; omega)]
      simp
theorem stuffGo_full : ∀ (g now r : List Int) (f : Bool), (∀ b ∈ g, b ≠ 0) → now.length + g.length = 254 → now.length < 254 → stuffGo now f (g ++ r) = 255 :: (now ++ g) ++ stuffGo [] true r
  | [], now, _, _, _, hl, hn => by simp at hl; omega
  | b :: g, now, r, f, h0, hl, hn => by
    have hb := h0 b List.mem_cons_self
    rw [List.length_cons] at hl
    rw [List.cons_append, stuffGo, if_neg hb]
    by_cases hg : now.length + 1 = 254
    · obtain rfl : g = [] := List.length_eq_zero_iff.1 (by omega)
      rw [if_pos hg]
      simp
    · rw [if_neg hg, stuffGo_full g (now ++ [b]) r false (fun x hx => h0 x (List.mem_cons_of_mem _ hx)) (by simp; omega) (by simp; omega)]
      simp

/-- Of what has a decoding: it is what is written of that, or a last empty group stands behind it. -/
theorem stuffGo_form : ∀ (m : Nat) (R : List Int) (a : Nat) (o : List Int), R.length ≤ m → R ≠ [] → Solid R → dec R = some o → stuffGo [] (decide (a = 254)) o ++ (if form R a = true then [] else [1]) = R
  | 0, R, _, _, hm, hR, _, _ => absurd (List.length_eq_zero_iff.1 (by omega)) hR
  | m + 1, [], _, _, _, hR, _, _ => absurd rfl hR
  | m + 1, n :: r, a, o, hm, _, hs, hd => by
    have hn := hs n List.mem_cons_self
    have h0 : ∀ b ∈ r.take (n.toNat - 1), b ≠ 0 := fun b hb => by
      have := hs b (List.mem_cons_of_mem _ (List.mem_of_mem_take hb))
      omega
    rw [dec] at hd
    rw [form]
    by_cases h1 : r.length + 1 < n.toNat
    · rw [if_pos h1] at hd; cases hd
    · rw [if_neg h1] at hd
      obtain ⟨k, hk⟩ : ∃ k, k = n.toNat - 1 := ⟨_, rfl⟩
      rw [← hk] at hd h0 ⊢
      have hkl : (r.take k).length = k := by rw [List.length_take]; omega
      have hnk : n = ((k + 1 : Nat) : Int) := by omega
      have hk254 : k ≤ 254 := by omega
      by_cases h2 : r.drop k = []
      · rw [h2, dec] at hd
        rw [if_pos h2]
        have hr : r = r.take k := by
          have := List.take_append_drop k r
          rw [h2, List.append_nil] at this
          exact this.symm
        have ho : o = r := by
          simp only [Option.map_some, ne_eq, not_true_eq_false, and_false, if_false, List.append_nil, Option.some.injEq] at hd
          rw [← hd, ← hr]
        subst ho
        rw [← hr] at h0 hkl
        by_cases hk0 : k = 0
        · obtain rfl : o = [] := List.length_eq_zero_iff.1 (by omega)
          subst hk0
          by_cases ha : a = 254
          · subst ha; rw [hnk]; rfl
          · simp [ha, stuffGo, hnk]
        · have hne : o ≠ [] := fun h => by rw [h] at hkl; simp at hkl; omega
          have e : (!decide (k = 0 ∧ a = 254)) = true := by simp [hk0]
          rw [e, if_pos rfl, List.append_nil]
          by_cases h254 : k = 254
          · have h := stuffGo_full o [] [] (decide (a = 254)) h0 (by simp; omega) (by decide)
            rw [List.append_nil] at h
            rw [h, hnk, h254]
            simp [stuffGo]
          · have h := stuffGo_short o [] [] (decide (a = 254)) h0 hne (by simp; omega)
            rw [List.append_nil] at h
            rw [h, hnk]
            simp [stuffGo, hkl]
      · rw [if_neg h2]
        cases hd' : dec (r.drop k) with
        | none => rw [hd'] at hd; cases hd
        | some o' =>
          have ih := stuffGo_form m (r.drop k) k o' (by simp at hm ⊢; omega) h2 (fun b hb => hs b (List.mem_cons_of_mem _ (List.mem_of_mem_drop hb))) hd'
          rw [hd'] at hd
          simp only [Option.map_some, Option.some.injEq] at hd
          have hrr : r = r.take k ++ r.drop k := (List.take_append_drop k r).symm
          by_cases h254 : k = 254
          · rw [if_neg (by omega), List.append_nil] at hd
            rw [h254, show decide ((254 : Nat) = 254) = true from rfl] at ih
            rw [← hd, stuffGo_full (r.take k) [] o' _ h0 (by simp; omega) (by decide), List.append_assoc, h254, ih, hnk, h254]
            simp only [List.nil_append, List.cons_append]
            rw [List.take_append_drop]
            rfl
          · rw [if_pos ⟨by omega, h2⟩] at hd
            rw [show decide (k = 254) = false from decide_eq_false h254] at ih
            rw [← hd, List.append_assoc]
            by_cases hk0 : k = 0
            · subst hk0
              rw [List.take_zero, List.nil_append, List.cons_append, List.nil_append, stuffGo, if_pos rfl, List.append_assoc, ih, hnk]
              simp
            · rw [stuffGo_short (r.take k) [] _ _ h0 (fun h => by rw [h] at hkl; simp at hkl; omega) (by simp; omega)]
              rw [List.nil_append, List.cons_append, List.nil_append, stuffGo, if_pos rfl, List.append_assoc, ih, hkl, hnk]
              rw [List.cons_append, List.take_append_drop]

theorem unst_urun {xs : List Int} (hs : Solid xs) (hx : xs ≠ []) : unst xs = urun xs [] 0 := by
  unfold unst
  rw [if_neg hs.noZero, if_neg hx, urun_dec xs.length xs [] 0 (Nat.le_refl _) hx hs]
  cases hd : dec xs with
  | none => rfl
  | some o =>
    have h := stuffGo_form xs.length xs 0 o (Nat.le_refl _) hx hs hd
    rw [show decide ((0 : Nat) = 254) = false from rfl] at h
    show (if stuff o = xs then ((0 : Int), o) else (4, [])) = (if form xs 0 = true then (0, [] ++ o) else (4, []))
    by_cases hf : form xs 0 = true
    · rw [if_pos hf, List.append_nil] at h
      rw [if_pos hf, List.nil_append]
      rw [if_pos (show stuff o = xs from h)]
    · rw [if_neg hf] at h
      rw [if_neg hf]
      rw [if_neg]
      intro e
      have e' : stuffGo [] false o = xs := e
      have := congrArg List.length h
      rw [e'] at this
      simp at this
end Go.Proofs.Ytckebghkilamjaa

/-
  Pairs of the first format over plain numbers, as chapter 10 has them.
-/
import Derived.Test.YtbchiccgkhnkaaaThinNum
import Derived.Test.YtbchiccgkhnkaaaFrNum
namespace Go.Proofs.Ytbchiccgkhnkaaa

/-- A pair: the bytes of its key and value. -/
structure Pr where
  key : List Int
  val : List Int
def Pr.none : Pr := ⟨[], []⟩
structure Pr.Fine (p : Pr) : Prop where
  key : Octets p.key
  val : Octets p.val
def checkP (p : Pr) : Int := if p.key.length = 0 then 4 else if 4096 < p.key.length ∨ 1048576 < p.val.length then 3 else 0
def headP (p : Pr) : List Int := digits (p.key.length : Int) 4 ++ digits (p.val.length : Int) 4 ++ p.key ++ p.val
def textP (p : Pr) : List Int := headP p ++ digits (xxh 0 (headP p)) 4

/-- What a reading of a pair comes to: the error's number, how many bytes it has, the pair. -/
structure PG where
  e : Int
  n : Nat
  p : Pr
def pairAt (k v : Nat) (xs : List Int) : Pr := ⟨(xs.drop 8).take k, (xs.drop (8 + k)).take v⟩
def getPk (k v : Nat) (xs : List Int) : PG :=
  if k = 0 then ⟨4, 0, Pr.none⟩
  else if 4096 < k ∨ 1048576 < v then ⟨3, 0, Pr.none⟩
  else if xs.length < 8 + k + v + 4 then ⟨2, 0, Pr.none⟩
  else if textP (pairAt k v xs) ≠ xs.take (8 + k + v + 4) then ⟨5, 0, Pr.none⟩
  else ⟨0, 8 + k + v + 4, pairAt k v xs⟩
def getP (xs : List Int) : PG :=
  if xs.length < 8 then ⟨2, 0, Pr.none⟩ else getPk (le (xs.take 4)).toNat (le ((xs.drop 4).take 4)).toNat xs

theorem headP_length (p : Pr) : (headP p).length = 8 + p.key.length + p.val.length := by
  unfold headP
  simp only [List.length_append, digits_length]
theorem textP_length (p : Pr) : (textP p).length = 8 + p.key.length + p.val.length + 4 := by
  unfold textP
  rw [List.length_append, headP_length, digits_length]
theorem headP_octets {p : Pr} (h : p.Fine) : Octets (headP p) := (((digits_octets _ 4).app (digits_octets _ 4)).app h.key).app h.val
theorem textP_octets {p : Pr} (h : p.Fine) : Octets (textP p) := (headP_octets h).app (digits_octets _ 4)

theorem le_four {x : Nat} (h : x < 4294967296) : le (digits (x : Int) 4) = (x : Int) := by
  rw [le_digits9, show (2 : Nat) ^ (8 * 4) = 4294967296 from rfl, Nat.mod_eq_of_lt h]
theorem checkP_ok {p : Pr} : checkP p = 0 ↔ 1 ≤ p.key.length ∧ p.key.length ≤ 4096 ∧ p.val.length ≤ 1048576 := by
  unfold checkP
  constructor
  · intro h
    split at h
    · exact absurd h (by decide)
    · split at h
      · exact absurd h (by decide)
      · omega
  · rintro ⟨a, b, c⟩
    rw [if_neg (by omega), if_neg (by omega)]
theorem headP_take (p : Pr) (r : List Int) : (headP p ++ r).take 4 = digits (p.key.length : Int) 4 ∧ ((headP p ++ r).drop 4).take 4 = digits (p.val.length : Int) 4 ∧ (headP p ++ r).drop 8 = p.key ++ (p.val ++ r) := by
  have h1 := digits_length (p.key.length : Int) 4
  have h2 := digits_length (p.val.length : Int) 4
  have e : headP p ++ r = digits (p.key.length : Int) 4 ++ (digits (p.val.length : Int) 4 ++ (p.key ++ (p.val ++ r))) := by
    unfold headP
    simp only [List.append_assoc]
  rw [e]
  obtain ⟨A, hA⟩ : ∃ A, A = digits (p.key.length : Int) 4 := ⟨_, rfl⟩
  obtain ⟨B, hB⟩ : ∃ B, B = digits (p.val.length : Int) 4 := ⟨_, rfl⟩
  rw [← hA] at h1 ⊢
  rw [← hB] at h2 ⊢
  have d4 : (A ++ (B ++ (p.key ++ (p.val ++ r)))).drop 4 = B ++ (p.key ++ (p.val ++ r)) := by rw [← h1]; exact List.drop_left
  refine ⟨by rw [← h1]; exact List.take_left, ?_, ?_⟩
  · rw [d4, ← h2]; exact List.take_left
  · rw [show (8 : Nat) = 4 + 4 from rfl, ← List.drop_drop, d4, ← h2]; exact List.drop_left
theorem pairAt_of (p : Pr) (r : List Int) : pairAt p.key.length p.val.length (headP p ++ r) = p := by
  have h := (headP_take p r).2.2
  unfold pairAt
  rw [← List.drop_drop, h, List.take_left, List.drop_left, List.take_left]
/-- What is put is got, whatever stands behind it. -/
theorem getP_text {p : Pr} (h : checkP p = 0) (r : List Int) : getP (textP p ++ r) = ⟨0, (textP p).length, p⟩ := by
  obtain ⟨h1, h2, h3⟩ := checkP_ok.1 h
  have hl := textP_length p
  have e : textP p ++ r = headP p ++ (digits (xxh 0 (headP p)) 4 ++ r) := by unfold textP; rw [List.append_assoc]
  obtain ⟨t1, t2, _⟩ := headP_take p (digits (xxh 0 (headP p)) 4 ++ r)
  have hp := pairAt_of p (digits (xxh 0 (headP p)) 4 ++ r)
  unfold getP
  rw [if_neg (by rw [List.length_append]; omega)]
  rw [e, t1, t2, le_four (by omega), le_four (by omega), Int.toNat_natCast, Int.toNat_natCast]
  unfold getPk
  rw [if_neg (by omega), if_neg (by omega), hp, ← e, if_neg (by rw [List.length_append]; omega)]
  rw [if_neg (by rw [← hl, List.take_left]; simp), ← hl]
/-- Of a part of a pair's bytes it is told that there are fewer. -/
theorem getP_part {p : Pr} (h : checkP p = 0) (k : Nat) (hk : k < (textP p).length) : (getP ((textP p).take k)).e = 2 := by
  obtain ⟨h1, h2, h3⟩ := checkP_ok.1 h
  have hl := textP_length p
  unfold getP
  by_cases h8 : k < 8
  · rw [if_pos (by rw [List.length_take]; omega)]
  · rw [if_neg (by rw [List.length_take]; omega)]
    obtain ⟨t1, t2, _⟩ := headP_take p (digits (xxh 0 (headP p)) 4)
    have e1 : ((textP p).take k).take 4 = digits (p.key.length : Int) 4 := by
      rw [List.take_take, Nat.min_eq_left (by omega)]
      exact t1
    have e2 : (((textP p).take k).drop 4).take 4 = digits (p.val.length : Int) 4 := by
      rw [List.drop_take, List.take_take, Nat.min_eq_left (by omega)]
      exact t2
    rw [e1, e2, le_four (by omega), le_four (by omega), Int.toNat_natCast, Int.toNat_natCast]
    unfold getPk
    rw [if_neg (by omega), if_neg (by omega), if_pos (by rw [List.length_take]; omega)]
/-- Of a pair that is got the bytes are the pair's. -/
theorem getP_only {xs : List Int} (ho : Octets xs) (h : (getP xs).e = 0) : textP (getP xs).p = xs.take (getP xs).n ∧ (getP xs).n ≤ xs.length ∧ 13 ≤ (getP xs).n ∧ (getP xs).p.Fine ∧ checkP (getP xs).p = 0 := by
  by_cases h8 : xs.length < 8
  · have e : getP xs = ⟨2, 0, Pr.none⟩ := by unfold getP; rw [if_pos h8]
    rw [e] at h
    exact absurd h (by decide)
  · have e : getP xs = getPk (le (xs.take 4)).toNat (le ((xs.drop 4).take 4)).toNat xs := by unfold getP; rw [if_neg h8]
    rw [e] at h ⊢
    obtain ⟨k, hk⟩ : ∃ k, k = (le (xs.take 4)).toNat := ⟨_, rfl⟩
    obtain ⟨v, hv⟩ : ∃ v, v = (le ((xs.drop 4).take 4)).toNat := ⟨_, rfl⟩
    rw [← hk, ← hv] at h ⊢
    unfold getPk at h ⊢
    by_cases c1 : k = 0
    · rw [if_pos c1] at h; exact absurd h (by simp)
    · rw [if_neg c1] at h ⊢
      by_cases c2 : 4096 < k ∨ 1048576 < v
      · rw [if_pos c2] at h; exact absurd h (by simp)
      · rw [if_neg c2] at h ⊢
        by_cases c3 : xs.length < 8 + k + v + 4
        · rw [if_pos c3] at h; exact absurd h (by simp)
        · rw [if_neg c3] at h ⊢
          by_cases c4 : textP (pairAt k v xs) ≠ xs.take (8 + k + v + 4)
          · rw [if_pos c4] at h; exact absurd h (by simp)
          · rw [if_neg c4]
            refine ⟨by simpa using c4, by show 8 + k + v + 4 ≤ xs.length; omega, by show 13 ≤ 8 + k + v + 4; omega, ⟨(ho.drop _).take _, (ho.drop _).take _⟩, ?_⟩
            refine checkP_ok.2 ?_
            unfold pairAt
            simp only [List.length_take, List.length_drop]
            omega
theorem getP_none {xs : List Int} (h : (getP xs).e ≠ 0) : (getP xs).n = 0 ∧ (getP xs).p = Pr.none := by
  unfold getP at h ⊢
  split
  · exact ⟨rfl, rfl⟩
  · rename_i c0
    rw [if_neg c0] at h
    unfold getPk at h ⊢
    split
    · exact ⟨rfl, rfl⟩
    · rename_i c1
      rw [if_neg c1] at h
      split
      · exact ⟨rfl, rfl⟩
      · rename_i c2
        rw [if_neg c2] at h
        split
        · exact ⟨rfl, rfl⟩
        · rename_i c3
          rw [if_neg c3] at h
          split
          · exact ⟨rfl, rfl⟩
          · rename_i c4
            rw [if_neg c4] at h
            exact absurd rfl h

/-- All pairs of bytes: the pairs, how many bytes they have, what is wrong behind them. -/
structure PA where
  l : List Pr
  n : Nat
  e : Int
def allP (xs : List Int) : PA :=
  if xs = [] then ⟨[], 0, 0⟩
  else if _h : (getP xs).e = 0 ∧ 0 < (getP xs).n ∧ (getP xs).n ≤ xs.length then ⟨(getP xs).p :: (allP (xs.drop (getP xs).n)).l, (getP xs).n + (allP (xs.drop (getP xs).n)).n, (allP (xs.drop (getP xs).n)).e⟩
  else ⟨[], 0, (getP xs).e⟩
termination_by xs.length
decreasing_by all_goals (rw [List.length_drop]; omega)
def textAll : List Pr → List Int
  | [] => []
  | p :: l => textP p ++ textAll l
def checkAll : List Pr → Int
  | [] => 0
  | p :: l => if checkP p = 0 then checkAll l else checkP p

theorem checkAll_ok {l : List Pr} : checkAll l = 0 ↔ ∀ p ∈ l, checkP p = 0 := by
  induction l with
  | nil => simp [checkAll]
  | cons p l ih =>
    unfold checkAll
    by_cases h : checkP p = 0
    · rw [if_pos h, ih]
      constructor
      · intro hh q hq
        rcases List.mem_cons.1 hq with rfl | hq
        · exact h
        · exact hh q hq
      · intro hh q hq
        exact hh q (List.mem_cons_of_mem _ hq)
    · rw [if_neg h]
      constructor
      · intro hh; exact absurd hh h
      · intro hh; exact hh p List.mem_cons_self
theorem allP_nil : allP [] = ⟨[], 0, 0⟩ := by unfold allP; rw [if_pos rfl]
theorem allP_text : ∀ (l : List Pr) (r : List Int), (∀ p ∈ l, checkP p = 0) → allP (textAll l ++ r) = ⟨l ++ (allP r).l, (textAll l).length + (allP r).n, (allP r).e⟩
  | [], r, _ => by simp [textAll]
  | p :: l, r, h => by
    have hp := h p List.mem_cons_self
    have e : textAll (p :: l) ++ r = textP p ++ (textAll l ++ r) := by show textP p ++ textAll l ++ r = _; rw [List.append_assoc]
    have hg := getP_text hp (textAll l ++ r)
    have hl := textP_length p
    have hne : ¬ textP p ++ (textAll l ++ r) = [] := fun hh => by
      have := congrArg List.length hh
      simp only [List.length_append, List.length_nil] at this
      omega
    rw [e]
    conv => lhs; unfold allP
    rw [if_neg hne, hg, dif_pos ⟨rfl, by show 0 < (textP p).length; omega, by show (textP p).length ≤ _; rw [List.length_append]; omega⟩]
    simp only
    rw [List.drop_left, allP_text l r (fun q hq => h q (List.mem_cons_of_mem _ hq))]
    simp only [textAll, List.length_append, List.cons_append, Nat.add_assoc]
theorem allP_back {l : List Pr} (h : ∀ p ∈ l, checkP p = 0) : allP (textAll l) = ⟨l, (textAll l).length, 0⟩ := by
  have := allP_text l [] h
  rw [List.append_nil, allP_nil] at this
  simpa using this
/-- The bytes so far are these pairs'. -/
theorem allP_only : ∀ (n : Nat) (xs : List Int), xs.length ≤ n → Octets xs → textAll (allP xs).l = xs.take (allP xs).n ∧ (allP xs).n ≤ xs.length ∧ (∀ p ∈ (allP xs).l, checkP p = 0 ∧ p.Fine) ∧ ((allP xs).e = 0 ↔ (allP xs).n = xs.length)
  | n, xs, hn, ho => by
    by_cases h0 : xs = []
    · subst h0
      rw [allP_nil]
      exact ⟨rfl, Nat.le_refl _, fun p hp => by simp at hp, ⟨fun _ => rfl, fun _ => rfl⟩⟩
    · have hpos : 0 < xs.length := List.length_pos_iff.2 h0
      by_cases h1 : (getP xs).e = 0
      · obtain ⟨a, b, c, d, f⟩ := getP_only ho h1
        have e : allP xs = ⟨(getP xs).p :: (allP (xs.drop (getP xs).n)).l, (getP xs).n + (allP (xs.drop (getP xs).n)).n, (allP (xs.drop (getP xs).n)).e⟩ := by
          conv => lhs; unfold allP
          rw [if_neg h0, dif_pos ⟨h1, by omega, b⟩]
        match n, hn with
        | 0, hn => omega
        | n + 1, hn =>
          have ih := allP_only n (xs.drop (getP xs).n) (by rw [List.length_drop]; omega) (ho.drop _)
          rw [List.length_drop] at ih
          obtain ⟨i1, i2, i3, i4⟩ := ih
          rw [e]
          refine ⟨?_, by show _ + _ ≤ _; omega, ?_, ?_⟩
          · show textP _ ++ textAll _ = _
            rw [a, i1, ← List.take_add]
          · intro p hp
            rcases List.mem_cons.1 hp with rfl | hp
            · exact ⟨f, d⟩
            · exact i3 p hp
          · show (allP (xs.drop (getP xs).n)).e = 0 ↔ _ + _ = _
            rw [i4]
            omega
      · have e : allP xs = ⟨[], 0, (getP xs).e⟩ := by
          conv => lhs; unfold allP
          rw [if_neg h0, dif_neg (fun hh => h1 hh.1)]
        rw [e]
        exact ⟨rfl, Nat.zero_le _, fun p hp => by simp at hp, ⟨fun hh => absurd hh h1, fun hh => by simp at hh; omega⟩⟩
/-- Of a beginning of pairs' bytes: the first of the pairs, and no other error than that there are fewer bytes. -/
theorem allP_part : ∀ (l : List Pr) (k : Nat), (∀ p ∈ l, checkP p = 0) → k ≤ (textAll l).length → ∃ j, j ≤ l.length ∧ (allP ((textAll l).take k)).l = l.take j ∧ ((allP ((textAll l).take k)).e = 0 ∨ (allP ((textAll l).take k)).e = 2)
  | [], k, _, hk => by
    refine ⟨0, Nat.le_refl _, ?_⟩
    simp [textAll, allP_nil]
  | p :: l, k, h, hk => by
    have hp := h p List.mem_cons_self
    have hl := textP_length p
    have hta : textAll (p :: l) = textP p ++ textAll l := rfl
    rw [hta] at hk ⊢
    by_cases hkp : k < (textP p).length
    · have e : (textP p ++ textAll l).take k = (textP p).take k := List.take_append_of_le_length (by omega)
      rw [e]
      refine ⟨0, Nat.zero_le _, ?_⟩
      by_cases h0 : (textP p).take k = []
      · rw [h0, allP_nil]
        exact ⟨rfl, .inl rfl⟩
      · have he := getP_part hp k hkp
        have ee : allP ((textP p).take k) = ⟨[], 0, (getP ((textP p).take k)).e⟩ := by
          conv => lhs; unfold allP
          rw [if_neg h0, dif_neg (fun hh => by rw [he] at hh; exact absurd hh.1 (by decide))]
        rw [ee, he]
        exact ⟨rfl, .inr rfl⟩
    · obtain ⟨j, hj⟩ : ∃ j, k = (textP p).length + j := ⟨k - (textP p).length, by omega⟩
      subst hj
      have e : (textP p ++ textAll l).take ((textP p).length + j) = textAll [p] ++ (textAll l).take j := by
        rw [List.take_length_add_append]
        simp [textAll]
      rw [List.length_append] at hk
      obtain ⟨i, h1, h2, h3⟩ := allP_part l j (fun q hq => h q (List.mem_cons_of_mem _ hq)) (by omega)
      rw [e, allP_text [p] _ (fun q hq => by rw [List.mem_singleton.1 hq]; exact hp)]
      refine ⟨i + 1, by simp; omega, ?_, h3⟩
      show [p] ++ _ = _
      rw [h2]
      rfl
theorem textAll_inj {l m : List Pr} (hl : ∀ p ∈ l, checkP p = 0) (hm : ∀ p ∈ m, checkP p = 0) (h : textAll l = textAll m) : l = m := by
  have a := allP_back hl
  have b := allP_back hm
  rw [h, b] at a
  exact (congrArg PA.l a).symm
end Go.Proofs.Ytbchiccgkhnkaaa

/-
  XXH32 tells bytes apart that differ in the last one alone, behind the fours.
-/
import Derived.Test.YtckebghkilamjaaThinNum
namespace Go.Proofs.Ytckebghkilamjaa

theorem down_inj (n : Nat) (hn : 0 < n) {x y : Int} (hx : U32 x) (hy : U32 y) (h : down n x = down n y) : x = y := by
  obtain ⟨a, rfl⟩ := Int.eq_ofNat_of_zero_le hx.1
  obtain ⟨b, rfl⟩ := Int.eq_ofNat_of_zero_le hy.1
  have ha : a < 2 ^ 32 := by have := hx.2; omega
  have hb : b < 2 ^ 32 := by have := hy.2; omega
  have e : a ^^^ a / 2 ^ n = b ^^^ b / 2 ^ n := by
    unfold down at h
    simp only [Int.toNat_natCast] at h
    exact_mod_cast h
  have key : ∀ (m i : Nat), 32 - i ≤ m → a.testBit i = b.testBit i := by
    intro m
    induction m with
    | zero =>
      intro i hi
      have h32 : 2 ^ 32 ≤ 2 ^ i := Nat.pow_le_pow_right (by decide) (by omega)
      rw [Nat.testBit_lt_two_pow (by omega), Nat.testBit_lt_two_pow (by omega)]
    | succ m ih =>
      intro i hi
      by_cases h32 : 32 ≤ i
      · exact ih i (by omega)
      · have e2 := congrArg (fun z => z.testBit i) e
        simp only [Nat.testBit_xor, Nat.testBit_div_two_pow] at e2
        rw [ih (i + n) (by omega)] at e2
        revert e2
        cases a.testBit i <;> cases b.testBit i <;> cases b.testBit (i + n) <;> simp
  congr 1
  exact Nat.eq_of_testBit_eq fun i => key 32 i (by omega)

theorem mul_inj (P Q : Int) (hq : P * Q % 4294967296 = 1) {x y : Int} (hx : U32 x) (hy : U32 y) (h : x * P % 4294967296 = y * P % 4294967296) : x = y := by
  have k : ∀ z, U32 z → (z * P % 4294967296 * Q) % 4294967296 = z := by
    intro z hz
    have h1 : (z * P % 4294967296 * Q) % 4294967296 = (z * P * Q) % 4294967296 := by
      rw [Int.mul_emod (z * P % 4294967296), Int.emod_emod_of_dvd _ (Int.dvd_refl _), ← Int.mul_emod]
    rw [h1, Int.mul_assoc, Int.mul_emod, hq, Int.mul_one, Int.emod_emod_of_dvd _ (Int.dvd_refl _)]
    exact Int.emod_eq_of_lt hz.1 hz.2
  rw [← k x hx, h, k y hy]

theorem rot11_inj {x y : Int} (hx : U32 x) (hy : U32 y) (h : rot 11 x = rot 11 y) : x = y := by
  obtain ⟨a, rfl⟩ := Int.eq_ofNat_of_zero_le hx.1
  obtain ⟨b, rfl⟩ := Int.eq_ofNat_of_zero_le hy.1
  have ha : a < 4294967296 := by have := hx.2; omega
  have hb : b < 4294967296 := by have := hy.2; omega
  rw [rot_nat (by decide), rot_nat (by decide)] at h
  have e : 2048 * (a % 2097152) + a / 2097152 = 2048 * (b % 2097152) + b / 2097152 := Int.ofNat_inj.1 h
  have qa : a / 2097152 < 2048 := by omega
  have qb : b / 2097152 < 2048 := by omega
  have ma := Nat.div_add_mod a 2097152
  have mb := Nat.div_add_mod b 2097152
  obtain ⟨q1, e1⟩ : ∃ q, q = a / 2097152 := ⟨_, rfl⟩
  obtain ⟨q2, e2⟩ : ∃ q, q = b / 2097152 := ⟨_, rfl⟩
  obtain ⟨r1, e3⟩ : ∃ q, q = a % 2097152 := ⟨_, rfl⟩
  obtain ⟨r2, e4⟩ : ∃ q, q = b % 2097152 := ⟨_, rfl⟩
  rw [← e1, ← e3] at ma e
  rw [← e2, ← e4] at mb e
  rw [← e1] at qa
  rw [← e2] at qb
  clear e1 e2 e3 e4 h hx hy
  have hq : q1 = q2 := by omega
  have hr : r1 = r2 := by omega
  rw [← ma, ← mb, hq, hr]

theorem tend_inj {x y : Int} (hx : U32 x) (hy : U32 y) (h : tend x = tend y) : x = y := by
  unfold tend at h
  have h1 := down_inj 16 (by decide) (mod_bound _) (mod_bound _) h
  have b1 := down_bound 13 (mod_bound (down 15 x * 2246822519))
  have b2 := down_bound 13 (mod_bound (down 15 y * 2246822519))
  have h2 : down 13 (down 15 x * 2246822519 % 4294967296) = down 13 (down 15 y * 2246822519 % 4294967296) := by
    exact mul_inj 3266489917 2828982549 (by decide) b1 b2 h1
  have h3 := down_inj 13 (by decide) (mod_bound _) (mod_bound _) h2
  have b3 := down_bound 15 hx
  have b4 := down_bound 15 hy
  have h4 : down 15 x = down 15 y := by
    exact mul_inj 2246822519 3066638151 (by decide) b3 b4 h3
  exact down_inj 15 (by decide) hx hy h4

theorem tone_inj {h b c : Int} (hb : 0 ≤ b ∧ b < 256) (hc : 0 ≤ c ∧ c < 256) (e : tone h b = tone h c) : b = c := by
  have ub : U32 b := ⟨hb.1, by omega⟩
  have uc : U32 c := ⟨hc.1, by omega⟩
  unfold tone at e
  have b1 := rot_bound (n := 11) (by decide) (mod_bound (h + b * 374761393))
  have b2 := rot_bound (n := 11) (by decide) (mod_bound (h + c * 374761393))
  have h1 : rot 11 ((h + b * 374761393) % 4294967296) = rot 11 ((h + c * 374761393) % 4294967296) := mul_inj 2654435761 244002641 (by decide) b1 b2 e
  have h2 := rot11_inj (mod_bound _) (mod_bound _) h1
  have h3 : b * 374761393 % 4294967296 = c * 374761393 % 4294967296 := by
    obtain ⟨X, hX⟩ : ∃ X, X = b * 374761393 := ⟨_, rfl⟩
    obtain ⟨Y, hY⟩ : ∃ Y, Y = c * 374761393 := ⟨_, rfl⟩
    rw [← hX, ← hY] at h2 ⊢
    clear hX hY e b1 b2 h1 hb hc
    omega
  exact mul_inj 374761393 2923004241 (by decide) ub uc h3

theorem sixteens_snoc : ∀ (m : Nat) (a b c d : Int) (xs : List Int) (y : Int), xs.length ≤ m → (xs.length + 1) % 16 ≠ 0 → sixteens a b c d (xs ++ [y]) = ((sixteens a b c d xs).1, (sixteens a b c d xs).2 ++ [y]) ∧ (sixteens a b c d xs).2.length % 4 = xs.length % 4
  | 0, a, b, c, d, xs, y, hm, hy => by
    rw [sixteens_end (xs := xs) (by omega), sixteens_end (by simp; omega)]
    exact ⟨rfl, rfl⟩
  | m + 1, a, b, c, d, xs, y, hm, hy => by
    by_cases h : 16 ≤ xs.length
    · have e : ∀ i, i < 4 → four4 (xs ++ [y]) i = four4 xs i := by
        intro i hi
        unfold four4
        rw [List.drop_append_of_le_length (by omega), List.take_append_of_le_length (by rw [List.length_drop]; omega)]
      rw [sixteens_go (xs := xs) h, sixteens_go (by simp; omega), e 0 (by decide), e 1 (by decide), e 2 (by decide), e 3 (by decide), List.drop_append_of_le_length h]
      obtain ⟨h1, h2⟩ := sixteens_snoc m (tin a (four4 xs 0)) (tin b (four4 xs 1)) (tin c (four4 xs 2)) (tin d (four4 xs 3)) (xs.drop 16) y (by rw [List.length_drop]; omega) (by rw [List.length_drop]; omega)
      refine ⟨h1, ?_⟩
      rw [h2, List.length_drop]
      omega
    · rw [sixteens_end (xs := xs) h, sixteens_end (by simp; omega)]
      exact ⟨rfl, rfl⟩

theorem tblocks_snoc (s : Int) (xs : List Int) (y : Int) (hy : (xs.length + 1) % 4 ≠ 0) : tblocks s (xs ++ [y]) = ((tblocks s xs).1, (tblocks s xs).2 ++ [y]) ∧ (tblocks s xs).2.length % 4 = xs.length % 4 := by
  unfold tblocks
  by_cases h : xs.length < 16
  · rw [if_pos h, if_pos (by simp; omega)]
    exact ⟨rfl, rfl⟩
  · rw [if_neg h, if_neg (by simp; omega)]
    exact sixteens_snoc _ _ _ _ _ _ _ (Nat.le_refl _) (by omega)

theorem tails_snoc : ∀ (m : Nat) (h : Int) (xs : List Int) (y : Int), xs.length ≤ m → (xs.length + 1) % 4 ≠ 0 → tails h (xs ++ [y]) = tone (tails h xs) y
  | 0, h, xs, y, hm, hy => by
    rw [tails_end (xs := xs) (by omega), tails_end (by simp; omega), List.foldl_append]
    rfl
  | m + 1, h, xs, y, hm, hy => by
    by_cases hl : 4 ≤ xs.length
    · have e : four4 (xs ++ [y]) 0 = four4 xs 0 := by
        unfold four4
        rw [List.drop_append_of_le_length (by omega), List.take_append_of_le_length (by rw [List.length_drop]; omega)]
      rw [tails_go (xs := xs) hl, tails_go (by simp; omega), e, List.drop_append_of_le_length hl]
      exact tails_snoc m _ (xs.drop 4) y (by rw [List.length_drop]; omega) (by rw [List.length_drop]; omega)
    · rw [tails_end (xs := xs) hl, tails_end (by simp; omega), List.foldl_append]
      rfl

theorem xxh_snoc (s : Int) (xs : List Int) (y : Int) (hy : (xs.length + 1) % 4 ≠ 0) :
    xxh s (xs ++ [y]) = tend (tone (tails (((tblocks s xs).1 + (xs.length + 1)) % 4294967296) (tblocks s xs).2) y) := by
  obtain ⟨h1, h2⟩ := tblocks_snoc s xs y hy
  unfold xxh
  rw [h1]
  have e : ((xs ++ [y]).length : Int) = xs.length + 1 := by simp
  simp only
  rw [e, tails_snoc _ _ _ y (Nat.le_refl _) (by omega)]

/-- Bytes that are alike but for the last one, fewer than four behind the fours: the sums differ. -/
theorem xxh_apart (s : Int) (xs : List Int) (y z : Int) (hl : (xs.length + 1) % 4 ≠ 0) (hy : 0 ≤ y ∧ y < 256) (hz : 0 ≤ z ∧ z < 256) (hne : y ≠ z) : xxh s (xs ++ [y]) ≠ xxh s (xs ++ [z]) := by
  rw [xxh_snoc s xs y hl, xxh_snoc s xs z hl]
  intro e
  exact hne (tone_inj hy hz (tend_inj (tone_bound _ _) (tone_bound _ _) e))
end Go.Proofs.Ytckebghkilamjaa

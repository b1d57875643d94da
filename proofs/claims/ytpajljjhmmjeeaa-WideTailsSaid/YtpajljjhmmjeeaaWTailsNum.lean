/-
  XXH64 tells bytes apart that differ in the last one alone, behind the fours.
-/
import Derived.Test.YtpajljjhmmjeeaaWideNum
namespace Go.Proofs.Ytpajljjhmmjeeaa

theorem xor_nat_cancel {a b c : Nat} (h : a ^^^ b = a ^^^ c) : b = c := by
  have e := congrArg (fun z => a ^^^ z) h
  simpa [← Nat.xor_assoc] using e
theorem xr_inj {h x y : Int} (hh : U64 h) (hx : U64 x) (hy : U64 y) (e : xr h x = xr h y) : x = y := by
  obtain ⟨a, rfl, ha⟩ := u64_nat hh
  obtain ⟨b, rfl, hb⟩ := u64_nat hx
  obtain ⟨c, rfl, hc⟩ := u64_nat hy
  rw [xr_nat ha hb, xr_nat ha hc] at e
  rw [xor_nat_cancel (Int.ofNat_inj.1 e)]

theorem wdown_inj (n : Nat) (hn : 0 < n) {x y : Int} (hx : U64 x) (hy : U64 y) (h : down n x = down n y) : x = y := by
  obtain ⟨a, rfl, ha⟩ := u64_nat hx
  obtain ⟨b, rfl, hb⟩ := u64_nat hy
  have e : a ^^^ a / 2 ^ n = b ^^^ b / 2 ^ n := by
    unfold down at h
    simp only [Int.toNat_natCast] at h
    exact Int.ofNat_inj.1 h
  have key : ∀ (m i : Nat), 64 - i ≤ m → a.testBit i = b.testBit i := by
    intro m
    induction m with
    | zero =>
      intro i hi
      have h64 : 2 ^ 64 ≤ 2 ^ i := Nat.pow_le_pow_right (by decide) (by omega)
      rw [Nat.testBit_lt_two_pow (Nat.lt_of_lt_of_le ha h64), Nat.testBit_lt_two_pow (Nat.lt_of_lt_of_le hb h64)]
    | succ m ih =>
      intro i hi
      by_cases h64 : 64 ≤ i
      · exact ih i (by omega)
      · have e2 := congrArg (fun z => z.testBit i) e
        simp only [Nat.testBit_xor, Nat.testBit_div_two_pow] at e2
        rw [ih (i + n) (by omega)] at e2
        revert e2
        cases a.testBit i <;> cases b.testBit i <;> cases b.testBit (i + n) <;> simp
  congr 1
  exact Nat.eq_of_testBit_eq fun i => key 64 i (by omega)

theorem wmul_inj (P Q : Int) (hq : P * Q % 18446744073709551616 = 1) {x y : Int} (hx : U64 x) (hy : U64 y) (h : IntKind.u64.wrap (x * P) = IntKind.u64.wrap (y * P)) : x = y := by
  rw [IntKind.wrap_u64, IntKind.wrap_u64] at h
  have k : ∀ z, U64 z → (z * P % 18446744073709551616 * Q) % 18446744073709551616 = z := by
    intro z hz
    have h1 : (z * P % 18446744073709551616 * Q) % 18446744073709551616 = (z * P * Q) % 18446744073709551616 := by
      rw [Int.mul_emod (z * P % 18446744073709551616), Int.emod_emod_of_dvd _ (Int.dvd_refl _), ← Int.mul_emod]
    rw [h1, Int.mul_assoc, Int.mul_emod, hq, Int.mul_one, Int.emod_emod_of_dvd _ (Int.dvd_refl _)]
    exact Int.emod_eq_of_lt hz.1 hz.2
  rw [← k x hx, h, k y hy]

theorem wrot_inj (n : Nat) (hn : n ≤ 64) {x y : Int} (hx : U64 x) (hy : U64 y) (h : wrot n x = wrot n y) : x = y := by
  obtain ⟨a, rfl, ha⟩ := u64_nat hx
  obtain ⟨b, rfl, hb⟩ := u64_nat hy
  have ha : a < 18446744073709551616 := ha
  have hb : b < 18446744073709551616 := hb
  rw [wrot_nat hn, wrot_nat hn] at h
  have e := Int.ofNat_inj.1 h
  have hp := wtwo_halves hn
  have pm := Nat.two_pow_pos (64 - n)
  have qa : a / 2 ^ (64 - n) < 2 ^ n := by rw [Nat.div_lt_iff_lt_mul pm, hp]; exact ha
  have qb : b / 2 ^ (64 - n) < 2 ^ n := by rw [Nat.div_lt_iff_lt_mul pm, hp]; exact hb
  have pn := Nat.two_pow_pos n
  have hq : a / 2 ^ (64 - n) = b / 2 ^ (64 - n) := by
    have h1 := congrArg (· % 2 ^ n) e
    simp only [Nat.mul_add_mod] at h1
    rwa [Nat.mod_eq_of_lt qa, Nat.mod_eq_of_lt qb] at h1
  have hr : a % 2 ^ (64 - n) = b % 2 ^ (64 - n) := by
    rw [hq] at e
    exact Nat.eq_of_mul_eq_mul_left pn (Nat.add_right_cancel e)
  rw [← Nat.div_add_mod a (2 ^ (64 - n)), ← Nat.div_add_mod b (2 ^ (64 - n)), hq, hr]

theorem wend_inj {x y : Int} (hx : U64 x) (hy : U64 y) (h : wend x = wend y) : x = y := by
  unfold wend at h
  have h1 := wdown_inj 32 (by decide) (wmod_bound _) (wmod_bound _) h
  have h2 := wmul_inj 1609587929392839161 16855272203555305545 (by decide) (wdown_bound 29 (wmod_bound _)) (wdown_bound 29 (wmod_bound _)) h1
  have h3 := wdown_inj 29 (by decide) (wmod_bound _) (wmod_bound _) h2
  have h4 := wmul_inj 14029467366897019727 839798700976720815 (by decide) (wdown_bound 33 hx) (wdown_bound 33 hy) h3
  exact wdown_inj 33 (by decide) hx hy h4

theorem wone_inj {h b c : Int} (hh : U64 h) (hb : 0 ≤ b ∧ b < 256) (hc : 0 ≤ c ∧ c < 256) (e : wone h b = wone h c) : b = c := by
  have ub : U64 b := ⟨hb.1, Int.lt_trans hb.2 (by decide)⟩
  have uc : U64 c := ⟨hc.1, Int.lt_trans hc.2 (by decide)⟩
  unfold wone at e
  have h1 := wmul_inj 11400714785074694791 614540362697595703 (by decide) (wrot_bound (by decide) (xr_bound _ _)) (wrot_bound (by decide) (xr_bound _ _)) e
  have h2 := wrot_inj 11 (by decide) (xr_bound _ _) (xr_bound _ _) h1
  have h3 := xr_inj hh (wmod_bound _) (wmod_bound _) h2
  exact wmul_inj 2870177450012600261 14236653164957433613 (by decide) ub uc h3

theorem wfours_bound : ∀ (m : Nat) (h : Int) (xs : List Int), U64 h → xs.length ≤ m → U64 (wfours h xs)
  | 0, h, xs, hh, hm => by
    rw [wfours_end (by omega)]
    exact fold_wone xs h hh
  | m + 1, h, xs, hh, hm => by
    by_cases h4 : 4 ≤ xs.length
    · rw [wfours_go h4]
      exact wfours_bound m _ _ (wfour_bound _ _) (by rw [List.length_drop]; omega)
    · rw [wfours_end h4]
      exact fold_wone xs h hh
theorem weights_bound : ∀ (m : Nat) (h : Int) (xs : List Int), U64 h → xs.length ≤ m → U64 (weights h xs)
  | 0, h, xs, hh, hm => by
    rw [weights_end (by omega)]
    exact wfours_bound _ _ _ hh (Nat.le_refl _)
  | m + 1, h, xs, hh, hm => by
    by_cases h8 : 8 ≤ xs.length
    · rw [weights_go h8]
      exact weights_bound m _ _ (weight_bound _ _) (by rw [List.length_drop]; omega)
    · rw [weights_end h8]
      exact wfours_bound _ _ _ hh (Nat.le_refl _)

theorem four4_snoc (xs : List Int) (y : Int) (h : 4 ≤ xs.length) : four4 (xs ++ [y]) 0 = four4 xs 0 := by
  unfold four4
  rw [List.drop_append_of_le_length (by omega), List.take_append_of_le_length (by rw [List.length_drop]; omega)]

/-- Behind the fours the last byte goes in by itself. -/
theorem wfours_snoc : ∀ (m : Nat) (h : Int) (xs : List Int) (y : Int), xs.length ≤ m → (xs.length + 1) % 4 ≠ 0 → wfours h (xs ++ [y]) = wone (wfours h xs) y
  | 0, h, xs, y, hm, hy => by
    rw [wfours_end (xs := xs) (by omega), wfours_end (by simp; omega), List.foldl_append]
    rfl
  | m + 1, h, xs, y, hm, hy => by
    by_cases h4 : 4 ≤ xs.length
    · rw [wfours_go (xs := xs) h4, wfours_go (by simp; omega), four4_snoc _ _ h4, List.drop_append_of_le_length h4]
      exact wfours_snoc m _ _ _ (by rw [List.length_drop]; omega) (by rw [List.length_drop]; omega)
    · rw [wfours_end (xs := xs) h4, wfours_end (by simp; omega), List.foldl_append]
      rfl
theorem weights_snoc : ∀ (m : Nat) (h : Int) (xs : List Int) (y : Int), xs.length ≤ m → (xs.length + 1) % 4 ≠ 0 → weights h (xs ++ [y]) = wone (weights h xs) y
  | 0, h, xs, y, hm, hy => by
    rw [weights_end (xs := xs) (by omega), weights_end (by simp; omega)]
    exact wfours_snoc _ _ _ _ (Nat.le_refl _) hy
  | m + 1, h, xs, y, hm, hy => by
    by_cases h8 : 8 ≤ xs.length
    · rw [weights_go (xs := xs) h8, weights_go (by simp; omega), four8_append _ _ _ (by omega), List.drop_append_of_le_length h8]
      exact weights_snoc m _ _ _ (by rw [List.length_drop]; omega) (by rw [List.length_drop]; omega)
    · rw [weights_end (xs := xs) h8, weights_end (by simp; omega)]
      exact wfours_snoc _ _ _ _ (Nat.le_refl _) hy

theorem wblocks_snoc (s : Int) (xs : List Int) (y : Int) (h : (xs.length + 1) % 4 ≠ 0) : wblocks s (xs ++ [y]) = wblocks s xs ∧ wleft (xs ++ [y]) = wleft xs ++ [y] := by
  have e : (xs ++ [y]).length / 32 = xs.length / 32 := by rw [List.length_append]; simp; omega
  have e2 : (xs ++ [y]).length = xs.length + 1 := by rw [List.length_append]; rfl
  refine ⟨?_, ?_⟩
  · unfold wblocks
    rw [e, wnums_append _ _ _ _ (by omega)]
    by_cases h32 : xs.length < 32
    · rw [if_pos h32, if_pos (by omega)]
    · rw [if_neg h32, if_neg (by omega)]
  · unfold wleft
    rw [e, List.drop_append_of_le_length (by omega)]

/-- The sum tells the last byte's turn, where the number of bytes isn't a multiple of four. -/
theorem wxxh_snoc (s : Int) (xs : List Int) (b c : Int) (h : (xs.length + 1) % 4 ≠ 0) (hb : 0 ≤ b ∧ b < 256) (hc : 0 ≤ c ∧ c < 256) (e : wxxh s (xs ++ [b]) = wxxh s (xs ++ [c])) : b = c := by
  unfold wxxh at e
  rw [(wblocks_snoc s xs b h).1, (wblocks_snoc s xs b h).2, (wblocks_snoc s xs c h).1, (wblocks_snoc s xs c h).2] at e
  have hl : ∀ z : Int, ((xs ++ [z]).length : Int) = xs.length + 1 := fun z => by rw [List.length_append]; simp
  rw [hl, hl] at e
  obtain ⟨B, hB⟩ : ∃ B, B = IntKind.u64.wrap (wblocks s xs + ((xs.length : Int) + 1)) := ⟨_, rfl⟩
  have ub : U64 B := by rw [hB]; exact wmod_bound _
  rw [← hB] at e
  have hlw : ((wleft xs).length + 1) % 4 ≠ 0 := by rw [wleft_length]; omega
  rw [weights_snoc _ _ _ _ (Nat.le_refl _) hlw, weights_snoc _ _ _ _ (Nat.le_refl _) hlw] at e
  have uw := weights_bound _ B (wleft xs) ub (Nat.le_refl _)
  exact wone_inj uw hb hc (wend_inj (wone_bound _ _) (wone_bound _ _) e)
end Go.Proofs.Ytpajljjhmmjeeaa

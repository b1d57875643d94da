/-
  XXH64 over plain numbers, as chapter 4 has it.
-/
import Derived.Test.YtbchiccgkhnkaaaThinNum
namespace Go.Proofs.Ytbchiccgkhnkaaa

def U64 (x : Int) : Prop := 0 ≤ x ∧ x < 18446744073709551616
/-- Exclusive or. -/
def xr (x y : Int) : Int := bits BinOp.xor IntKind.u64 x y
/-- Turned left by n, of 64 bits. -/
def wrot (n : Nat) (x : Int) : Int := x * 2 ^ n % 18446744073709551616 + x / 2 ^ (64 - n)
/-- A number goes into x. -/
def win (x y : Int) : Int := IntKind.u64.wrap (wrot 31 (IntKind.u64.wrap (x + IntKind.u64.wrap (y * 14029467366897019727))) * 11400714785074694791)
def wmerge (h x : Int) : Int := IntKind.u64.wrap (IntKind.u64.wrap (xr h (win 0 x) * 11400714785074694791) + 9650029242287828579)
def weight (h y : Int) : Int := IntKind.u64.wrap (IntKind.u64.wrap (wrot 27 (xr h (win 0 y)) * 11400714785074694791) + 9650029242287828579)
def wfour (h y : Int) : Int := IntKind.u64.wrap (IntKind.u64.wrap (wrot 23 (xr h (IntKind.u64.wrap (y * 11400714785074694791))) * 14029467366897019727) + 1609587929392839161)
def wone (h b : Int) : Int := IntKind.u64.wrap (wrot 11 (xr h (IntKind.u64.wrap (b * 2870177450012600261))) * 11400714785074694791)
def wend (h : Int) : Int := down 32 (IntKind.u64.wrap (down 29 (IntKind.u64.wrap (down 33 h * 14029467366897019727)) * 1609587929392839161))
def four8 (xs : List Int) (i : Nat) : Int := le ((xs.drop (8 * i)).take 8)

/-- The four numbers of a seed. -/
def wseed (s : Int) : Nat → Int
  | 0 => IntKind.u64.wrap (IntKind.u64.wrap (s + 11400714785074694791) + 14029467366897019727)
  | 1 => IntKind.u64.wrap (s + 14029467366897019727)
  | 2 => s
  | _ => IntKind.u64.wrap (s - 11400714785074694791)
/-- Of four numbers the first j have taken up theirs of a block. -/
def wtaken (v : Nat → Int) (ys : List Int) (k : Nat) : Nat → Int := fun j => if j < k then win (v j) (four8 ys j) else v j
/-- The four numbers behind k blocks. -/
def wnums (v : Nat → Int) (xs : List Int) : Nat → Nat → Int
  | 0 => v
  | k + 1 => wtaken (wnums v xs k) (xs.drop (32 * k)) 4
/-- What the four numbers come to. -/
def wjoin (v : Nat → Int) : Int := IntKind.u64.wrap (IntKind.u64.wrap (IntKind.u64.wrap (wrot 1 (v 0) + wrot 7 (v 1)) + wrot 12 (v 2)) + wrot 18 (v 3))
def wmerged (v : Nat → Int) : Nat → Int
  | 0 => wjoin v
  | k + 1 => wmerge (wmerged v k) (v k)
def wblocks (s : Int) (xs : List Int) : Int := if xs.length < 32 then IntKind.u64.wrap (s + 2870177450012600261) else wmerged (wnums (wseed s) xs (xs.length / 32)) 4
def wleft (xs : List Int) : List Int := xs.drop (32 * (xs.length / 32))
def wfours (h : Int) (xs : List Int) : Int :=
  if 4 ≤ xs.length then wfours (wfour h (four4 xs 0)) (xs.drop 4) else xs.foldl wone h
termination_by xs.length
def weights (h : Int) (xs : List Int) : Int :=
  if 8 ≤ xs.length then weights (weight h (four8 xs 0)) (xs.drop 8) else wfours h xs
termination_by xs.length
/-- The sum of bytes, by a seed. -/
def wxxh (s : Int) (xs : List Int) : Int := wend (weights (IntKind.u64.wrap (wblocks s xs + (xs.length : Int))) (wleft xs))

theorem wtwo_halves {n : Nat} (hn : n ≤ 64) : 2 ^ n * 2 ^ (64 - n) = 18446744073709551616 := by
  rw [← Nat.pow_add, show n + (64 - n) = 64 by omega]
theorem wrot_nat {n : Nat} (hn : n ≤ 64) (k : Nat) : wrot n (k : Int) = ((2 ^ n * (k % 2 ^ (64 - n)) + k / 2 ^ (64 - n) : Nat) : Int) := by
  have hp := wtwo_halves hn
  have e1 : (k : Int) * 2 ^ n % 18446744073709551616 = ((k * 2 ^ n % 18446744073709551616 : Nat) : Int) := by
    rw [Int.natCast_emod, Int.natCast_mul, Int.natCast_pow]; rfl
  have e2 : (k : Int) / 2 ^ (64 - n) = ((k / 2 ^ (64 - n) : Nat) : Int) := by
    rw [Int.natCast_ediv, Int.natCast_pow]; rfl
  have hm : k * 2 ^ n % 18446744073709551616 = 2 ^ n * (k % 2 ^ (64 - n)) := by
    rw [← hp, Nat.mul_comm k, Nat.mul_mod_mul_left]
  unfold wrot
  rw [e1, e2, hm, Int.natCast_add]
theorem wrot_bound {n : Nat} (hn : n ≤ 64) {x : Int} (h : U64 x) : U64 (wrot n x) := by
  obtain ⟨k, rfl⟩ := Int.eq_ofNat_of_zero_le h.1
  have hk : k < 18446744073709551616 := by have := h.2; omega
  rw [wrot_nat hn]
  have hp := wtwo_halves hn
  have p2 := Nat.two_pow_pos (64 - n)
  have hq : k / 2 ^ (64 - n) < 2 ^ n := by
    rw [Nat.div_lt_iff_lt_mul p2, hp]; exact hk
  have hr := Nat.mod_lt k p2
  have h1 : 2 ^ n * (k % 2 ^ (64 - n) + 1) ≤ 2 ^ n * 2 ^ (64 - n) := Nat.mul_le_mul_left _ hr
  rw [hp, Nat.mul_add] at h1
  obtain ⟨y, hy⟩ : ∃ y, y = 2 ^ n * (k % 2 ^ (64 - n)) := ⟨_, rfl⟩
  obtain ⟨z, hz⟩ : ∃ z, z = k / 2 ^ (64 - n) := ⟨_, rfl⟩
  obtain ⟨u, hu⟩ : ∃ u, u = 2 ^ n := ⟨_, rfl⟩
  rw [← hy, ← hu] at h1
  rw [← hz, ← hu] at hq
  rw [← hy, ← hz]
  clear hy hz hu hr p2 hp hk h
  unfold U64
  omega

theorem wmod_bound (x : Int) : U64 (IntKind.u64.wrap x) := by
  rw [IntKind.wrap_u64]
  exact ⟨Int.emod_nonneg _ (by decide), Int.emod_lt_of_pos _ (by decide)⟩
theorem win_bound (x y : Int) : U64 (win x y) := wmod_bound _
theorem wmerge_bound (x y : Int) : U64 (wmerge x y) := wmod_bound _
theorem weight_bound (x y : Int) : U64 (weight x y) := wmod_bound _
theorem wfour_bound (x y : Int) : U64 (wfour x y) := wmod_bound _
theorem wone_bound (x y : Int) : U64 (wone x y) := wmod_bound _
theorem wjoin_bound (v : Nat → Int) : U64 (wjoin v) := wmod_bound _
theorem u64_nat {x : Int} (h : U64 x) : ∃ k : Nat, x = (k : Int) ∧ k < 2 ^ 64 := by
  obtain ⟨k, rfl⟩ := Int.eq_ofNat_of_zero_le h.1
  exact ⟨k, rfl, Int.ofNat_lt.1 h.2⟩
theorem nat_u64 {k : Nat} (h : k < 2 ^ 64) : U64 (k : Int) := ⟨Int.natCast_nonneg k, Int.ofNat_lt.2 h⟩
theorem xr_bound (x y : Int) : U64 (xr x y) := wmod_bound _
theorem wdown_bound (n : Nat) {x : Int} (h : U64 x) : U64 (down n x) := by
  obtain ⟨a, rfl, ha⟩ := u64_nat h
  exact nat_u64 (Nat.xor_lt_two_pow ha (Nat.lt_of_le_of_lt (Nat.div_le_self _ _) ha))
theorem wend_bound (h : Int) : U64 (wend h) := wdown_bound _ (wmod_bound _)

theorem xr_nat {a b : Nat} (ha : a < 2 ^ 64) (hb : b < 2 ^ 64) : xr a b = ((a ^^^ b : Nat) : Int) := u64_xor_nat _ _ ha hb
theorem wdown_of (n : Nat) {x : Int} (h : U64 x) : bits BinOp.xor IntKind.u64 x (x / 2 ^ n) = down n x := by
  obtain ⟨k, rfl, hk⟩ := u64_nat h
  have e : (k : Int) / 2 ^ n = ((k / 2 ^ n : Nat) : Int) := by rw [Int.natCast_ediv, Int.natCast_pow]; rfl
  rw [e, u64_xor_nat _ _ hk (Nat.lt_of_le_of_lt (Nat.div_le_self _ _) hk)]
  rfl

/-- The two halves of a turned number have no bit in common. -/
theorem wrot_of {n : Nat} (hn : n < 64) {x : Int} (h : U64 x) : bits BinOp.or IntKind.u64 (x * 2 ^ n % 18446744073709551616) (x / 2 ^ (64 - n)) = wrot n x := by
  obtain ⟨k, rfl, hk⟩ := u64_nat h
  have hp := wtwo_halves (n := n) (by omega)
  have p2 := Nat.two_pow_pos (64 - n)
  have e1 : (k : Int) * 2 ^ n % 18446744073709551616 = ((k * 2 ^ n % 18446744073709551616 : Nat) : Int) := by
    rw [Int.natCast_emod, Int.natCast_mul, Int.natCast_pow]; rfl
  have e2 : (k : Int) / 2 ^ (64 - n) = ((k / 2 ^ (64 - n) : Nat) : Int) := by
    rw [Int.natCast_ediv, Int.natCast_pow]; rfl
  have hq : k / 2 ^ (64 - n) < 2 ^ n := by
    rw [Nat.div_lt_iff_lt_mul p2, hp]; exact hk
  have hm : k * 2 ^ n % 18446744073709551616 = 2 ^ n * (k % 2 ^ (64 - n)) := by
    rw [← hp, Nat.mul_comm k, Nat.mul_mod_mul_left]
  unfold wrot
  rw [e1, e2, u64_or_nat _ _ (Nat.mod_lt _ (by decide)) (Nat.lt_of_le_of_lt (Nat.div_le_self _ _) hk), hm, ← Nat.two_pow_add_eq_or_of_lt hq, Int.natCast_add]

theorem wrot_zero {x : Int} (h : U64 x) : wrot 0 x = x := by
  unfold wrot
  rw [Int.pow_zero, Nat.sub_zero, Int.mul_one, Int.emod_eq_of_lt h.1 h.2, show x / 2 ^ 64 = 0 from Int.ediv_eq_zero_of_lt h.1 h.2, Int.add_zero]

/-- One turn by one more. -/
theorem wrot_step {n : Nat} (hn : n < 64) {x : Int} (h : U64 x) : 2 * wrot n x % 18446744073709551616 + wrot n x / 9223372036854775808 = wrot (n + 1) x := by
  obtain ⟨k, rfl, hk⟩ := u64_nat h
  have hk : k < 18446744073709551616 := hk
  clear h
  rw [wrot_nat (by omega), wrot_nat (by omega)]
  have hp := wtwo_halves (n := n) (by omega)
  obtain ⟨m, hm⟩ : ∃ m, 64 - n = m + 1 := ⟨63 - n, by omega⟩
  have hm' : 64 - (n + 1) = m := by omega
  rw [hm] at hp ⊢
  rw [hm']
  have hp2 : 2 ^ n * 2 ^ m = 9223372036854775808 := by
    rw [Nat.pow_succ, ← Nat.mul_assoc] at hp; omega
  have pm := Nat.two_pow_pos m
  obtain ⟨q, hq⟩ : ∃ q, q = k / 2 ^ m := ⟨_, rfl⟩
  obtain ⟨r, hr⟩ : ∃ r, r = k % 2 ^ m := ⟨_, rfl⟩
  have hrl : r < 2 ^ m := by rw [hr]; exact Nat.mod_lt _ pm
  have hdd : k / 2 ^ (m + 1) = q / 2 := by rw [Nat.pow_succ, ← Nat.div_div_eq_div_mul, ← hq]
  have hmm : k % 2 ^ (m + 1) = 2 ^ m * (q % 2) + r := by
    rw [Nat.pow_succ, Nat.mod_mul, ← hr, ← hq]; omega
  rw [hdd, hmm, ← hq, ← hr]
  have hql : q < 2 ^ n * 2 := by
    have : k / 2 ^ m < 2 ^ n * 2 := by
      rw [Nat.div_lt_iff_lt_mul pm, show 2 ^ n * 2 * 2 ^ m = 2 ^ n * 2 ^ m * 2 by rw [Nat.mul_assoc, Nat.mul_comm 2, ← Nat.mul_assoc], hp2]; omega
    omega
  have h1 : 2 ^ n * (r + 1) ≤ 2 ^ n * 2 ^ m := Nat.mul_le_mul_left _ hrl
  rw [hp2, Nat.mul_add] at h1
  have h2 : 2 ^ n * (2 ^ m * (q % 2) + r) = 9223372036854775808 * (q % 2) + 2 ^ n * r := by
    rw [Nat.mul_add, ← Nat.mul_assoc, hp2]
  rw [h2, show 2 ^ (n + 1) * r = 2 * (2 ^ n * r) by rw [Nat.pow_succ, Nat.mul_comm (2 ^ n), Nat.mul_assoc]]
  obtain ⟨y, hy⟩ : ∃ y, y = 2 ^ n * r := ⟨_, rfl⟩
  obtain ⟨z, hz⟩ : ∃ z, z = 2 ^ n := ⟨_, rfl⟩
  rw [← hy] at h1 ⊢
  rw [← hz] at h1 hql
  clear hy hz hr hq hdd hmm hrl pm hp2 hp hm hm' h2 hk
  omega

theorem four8_bound {xs : List Int} (h : Octets xs) (i : Nat) : U64 (four8 xs i) := by
  have hb := le_bound _ ((h.drop (8 * i)).take 8)
  refine ⟨hb.1, Int.lt_of_lt_of_le hb.2 ?_⟩
  have hp : 2 ^ (8 * ((xs.drop (8 * i)).take 8).length) ≤ 2 ^ 64 := Nat.pow_le_pow_right (by decide) (by rw [List.length_take]; omega)
  have e : (2 : Int) ^ (8 * ((xs.drop (8 * i)).take 8).length) = ((2 ^ (8 * ((xs.drop (8 * i)).take 8).length) : Nat) : Int) := by rw [Int.natCast_pow]; rfl
  rw [e]
  exact Int.le_trans (Int.ofNat_le.2 hp) (by decide)
theorem four4_u64 {xs : List Int} (h : Octets xs) (i : Nat) : U64 (four4 xs i) := by
  have := four4_bound h i
  exact ⟨this.1, Int.lt_trans this.2 (by decide)⟩

theorem wfours_go {h : Int} {xs : List Int} (hl : 4 ≤ xs.length) : wfours h xs = wfours (wfour h (four4 xs 0)) (xs.drop 4) := by
  conv => lhs; unfold wfours
  rw [if_pos hl]
theorem wfours_end {h : Int} {xs : List Int} (hl : ¬ 4 ≤ xs.length) : wfours h xs = xs.foldl wone h := by
  unfold wfours
  rw [if_neg hl]
theorem weights_go {h : Int} {xs : List Int} (hl : 8 ≤ xs.length) : weights h xs = weights (weight h (four8 xs 0)) (xs.drop 8) := by
  conv => lhs; unfold weights
  rw [if_pos hl]
theorem weights_end {h : Int} {xs : List Int} (hl : ¬ 8 ≤ xs.length) : weights h xs = wfours h xs := by
  unfold weights
  rw [if_neg hl]

theorem fold_wone (xs : List Int) : ∀ h, U64 h → U64 (xs.foldl wone h) := by
  induction xs with
  | nil => exact fun h hh => hh
  | cons b r ih => exact fun h _ => ih _ (wone_bound h b)
theorem fold_wnext (xs : List Int) (h : Int) (k : Nat) (hk : k < xs.length) : (xs.take (k + 1)).foldl wone h = wone ((xs.take k).foldl wone h) (xs.getD k 0) := by
  rw [take_succ_getD xs k hk, List.foldl_append]
  rfl

theorem wtaken_zero (v : Nat → Int) (ys : List Int) : wtaken v ys 0 = v := by funext j; simp [wtaken]
theorem wtaken_at (v : Nat → Int) (ys : List Int) (k : Nat) : wtaken v ys k k = v k := by unfold wtaken; rw [if_neg (Nat.lt_irrefl _)]
theorem wtaken_succ (v : Nat → Int) (ys : List Int) (k : Nat) : upd (wtaken v ys k) k (win (wtaken v ys k k) (four8 ys k)) = wtaken v ys (k + 1) := by
  funext j
  unfold upd wtaken
  by_cases h : j = k
  · subst h
    rw [if_pos rfl, if_neg (Nat.lt_irrefl _), if_pos (Nat.lt_succ_self _)]
  · rw [if_neg h]
    by_cases h2 : j < k
    · rw [if_pos h2, if_pos (by omega)]
    · rw [if_neg h2, if_neg (by omega)]
theorem wtaken_bound {v : Nat → Int} (h : ∀ j, j < 4 → U64 (v j)) (ys : List Int) (k j : Nat) (hj : j < 4) : U64 (wtaken v ys k j) := by
  unfold wtaken
  split
  · exact win_bound _ _
  · exact h j hj
theorem wseed_bound {s : Int} (h : U64 s) (j : Nat) : U64 (wseed s j) := by
  match j with
  | 0 => exact wmod_bound _
  | 1 => exact wmod_bound _
  | 2 => exact h
  | n + 3 => exact wmod_bound _
theorem wnums_bound {v : Nat → Int} (h : ∀ j, j < 4 → U64 (v j)) (xs : List Int) : ∀ (k j : Nat), j < 4 → U64 (wnums v xs k j)
  | 0, _, hj => h _ hj
  | k + 1, _, hj => wtaken_bound (wnums_bound h xs k) _ _ _ hj
theorem wmerged_bound (v : Nat → Int) : ∀ k, U64 (wmerged v k)
  | 0 => wmod_bound _
  | _ + 1 => wmod_bound _
theorem wblocks_bound (s : Int) (xs : List Int) : U64 (wblocks s xs) := by
  unfold wblocks
  split
  · exact wmod_bound _
  · exact wmerged_bound _ _

/-- A block's numbers don't hang on what stands behind it. -/
theorem four8_append (xs ys : List Int) (i : Nat) (h : 8 * i + 8 ≤ xs.length) : four8 (xs ++ ys) i = four8 xs i := by
  unfold four8
  rw [List.drop_append_of_le_length (by omega), List.take_append_of_le_length (by rw [List.length_drop]; omega)]
theorem wtaken_append (v : Nat → Int) (xs ys : List Int) (k : Nat) (h : 8 * k ≤ xs.length) : wtaken v (xs ++ ys) k = wtaken v xs k := by
  funext j
  unfold wtaken
  by_cases hj : j < k
  · rw [if_pos hj, if_pos hj, four8_append _ _ _ (by omega)]
  · rw [if_neg hj, if_neg hj]
theorem wnums_append (v : Nat → Int) (xs ys : List Int) : ∀ (k : Nat), 32 * k ≤ xs.length → wnums v (xs ++ ys) k = wnums v xs k
  | 0, _ => rfl
  | k + 1, h => by
    unfold wnums
    rw [wnums_append v xs ys k (by omega), List.drop_append_of_le_length (by omega), wtaken_append _ _ _ _ (by rw [List.length_drop]; omega)]
theorem wleft_length (xs : List Int) : (wleft xs).length = xs.length % 32 := by
  unfold wleft
  rw [List.length_drop]
  omega
theorem Octets.wleft {xs : List Int} (h : Octets xs) : Octets (wleft xs) := h.drop _
end Go.Proofs.Ytbchiccgkhnkaaa

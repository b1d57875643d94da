/-
  XXH32 over plain numbers, as chapter 3 has it.
-/
import Derived.Test.YtbchiccgkhnkaaaNum
import Derived.Laws.BitsAllLaws
import Derived.Laws.Bits64
namespace Go.Proofs.Ytbchiccgkhnkaaa

/-- Turned left by n, of 32 bits. -/
def rot (n : Nat) (x : Int) : Int := x * 2 ^ n % 4294967296 + x / 2 ^ (32 - n)
/-- By exclusive or with itself moved down. -/
def down (n : Nat) (x : Int) : Int := ((x.toNat ^^^ x.toNat / 2 ^ n : Nat) : Int)
def tin (x y : Int) : Int := rot 13 ((x + y * 2246822519) % 4294967296) * 2654435761 % 4294967296
def tfour (h y : Int) : Int := rot 17 ((h + y * 3266489917) % 4294967296) * 668265263 % 4294967296
def tone (h b : Int) : Int := rot 11 ((h + b * 374761393) % 4294967296) * 2654435761 % 4294967296
def tend (h : Int) : Int := down 16 (down 13 (down 15 h * 2246822519 % 4294967296) * 3266489917 % 4294967296)
def four4 (xs : List Int) (i : Nat) : Int := le ((xs.drop (4 * i)).take 4)

def sixteens (a b c d : Int) (xs : List Int) : Int × List Int :=
  if 16 ≤ xs.length then sixteens (tin a (four4 xs 0)) (tin b (four4 xs 1)) (tin c (four4 xs 2)) (tin d (four4 xs 3)) (xs.drop 16)
  else ((rot 1 a + rot 7 b + rot 12 c + rot 18 d) % 4294967296, xs)
termination_by xs.length

def tblocks (s : Int) (xs : List Int) : Int × List Int :=
  if xs.length < 16 then ((s + 374761393) % 4294967296, xs)
  else sixteens ((s + 2654435761 + 2246822519) % 4294967296) ((s + 2246822519) % 4294967296) s ((s + 4294967296 - 2654435761) % 4294967296) xs

def tails (h : Int) (xs : List Int) : Int :=
  if 4 ≤ xs.length then tails (tfour h (four4 xs 0)) (xs.drop 4) else xs.foldl tone h
termination_by xs.length

/-- The sum of bytes, by a seed. -/
def xxh (s : Int) (xs : List Int) : Int := tend (tails (((tblocks s xs).1 + xs.length) % 4294967296) (tblocks s xs).2)

def U32 (x : Int) : Prop := 0 ≤ x ∧ x < 4294967296

theorem two_halves {n : Nat} (hn : n ≤ 32) : 2 ^ n * 2 ^ (32 - n) = 4294967296 := by
  rw [← Nat.pow_add, show n + (32 - n) = 32 by omega]
theorem rot_nat {n : Nat} (hn : n ≤ 32) (k : Nat) : rot n (k : Int) = ((2 ^ n * (k % 2 ^ (32 - n)) + k / 2 ^ (32 - n) : Nat) : Int) := by
  have hp := two_halves hn
  have e1 : (k : Int) * 2 ^ n % 4294967296 = ((k * 2 ^ n % 4294967296 : Nat) : Int) := by
    rw [Int.natCast_emod, Int.natCast_mul, Int.natCast_pow]; rfl
  have e2 : (k : Int) / 2 ^ (32 - n) = ((k / 2 ^ (32 - n) : Nat) : Int) := by
    rw [Int.natCast_ediv, Int.natCast_pow]; rfl
  have hm : k * 2 ^ n % 4294967296 = 2 ^ n * (k % 2 ^ (32 - n)) := by
    rw [← hp, Nat.mul_comm k, Nat.mul_mod_mul_left]
  unfold rot
  rw [e1, e2, hm]
  push_cast
  rfl
theorem rot_bound {n : Nat} (hn : n ≤ 32) {x : Int} (h : U32 x) : U32 (rot n x) := by
  obtain ⟨k, rfl⟩ := Int.eq_ofNat_of_zero_le h.1
  have hk : k < 4294967296 := by have := h.2; omega
  rw [rot_nat hn]
  have hp := two_halves hn
  have p2 := Nat.two_pow_pos (32 - n)
  have hq : k / 2 ^ (32 - n) < 2 ^ n := by
    rw [Nat.div_lt_iff_lt_mul p2, hp]; exact hk
  have hr := Nat.mod_lt k p2
  have h1 : 2 ^ n * (k % 2 ^ (32 - n) + 1) ≤ 2 ^ n * 2 ^ (32 - n) := Nat.mul_le_mul_left _ hr
  rw [hp, Nat.mul_add] at h1
  obtain ⟨y, hy⟩ : ∃ y, y = 2 ^ n * (k % 2 ^ (32 - n)) := ⟨_, rfl⟩
  obtain ⟨z, hz⟩ : ∃ z, z = k / 2 ^ (32 - n) := ⟨_, rfl⟩
  obtain ⟨u, hu⟩ : ∃ u, u = 2 ^ n := ⟨_, rfl⟩
  rw [← hy, ← hu] at h1
  rw [← hz, ← hu] at hq
  rw [← hy, ← hz]
  unfold U32
  omega

theorem mod_bound (x : Int) : U32 (x % 4294967296) := ⟨Int.emod_nonneg _ (by decide), Int.emod_lt_of_pos _ (by decide)⟩
theorem tin_bound (x y : Int) : U32 (tin x y) := mod_bound _
theorem tfour_bound (x y : Int) : U32 (tfour x y) := mod_bound _
theorem tone_bound (x y : Int) : U32 (tone x y) := mod_bound _

theorem down_bound (n : Nat) {x : Int} (h : U32 x) : U32 (down n x) := by
  unfold U32 down at *
  refine ⟨by omega, ?_⟩
  have a : x.toNat < 2 ^ 32 := by omega
  have b : x.toNat / 2 ^ n < 2 ^ 32 := Nat.lt_of_le_of_lt (Nat.div_le_self _ _) a
  have := Nat.xor_lt_two_pow a b
  omega
theorem tend_bound (h : Int) : U32 (tend h) := down_bound _ (mod_bound _)

theorem down_of32 (n : Nat) {x : Int} (h : U32 x) : bits BinOp.xor IntKind.u32 x (x / 2 ^ n) = down n x := by
  obtain ⟨k, rfl⟩ := Int.eq_ofNat_of_zero_le h.1
  have hk : k < 4294967296 := by have := h.2; omega
  have e : (k : Int) / 2 ^ n = ((k / 2 ^ n : Nat) : Int) := by rw [Int.natCast_ediv, Int.natCast_pow]; rfl
  rw [e, u32_xor_nat _ _ hk (Nat.lt_of_le_of_lt (Nat.div_le_self _ _) hk)]
  rfl
theorem down_of64 (n : Nat) {x : Int} (h : U32 x) : bits BinOp.xor IntKind.u64 x (x / 2 ^ n) = down n x := by
  obtain ⟨k, rfl⟩ := Int.eq_ofNat_of_zero_le h.1
  have hk : k < 18446744073709551616 := by have := h.2; omega
  have e : (k : Int) / 2 ^ n = ((k / 2 ^ n : Nat) : Int) := by rw [Int.natCast_ediv, Int.natCast_pow]; rfl
  rw [e, u64_xor_nat _ _ hk (Nat.lt_of_le_of_lt (Nat.div_le_self _ _) hk)]
  rfl

/-- The two halves of a turned number have no bit in common. -/
theorem rot_of32 {n : Nat} (h0 : 0 < n) (hn : n < 32) {x : Int} (h : U32 x) : bits BinOp.or IntKind.u32 (x * 2 ^ n % 4294967296) (x / 2 ^ (32 - n)) = rot n x := by
  obtain ⟨k, rfl⟩ := Int.eq_ofNat_of_zero_le h.1
  have hk : k < 4294967296 := by have := h.2; omega
  have hp : 2 ^ n * 2 ^ (32 - n) = 4294967296 := by
    rw [← Nat.pow_add, show n + (32 - n) = 32 by omega]
  have p2 := Nat.two_pow_pos (32 - n)
  have e1 : (k : Int) * 2 ^ n % 4294967296 = ((k * 2 ^ n % 4294967296 : Nat) : Int) := by
    rw [Int.natCast_emod, Int.natCast_mul, Int.natCast_pow]; rfl
  have e2 : (k : Int) / 2 ^ (32 - n) = ((k / 2 ^ (32 - n) : Nat) : Int) := by
    rw [Int.natCast_ediv, Int.natCast_pow]; rfl
  have hq : k / 2 ^ (32 - n) < 2 ^ n := by
    rw [Nat.div_lt_iff_lt_mul p2, hp]; exact hk
  have hm : k * 2 ^ n % 4294967296 = 2 ^ n * (k % 2 ^ (32 - n)) := by
    rw [← hp, Nat.mul_comm k, Nat.mul_mod_mul_left]
  unfold rot
  rw [e1, e2, u32_or_nat _ _ (Nat.mod_lt _ (by decide)) (Nat.lt_of_le_of_lt (Nat.div_le_self _ _) hk), hm, ← Nat.two_pow_add_eq_or_of_lt hq]
  push_cast
  rfl

theorem rot_zero {x : Int} (h : U32 x) : rot 0 x = x := by
  unfold rot U32 at *
  simp only [Int.pow_zero, Nat.sub_zero]
  omega

/-- One turn by one more. -/
theorem rot_step {n : Nat} (hn : n < 32) {x : Int} (h : U32 x) : 2 * rot n x % 4294967296 + rot n x / 2147483648 = rot (n + 1) x := by
  obtain ⟨k, rfl⟩ := Int.eq_ofNat_of_zero_le h.1
  have hk : k < 4294967296 := by have := h.2; omega
  rw [rot_nat (by omega), rot_nat (by omega)]
  have hp := two_halves (n := n) (by omega)
  obtain ⟨m, hm⟩ : ∃ m, 32 - n = m + 1 := ⟨31 - n, by omega⟩
  have hm' : 32 - (n + 1) = m := by omega
  rw [hm] at hp ⊢
  rw [hm']
  have hp2 : 2 ^ n * 2 ^ m = 2147483648 := by
    rw [Nat.pow_succ, ← Nat.mul_assoc] at hp; omega
  have pm := Nat.two_pow_pos m
  have pn := Nat.two_pow_pos n
  obtain ⟨q, hq⟩ : ∃ q, q = k / 2 ^ m := ⟨_, rfl⟩
  obtain ⟨r, hr⟩ : ∃ r, r = k % 2 ^ m := ⟨_, rfl⟩
  have hkr : k = 2 ^ m * q + r := by rw [hq, hr]; exact (Nat.div_add_mod _ _).symm
  have hrl : r < 2 ^ m := by rw [hr]; exact Nat.mod_lt _ pm
  have hdd : k / 2 ^ (m + 1) = q / 2 := by rw [Nat.pow_succ, ← Nat.div_div_eq_div_mul, ← hq]
  have hmm : k % 2 ^ (m + 1) = 2 ^ m * (q % 2) + r := by
    rw [Nat.pow_succ, Nat.mod_mul, ← hr, ← hq]; omega
  rw [hdd, hmm, ← hq, ← hr]
  have hql : q < 2 ^ n * 2 := by
    have : k / 2 ^ m < 2 ^ n * 2 := by
      rw [Nat.div_lt_iff_lt_mul pm, show 2 ^ n * 2 * 2 ^ m = 2 ^ n * 2 ^ m * 2 by rw [Nat.mul_assoc, Nat.mul_comm 2, ← Nat.mul_assoc], hp2]; omega
    omega
  have h1 : 2 ^ n * (r + 1) ≤ 2 ^ n * 2 ^ m := Nat.mul_le_mul_left _ hrl
  rw [hp2, Nat.mul_add] at h1
  have h2 : 2 ^ n * (2 ^ m * (q % 2) + r) = 2147483648 * (q % 2) + 2 ^ n * r := by
    rw [Nat.mul_add, ← Nat.mul_assoc, hp2]
  rw [h2, show 2 ^ (n + 1) * r = 2 * (2 ^ n * r) by rw [Nat.pow_succ, Nat.mul_comm (2 ^ n), Nat.mul_assoc]]
  obtain ⟨y, hy⟩ : ∃ y, y = 2 ^ n * r := ⟨_, rfl⟩
  obtain ⟨z, hz⟩ : ∃ z, z = 2 ^ n := ⟨_, rfl⟩
  rw [← hy] at h1 ⊢
  rw [← hz] at h1 hql
  omega

theorem sixteens_go {a b c d : Int} {xs : List Int} (h : 16 ≤ xs.length) : sixteens a b c d xs = sixteens (tin a (four4 xs 0)) (tin b (four4 xs 1)) (tin c (four4 xs 2)) (tin d (four4 xs 3)) (xs.drop 16) := by
  conv => lhs; unfold sixteens
  rw [if_pos h]
theorem sixteens_end {a b c d : Int} {xs : List Int} (h : ¬ 16 ≤ xs.length) : sixteens a b c d xs = ((rot 1 a + rot 7 b + rot 12 c + rot 18 d) % 4294967296, xs) := by
  unfold sixteens
  rw [if_neg h]
theorem tails_go {h : Int} {xs : List Int} (hl : 4 ≤ xs.length) : tails h xs = tails (tfour h (four4 xs 0)) (xs.drop 4) := by
  conv => lhs; unfold tails
  rw [if_pos hl]
theorem tails_end {h : Int} {xs : List Int} (hl : ¬ 4 ≤ xs.length) : tails h xs = xs.foldl tone h := by
  unfold tails
  rw [if_neg hl]
theorem four4_bound {xs : List Int} (h : Octets xs) (i : Nat) : U32 (four4 xs i) := by
  have hb := le_bound _ ((h.drop (4 * i)).take 4)
  refine ⟨hb.1, Int.lt_of_lt_of_le hb.2 ?_⟩
  have hp : 2 ^ (8 * ((xs.drop (4 * i)).take 4).length) ≤ 2 ^ 32 := Nat.pow_le_pow_right (by decide) (by rw [List.length_take]; omega)
  have e : (2 : Int) ^ (8 * ((xs.drop (4 * i)).take 4).length) = ((2 ^ (8 * ((xs.drop (4 * i)).take 4).length) : Nat) : Int) := by rw [Int.natCast_pow]; rfl
  rw [e]
  exact Int.le_trans (Int.ofNat_le.2 hp) (by decide)

theorem sixteens_ok : ∀ (m : Nat) (a b c d : Int) (xs : List Int), xs.length ≤ m → U32 (sixteens a b c d xs).1 ∧ (sixteens a b c d xs).2.length ≤ xs.length ∧ (Octets xs → Octets (sixteens a b c d xs).2)
  | 0, a, b, c, d, xs, hm => by
    rw [sixteens_end (by omega)]
    exact ⟨mod_bound _, Nat.le_refl _, fun h => h⟩
  | m + 1, a, b, c, d, xs, hm => by
    by_cases h : 16 ≤ xs.length
    · rw [sixteens_go h]
      have ⟨h1, h2, h3⟩ := sixteens_ok m (tin a (four4 xs 0)) (tin b (four4 xs 1)) (tin c (four4 xs 2)) (tin d (four4 xs 3)) (xs.drop 16) (by rw [List.length_drop]; omega)
      rw [List.length_drop] at h2
      exact ⟨h1, by omega, fun ho => h3 (ho.drop 16)⟩
    · rw [sixteens_end h]
      exact ⟨mod_bound _, Nat.le_refl _, fun h => h⟩
theorem tblocks_ok (s : Int) (xs : List Int) : U32 (tblocks s xs).1 ∧ (tblocks s xs).2.length ≤ xs.length ∧ (Octets xs → Octets (tblocks s xs).2) := by
  unfold tblocks
  split
  · exact ⟨mod_bound _, Nat.le_refl _, fun h => h⟩
  · exact sixteens_ok _ _ _ _ _ _ (Nat.le_refl _)
theorem fold_tone (xs : List Int) : ∀ h, U32 h → U32 (xs.foldl tone h) := by
  induction xs with
  | nil => exact fun h hh => hh
  | cons b r ih => exact fun h _ => ih _ (tone_bound h b)
theorem fold_next (xs : List Int) (h : Int) (k : Nat) (hk : k < xs.length) : (xs.take (k + 1)).foldl tone h = tone ((xs.take k).foldl tone h) (xs.getD k 0) := by
  rw [take_succ_getD xs k hk, List.foldl_append]
  rfl

/-- Four numbers, some of which have taken up their four bytes. -/
def taken (v : Nat → Int) (ys : List Int) (k : Nat) : Nat → Int := fun j => if j < k then tin (v j) (four4 ys j) else v j
def upd (v : Nat → Int) (k : Nat) (x : Int) : Nat → Int := fun j => if j = k then x else v j
theorem taken_zero (v : Nat → Int) (ys : List Int) : taken v ys 0 = v := by funext j; simp [taken]
theorem taken_succ (v : Nat → Int) (ys : List Int) (k : Nat) : upd (taken v ys k) k (tin (taken v ys k k) (four4 ys k)) = taken v ys (k + 1) := by
  funext j
  unfold upd taken
  by_cases h : j = k
  · subst h
    rw [if_pos rfl, if_neg (Nat.lt_irrefl _), if_pos (Nat.lt_succ_self _)]
  · rw [if_neg h]
    by_cases h2 : j < k
    · rw [if_pos h2, if_pos (by omega)]
    · rw [if_neg h2, if_neg (by omega)]
theorem taken_bound {v : Nat → Int} (h : ∀ j, j < 4 → U32 (v j)) (ys : List Int) (k j : Nat) (hj : j < 4) : U32 (taken v ys k j) := by
  unfold taken
  split
  · exact tin_bound _ _
  · exact h j hj
end Go.Proofs.Ytbchiccgkhnkaaa

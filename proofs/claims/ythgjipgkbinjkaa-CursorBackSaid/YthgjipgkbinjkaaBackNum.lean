/-
  Plain lists: the bytes that the law CursorBack writes, record by record, and what stands at each place.
-/
import Derived.Test.YthgjipgkbinjkaaBufB
namespace Go.Proofs.Ythgjipgkbinjkaa

theorem le_digits (x : Int) (x0 : 0 ≤ x) : ∀ n, le (digits x n) = x % 2 ^ (8 * n)
  | 0 => by simp [digits, le]
  | n + 1 => by
    have hp : (0 : Int) < 2 ^ (8 * n) := by have := Nat.two_pow_pos (8 * n); exact_mod_cast this
    rw [show digits x (n + 1) = digits x n ++ [x / 2 ^ (8 * n) % 256] from rfl, le_snoc, le_digits x x0 n, digits_length]
    rw [show 8 * (n + 1) = 8 * n + 8 by omega, Int.pow_add]
    obtain ⟨m, hm⟩ : ∃ m : Int, m = 2 ^ (8 * n) := ⟨_, rfl⟩
    rw [← hm] at hp ⊢
    have e1 := Int.mul_ediv_add_emod x m
    have e2 := Int.mul_ediv_add_emod (x / m) 256
    have e3 : x = m * 256 * (x / m / 256) + (x % m + m * (x / m % 256)) := by
      rw [Int.mul_assoc, ← Int.add_assoc, Int.add_comm _ (x % m), Int.add_assoc, ← Int.mul_add, e2]
      omega
    have hb0 : 0 ≤ x % m + m * (x / m % 256) := Int.add_nonneg (Int.emod_nonneg _ (by omega)) (Int.mul_nonneg (by omega) (by omega))
    have hb1 : x % m + m * (x / m % 256) < m * 256 := by
      have h1 : x % m < m := Int.emod_lt_of_pos _ hp
      have h2 : m * (x / m % 256) ≤ m * 255 := Int.mul_le_mul_of_nonneg_left (by omega) (by omega)
      omega
    have e4 : x % (m * 256) = x % m + m * (x / m % 256) := by
      conv => lhs; rw [e3]
      rw [Int.mul_add_emod_self_left]
      exact Int.emod_eq_of_lt hb0 hb1
    rw [show (2 : Int) ^ 8 = 256 from rfl, e4]

theorem mod_div (x q t : Int) (hq : 0 < q) : x % (q * (256 * t)) / q % 256 = x / q % 256 := by
  obtain ⟨c, hc⟩ : ∃ c, c = x / (q * (256 * t)) := ⟨_, rfl⟩
  have e : x % (q * (256 * t)) = x + q * (256 * (-(t * c))) := by
    have h := Int.mul_ediv_add_emod x (q * (256 * t))
    rw [← hc] at h
    have h2 : q * (256 * t) * c = q * (256 * (t * c)) := by rw [Int.mul_assoc, Int.mul_assoc]
    rw [h2] at h
    have h3 : q * (256 * (-(t * c))) = -(q * (256 * (t * c))) := by rw [Int.mul_neg, Int.mul_neg]
    omega
  rw [e, Int.add_mul_ediv_left _ _ (by omega)]
  omega

theorem digits_mod (x : Int) (m : Nat) : ∀ n, n ≤ m → digits (x % 2 ^ (8 * m)) n = digits x n
  | 0, _ => rfl
  | n + 1, h => by
    rw [show digits (x % 2 ^ (8 * m)) (n + 1) = digits (x % 2 ^ (8 * m)) n ++ [x % 2 ^ (8 * m) / 2 ^ (8 * n) % 256] from rfl, digits_mod x m n (by omega), show digits x (n + 1) = digits x n ++ [x / 2 ^ (8 * n) % 256] from rfl]
    congr 2
    obtain ⟨d, rfl⟩ : ∃ d, m = n + 1 + d := ⟨m - (n + 1), by omega⟩
    have hp : (0 : Int) < 2 ^ (8 * n) := by have := Nat.two_pow_pos (8 * n); exact_mod_cast this
    have e : (2 : Int) ^ (8 * (n + 1 + d)) = 2 ^ (8 * n) * (256 * 2 ^ (8 * d)) := by
      rw [show 8 * (n + 1 + d) = 8 * n + (8 + 8 * d) by omega, Int.pow_add, Int.pow_add]; rfl
    rw [e]
    obtain ⟨q, hq⟩ : ∃ q : Int, q = 2 ^ (8 * n) := ⟨_, rfl⟩
    rw [← hq] at hp ⊢
    exact mod_div x q _ hp

/-- One record, and all of them. -/
def recOf (ys : List Int) (x : Int) : List Int := digits x 1 ++ (digits x 4 ++ (digits x 8 ++ ys))
def allOf (ys : List Int) : List Int → List Int
  | [] => []
  | x :: r => recOf ys x ++ allOf ys r

theorem recOf_length (ys : List Int) (x : Int) : (recOf ys x).length = 13 + ys.length := by
  simp [recOf, digits_length]; omega
theorem allOf_length (ys : List Int) : ∀ l : List Int, (allOf ys l).length = l.length * (13 + ys.length)
  | [] => by simp [allOf]
  | x :: r => by simp [allOf, recOf_length, allOf_length ys r, Nat.add_mul]; omega
theorem allOf_snoc (ys : List Int) (x : Int) : ∀ l : List Int, allOf ys (l ++ [x]) = allOf ys l ++ recOf ys x
  | [] => by simp [allOf]
  | y :: r => by simp [allOf, allOf_snoc ys x r]
theorem recOf_octets (ys : List Int) (x : Int) (h : Octets ys) : Octets (recOf ys x) := by
  intro b hb
  simp only [recOf, List.mem_append] at hb
  rcases hb with hb | hb | hb | hb
  · exact digits_octets x 1 b hb
  · exact digits_octets x 4 b hb
  · exact digits_octets x 8 b hb
  · exact h b hb
theorem allOf_octets (ys : List Int) (h : Octets ys) : ∀ l : List Int, Octets (allOf ys l)
  | [] => fun b hb => by simp [allOf] at hb
  | x :: r => fun b hb => by
    simp only [allOf, List.mem_append] at hb
    rcases hb with hb | hb
    · exact recOf_octets ys x h b hb
    · exact allOf_octets ys h r b hb
theorem allOf_drop (ys : List Int) : ∀ (l : List Int) (k : Nat), k < l.length → ∃ t, (allOf ys l).drop (k * (13 + ys.length)) = recOf ys (l.getD k 0) ++ t
  | x :: r, 0, _ => ⟨allOf ys r, by simp [allOf]⟩
  | x :: r, k + 1, h => by
    obtain ⟨t, ht⟩ := allOf_drop ys r k (by simpa using h)
    refine ⟨t, ?_⟩
    have hl := recOf_length ys x
    rw [show allOf ys (x :: r) = recOf ys x ++ allOf ys r from rfl, show (k + 1) * (13 + ys.length) = (recOf ys x).length + k * (13 + ys.length) by rw [hl, Nat.add_mul]; omega, List.drop_append, Nat.add_sub_cancel_left, ht, List.drop_of_length_le (Nat.le_add_right _ _)]
    simp

section
variable {ys l : List Int} {k : Nat} (hk : k < l.length)
include hk

theorem all_byte : (allOf ys l).getD (k * (13 + ys.length)) 0 = l.getD k 0 % 256 := by
  obtain ⟨t, ht⟩ := allOf_drop ys l k hk
  have e : (allOf ys l)[k * (13 + ys.length)]? = ((allOf ys l).drop (k * (13 + ys.length)))[0]? := by simp
  rw [List.getD_eq_getElem?_getD, e, ht]
  simp [recOf, digits]

theorem all_four (h0 : 0 ≤ l.getD k 0) : le (((allOf ys l).drop (k * (13 + ys.length) + 1)).take 4) = l.getD k 0 % 4294967296 := by
  obtain ⟨t, ht⟩ := allOf_drop ys l k hk
  have e : ((allOf ys l).drop (k * (13 + ys.length) + 1)).take 4 = digits (l.getD k 0) 4 := by
    rw [← List.drop_drop, ht]
    simp [recOf, digits, List.take]
  rw [e, le_digits _ h0]
  rfl

theorem all_eight (h0 : 0 ≤ l.getD k 0) (h1 : l.getD k 0 < 18446744073709551616) : le (((allOf ys l).drop (k * (13 + ys.length) + 1 + 4)).take 8) = l.getD k 0 := by
  obtain ⟨t, ht⟩ := allOf_drop ys l k hk
  have e : ((allOf ys l).drop (k * (13 + ys.length) + 1 + 4)).take 8 = digits (l.getD k 0) 8 := by
    rw [Nat.add_assoc, ← List.drop_drop, ht]
    simp [recOf, List.drop_append, List.take_append, digits_length]
  rw [e, le_digits _ h0]
  exact Int.emod_eq_of_lt h0 h1

theorem all_raw : ((allOf ys l).drop (k * (13 + ys.length) + 1 + 4 + 8)).take ys.length = ys := by
  obtain ⟨t, ht⟩ := allOf_drop ys l k hk
  rw [Nat.add_assoc, Nat.add_assoc, ← List.drop_drop, ht]
  simp [recOf, List.drop_append, digits]
end
end Go.Proofs.Ythgjipgkbinjkaa

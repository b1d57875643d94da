/-
  Plain numbers: seven bits a byte, the lowest ones first; how many bytes there are; what is read of any bytes.
-/
import Derived.Test.YtbchiccgkhnkaaaNum
namespace Go.Proofs.Ytbchiccgkhnkaaa

/-- The bytes of a number, seven bits each, the lowest ones first. -/
def vnum (x : Nat) : List Int := if x < 128 then [(x : Int)] else ((128 + x % 128 : Nat) : Int) :: vnum (x / 128)
termination_by x
decreasing_by omega

theorem vnum_small {x : Nat} (h : x < 128) : vnum x = [(x : Int)] := by rw [vnum, if_pos h]
theorem vnum_big {x : Nat} (h : ¬ x < 128) : vnum x = ((128 + x % 128 : Nat) : Int) :: vnum (x / 128) := by rw [vnum, if_neg h]

theorem vnum_pos (x : Nat) : 1 ≤ (vnum x).length := by
  by_cases h : x < 128
  · rw [vnum_small h]; simp
  · rw [vnum_big h]; simp

theorem vnum_octets (x : Nat) : Octets (vnum x) := by
  induction x using Nat.strongRecOn with
  | _ x ih =>
    by_cases h : x < 128
    · rw [vnum_small h]
      intro b hb
      simp at hb
      omega
    · rw [vnum_big h]
      intro b hb
      simp only [List.mem_cons] at hb
      rcases hb with rfl | hb
      · omega
      · exact ih (x / 128) (by omega) b hb

theorem vnum_le : ∀ (n x : Nat), x < 2 ^ (7 * (n + 1)) → (vnum x).length ≤ n + 1
  | 0, x, h => by rw [vnum_small (by simpa using h)]; simp
  | n + 1, x, h => by
    by_cases hs : x < 128
    · rw [vnum_small hs]; simp
    · rw [vnum_big hs]
      have h2 : x / 128 < 2 ^ (7 * (n + 1)) := by
        rw [show 7 * (n + 1 + 1) = 7 * (n + 1) + 7 by omega, Nat.pow_add] at h
        exact (Nat.div_lt_iff_lt_mul (by omega)).2 h
      have := vnum_le n (x / 128) h2
      simp only [List.length_cons]
      omega

theorem vnum_ge : ∀ (n x : Nat), 2 ^ (7 * n) ≤ x → n + 1 ≤ (vnum x).length
  | 0, x, _ => vnum_pos x
  | n + 1, x, h => by
    rw [show 7 * (n + 1) = 7 * n + 7 by omega, Nat.pow_add] at h
    have hp := Nat.two_pow_pos (7 * n)
    have hs : ¬ x < 128 := by omega
    rw [vnum_big hs]
    have := vnum_ge n (x / 128) ((Nat.le_div_iff_mul_le (by omega)).2 h)
    simp only [List.length_cons]
    omega

theorem vnum_ten {x : Nat} (h : x < 18446744073709551616) : (vnum x).length ≤ 10 :=
  vnum_le 9 x (Nat.lt_of_lt_of_le h (by decide))

theorem vnum_len_lt (x : Nat) : x < 2 ^ (7 * (vnum x).length) := by
  rcases Nat.lt_or_ge x (2 ^ (7 * (vnum x).length)) with h | h
  · exact h
  · have := vnum_ge _ x h
    omega

theorem vnum_len_ge (x : Nat) (h : 1 < (vnum x).length) : 2 ^ (7 * ((vnum x).length - 1)) ≤ x := by
  rcases Nat.lt_or_ge x (2 ^ (7 * ((vnum x).length - 1))) with h1 | h1
  · obtain ⟨m, hm⟩ : ∃ m, (vnum x).length - 1 = m + 1 := ⟨(vnum x).length - 2, by omega⟩
    rw [hm] at h1
    have := vnum_le m x h1
    omega
  · exact h1

theorem vnum_mono {x y : Nat} (h : x ≤ y) : (vnum x).length ≤ (vnum y).length := by
  by_cases h1 : 1 < (vnum x).length
  · have h2 := vnum_ge _ y (Nat.le_trans (vnum_len_ge x h1) h)
    omega
  · have := vnum_pos y
    omega

/-- How many bits a number has, 0 as one. -/
def BitLen (L x : Nat) : Prop := x < 2 ^ L ∧ (L = 0 ∨ 2 ^ (L - 1) ≤ x)

theorem vnum_size {L x : Nat} (h : BitLen L (x ||| 1)) : (vnum x).length = (L + 6) / 7 ∧ 1 ≤ (L + 6) / 7 := by
  obtain ⟨h1, h2⟩ := h
  have hor : x ≤ x ||| 1 := Nat.left_le_or
  have hor1 : 1 ≤ x ||| 1 := Nat.right_le_or
  have hor2 : (x ||| 1) ≤ x + 1 := by
    have hm : (x ||| 1) / 2 = x / 2 := by rw [Nat.or_div_two]; simp
    omega
  have hL : 1 ≤ L := by
    rcases Nat.eq_zero_or_pos L with rfl | h
    · simp at h1
    · exact h
  have h2 : 2 ^ (L - 1) ≤ x ||| 1 := by
    rcases h2 with h2 | h2
    · omega
    · exact h2
  have hn : 1 ≤ (L + 6) / 7 := by omega
  refine ⟨Nat.le_antisymm ?_ ?_, hn⟩
  · obtain ⟨n, hn'⟩ : ∃ n, (L + 6) / 7 = n + 1 := ⟨(L + 6) / 7 - 1, by omega⟩
    rw [hn']
    exact vnum_le n x (Nat.lt_of_lt_of_le (Nat.lt_of_le_of_lt hor h1) (Nat.pow_le_pow_right (by omega) (by omega)))
  · obtain ⟨n, hn'⟩ : ∃ n, (L + 6) / 7 = n + 1 := ⟨(L + 6) / 7 - 1, by omega⟩
    rw [hn']
    rcases Nat.eq_zero_or_pos n with rfl | hnp
    · exact vnum_pos x
    · refine vnum_ge n x ?_
      have e1 : 2 ^ (7 * n) ≤ 2 ^ (L - 1) := Nat.pow_le_pow_right (by omega) (by omega)
      have e2 : 2 ^ (7 * n) % 2 = 0 := by
        rw [show 7 * n = (7 * n - 1) + 1 by omega, Nat.pow_succ]
        omega
      have hm : (x ||| 1) / 2 = x / 2 := by rw [Nat.or_div_two]; simp
      omega

theorem vnum_inj : ∀ (x y : Nat) (r s : List Int), vnum x ++ r = vnum y ++ s → x = y ∧ r = s := by
  intro x
  induction x using Nat.strongRecOn with
  | _ x ih =>
    intro y r s h
    by_cases hx : x < 128 <;> by_cases hy : y < 128
    · rw [vnum_small hx, vnum_small hy] at h
      simp only [List.cons_append, List.nil_append, List.cons.injEq] at h
      exact ⟨by omega, h.2⟩
    · rw [vnum_small hx, vnum_big hy] at h
      simp only [List.cons_append, List.nil_append, List.cons.injEq] at h
      omega
    · rw [vnum_big hx, vnum_small hy] at h
      simp only [List.cons_append, List.nil_append, List.cons.injEq] at h
      omega
    · rw [vnum_big hx, vnum_big hy] at h
      simp only [List.cons_append, List.cons.injEq] at h
      obtain ⟨h1, h2⟩ := ih (x / 128) (by omega) (y / 128) r s h.2
      exact ⟨by omega, h2⟩

/-- A row's numbers, one behind the other. -/
def vnums : List Nat → List Int
  | [] => []
  | x :: r => vnum x ++ vnums r

theorem vnums_snoc (x : Nat) : ∀ l : List Nat, vnums (l ++ [x]) = vnums l ++ vnum x
  | [] => by simp [vnums]
  | y :: r => by simp [vnums, vnums_snoc x r]

theorem vnums_octets : ∀ l : List Nat, Octets (vnums l)
  | [] => fun b hb => by simp [vnums] at hb
  | x :: r => fun b hb => by
    simp only [vnums, List.mem_append] at hb
    rcases hb with hb | hb
    · exact vnum_octets x b hb
    · exact vnums_octets r b hb

theorem vnums_inj : ∀ (l m : List Nat), vnums l = vnums m → l = m
  | [], [], _ => rfl
  | [], y :: s, h => by
    have := vnum_pos y
    have e : (vnum y ++ vnums s).length = 0 := by rw [show vnum y ++ vnums s = [] from h.symm]; rfl
    rw [List.length_append] at e
    omega
  | x :: r, [], h => by
    have := vnum_pos x
    have e : (vnum x ++ vnums r).length = 0 := by rw [show vnum x ++ vnums r = [] from h]; rfl
    rw [List.length_append] at e
    omega
  | x :: r, y :: s, h => by
    obtain ⟨h1, h2⟩ := vnum_inj x y _ _ h
    rw [h1, vnums_inj r s h2]

theorem vnums_length : ∀ (l : List Nat), (∀ x ∈ l, x < 18446744073709551616) → (vnums l).length ≤ 10 * l.length
  | [], _ => by simp [vnums]
  | x :: r, h => by
    have h1 := vnum_ten (h x List.mem_cons_self)
    have h2 := vnums_length r (fun y hy => h y (List.mem_cons_of_mem _ hy))
    simp only [vnums, List.length_append, List.length_cons]
    omega

/-- What is read: why it stops (0: it doesn't), how many bytes were read, the number. -/
structure VR where
  e : Int
  n : Nat
  x : Int

/-- The next number of any bytes, of at most so many more bytes, whether at its first byte. -/
def vread : Nat → Bool → List Int → VR
  | 0, _, _ => ⟨0, 0, 0⟩
  | _ + 1, _, [] => ⟨2, 0, 0⟩
  | f + 1, first, b :: r =>
    if f = 0 ∧ 1 < b then ⟨3, 1, 0⟩
    else if first = false ∧ b = 0 then ⟨4, 1, 0⟩
    else if b < 128 then ⟨0, 1, b⟩
    else ⟨(vread f false r).e, (vread f false r).n + 1, b - 128 + 128 * (vread f false r).x⟩

def vget (xs : List Int) : VR := vread 10 true xs

theorem vread_n : ∀ (f : Nat) (first : Bool) (xs : List Int), (vread f first xs).n ≤ xs.length
  | 0, _, _ => by simp [vread]
  | _ + 1, _, [] => by simp [vread]
  | f + 1, first, b :: r => by
    have := vread_n f false r
    unfold vread
    split
    · simp
    · split
      · simp
      · split
        · simp
        · simp; omega

theorem vread_vnum : ∀ (f : Nat) (first : Bool) (x : Nat) (r : List Int), x < 2 ^ (7 * f + 1) → (first = false → x ≠ 0) → vread (f + 1) first (vnum x ++ r) = ⟨0, (vnum x).length, x⟩ := by
  intro f
  induction f with
  | zero =>
    intro first x r h h0
    have h : x < 2 := h
    have hx : x < 128 := by omega
    rw [vnum_small hx, List.singleton_append, vread]
    rw [if_neg (by omega), if_neg (by intro hh; exact h0 hh.1 (by omega)), if_pos (by omega)]
    rfl
  | succ f ih =>
    intro first x r h h0
    by_cases hx : x < 128
    · rw [vnum_small hx, List.singleton_append, vread]
      rw [if_neg (by omega), if_neg (by intro hh; exact h0 hh.1 (by omega)), if_pos (by omega)]
      rfl
    · rw [vnum_big hx]
      have h1 : x / 128 < 2 ^ (7 * f + 1) := by
        rw [show 7 * (f + 1) + 1 = 7 * f + 1 + 7 by omega, Nat.pow_add] at h
        exact (Nat.div_lt_iff_lt_mul (by omega)).2 h
      have := ih false (x / 128) r h1 (fun _ => by omega)
      rw [List.cons_append, vread, if_neg (by omega), if_neg (by intro hh; omega), if_neg (by omega), this]
      simp only [List.length_cons, VR.mk.injEq, true_and]
      omega

/-- What was written is read. -/
theorem vget_vnum (x : Nat) (r : List Int) (h : x < 18446744073709551616) : vget (vnum x ++ r) = ⟨0, (vnum x).length, x⟩ :=
  vread_vnum 9 true x r (Nat.lt_of_lt_of_le h (by decide)) (fun h => by simp at h)

theorem vread_bound : ∀ (f : Nat) (first : Bool) (xs : List Int), Octets xs → (vread (f + 1) first xs).e = 0 → 0 ≤ (vread (f + 1) first xs).x ∧ (vread (f + 1) first xs).x < 2 ^ (7 * f + 1) := by
  intro f
  induction f with
  | zero =>
    intro first xs ho h
    match xs, ho, h with
    | [], _, h => simp [vread] at h
    | b :: r, ho, h =>
      have hb := ho b List.mem_cons_self
      unfold vread at h ⊢
      by_cases c1 : (0 = 0 ∧ 1 < b)
      · rw [if_pos c1] at h; simp at h
      · rw [if_neg c1] at h ⊢
        by_cases c2 : (first = false ∧ b = 0)
        · rw [if_pos c2] at h; simp at h
        · rw [if_neg c2] at h ⊢
          rw [if_pos (by omega)]
          simp; omega
  | succ f ih =>
    intro first xs ho h
    match xs, ho, h with
    | [], _, h => simp [vread] at h
    | b :: r, ho, h =>
      have hb := ho b List.mem_cons_self
      have hp : (0 : Int) < 2 ^ (7 * f + 1) := by have := Nat.two_pow_pos (7 * f + 1); exact_mod_cast this
      have hq : (2 : Int) ^ (7 * (f + 1) + 1) = 128 * 2 ^ (7 * f + 1) := by
        rw [show 7 * (f + 1) + 1 = 7 + (7 * f + 1) by omega, Int.pow_add]; rfl
      rw [vread] at h ⊢
      rw [if_neg (by omega)] at h ⊢
      by_cases c2 : (first = false ∧ b = 0)
      · rw [if_pos c2] at h; simp at h
      · rw [if_neg c2] at h ⊢
        by_cases c3 : b < 128
        · rw [if_pos c3]
          rw [hq]
          simp only
          omega
        · rw [if_neg c3] at h ⊢
          have := ih false r (fun x hx => ho x (List.mem_cons_of_mem _ hx)) h
          rw [hq]
          simp only
          omega

/-- A number of any bytes is the one whose bytes they begin with. -/
theorem vread_only : ∀ (f : Nat) (first : Bool) (xs : List Int), Octets xs → (vread (f + 1) first xs).e = 0 → xs.take (vread (f + 1) first xs).n = vnum (vread (f + 1) first xs).x.toNat ∧ (first = false → (vread (f + 1) first xs).x ≠ 0) := by
  intro f
  induction f with
  | zero =>
    intro first xs ho h
    match xs, ho, h with
    | [], _, h => simp [vread] at h
    | b :: r, ho, h =>
      have hb := ho b List.mem_cons_self
      unfold vread at h ⊢
      by_cases c1 : (0 = 0 ∧ 1 < b)
      · rw [if_pos c1] at h; simp at h
      · rw [if_neg c1] at h ⊢
        by_cases c2 : (first = false ∧ b = 0)
        · rw [if_pos c2] at h; simp at h
        · rw [if_neg c2] at h ⊢
          rw [if_pos (by omega)]
          simp only [List.take_succ_cons, List.take_zero]
          rw [vnum_small (by omega)]
          exact ⟨by congr 1; omega, fun hf hz => c2 ⟨hf, hz⟩⟩
  | succ f ih =>
    intro first xs ho h
    match xs, ho, h with
    | [], _, h => simp [vread] at h
    | b :: r, ho, h =>
      have hb := ho b List.mem_cons_self
      rw [vread] at h ⊢
      rw [if_neg (by omega)] at h ⊢
      by_cases c2 : (first = false ∧ b = 0)
      · rw [if_pos c2] at h; simp at h
      · rw [if_neg c2] at h ⊢
        by_cases c3 : b < 128
        · rw [if_pos c3]
          simp only [List.take_succ_cons, List.take_zero]
          rw [vnum_small (by omega)]
          exact ⟨by congr 1; omega, fun hf hz => c2 ⟨hf, hz⟩⟩
        · rw [if_neg c3] at h ⊢
          have hor : Octets r := fun x hx => ho x (List.mem_cons_of_mem _ hx)
          have hbd := vread_bound f false r hor h
          obtain ⟨g1, g2⟩ := ih false r hor h
          have g2 := g2 rfl
          simp only
          have hx : ¬ (b - 128 + 128 * (vread (f + 1) false r).x).toNat < 128 := by omega
          rw [vnum_big hx, List.take_succ_cons, g1]
          have e1 : (b - 128 + 128 * (vread (f + 1) false r).x).toNat / 128 = (vread (f + 1) false r).x.toNat := by omega
          have e2 : ((128 + (b - 128 + 128 * (vread (f + 1) false r).x).toNat % 128 : Nat) : Int) = b := by omega
          rw [e1, e2]
          exact ⟨rfl, fun _ => by omega⟩

/-- 'x |= uint64(low) << (7*k)' where x has k groups. -/
theorem or_seven (x b : Nat) (k : Nat) (hx : x < 2 ^ (7 * k)) (hb : 2 ^ (7 * k) * b < 18446744073709551616) (hk : 7 * k < 64) :
    bits BinOp.or IntKind.u64 (x : Int) (IntKind.u64.wrap ((b : Int) * 2 ^ (7 * k))) = ((x + 2 ^ (7 * k) * b : Nat) : Int) := by
  have hp : 2 ^ (7 * k) ≤ 2 ^ 63 := Nat.pow_le_pow_right (by omega) (by omega)
  have e1 : ((b : Int) * 2 ^ (7 * k)) = ((2 ^ (7 * k) * b : Nat) : Int) := by push_cast; rw [Int.mul_comm]
  have e2 : IntKind.u64.wrap ((b : Int) * 2 ^ (7 * k)) = ((2 ^ (7 * k) * b : Nat) : Int) := by
    rw [IntKind.wrap_u64, e1]
    omega
  rw [e2, u64_or_nat _ _ (by omega) hb, Nat.or_comm, ← Nat.two_pow_add_eq_or_of_lt hx, Nat.add_comm]

/-- The low seven bits, and the bit of those behind which more follow. -/
theorem low_seven (b : Int) (h0 : 0 ≤ b) (h1 : b < 256) : bits BinOp.andNot IntKind.u8 b 128 = b % 128 := by
  obtain ⟨n, rfl⟩ := Int.eq_ofNat_of_zero_le h0
  rw [show (128 : Int) = ((128 : Nat) : Int) from rfl, u8_andNot_nat n 128 (by omega) (by omega), show 255 - 128 = 127 from rfl, nat_mask7]
  omega

set_option maxRecDepth 20000 in
theorem more_seven (y : Nat) : bits BinOp.or IntKind.u8 (IntKind.u8.wrap (y : Int)) 128 = ((128 + y % 128 : Nat) : Int) := by
  rw [IntKind.wrap_u8', show ((y : Int) % 256) = ((y % 256 : Nat) : Int) by omega, show (128 : Int) = ((128 : Nat) : Int) from rfl, u8_or_nat _ _ (by omega) (by omega)]
  have h : ∀ n, n < 256 → n ||| 128 = 128 + n % 128 := by decide
  rw [h _ (by omega)]
  omega
end Go.Proofs.Ytbchiccgkhnkaaa

/-
  Frames, heads over plain numbers, as chapter 9 has them.
-/
import Derived.Test.YtbchiccgkhnkaaaCobsNum
import Derived.Test.YtbchiccgkhnkaaaWideNum
import Derived.Test.YtbchiccgkhnkaaaRecNum
import Derived.Test.YtbchiccgkhnkaaaBufB
import Derived.Test.YtbchiccgkhnkaaaConfRef
import Derived.Test.YtbchiccgkhnkaaaCobsOct
namespace Go.Proofs.Ytbchiccgkhnkaaa

/-- The sum behind a body. -/
def sumB (xs : List Int) : List Int := digits (wxxh 0 xs) 8
def chunkN (xs : List Int) : List Int := stuff (xs ++ sumB xs)
def sealN (xs : List Int) : List Int := chunkN xs ++ [0]
def openEnd (t : List Int) : Int × List Int :=
  if t.length < 8 then (2, []) else if le (t.drop (t.length - 8)) = wxxh 0 (t.take (t.length - 8)) then (0, t.take (t.length - 8)) else (5, [])
/-- The body of a chunk: the error's number, the bytes. -/
def openN (ys : List Int) : Int × List Int := if (unst ys).1 ≠ 0 then ((unst ys).1, []) else openEnd (unst ys).2
def sizeN (n : Nat) : Nat := mostOf (n + 8) + 1

theorem sumB_length (xs : List Int) : (sumB xs).length = 8 := digits_length _ 8
theorem sumB_octets (xs : List Int) : Octets (sumB xs) := digits_octets _ 8
theorem Octets.app {xs ys : List Int} (h : Octets xs) (g : Octets ys) : Octets (xs ++ ys) := fun x hx => (List.mem_append.1 hx).elim (h x) (g x)
theorem wxxh_u64 (s : Int) (xs : List Int) : U64 (wxxh s xs) := wend_bound _

theorem le_digits9 (x : Nat) : ∀ n, le (digits (x : Int) n) = ((x % 2 ^ (8 * n) : Nat) : Int)
  | 0 => by simp [digits, le, Nat.mod_one]
  | n + 1 => by
    rw [digits, le_snoc, digits_length, le_digits9 x n]
    have hp : 2 ^ (8 * (n + 1)) = 2 ^ (8 * n) * 256 := by rw [show 8 * (n + 1) = 8 * n + 8 by omega, Nat.pow_add]
    have e1 : ((2 : Int) ^ (8 * n)) = ((2 ^ (8 * n) : Nat) : Int) := by push_cast; rfl
    rw [hp, e1, show ((x : Int) / ((2 ^ (8 * n) : Nat) : Int) % 256) = ((x / 2 ^ (8 * n) % 256 : Nat) : Int) by omega, ← Int.natCast_mul, ← Int.natCast_add, Nat.mod_mul]
theorem le_sum (xs : List Int) : le (sumB xs) = wxxh 0 xs := by
  obtain ⟨k, hk, hlt⟩ := u64_nat (wxxh_u64 0 xs)
  unfold sumB
  rw [hk, le_digits9, Nat.mod_eq_of_lt hlt]
/-- Bytes of the same number are the same. -/
theorem le_inj : ∀ (xs ys : List Int), Octets xs → Octets ys → xs.length = ys.length → le xs = le ys → xs = ys
  | [], [], _, _, _, _ => rfl
  | [], y :: s, _, _, h, _ => by simp at h
  | x :: r, [], _, _, h, _ => by simp at h
  | x :: r, y :: s, hx, hy, hl, he => by
    have h1 := hx x List.mem_cons_self
    have h2 := hy y List.mem_cons_self
    simp only [le] at he
    have e1 : x = y := by omega
    have e2 : le r = le s := by omega
    rw [e1, le_inj r s (fun b hb => hx b (List.mem_cons_of_mem _ hb)) (fun b hb => hy b (List.mem_cons_of_mem _ hb)) (by simpa using hl) e2]

theorem openEnd_body (xs : List Int) : openEnd (xs ++ sumB xs) = (0, xs) := by
  have hl : (xs ++ sumB xs).length - 8 = xs.length := by rw [List.length_append, sumB_length]; omega
  unfold openEnd
  rw [if_neg (by rw [List.length_append, sumB_length]; omega), hl, List.drop_left, List.take_left, if_pos (le_sum xs)]
theorem open_chunk {xs : List Int} (h : Octets xs) : openN (chunkN xs) = (0, xs) := by
  unfold openN chunkN
  rw [unst_stuff (h.app (sumB_octets xs)), if_neg (by simp)]
  exact openEnd_body xs
theorem openEnd_only {t b : List Int} (ho : Octets t) (h : openEnd t = (0, b)) : t = b ++ sumB b := by
  unfold openEnd at h
  by_cases h1 : t.length < 8
  · rw [if_pos h1] at h
    exact absurd (congrArg Prod.fst h) (by simp)
  · rw [if_neg h1] at h
    by_cases h2 : le (t.drop (t.length - 8)) = wxxh 0 (t.take (t.length - 8))
    · rw [if_pos h2] at h
      have hb : t.take (t.length - 8) = b := congrArg Prod.snd h
      rw [hb] at h2
      have h3 : t.drop (t.length - 8) = sumB b := le_inj _ _ (ho.drop _) (sumB_octets b) (by rw [sumB_length, List.length_drop]; omega) (by rw [le_sum]; exact h2)
      rw [← h3, ← hb, List.take_append_drop]
    · rw [if_neg h2] at h
      exact absurd (congrArg Prod.fst h) (by simp)
/-- Of a body that is opened the chunk is its frame's. -/
theorem open_only {ys b : List Int} (ho : Octets ys) (h : openN ys = (0, b)) : ys = chunkN b ∧ Octets b := by
  unfold openN at h
  by_cases h1 : (unst ys).1 ≠ 0
  · rw [if_pos h1] at h
    exact absurd (congrArg Prod.fst h) h1
  · rw [if_neg h1] at h
    have hu := (unst_octets ho).1
    have ht := openEnd_only hu h
    have hz := unst_zero (xs := ys) (ys := (unst ys).2) (Prod.ext (by simpa using h1) rfl)
    rw [ht] at hz hu
    exact ⟨hz.symm, fun x hx => hu x (List.mem_append_left _ hx)⟩
theorem open_bound {ys : List Int} (ho : Octets ys) : Octets (openN ys).2 ∧ (openN ys).2.length ≤ ys.length := by
  have hu := unst_octets ho
  have h00 : Octets [] ∧ ([] : List Int).length ≤ ys.length := ⟨fun b hb => by simp at hb, Nat.zero_le _⟩
  unfold openN openEnd
  repeat' split
  · exact h00
  · exact h00
  · exact ⟨hu.1.take _, by rw [List.length_take]; omega⟩
  · exact h00
theorem open_none {ys : List Int} (h : (openN ys).1 ≠ 0) : (openN ys).2 = [] := by
  unfold openN openEnd at h ⊢
  repeat' split
  · rfl
  · rfl
  · rename_i h1 h2 h3
    rw [if_neg h1, if_neg h2, if_pos h3] at h
    exact absurd rfl h
  · rfl

theorem chunk_solid {xs : List Int} (h : Octets xs) : Solid (chunkN xs) := stuff_solid (h.app (sumB_octets xs))
theorem chunk_inj {xs ys : List Int} (h : chunkN xs = chunkN ys) : xs = ys := by
  have h1 := stuff_inj h
  have h2 : xs.length = ys.length := by
    have := congrArg List.length h1
    rw [List.length_append, List.length_append, sumB_length, sumB_length] at this
    omega
  exact (List.append_inj h1 h2).1
theorem chunk_pos (xs : List Int) : 1 ≤ (chunkN xs).length := by
  have := stuff_pos (xs ++ sumB xs)
  unfold chunkN
  exact List.length_pos_iff.2 this
theorem stuffGo_long : ∀ (r now : List Int) (full : Bool), (full = true → now = []) → now.length + r.length + (if full then 0 else 1) ≤ (stuffGo now full r).length
  | [], now, full, hf => by
    unfold stuffGo
    cases full
    · simp
    · simp [hf rfl]
  | b :: r, now, full, hf => by
    unfold stuffGo
    have hc : (if full then 0 else 1) ≤ 1 := by split <;> decide
    rw [List.length_cons]
    by_cases hb : b = 0
    · rw [if_pos hb]
      have := stuffGo_long r [] false (by simp)
      rw [if_neg (by simp)] at this
      simp only [List.length_append, List.length_cons, List.length_nil, Nat.zero_add] at this ⊢
      omega
    · rw [if_neg hb]
      by_cases h254 : now.length + 1 = 254
      · rw [if_pos h254]
        have := stuffGo_long r [] true (fun _ => rfl)
        rw [if_pos rfl] at this
        simp only [List.length_append, List.length_cons, List.length_nil, Nat.zero_add] at this ⊢
        omega
      · rw [if_neg h254]
        have := stuffGo_long r (now ++ [b]) false (by simp)
        rw [if_neg (by simp)] at this
        simp only [List.length_append, List.length_cons, List.length_nil, Nat.zero_add] at this ⊢
        omega
theorem stuff_long (xs : List Int) : xs.length + 1 ≤ (stuff xs).length := by
  have := stuffGo_long xs [] false (by simp)
  rw [if_neg (by simp)] at this
  simp only [List.length_nil, Nat.zero_add] at this
  exact this
theorem chunk_long (xs : List Int) : xs.length + 9 ≤ (chunkN xs).length := by
  have := stuff_long (xs ++ sumB xs)
  rw [List.length_append, sumB_length] at this
  exact this
theorem seal_length (xs : List Int) : (sealN xs).length = (chunkN xs).length + 1 ∧ (sealN xs).length ≤ sizeN xs.length := by
  have h := stuff_most (xs ++ sumB xs)
  rw [List.length_append, sumB_length] at h
  unfold sealN sizeN
  rw [List.length_append]
  exact ⟨rfl, by unfold chunkN; simp only [List.length_cons, List.length_nil]; omega⟩
/-- A frame has one nought, its last byte. -/
theorem seal_nought {xs : List Int} (h : Octets xs) {i : Nat} (hi : i < (sealN xs).length) : (((sealN xs).getD i 0 == 0) = decide (i = (sealN xs).length - 1)) ∧ 0 ≤ (sealN xs).getD i 0 ∧ (sealN xs).getD i 0 < 256 := by
  have hl := (seal_length xs).1
  have hs := chunk_solid h
  by_cases hc : i < (chunkN xs).length
  · have e : (sealN xs).getD i 0 = (chunkN xs)[i] := by
      unfold sealN
      rw [List.getD_eq_getElem?_getD, List.getElem?_append_left hc, List.getElem?_eq_getElem hc]
      rfl
    have hb := hs _ (List.getElem_mem hc)
    rw [e, decide_eq_false (by omega), beq_eq_false_iff_ne.2 (by omega)]
    exact ⟨rfl, by omega, hb.2⟩
  · have e : (sealN xs).getD i 0 = 0 := by
      have hi2 : i = (chunkN xs).length := by omega
      subst hi2
      unfold sealN
      rw [List.getD_eq_getElem?_getD, List.getElem?_append_right (Nat.le_refl _)]
      simp
    rw [e, decide_eq_true (by omega)]
    exact ⟨rfl, by decide, by decide⟩
theorem seal_octets {xs : List Int} (h : Octets xs) : Octets (sealN xs) := (chunk_solid h).octets.app (fun b hb => by simp at hb; omega)

/-- A head's body; may a head be; what is read of a body as a head: the error's number, Exp, Segments, the number. -/
def headB (e s n : Nat) : List Int := 1 :: 2 :: (e : Int) :: (vnum s ++ vnum n)
def mayHead (e s n : Nat) : Bool := mayC e s && decide (n < s)
def headLast (e : Nat) (s n : Nat) (rest : List Int) : Int × Nat × Nat × Nat :=
  if rest ≠ [] then (3, 0, 0, 0) else if s ≤ 4294967295 ∧ n ≤ 4294967295 ∧ mayHead e s n = true then (0, e, s, n) else (1, 0, 0, 0)
def headNums (e : Nat) (xs : List Int) : Int × Nat × Nat × Nat :=
  if (vget xs).e ≠ 0 then ((vget xs).e, 0, 0, 0)
  else if (vget (xs.drop (vget xs).n)).e ≠ 0 then ((vget (xs.drop (vget xs).n)).e, 0, 0, 0)
  else headLast e (vget xs).x.toNat (vget (xs.drop (vget xs).n)).x.toNat ((xs.drop (vget xs).n).drop (vget (xs.drop (vget xs).n)).n)
def headExp : List Int → Int × Nat × Nat × Nat
  | [] => (2, 0, 0, 0)
  | e :: r => headNums e.toNat r
def headVer : List Int → Int × Nat × Nat × Nat
  | [] => (2, 0, 0, 0)
  | b :: r => if b ≠ 2 then (4, 0, 0, 0) else headExp r
def headR : List Int → Int × Nat × Nat × Nat
  | [] => (2, 0, 0, 0)
  | b :: r => if b ≠ 1 then (4, 0, 0, 0) else headVer r

theorem mayHead_true {e s n : Nat} : mayHead e s n = true ↔ 12 ≤ e ∧ e ≤ 24 ∧ 1 ≤ s ∧ s ≤ 65536 ∧ n < s := by
  unfold mayHead
  rw [Bool.and_eq_true, mayC_true, decide_eq_true_eq]
  constructor
  · rintro ⟨⟨a, b, c, d⟩, h⟩; exact ⟨a, b, c, d, h⟩
  · rintro ⟨a, b, c, d, h⟩; exact ⟨⟨a, b, c, d⟩, h⟩
theorem headB_octets {e s n : Nat} (h : e < 256) : Octets (headB e s n) := fun b hb => by
  simp only [headB, List.mem_cons, List.mem_append] at hb
  rcases hb with rfl | rfl | rfl | hb | hb
  · omega
  · omega
  · omega
  · exact vnum_octets s b hb
  · exact vnum_octets n b hb
theorem headR_body {e s n : Nat} (h : mayHead e s n = true) : headR (headB e s n) = (0, e, s, n) := by
  obtain ⟨h1, h2, h3, h4, h5⟩ := mayHead_true.1 h
  have g1 : vget (vnum s ++ vnum n) = ⟨0, (vnum s).length, (s : Int)⟩ := vget_vnum s _ (by omega)
  have g2 : vget (vnum n) = ⟨0, (vnum n).length, (n : Int)⟩ := by
    have := vget_vnum n [] (by omega)
    rwa [List.append_nil] at this
  unfold headB headR headVer headExp headNums
  simp only [ne_eq, not_true_eq_false, if_false, Int.toNat_natCast]
  rw [g1]
  simp only [not_true_eq_false, if_false]
  rw [List.drop_left, g2]
  simp only [not_true_eq_false, if_false, Int.toNat_natCast]
  unfold headLast
  rw [List.drop_length, if_neg (by simp), if_pos ⟨by omega, by omega, h⟩]
theorem headB_length {e s n : Nat} (hs : s < 18446744073709551616) (hn : n < 18446744073709551616) : (headB e s n).length ≤ 23 := by
  have := vnum_ten hs
  have := vnum_ten hn
  simp only [headB, List.length_cons, List.length_append]
  omega

/-- The record, the head of a chunk. -/
def getR (ys : List Int) : Int × Rec := if (openN ys).1 ≠ 0 then ((openN ys).1, Rec.none) else readR (openN ys).2
def getH (ys : List Int) : Int × Nat × Nat × Nat := if (openN ys).1 ≠ 0 then ((openN ys).1, 0, 0, 0) else headR (openN ys).2
def putR (r : Rec) : List Int := if checkR r = 0 then sealN (bodyR r) else []
def putH (e s n : Nat) : List Int := if mayHead e s n = true then sealN (headB e s n) else []

theorem getR_put {r : Rec} (hf : r.Fine) (h : checkR r = 0) (hb : Octets (bodyR r)) : getR (chunkN (bodyR r)) = (0, r) := by
  unfold getR
  rw [open_chunk hb, if_neg (by simp)]
  exact readR_body hf h
theorem getH_put {e s n : Nat} (he : e < 256) (h : mayHead e s n = true) : getH (chunkN (headB e s n)) = (0, e, s, n) := by
  unfold getH
  rw [open_chunk (headB_octets he), if_neg (by simp)]
  exact headR_body h
theorem headR_bound {xs : List Int} (h : (headR xs).1 = 0) : mayHead (headR xs).2.1 (headR xs).2.2.1 (headR xs).2.2.2 = true := by
  unfold headR headVer headExp headNums headLast at h ⊢
  repeat' split at h
  all_goals first
    | (exfalso; simp at h; done)
    | (exfalso; exact absurd h (by assumption))
    | (simp only [*, if_false]; simp_all)
end Go.Proofs.Ytbchiccgkhnkaaa

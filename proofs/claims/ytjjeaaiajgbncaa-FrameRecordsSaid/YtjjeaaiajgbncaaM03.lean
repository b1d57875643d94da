/-
  ConfRef; CobsOct; FrNum; VarPut; TextEq; Ref1.
-/
import Derived.Deep.RegionHeld3
import Derived.Test.YtjjeaaiajgbncaaM01
import Derived.Test.YtjjeaaiajgbncaaM02
namespace Go.Proofs.Ytjjeaaiajgbncaa
open Go.RowKit

def confV (e s : Nat) : Value := .agg #[.int .u8 (e : Int), .int .u32 (s : Int)]
def confCells (e s : Nat) : Array Value := #[.int .u8 (e : Int), .int .u32 (s : Int)]
def mayC (e s : Nat) : Bool := decide (12 ≤ e) && decide (e ≤ 24) && decide (1 ≤ s) && decide (s ≤ 65536)
theorem mayC_true {e s : Nat} : mayC e s = true ↔ 12 ≤ e ∧ e ≤ 24 ∧ 1 ≤ s ∧ s ≤ 65536 := by
  unfold mayC
  simp only [Bool.and_eq_true, decide_eq_true_eq]
  omega
theorem two_e {e : Nat} (h : e ≤ 24) : 1 ≤ 2 ^ e ∧ 2 ^ e ≤ 16777216 := by
  constructor
  · exact Nat.one_le_two_pow
  · have := Nat.pow_le_pow_right (n := 2) (by omega) h
    omega

set_option maxHeartbeats 2000000 in
set_option maxRecDepth 10000 in
theorem may_ref (e s : Nat) (w : World) : Calls Try.prog 45 #[confV e s] w fun r w' => r = .returned (.bool (mayC e s)) ∧ Keeps NoBlock w w' := by
  have HR := Lib.hid (Whole.new w 48 (confCells e s))
  have HK := Lib.hid ((Keeps.refl NoBlock w).alloc (.cells (confCells e s) 48))
  by_cases h1 : 12 ≤ e
  · have d1 : decide ((12 : Int) ≤ (e : Int)) = true := decide_eq_true (by omega)
    by_cases h2 : e ≤ 24
    · have d2 : decide ((e : Int) ≤ 24) = true := decide_eq_true (by omega)
      by_cases h3 : 1 ≤ s
      · have d3 : decide ((1 : Int) ≤ (s : Int)) = true := decide_eq_true (by omega)
        by_cases h4 : s ≤ 65536
        · have d4 : decide ((s : Int) ≤ 65536) = true := decide_eq_true (by omega)
          have HM := Lib.hid (mayC_true.2 ⟨h1, h2, h3, h4⟩)
          unfold confV
          go_enter Try.func45, Try.ntmps45
          go_wp2_with fail
          go_ret
          rw [HM.out]
          exact ⟨rfl, HK.out⟩
        · have d4 : decide ((s : Int) ≤ 65536) = false := decide_eq_false (by omega)
          have HM : Hid (mayC e s = false) := Lib.hid (by cases h : mayC e s with | false => rfl | true => have := mayC_true.1 h; omega)
          unfold confV
          go_enter Try.func45, Try.ntmps45
          go_wp2_with fail
          go_ret
          rw [HM.out]
          exact ⟨rfl, HK.out⟩
      · have d3 : decide ((1 : Int) ≤ (s : Int)) = false := decide_eq_false (by omega)
        have HM : Hid (mayC e s = false) := Lib.hid (by cases h : mayC e s with | false => rfl | true => have := mayC_true.1 h; omega)
        unfold confV
        go_enter Try.func45, Try.ntmps45
        go_wp2_with fail
        go_ret
        rw [HM.out]
        exact ⟨rfl, HK.out⟩
    · have d2 : decide ((e : Int) ≤ 24) = false := decide_eq_false (by omega)
      have HM : Hid (mayC e s = false) := Lib.hid (by cases h : mayC e s with | false => rfl | true => have := mayC_true.1 h; omega)
      unfold confV
      go_enter Try.func45, Try.ntmps45
      go_wp2_with fail
      go_ret
      rw [HM.out]
      exact ⟨rfl, HK.out⟩
  · have d1 : decide ((12 : Int) ≤ (e : Int)) = false := decide_eq_false (by omega)
    have HM : Hid (mayC e s = false) := Lib.hid (by cases h : mayC e s with | false => rfl | true => have := mayC_true.1 h; omega)
    unfold confV
    go_enter Try.func45, Try.ntmps45
    go_wp2_with fail
    go_ret
    rw [HM.out]
    exact ⟨rfl, HK.out⟩

end Go.Proofs.Ytjjeaaiajgbncaa

namespace Go.Proofs.Ytjjeaaiajgbncaa

theorem dec_octets : ∀ (m : Nat) (xs o : List Int), xs.length ≤ m → Solid xs → dec xs = some o → Octets o ∧ o.length ≤ xs.length
  | _, [], o, _, _, h => by
    rw [dec] at h
    obtain rfl := Option.some.inj h
    exact ⟨fun b hb => by simp at hb, Nat.le_refl _⟩
  | 0, n :: r, o, hm, _, _ => by simp at hm
  | m + 1, n :: r, o, hm, hs, h => by
    rw [dec] at h
    split at h
    · simp at h
    · obtain ⟨o', ho', rfl⟩ := Option.map_eq_some_iff.1 h
      have hn := hs n List.mem_cons_self
      have hr : Solid r := fun b hb => hs b (List.mem_cons_of_mem _ hb)
      obtain ⟨h1, h2⟩ := dec_octets m (r.drop (n.toNat - 1)) o' (by simp at hm ⊢; omega) (fun b hb => hr b (List.mem_of_mem_drop hb)) ho'
      refine ⟨?_, ?_⟩
      · intro b hb
        rcases List.mem_append.1 hb with hb | hb
        · rcases List.mem_append.1 hb with hb | hb
          · exact hr.octets b (List.mem_of_mem_take hb)
          · split at hb
            · rw [List.mem_singleton.1 hb]; omega
            · simp at hb
        · exact h1 b hb
      · have : (if n < 255 ∧ r.drop (n.toNat - 1) ≠ [] then [0] else ([] : List Int)).length ≤ 1 := by split <;> simp
        simp only [List.length_append, List.length_take, List.length_drop, List.length_cons] at h2 ⊢
        omega
theorem unst_octets {xs : List Int} (h : Octets xs) : Octets (unst xs).2 ∧ (unst xs).2.length ≤ xs.length := by
  have h00 : Octets [] ∧ ([] : List Int).length ≤ xs.length := ⟨fun b hb => by simp at hb, Nat.zero_le _⟩
  unfold unst
  split
  · exact h00
  · rename_i h0
    split
    · exact h00
    · split
      · exact h00
      · split
        · have hso : Solid xs := fun b hb => by
            have h1 := h b hb
            have h2 : b ≠ 0 := fun e => h0 (e ▸ hb)
            exact ⟨by omega, h1.2⟩
          exact dec_octets xs.length xs _ (Nat.le_refl _) hso (by assumption)
        · exact h00
end Go.Proofs.Ytjjeaaiajgbncaa

namespace Go.Proofs.Ytjjeaaiajgbncaa

/-- The sum behind a body. -/
def sumB (xs : List Int) : List Int := digits (wxxh 0 xs) 8
def chunkN (xs : List Int) : List Int := stuff (xs ++ sumB xs)
def sealN (xs : List Int) : List Int := chunkN xs ++ [0]
def openEnd (t : List Int) : Int × List Int :=
  if t.length < 8 then (2, []) else if le (t.drop (t.length - 8)) = wxxh 0 (t.take (t.length - 8)) then (0, t.take (t.length - 8)) else (5, [])
/-- The body of a chunk: the error's number, the bytes. -/
def openN (ys : List Int) : Int × List Int := if (unst ys).1 ≠ 0 then ((unst ys).1, []) else openEnd (unst ys).2
def sizeN (n : Nat) : Nat := mostOf (n + 8) + 1

theorem sumB_length (xs : List Int) : (sumB xs).length = 8 := digits_length _ 8
theorem sumB_octets (xs : List Int) : Octets (sumB xs) := digits_octets _ 8
theorem Octets.app {xs ys : List Int} (h : Octets xs) (g : Octets ys) : Octets (xs ++ ys) := fun x hx => (List.mem_append.1 hx).elim (h x) (g x)
theorem wxxh_u64 (s : Int) (xs : List Int) : U64 (wxxh s xs) := wend_bound _

theorem le_digits9 (x : Nat) : ∀ n, le (digits (x : Int) n) = ((x % 2 ^ (8 * n) : Nat) : Int)
  | 0 => by simp [digits, le, Nat.mod_one]
  | n + 1 => by
    rw [digits, le_snoc, digits_length, le_digits9 x n]
    have hp : 2 ^ (8 * (n + 1)) = 2 ^ (8 * n) * 256 := by rw [show 8 * (n + 1) = 8 * n + 8 by omega, Nat.pow_add]
    have e1 : ((2 : Int) ^ (8 * n)) = ((2 ^ (8 * n) : Nat) : Int) := by push_cast; rfl
    rw [hp, e1, show ((x : Int) / ((2 ^ (8 * n) : Nat) : Int) % 256) = ((x / 2 ^ (8 * n) % 256 : Nat) : Int) by omega, ← Int.natCast_mul, ← Int.natCast_add, Nat.mod_mul]
theorem le_sum (xs : List Int) : le (sumB xs) = wxxh 0 xs := by
  obtain ⟨k, hk, hlt⟩ := u64_nat (wxxh_u64 0 xs)
  unfold sumB
  rw [hk, le_digits9, Nat.mod_eq_of_lt hlt]
/-- Bytes of the same number are the same. -/
theorem le_inj : ∀ (xs ys : List Int), Octets xs → Octets ys → xs.length = ys.length → le xs = le ys → xs = ys
  | [], [], _, _, _, _ => rfl
  | [], y :: s, _, _, h, _ => by simp at h
  | x :: r, [], _, _, h, _ => by simp at h
  | x :: r, y :: s, hx, hy, hl, he => by
    have h1 := hx x List.mem_cons_self
    have h2 := hy y List.mem_cons_self
    simp only [le] at he
    have e1 : x = y := by omega
    have e2 : le r = le s := by omega
    rw [e1, le_inj r s (fun b hb => hx b (List.mem_cons_of_mem _ hb)) (fun b hb => hy b (List.mem_cons_of_mem _ hb)) (by simpa using hl) e2]

theorem openEnd_body (xs : List Int) : openEnd (xs ++ sumB xs) = (0, xs) := by
  have hl : (xs ++ sumB xs).length - 8 = xs.length := by rw [List.length_append, sumB_length]; omega
  unfold openEnd
  rw [if_neg (by rw [List.length_append, sumB_length]; omega), hl, List.drop_left, List.take_left, if_pos (le_sum xs)]
theorem open_chunk {xs : List Int} (h : Octets xs) : openN (chunkN xs) = (0, xs) := by
  unfold openN chunkN
  rw [unst_stuff (h.app (sumB_octets xs)), if_neg (by simp)]
  exact openEnd_body xs
theorem openEnd_only {t b : List Int} (ho : Octets t) (h : openEnd t = (0, b)) : t = b ++ sumB b := by
  unfold openEnd at h
  by_cases h1 : t.length < 8
  · rw [if_pos h1] at h
    exact absurd (congrArg Prod.fst h) (by simp)
  · rw [if_neg h1] at h
    by_cases h2 : le (t.drop (t.length - 8)) = wxxh 0 (t.take (t.length - 8))
    · rw [if_pos h2] at h
      have hb : t.take (t.length - 8) = b := congrArg Prod.snd h
      rw [hb] at h2
      have h3 : t.drop (t.length - 8) = sumB b := le_inj _ _ (ho.drop _) (sumB_octets b) (by rw [sumB_length, List.length_drop]; omega) (by rw [le_sum]; exact h2)
      rw [← h3, ← hb, List.take_append_drop]
    · rw [if_neg h2] at h
      exact absurd (congrArg Prod.fst h) (by simp)
/-- Of a body that is opened the chunk is its frame's. -/
theorem open_only {ys b : List Int} (ho : Octets ys) (h : openN ys = (0, b)) : ys = chunkN b ∧ Octets b := by
  unfold openN at h
  by_cases h1 : (unst ys).1 ≠ 0
  · rw [if_pos h1] at h
    exact absurd (congrArg Prod.fst h) h1
  · rw [if_neg h1] at h
    have hu := (unst_octets ho).1
    have ht := openEnd_only hu h
    have hz := unst_zero (xs := ys) (ys := (unst ys).2) (Prod.ext (by simpa using h1) rfl)
    rw [ht] at hz hu
    exact ⟨hz.symm, fun x hx => hu x (List.mem_append_left _ hx)⟩
theorem open_bound {ys : List Int} (ho : Octets ys) : Octets (openN ys).2 ∧ (openN ys).2.length ≤ ys.length := by
  have hu := unst_octets ho
  have h00 : Octets [] ∧ ([] : List Int).length ≤ ys.length := ⟨fun b hb => by simp at hb, Nat.zero_le _⟩
  unfold openN openEnd
  repeat' split
  · exact h00
  · exact h00
  · exact ⟨hu.1.take _, by rw [List.length_take]; omega⟩
  · exact h00
theorem open_none {ys : List Int} (h : (openN ys).1 ≠ 0) : (openN ys).2 = [] := by
  unfold openN openEnd at h ⊢
  repeat' split
  · rfl
  · rfl
  · rename_i h1 h2 h3
    rw [if_neg h1, if_neg h2, if_pos h3] at h
    exact absurd rfl h
  · rfl

theorem chunk_solid {xs : List Int} (h : Octets xs) : Solid (chunkN xs) := stuff_solid (h.app (sumB_octets xs))
theorem chunk_inj {xs ys : List Int} (h : chunkN xs = chunkN ys) : xs = ys := by
  have h1 := stuff_inj h
  have h2 : xs.length = ys.length := by
    have := congrArg List.length h1
    rw [List.length_append, List.length_append, sumB_length, sumB_length] at this
    omega
  exact (List.append_inj h1 h2).1
theorem chunk_pos (xs : List Int) : 1 ≤ (chunkN xs).length := by
  have := stuff_pos (xs ++ sumB xs)
  unfold chunkN
  exact List.length_pos_iff.2 this
theorem stuffGo_long : ∀ (r now : List Int) (full : Bool), (full = true → now = []) → now.length + r.length + (if full then 0 else 1) ≤ (stuffGo now full r).length
  | [], now, full, hf => by
    unfold stuffGo
    cases full
    · simp
    · simp [hf rfl]
  | b :: r, now, full, hf => by
    unfold stuffGo
    have hc : (if full then 0 else 1) ≤ 1 := by split <;> decide
    rw [List.length_cons]
    by_cases hb : b = 0
    · rw [if_pos hb]
      have := stuffGo_long r [] false (by simp)
      rw [if_neg (by simp)] at this
      simp only [List.length_append, List.length_cons, List.length_nil, Nat.zero_add] at this ⊢
      omega
    · rw [if_neg hb]
      by_cases h254 : now.length + 1 = 254
      · rw [if_pos h254]
        have := stuffGo_long r [] true (fun _ => rfl)
        rw [if_pos rfl] at this
        simp only [List.length_append, List.length_cons, List.length_nil, Nat.zero_add] at this ⊢
        omega
      · rw [if_neg h254]
        have := stuffGo_long r (now ++ [b]) false (by simp)
        rw [if_neg (by simp)] at this
        simp only [List.length_append, List.length_cons, List.length_nil, Nat.zero_add] at this ⊢
        omega
theorem stuff_long (xs : List Int) : xs.length + 1 ≤ (stuff xs).length := by
  have := stuffGo_long xs [] false (by simp)
  rw [if_neg (by simp)] at this
  simp only [List.length_nil, Nat.zero_add] at this
  exact this
theorem chunk_long (xs : List Int) : xs.length + 9 ≤ (chunkN xs).length := by
  have := stuff_long (xs ++ sumB xs)
  rw [List.length_append, sumB_length] at this
  exact this
theorem seal_length (xs : List Int) : (sealN xs).length = (chunkN xs).length + 1 ∧ (sealN xs).length ≤ sizeN xs.length := by
  have h := stuff_most (xs ++ sumB xs)
  rw [List.length_append, sumB_length] at h
  unfold sealN sizeN
  rw [List.length_append]
  exact ⟨rfl, by unfold chunkN; simp only [List.length_cons, List.length_nil]; omega⟩
/-- A frame has one nought, its last byte. -/
theorem seal_nought {xs : List Int} (h : Octets xs) {i : Nat} (hi : i < (sealN xs).length) : (((sealN xs).getD i 0 == 0) = decide (i = (sealN xs).length - 1)) ∧ 0 ≤ (sealN xs).getD i 0 ∧ (sealN xs).getD i 0 < 256 := by
  have hl := (seal_length xs).1
  have hs := chunk_solid h
  by_cases hc : i < (chunkN xs).length
  · have e : (sealN xs).getD i 0 = (chunkN xs)[i] := by
      unfold sealN
      rw [List.getD_eq_getElem?_getD, List.getElem?_append_left hc, List.getElem?_eq_getElem hc]
      rfl
    have hb := hs _ (List.getElem_mem hc)
    rw [e, decide_eq_false (by omega), beq_eq_false_iff_ne.2 (by omega)]
    exact ⟨rfl, by omega, hb.2⟩
  · have e : (sealN xs).getD i 0 = 0 := by
      have hi2 : i = (chunkN xs).length := by omega
      subst hi2
      unfold sealN
      rw [List.getD_eq_getElem?_getD, List.getElem?_append_right (Nat.le_refl _)]
      simp
    rw [e, decide_eq_true (by omega)]
    exact ⟨rfl, by decide, by decide⟩
theorem seal_octets {xs : List Int} (h : Octets xs) : Octets (sealN xs) := (chunk_solid h).octets.app (fun b hb => by simp at hb; omega)

/-- A head's body; may a head be; what is read of a body as a head: the error's number, Exp, Segments, the number. -/
def headB (e s n : Nat) : List Int := 1 :: 2 :: (e : Int) :: (vnum s ++ vnum n)
def mayHead (e s n : Nat) : Bool := mayC e s && decide (n < s)
def headLast (e : Nat) (s n : Nat) (rest : List Int) : Int × Nat × Nat × Nat :=
  if rest ≠ [] then (3, 0, 0, 0) else if s ≤ 4294967295 ∧ n ≤ 4294967295 ∧ mayHead e s n = true then (0, e, s, n) else (1, 0, 0, 0)
def headNums (e : Nat) (xs : List Int) : Int × Nat × Nat × Nat :=
  if (vget xs).e ≠ 0 then ((vget xs).e, 0, 0, 0)
  else if (vget (xs.drop (vget xs).n)).e ≠ 0 then ((vget (xs.drop (vget xs).n)).e, 0, 0, 0)
  else headLast e (vget xs).x.toNat (vget (xs.drop (vget xs).n)).x.toNat ((xs.drop (vget xs).n).drop (vget (xs.drop (vget xs).n)).n)
def headExp : List Int → Int × Nat × Nat × Nat
  | [] => (2, 0, 0, 0)
  | e :: r => headNums e.toNat r
def headVer : List Int → Int × Nat × Nat × Nat
  | [] => (2, 0, 0, 0)
  | b :: r => if b ≠ 2 then (4, 0, 0, 0) else headExp r
def headR : List Int → Int × Nat × Nat × Nat
  | [] => (2, 0, 0, 0)
  | b :: r => if b ≠ 1 then (4, 0, 0, 0) else headVer r

theorem mayHead_true {e s n : Nat} : mayHead e s n = true ↔ 12 ≤ e ∧ e ≤ 24 ∧ 1 ≤ s ∧ s ≤ 65536 ∧ n < s := by
  unfold mayHead
  rw [Bool.and_eq_true, mayC_true, decide_eq_true_eq]
  constructor
  · rintro ⟨⟨a, b, c, d⟩, h⟩; exact ⟨a, b, c, d, h⟩
  · rintro ⟨a, b, c, d, h⟩; exact ⟨⟨a, b, c, d⟩, h⟩
theorem headB_octets {e s n : Nat} (h : e < 256) : Octets (headB e s n) := fun b hb => by
  simp only [headB, List.mem_cons, List.mem_append] at hb
  rcases hb with rfl | rfl | rfl | hb | hb
  · omega
  · omega
  · omega
  · exact vnum_octets s b hb
  · exact vnum_octets n b hb
theorem headR_body {e s n : Nat} (h : mayHead e s n = true) : headR (headB e s n) = (0, e, s, n) := by
  obtain ⟨h1, h2, h3, h4, h5⟩ := mayHead_true.1 h
  have g1 : vget (vnum s ++ vnum n) = ⟨0, (vnum s).length, (s : Int)⟩ := vget_vnum s _ (by omega)
  have g2 : vget (vnum n) = ⟨0, (vnum n).length, (n : Int)⟩ := by
    have := vget_vnum n [] (by omega)
    rwa [List.append_nil] at this
  unfold headB headR headVer headExp headNums
  simp only [ne_eq, not_true_eq_false, if_false, Int.toNat_natCast]
  rw [g1]
  simp only [not_true_eq_false, if_false]
  rw [List.drop_left, g2]
  simp only [not_true_eq_false, if_false, Int.toNat_natCast]
  unfold headLast
  rw [List.drop_length, if_neg (by simp), if_pos ⟨by omega, by omega, h⟩]
theorem headB_length {e s n : Nat} (hs : s < 18446744073709551616) (hn : n < 18446744073709551616) : (headB e s n).length ≤ 23 := by
  have := vnum_ten hs
  have := vnum_ten hn
  simp only [headB, List.length_cons, List.length_append]
  omega

/-- The record, the head of a chunk. -/
def getR (ys : List Int) : Int × Rec := if (openN ys).1 ≠ 0 then ((openN ys).1, Rec.none) else readR (openN ys).2
def getH (ys : List Int) : Int × Nat × Nat × Nat := if (openN ys).1 ≠ 0 then ((openN ys).1, 0, 0, 0) else headR (openN ys).2
def putR (r : Rec) : List Int := if checkR r = 0 then sealN (bodyR r) else []
def putH (e s n : Nat) : List Int := if mayHead e s n = true then sealN (headB e s n) else []

theorem getR_put {r : Rec} (hf : r.Fine) (h : checkR r = 0) (hb : Octets (bodyR r)) : getR (chunkN (bodyR r)) = (0, r) := by
  unfold getR
  rw [open_chunk hb, if_neg (by simp)]
  exact readR_body hf h
theorem getH_put {e s n : Nat} (he : e < 256) (h : mayHead e s n = true) : getH (chunkN (headB e s n)) = (0, e, s, n) := by
  unfold getH
  rw [open_chunk (headB_octets he), if_neg (by simp)]
  exact headR_body h
theorem headR_bound {xs : List Int} (h : (headR xs).1 = 0) : mayHead (headR xs).2.1 (headR xs).2.2.1 (headR xs).2.2.2 = true := by
  unfold headR headVer headExp headNums headLast at h ⊢
  repeat' split at h
  all_goals first
    | (exfalso; simp at h; done)
    | (exfalso; exact absurd h (by assumption))
    | (simp only [*, if_false]; simp_all)
end Go.Proofs.Ytjjeaaiajgbncaa

namespace Go.Proofs.Ytjjeaaiajgbncaa
open Go.RowKit

/-- What Put leaves. -/
def PutOk (base g : Nat) (xs : List Int) (w : World) (e : Ending) (w' : World) : Prop :=
  e = .returned (.tuple #[]) ∧ BufAt w' base g xs ∧ Keeps (OnBuf base g) w w'

set_option maxRecDepth 10000 in
set_option maxHeartbeats 800000 in
theorem put_any (base g : Nat) (xs : List Int) (x : Nat) (z : Int) (hz : z = x) (w : World) (h : BufAt w base g xs) (hs : base ≤ w.heap.size) (hx : xs.length + 10 ≤ 140737488355328) (h64 : x < 18446744073709551616) :
    Calls Try.prog 44 #[.pointer (some ⟨g, 0, none⟩), .int .u64 z] w (PutOk base g (xs ++ vnum x) w) := by
  subst hz
  have HT := Lib.hid (vnum_ten h64)
  have H := Lib.hid h; have HX := Lib.hid hx; have H64 := Lib.hid h64
  clear h hx h64
  go_enter Try.func44, Try.ntmps44
  go_wp2_with fail
  go_loopw [1] (fun v wr => ∃ (y : Nat) (pre : List Int), v = .int .u64 y ∧ y ≤ x ∧ Hid (pre ++ vnum y = vnum x) ∧ BufAt wr base g (xs ++ pre) ∧ Keeps (OnBuf base g) w wr) (fun v _ => (intOf v).toNat)
  case atStart => exact ⟨x, [], rfl, Nat.le_refl _, Lib.hid rfl, by simpa using H.out, Keeps.refl _ _⟩
  case round =>
    obtain ⟨y, pre, rfl, hyx, hpre, hbuf, hbel⟩ := hrel
    have HB := Lib.hid hbuf; have HL := Lib.hid hbel
    clear hbuf hbel
    have hlen : xs.length + pre.length + 1 ≤ 140737488355328 := by
      have e := congrArg List.length hpre.out
      rw [List.length_append] at e
      have := HT.out; have := HX.out; have := vnum_pos y
      omega
    have HLen := Lib.hid hlen
    clear hlen
    by_cases hlt : y < 128
    · go_wp2_with fail
      refine (bufByteK base g (xs ++ pre) _ _ HB.out (by have := HL.out.size; omega) (by have := HLen.out; simp; omega)).mono ?_
      rintro e w2 ⟨rfl, hbuf, hbel⟩
      have HB2 := Lib.hid hbuf; have HL2 := Lib.hid (HL.out.trans hbel)
      clear hbuf hbel
      go_wp2_with fail
      go_returns
      refine ⟨rfl, ?_, HL2.out⟩
      have := HB2.out
      have e := hpre.out
      rw [vnum_small hlt] at e
      rw [← e, ← List.append_assoc]
      first | exact this | (have e2 : IntKind.u8.wrap (y : Int) = y := by (rw [IntKind.wrap_u8']; omega)); (rw [e2] at this; exact this)
    · go_wp2_with fail
      refine (bufByteK base g (xs ++ pre) _ _ HB.out (by have := HL.out.size; omega) (by have := HLen.out; simp; omega)).mono ?_
      rintro e w2 ⟨rfl, hbuf, hbel⟩
      have HB2 := Lib.hid hbuf; have HL2 := Lib.hid (HL.out.trans hbel)
      clear hbuf hbel
      go_wp2_with fail
      go_roundw
      case rel =>
        refine ⟨y / 128, pre ++ [((128 + y % 128 : Nat) : Int)], ?_, by omega, Lib.hid ?_, ?_, HL2.out⟩
        · go_num
        · have e := hpre.out
          rw [vnum_big hlt] at e
          rw [← e, List.append_assoc]
          rfl
        · have := HB2.out
          rw [← IntKind.wrap_u8', more_seven] at this
          rw [← List.append_assoc]
          exact this
      case measure => simp [intOf]; omega

theorem one_conv {v : Int} {W : World} {g : Nat} {t : TypeId} (h : Whole W g t #[.int .u8 v]) : (convert 22 9 (.slice (some ⟨g, 0, none⟩) 1 1)).run Try.prog W = .ok (.string (strOfNums [v])) W :=
  textOf _ 1 1 [v] _ rfl (h.bytes [v] (fun i hi => by
    match i, hi with
    | 0, _ => rfl))

theorem vnum_conv (v : Int) (w : World) : (convert 22 9 (.slice (some ⟨w.heap.size, 0, none⟩) 1 1)).run Try.prog (w.alloc (.cells #[.int .u8 v] 5)) = .ok (.string (strOfNums [v])) (w.alloc (.cells #[.int .u8 v] 5)) :=
  one_conv (Whole.new w _ _)
theorem vnum_convD (v : Int) (w : World) : (convert 22 9 (.slice (some ⟨w.heap.size, 0, none⟩) 1 1)).run Try.prog (w.alloc (.cells #[.int .u8 v] 5)).drew = .ok (.string (strOfNums [v])) (w.alloc (.cells #[.int .u8 v] 5)).drew :=
  one_conv (W := (w.alloc (.cells #[.int .u8 v] 5)).drew) (show Whole _ _ 5 _ from Whole.new w _ _)
theorem vnum_conv_keep {v : Int} {w w1 : World} (h : Keeps NoBlock (w.alloc (.cells #[.int .u8 v] 5)).drew w1) :
    (convert 22 9 (.slice (some ⟨w.heap.size, 0, none⟩) 1 1)).run Try.prog w1 = .ok (.string (strOfNums [v])) w1 ∧ (convert 22 9 (.slice (some ⟨w.heap.size, 0, none⟩) 1 1)).run Try.prog w1.drew = .ok (.string (strOfNums [v])) w1.drew := by
  have hw : Whole w1 w.heap.size 5 #[.int .u8 v] := (show Whole (w.alloc (.cells #[.int .u8 v] 5)).drew _ _ _ from Whole.new w _ _).keep h (fun h => h)
  exact ⟨one_conv hw, one_conv (show Whole w1.drew _ 5 _ from hw)⟩

set_option maxHeartbeats 800000 in
theorem num_bytes (x : Nat) : ∀ (z : Int), z = x → x < 18446744073709551616 → ∀ (w : World),
    Calls Try.prog 47 #[.int .u64 z] w fun e w' => e = .returned (.string (strOfNums (vnum x))) ∧ Keeps NoBlock w w' := by
  induction x using Nat.strongRecOn with
  | _ x ih =>
    intro z hz h64 w
    subst hz
    have hcv := vnum_conv
    by_cases hlt : x < 128
    · clear ih
      have hi : (x : Int) < 128 := by omega
      go_enter Try.func47, Try.ntmps47
      go_wp2_with fail
      go_ret
      refine ⟨?_, (Keeps.refl _ _).alloc _⟩
      rw [vnum_small hlt]
      rfl
    · have hcd := vnum_convD
      have hrec := fun z hz w => ih (x / 128) (by omega) z hz (by omega) w
      have HR := Lib.hid hrec
      have hten := vnum_ten (x := x / 128) (by omega)
      clear ih hrec
      have hi : ¬ (x : Int) < 128 := by omega
      have hsz : ∀ v : Int, ¬ 9223372036854775807 < (strOfNums [v]).size + (strOfNums (vnum (x / 128))).size := fun v => by simp only [str_size, List.length_cons, List.length_nil]; omega
      have HQ := Lib.hid (show IntKind.u64.wrap ((x : Int) / 128) = ((x / 128 : Nat) : Int) by rw [IntKind.wrap_u64]; omega)
      have HV := Lib.hid (show IntKind.u8.wrap (IntKind.u64.wrap (128 + (x : Int).tmod 128)) = ((128 + x % 128 : Nat) : Int) by rw [Int.tmod_eq_emod_of_nonneg (by omega), IntKind.wrap_u64, IntKind.wrap_u8']; omega)
      clear h64
      go_enter Try.func47, Try.ntmps47
      go_wp2_with fail
      go_region_with (go_at_call 47; refine (HR.out _ HQ.out _).mono ?_; rintro e w1 ⟨rfl, hk⟩; first | (obtain ⟨hc1, hc2⟩ := vnum_conv_keep hk; have HK := Lib.hid hk; clear hk) | (have HK := Lib.hid hk; clear hk))
      all_goals
        go_wp2_with fail
        go_ret
        refine ⟨?_, ?_⟩
        · show Ending.returned (Value.string (strOfNums [IntKind.u8.wrap (IntKind.u64.wrap (128 + (x : Int).tmod 128))] ++ strOfNums (vnum (x / 128)))) = _
          rw [HV.out, str_append, vnum_big hlt]
          rfl
        · first
            | exact (((Keeps.refl NoBlock w).alloc _).drew).trans HK.out
            | exact ((((Keeps.refl NoBlock w).alloc _).drew).trans HK.out).drew
            | exact (((Keeps.refl NoBlock w).drew).trans HK.out).alloc _
            | exact ((((Keeps.refl NoBlock w).drew).trans HK.out).alloc _).drew
            | exact ((((Keeps.refl NoBlock w).drew).trans HK.out).drew).alloc _
            | exact HK.out.alloc _
end Go.Proofs.Ytjjeaaiajgbncaa

namespace Go.Proofs.Ytjjeaaiajgbncaa
open Go.RowKit

theorem strOf_inj {xs ys : List Int} (hx : Octets xs) (hy : Octets ys) (h : strOfNums xs = strOfNums ys) : xs = ys := by
  have e : (strOfNums xs).data.toList = (strOfNums ys).data.toList := by rw [h]
  rw [strOfNums_data, strOfNums_data] at e
  have hm : ∀ {zs : List Int}, Octets zs → (zs.map fun n => UInt8.ofNat n.toNat).map (fun u => ((u.toNat : Nat) : Int)) = zs := fun {zs} hz => by
    rw [List.map_map]
    conv => rhs; rw [← List.map_id zs]
    exact List.map_congr_left fun z hzm => by
      have := hz z hzm
      simp [UInt8.toNat_ofNat']
      omega
  rw [← hm hx, ← hm hy, e]

theorem text_beq (a b : ByteArray) : (a.toList == b.toList) = decide (a = b) := by
  rw [Bool.eq_iff_iff, beq_iff_eq, decide_eq_true_iff, ByteArray.toList_eq, ByteArray.toList_eq]
  exact ⟨fun h => ByteArray.ext (Array.toList_inj.1 h), fun h => by rw [h]⟩
end Go.Proofs.Ytjjeaaiajgbncaa

namespace Go.Proofs.Ytjjeaaiajgbncaa
open Go.RowKit

/-- A Reader, as a value. -/
def rdr (xs : List Int) (a y : Int) : Value := .agg #[.string (strOfNums xs), .int .i64 a, .int .i64 y]

theorem str_take (xs : List Int) (n : Nat) : (strOfNums xs).extract 0 n = strOfNums (xs.take n) := by
  apply ByteArray.ext
  simp [strOfNums, List.map_take]
theorem str_drop (xs : List Int) (n : Nat) : (strOfNums xs).extract n (strOfNums xs).size = strOfNums (xs.drop n) := by
  apply ByteArray.ext
  simp only [strOfNums, ByteArray.size]
  simp [List.map_drop]
  rw [List.take_of_length_le (by simp)]

def strSize : Value → Nat
  | .string b => b.size
  | _ => 0
theorem strSize_of (xs : List Int) : strSize (.string (strOfNums xs)) = xs.length := str_size xs

theorem str_piece (xs : List Int) (a b : Nat) (i n : Nat) (ha : a = i) (hb : b = i + n) : (strOfNums xs).extract a b = strOfNums ((xs.drop i).take n) := by
  subst ha hb
  apply ByteArray.ext
  simp [strOfNums, List.map_drop, List.map_take]

set_option maxHeartbeats 800000 in
theorem fail_ref (xs : List Int) (a y : Int) (w : World) :
    Calls Try.prog 80 #[rdr xs a 0, .int .i64 y] w fun e w' => e = .returned (rdr xs a y) ∧ Keeps NoBlock w w' := by
  unfold rdr
  go_enter Try.func80, Try.ntmps80
  go_wp2_with fail
  exact bodyPost_ret (v := rdr xs a y) (by simp [results, Try.results80, go_sem, rdr]) rfl ⟨rfl, ((Keeps.refl _ _).alloc _).alloc _⟩

set_option maxHeartbeats 2000000 in
theorem take_ref (xs : List Int) (a z : Int) (n : Nat) (hz : z = n) (hn : 0 < n) (hle : n ≤ xs.length) (hl : xs.length ≤ 140737488355328) (ha : 0 ≤ a ∧ a ≤ 140737488355328) (w : World) :
    Calls Try.prog 79 #[rdr xs a 0, .int .i64 z] w fun e w' => e = .returned (.tuple #[rdr (xs.drop n) (a + n) 0, .string (strOfNums (xs.take n))]) ∧ Keeps NoBlock w w' := by
  subst hz
  unfold rdr
  have hss : (strOfNums xs).size = xs.length := str_size xs
  have hg : ¬ xs.length < n := by omega
  have hw : IntKind.i64.wrap (a + (n : Int)) = a + (n : Int) := by rw [IntKind.wrap_i64]; omega
  have hd := str_drop xs n
  have ht := str_take xs n
  rw [hss] at hd
  go_enter Try.func79, Try.ntmps79
  go_wp2_with fail
  go_region
  all_goals
    go_wp2_with fail
    exact bodyPost_ret (v := .tuple #[rdr (xs.drop n) (a + n) 0, .string (strOfNums (xs.take n))]) (by simp [results, Try.results79, go_sem, rdr]) rfl ⟨rfl, (((Keeps.refl _ _).alloc _).alloc _).drew⟩

set_option maxHeartbeats 800000 in
theorem take_ref_short (xs : List Int) (a z : Int) (n : Nat) (hz : z = n) (hn : 0 < n) (hle : xs.length < n) (w : World) :
    Calls Try.prog 79 #[rdr xs a 0, .int .i64 z] w fun e w' => e = .returned (.tuple #[rdr xs a 2, .string (strOfNums [])]) ∧ Keeps NoBlock w w' := by
  subst hz
  unfold rdr
  have hss : (strOfNums xs).size = xs.length := str_size xs
  go_enter Try.func79, Try.ntmps79
  go_wp2_with fail
  exact bodyPost_ret (v := .tuple #[rdr xs a 2, .string (strOfNums [])]) (by simp [results, Try.results79, go_sem, rdr]; rfl) rfl ⟨rfl, ((Keeps.refl _ _).alloc _).alloc _⟩

theorem take_ref_gone (xs : List Int) (a y z : Int) (hy : ¬ y = 0) (w : World) :
    Calls Try.prog 79 #[rdr xs a y, .int .i64 z] w fun e w' => e = .returned (.tuple #[rdr xs a y, .string (strOfNums [])]) ∧ Keeps NoBlock w w' := by
  unfold rdr
  go_enter Try.func79, Try.ntmps79
  go_wp2_with fail
  all_goals exact bodyPost_ret (v := .tuple #[rdr xs a y, .string (strOfNums [])]) (by simp [results, Try.results79, go_sem, rdr]; rfl) rfl ⟨rfl, ((Keeps.refl _ _).alloc _).alloc _⟩

theorem take_ref_none (xs : List Int) (a y z : Int) (hz : z ≤ 0) (w : World) :
    Calls Try.prog 79 #[rdr xs a y, .int .i64 z] w fun e w' => e = .returned (.tuple #[rdr xs a y, .string (strOfNums [])]) ∧ Keeps NoBlock w w' := by
  by_cases hy : y = 0
  case neg => exact take_ref_gone xs a y z hy w
  subst hy
  unfold rdr
  go_enter Try.func79, Try.ntmps79
  go_wp2_with fail
  all_goals exact bodyPost_ret (v := .tuple #[rdr xs a 0, .string (strOfNums [])]) (by simp [results, Try.results79, go_sem, rdr]; rfl) rfl ⟨rfl, ((Keeps.refl _ _).alloc _).alloc _⟩

theorem str_get (xs : List Int) (h : Octets xs) (k : Nat) (hk : k < (strOfNums xs).size) : (((strOfNums xs)[k].toNat : Nat) : Int) = xs.getD k 0 := by
  have hl : k < xs.length := by rwa [str_size] at hk
  have h1 : (strOfNums xs).data.toList[k]? = some ((strOfNums xs)[k]) := by
    rw [Array.getElem?_toList]
    exact Array.getElem?_eq_getElem hk
  rw [strOfNums_data, List.getElem?_map, List.getElem?_eq_getElem hl] at h1
  have e : UInt8.ofNat (xs[k]).toNat = (strOfNums xs)[k] := by simpa using h1
  have hb := h _ (List.getElem_mem hl)
  rw [← e, UInt8.toNat_ofNat', show xs.getD k 0 = xs[k] by simp [hl]]
  omega

theorem le_step (xs : List Int) (ho : Octets xs) (h8 : xs.length ≤ 8) (m : Nat) (hm : m < xs.length) :
    IntKind.u64.wrap (IntKind.u64.wrap (le (xs.drop (m + 1)) * 256) + IntKind.u64.wrap (xs.getD m 0)) = le (xs.drop m) := by
  have hd : xs.drop m = xs.getD m 0 :: xs.drop (m + 1) := by
    rw [List.drop_eq_getElem_cons hm]
    simp [hm]
  have hb := le_bound (xs.drop m) (ho.drop m)
  have hb2 := le_bound (xs.drop (m + 1)) (ho.drop (m + 1))
  have hg := ho.getD m
  have hp : (2 : Int) ^ (8 * (xs.drop m).length) ≤ 18446744073709551616 := by
    have h1 : 2 ^ (8 * (xs.drop m).length) ≤ 2 ^ 64 := Nat.pow_le_pow_right (by omega) (by rw [List.length_drop]; omega)
    have e : (2 : Int) ^ (8 * (xs.drop m).length) = ((2 ^ (8 * (xs.drop m).length) : Nat) : Int) := by push_cast; rfl
    rw [e]
    exact Int.le_trans (Int.ofNat_le.2 h1) (by decide)
  rw [hd] at hb ⊢
  rw [hd] at hp
  simp only [le] at hb ⊢
  obtain ⟨q, hq⟩ : ∃ q, q = le (xs.drop (m + 1)) := ⟨_, rfl⟩
  rw [← hq] at hb hb2 ⊢
  have h1 : xs.getD m 0 + 256 * q < 18446744073709551616 := Int.lt_of_lt_of_le hb.2 hp
  rw [IntKind.wrap_u64, IntKind.wrap_u64, IntKind.wrap_u64]
  omega

set_option maxHeartbeats 800000 in
set_option maxRecDepth 10000 in
theorem value_ref (xs : List Int) (ho : Octets xs) (h8 : xs.length ≤ 8) (w : World) :
    Calls Try.prog 37 #[.string (strOfNums xs)] w fun e w' => e = .returned (.int .u64 (le xs)) ∧ w = w' := by
  have HO := Lib.hid ho
  have hss : (strOfNums xs).size = xs.length := str_size xs
  obtain ⟨n, hn⟩ : ∃ n, n = xs.length := ⟨_, rfl⟩
  have HN := Lib.hid hn
  rw [← hn] at hss h8
  clear ho hn
  go_enter Try.func37, Try.ntmps37
  go_wp2
  go_loop [3, 4] (fun x i => ∃ k : Nat, k ≤ n ∧ i = .int .i64 ((k : Int) - 1) ∧ x = .int .u64 (le (xs.drop k))) (fun _ i => (intOf i + 1).toNat)
  case atStart => exact ⟨n, Nat.le_refl _, rfl, by rw [HN.out]; simp [le]⟩
  case round =>
    obtain ⟨k, hk, rfl, rfl⟩ := hrel
    by_cases hlt : 1 ≤ k
    · obtain ⟨m, rfl⟩ : ∃ m, k = m + 1 := ⟨k - 1, by omega⟩
      have hi : ((m + 1 : Nat) : Int) - 1 = (m : Int) := by omega
      rw [hi]
      go_wp2
      go_round
      case rel =>
        refine ⟨m, by omega, rfl, congrArg (Value.int IntKind.u64) ?_⟩
        rw [str_get xs HO.out m (by omega)]
        exact le_step xs HO.out (by have := HN.out; omega) m (by have := HN.out; omega)
      case measure => simp [intOf]
    · obtain rfl : k = 0 := by omega
      go_wp2
      go_ret
      exact ⟨by simp, rfl⟩

set_option maxHeartbeats 2000000 in
set_option maxRecDepth 10000 in
theorem get1_ref (xs : List Int) (a z : Int) (n : Nat) (hz : z = n) (hn : 0 < n) (hle : n ≤ xs.length) (h8 : n ≤ 8) (hl : xs.length ≤ 140737488355328) (ha : 0 ≤ a ∧ a ≤ 140737488355328) (ho : Octets xs) (w : World) :
    Calls Try.prog 48 #[rdr xs a 0, .int .i64 z] w fun e w' => e = .returned (.tuple #[rdr (xs.drop n) (a + n) 0, .int .u64 (le (xs.take n))]) ∧ Keeps NoBlock w w' := by
  have HT := Lib.hid (take_ref xs a z n hz hn hle hl ha)
  have HV := Lib.hid (value_ref (xs.take n) (ho.take n) (by simp; omega))
  clear hz hn hle h8 hl ha ho
  unfold rdr at *
  go_enter Try.func48, Try.ntmps48
  go_wp2_with fail
  refine (HT.out _).mono ?_
  rintro e w1 ⟨rfl, hk⟩
  have hb : Whole w1 (w.heap.size + 1) 79 #[.string { data := #[] }, .int .i64 0, .int .i64 0] := (Whole.newAt _ _ _ _ (by simp)).keep hk (fun h => h)
  obtain ⟨W, hW⟩ : ∃ W, W = w1.alloc (.cells #[.string (strOfNums (xs.drop n)), .int .i64 (a + n), .int .i64 0] 79) := ⟨_, rfl⟩
  have hbW : Whole W (w.heap.size + 1) 79 #[.string { data := #[] }, .int .i64 0, .int .i64 0] := by rw [hW]; exact hb.alloc _
  have hsW : Whole W w1.heap.size 79 #[.string (strOfNums (xs.drop n)), .int .i64 (a + n), .int .i64 0] := by rw [hW]; exact Whole.new _ _ _
  have hkW : Keeps NoBlock w W := by rw [hW]; exact ((((Keeps.refl _ w).alloc _).alloc _).trans hk).alloc _
  have c0 := hbW.cell 0 rfl
  have c1 := hbW.cell 1 rfl
  have c2 := hbW.cell 2 rfl
  have f0 := hbW.free 0
  have f1 := hbW.free 1
  have f2 := hbW.free 2
  have d0 := hsW.cell 0 rfl
  have d1 := hsW.cell 1 rfl
  have d2 := hsW.cell 2 rfl
  simp only [List.getElem_toArray, List.getElem_cons_zero, List.getElem_cons_succ] at c0 c1 c2 d0 d1 d2
  have HK := Lib.hid hkW
  clear hk HT hb hbW hsW hkW
  go_wp2_with fail
  rw [← hW]
  have HW := Lib.hid hW
  clear hW
  go_region_with (go_at_call 37; refine (HV.out _).mono ?_; rintro e w2 ⟨rfl, rfl⟩)
  all_goals
    go_wp2_with fail
    refine bodyPost_ret (v := .tuple #[rdr (xs.drop n) (a + n) 0, .int .u64 (le (xs.take n))]) (by simp [results, Try.results48, go_sem, rdr, c0, c1, c2]) rfl ⟨rfl, ?_⟩
    have hk3 := (((HK.out.setNew (g := w.heap.size + 1) (by omega) 0 (.string (strOfNums (xs.drop n)))).setNew (g := w.heap.size + 1) (by omega) 1 (.int .i64 (a + n))).setNew (g := w.heap.size + 1) (by omega) 2 (.int .i64 0)).drew
    have hk4 := (((HK.out.drew.setNew (g := w.heap.size + 1) (by omega) 0 (.string (strOfNums (xs.drop n)))).setNew (g := w.heap.size + 1) (by omega) 1 (.int .i64 (a + n))).setNew (g := w.heap.size + 1) (by omega) 2 (.int .i64 0))
    first | exact hk3 | exact hk4 | exact hk4.drew

set_option maxHeartbeats 2000000 in
set_option maxRecDepth 10000 in
theorem get1_ref_short (xs : List Int) (a z : Int) (n : Nat) (hz : z = n) (hn : 0 < n) (hle : xs.length < n) (w : World) :
    Calls Try.prog 48 #[rdr xs a 0, .int .i64 z] w fun e w' => e = .returned (.tuple #[rdr xs a 2, .int .u64 0]) ∧ Keeps NoBlock w w' := by
  have HT := Lib.hid (take_ref_short xs a z n hz hn hle)
  have HV := Lib.hid (value_ref [] (fun b hb => by simp at hb) (by simp))
  clear hz hn hle
  unfold rdr at *
  go_enter Try.func48, Try.ntmps48
  go_wp2_with fail
  refine (HT.out _).mono ?_
  rintro e w1 ⟨rfl, hk⟩
  have hb : Whole w1 (w.heap.size + 1) 79 #[.string { data := #[] }, .int .i64 0, .int .i64 0] := (Whole.newAt _ _ _ _ (by simp)).keep hk (fun h => h)
  obtain ⟨W, hW⟩ : ∃ W, W = w1.alloc (.cells #[.string (strOfNums xs), .int .i64 a, .int .i64 2] 79) := ⟨_, rfl⟩
  have hbW : Whole W (w.heap.size + 1) 79 #[.string { data := #[] }, .int .i64 0, .int .i64 0] := by rw [hW]; exact hb.alloc _
  have hsW : Whole W w1.heap.size 79 #[.string (strOfNums xs), .int .i64 a, .int .i64 2] := by rw [hW]; exact Whole.new _ _ _
  have hkW : Keeps NoBlock w W := by rw [hW]; exact ((((Keeps.refl _ w).alloc _).alloc _).trans hk).alloc _
  have c0 := hbW.cell 0 rfl
  have c1 := hbW.cell 1 rfl
  have c2 := hbW.cell 2 rfl
  have f0 := hbW.free 0
  have f1 := hbW.free 1
  have f2 := hbW.free 2
  have d0 := hsW.cell 0 rfl
  have d1 := hsW.cell 1 rfl
  have d2 := hsW.cell 2 rfl
  simp only [List.getElem_toArray, List.getElem_cons_zero, List.getElem_cons_succ] at c0 c1 c2 d0 d1 d2
  have HK := Lib.hid hkW
  clear hk HT hb hbW hsW hkW
  go_wp2_with fail
  rw [← hW]
  have HW := Lib.hid hW
  clear hW
  go_region_with (go_at_call 37; refine (HV.out _).mono ?_; rintro e w2 ⟨rfl, rfl⟩)
  all_goals
    go_wp2_with fail
    refine bodyPost_ret (v := .tuple #[rdr xs a 2, .int .u64 0]) (by simp [results, Try.results48, go_sem, rdr, c0, c1, c2, le]) rfl ⟨rfl, ?_⟩
    have hk3 := (((HK.out.setNew (g := w.heap.size + 1) (by omega) 0 (.string (strOfNums xs))).setNew (g := w.heap.size + 1) (by omega) 1 (.int .i64 a)).setNew (g := w.heap.size + 1) (by omega) 2 (.int .i64 2)).drew
    have hk4 := (((HK.out.drew.setNew (g := w.heap.size + 1) (by omega) 0 (.string (strOfNums xs))).setNew (g := w.heap.size + 1) (by omega) 1 (.int .i64 a)).setNew (g := w.heap.size + 1) (by omega) 2 (.int .i64 2))
    first | exact hk3 | exact hk4 | exact hk4.drew
end Go.Proofs.Ytjjeaaiajgbncaa

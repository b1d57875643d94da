/-
  A record's body over plain numbers, as chapter 7 has it.
-/
import Derived.Test.YtbchiccgkhnkaaaVarNum
namespace Go.Proofs.Ytbchiccgkhnkaaa

/-- A record: is it deleted, its Seq, the bytes of its Key and Value. -/
structure Rec where
  del : Bool
  seq : Nat
  key : List Int
  val : List Int

def Rec.none : Rec := ⟨false, 0, [], []⟩
/-- What a program's record is. -/
structure Rec.Fine (r : Rec) : Prop where
  seq : r.seq < 18446744073709551616
  key : Octets r.key
  val : Octets r.val

/-- May it be? The error's number. -/
def checkR (r : Rec) : Int :=
  if r.key.length = 0 then 4
  else if 4096 < r.key.length then 3
  else if r.del = true ∧ 0 < r.val.length then 4
  else if 1048576 < r.val.length then 3
  else 0

def textB (xs : List Int) : List Int := vnum xs.length ++ xs
def bodyR (r : Rec) : List Int :=
  if r.del then 3 :: (vnum r.seq ++ textB r.key) else 2 :: (vnum r.seq ++ textB r.key ++ textB r.val)

/-- What a reading of a text comes to: why it stops, how many bytes were read, the text. -/
structure VT where
  e : Int
  n : Nat
  t : List Int
def vtext (xs : List Int) (least most : Nat) : VT :=
  if (vget xs).e ≠ 0 then ⟨(vget xs).e, (vget xs).n, []⟩
  else if (most : Int) < (vget xs).x then ⟨3, (vget xs).n, []⟩
  else if (vget xs).x < (least : Int) then ⟨4, (vget xs).n, []⟩
  else if (xs.drop (vget xs).n).length < (vget xs).x.toNat then ⟨2, (vget xs).n, []⟩
  else ⟨0, (vget xs).n + (vget xs).x.toNat, (xs.drop (vget xs).n).take (vget xs).x.toNat⟩

/-- Of what was read of a Value: what is wrong behind it, or the record. -/
def readEnd (del : Bool) (seq : Nat) (key val rest : List Int) : Int × Rec :=
  if rest = [] then (0, ⟨del, seq, key, val⟩) else (3, Rec.none)
def readKey (k : Int) (seq : Nat) (xs : List Int) : Int × Rec :=
  if (vtext xs 1 4096).e ≠ 0 then ((vtext xs 1 4096).e, Rec.none)
  else if k = 3 then readEnd true seq (vtext xs 1 4096).t [] (xs.drop (vtext xs 1 4096).n)
  else if (vtext (xs.drop (vtext xs 1 4096).n) 0 1048576).e ≠ 0 then ((vtext (xs.drop (vtext xs 1 4096).n) 0 1048576).e, Rec.none)
  else readEnd false seq (vtext xs 1 4096).t (vtext (xs.drop (vtext xs 1 4096).n) 0 1048576).t ((xs.drop (vtext xs 1 4096).n).drop (vtext (xs.drop (vtext xs 1 4096).n) 0 1048576).n)
/-- The record of a body. -/
def readKind (k : Int) (xs : List Int) : Int × Rec :=
  if k ≠ 2 ∧ k ≠ 3 then (4, Rec.none)
  else if (vget xs).e ≠ 0 then ((vget xs).e, Rec.none)
  else readKey k (vget xs).x.toNat (xs.drop (vget xs).n)
def readR : List Int → Int × Rec
  | [] => (2, Rec.none)
  | k :: xs => readKind k xs

theorem vtext_of {t : List Int} (r : List Int) (least most : Nat) (hl : least ≤ t.length) (hm : t.length ≤ most) (h64 : t.length < 18446744073709551616) : vtext (textB t ++ r) least most = ⟨0, (textB t).length, t⟩ := by
  have hg : vget (textB t ++ r) = ⟨0, (vnum t.length).length, (t.length : Int)⟩ := by
    unfold textB
    rw [List.append_assoc]
    exact vget_vnum t.length _ h64
  unfold vtext
  rw [hg]
  have hd : (textB t ++ r).drop (vnum t.length).length = t ++ r := by
    unfold textB
    rw [List.append_assoc, List.drop_left]
  have h1 : ¬ (most : Int) < (t.length : Int) := by omega
  have h2 : ¬ (t.length : Int) < (least : Int) := by omega
  simp only [ne_eq, not_true_eq_false, if_false]
  rw [if_neg h1, if_neg h2, hd, Int.toNat_natCast, if_neg (by rw [List.length_append]; omega), List.take_left]
  congr 1
  unfold textB
  rw [List.length_append]

theorem readR_body {r : Rec} (hf : r.Fine) (h : checkR r = 0) : readR (bodyR r) = (0, r) := by
  obtain ⟨del, seq, key, val⟩ := r
  obtain ⟨h64, hk, hv⟩ := hf
  simp only at h64 hk hv
  unfold checkR at h
  simp only at h
  have h1 : ¬ key.length = 0 := fun e => by rw [if_pos e] at h; omega
  rw [if_neg h1] at h
  have h2 : ¬ 4096 < key.length := fun e => by rw [if_pos e] at h; omega
  rw [if_neg h2] at h
  have h3 : ¬ (del = true ∧ 0 < val.length) := fun e => by rw [if_pos e] at h; omega
  rw [if_neg h3] at h
  have h4 : ¬ 1048576 < val.length := fun e => by rw [if_pos e] at h; omega
  cases del with
  | true =>
    have hv0 : val = [] := List.length_eq_zero_iff.1 (Nat.eq_zero_of_not_pos (fun e => h3 ⟨rfl, e⟩))
    subst hv0
    have hg : vget (vnum seq ++ textB key) = ⟨0, (vnum seq).length, (seq : Int)⟩ := vget_vnum seq _ h64
    have ht := vtext_of (t := key) [] 1 4096 (by omega) (by omega) (by omega)
    rw [List.append_nil] at ht
    show readKind 3 (vnum seq ++ textB key) = _
    unfold readKind
    rw [if_neg (by decide), hg]
    simp only [ne_eq, not_true_eq_false, if_false, Int.toNat_natCast]
    rw [List.drop_left]
    unfold readKey
    rw [ht]
    simp only [ne_eq, not_true_eq_false, if_false, if_true]
    unfold readEnd
    rw [List.drop_length, if_pos rfl]
  | false =>
    have hg : vget (vnum seq ++ (textB key ++ textB val)) = ⟨0, (vnum seq).length, (seq : Int)⟩ := vget_vnum seq _ h64
    have ht := vtext_of (t := key) (textB val) 1 4096 (by omega) (by omega) (by omega)
    have ht2 := vtext_of (t := val) [] 0 1048576 (by omega) (by omega) (by omega)
    rw [List.append_nil] at ht2
    show readKind 2 (vnum seq ++ textB key ++ textB val) = _
    unfold readKind
    rw [if_neg (by decide), List.append_assoc, hg]
    simp only [ne_eq, not_true_eq_false, if_false, Int.toNat_natCast]
    rw [List.drop_left]
    unfold readKey
    rw [ht]
    simp only [ne_eq, not_true_eq_false, if_false]
    rw [if_neg (by decide), List.drop_left, ht2]
    simp only [not_true_eq_false, if_false]
    unfold readEnd
    rw [List.drop_length, if_pos rfl]

/-- Of a text that was read: its bytes. -/
theorem vtext_only {xs : List Int} (ho : Octets xs) {least most : Nat} (h : (vtext xs least most).e = 0) : xs = textB (vtext xs least most).t ++ xs.drop (vtext xs least most).n ∧ least ≤ (vtext xs least most).t.length ∧ (vtext xs least most).t.length ≤ most ∧ (vtext xs least most).n ≤ xs.length := by
  have key := h
  unfold vtext at key
  by_cases h1 : (vget xs).e ≠ 0
  · rw [if_pos h1] at key; exact absurd key h1
  · have h1' : (vget xs).e = 0 := by simpa using h1
    have hb := vread_bound 9 true xs ho h1'
    have ho2 := (vread_only 9 true xs ho h1').1
    rw [show vread (9 + 1) true xs = vget xs from rfl] at hb ho2
    rw [if_neg h1] at key
    by_cases h2 : (most : Int) < (vget xs).x
    · rw [if_pos h2] at key; exact absurd key (by simp)
    · rw [if_neg h2] at key
      by_cases h3 : (vget xs).x < (least : Int)
      · rw [if_pos h3] at key; exact absurd key (by simp)
      · rw [if_neg h3] at key
        by_cases h4 : (xs.drop (vget xs).n).length < (vget xs).x.toNat
        · rw [if_pos h4] at key; exact absurd key (by simp)
        · have e : vtext xs least most = ⟨0, (vget xs).n + (vget xs).x.toNat, (xs.drop (vget xs).n).take (vget xs).x.toNat⟩ := by
            unfold vtext
            rw [if_neg h1, if_neg h2, if_neg h3, if_neg h4]
          rw [e]
          simp only
          have hl : ((xs.drop (vget xs).n).take (vget xs).x.toNat).length = (vget xs).x.toNat := by rw [List.length_take]; omega
          have hnx : (vget xs).n ≤ xs.length := by
            have := vread_n 10 true xs
            exact this
          refine ⟨?_, by omega, by omega, by rw [List.length_drop] at h4; omega⟩
          unfold textB
          rw [hl, ← ho2, ← List.drop_drop, List.append_assoc, List.take_append_drop, List.take_append_drop]

theorem readR_only {xs : List Int} (ho : Octets xs) {r : Rec} (h : readR xs = (0, r)) : r.Fine ∧ checkR r = 0 ∧ bodyR r = xs := by
  cases xs with
  | nil => simp [readR] at h
  | cons k xs =>
    have hor : Octets xs := fun b hb => ho b (List.mem_cons_of_mem _ hb)
    rw [show readR (k :: xs) = readKind k xs from rfl] at h
    unfold readKind at h
    by_cases h1 : k ≠ 2 ∧ k ≠ 3
    · rw [if_pos h1] at h; simp at h
    · rw [if_neg h1] at h
      by_cases h2 : (vget xs).e ≠ 0
      · rw [if_pos h2] at h
        exact absurd (congrArg Prod.fst h) h2
      · rw [if_neg h2] at h
        have h2' : (vget xs).e = 0 := by simpa using h2
        have hb := vread_bound 9 true xs hor h2'
        have ho2 := (vread_only 9 true xs hor h2').1
        rw [show vread (9 + 1) true xs = vget xs from rfl] at hb ho2
        have hs64 : (vget xs).x.toNat < 18446744073709551616 := by
          have := Int.lt_of_lt_of_le hb.2 (show (2 : Int) ^ 64 ≤ 18446744073709551616 by decide)
          omega
        obtain ⟨s, hs⟩ : ∃ s, s = (vget xs).x.toNat := ⟨_, rfl⟩
        obtain ⟨ys, hys⟩ : ∃ ys, ys = xs.drop (vget xs).n := ⟨_, rfl⟩
        have hxs : xs = vnum s ++ ys := by
          rw [hs, hys, ← ho2, List.take_append_drop]
        rw [← hs] at h hs64
        rw [← hys] at h
        have hoy : Octets ys := by rw [hys]; exact hor.drop _
        clear ho2 hb
        unfold readKey at h
        by_cases h3 : (vtext ys 1 4096).e ≠ 0
        · rw [if_pos h3] at h
          exact absurd (congrArg Prod.fst h) h3
        · have h3' : (vtext ys 1 4096).e = 0 := by simpa using h3
          obtain ⟨e1, l1, m1, n1⟩ := vtext_only hoy h3'
          rw [if_neg h3] at h
          obtain ⟨t, ht⟩ : ∃ t, t = (vtext ys 1 4096).t := ⟨_, rfl⟩
          obtain ⟨zs, hzs⟩ : ∃ zs, zs = ys.drop (vtext ys 1 4096).n := ⟨_, rfl⟩
          rw [← ht] at h e1 l1 m1
          rw [← hzs] at h e1
          have hoz : Octets zs := by rw [hzs]; exact hoy.drop _
          have hot : Octets t := fun b hb => hoy b (by rw [e1]; unfold textB; simp [hb])
          by_cases h4 : k = 3
          · rw [if_pos h4] at h
            unfold readEnd at h
            by_cases h5 : zs = []
            · rw [if_pos h5] at h
              obtain rfl : (⟨true, s, t, []⟩ : Rec) = r := congrArg Prod.snd h
              refine ⟨⟨hs64, hot, fun b hb => by simp at hb⟩, ?_, ?_⟩
              · unfold checkR
                simp only [List.length_nil]
                rw [if_neg (by omega), if_neg (by omega), if_neg (by simp), if_neg (by decide)]
              · show 3 :: (vnum s ++ textB t) = _
                rw [h4, hxs, e1, h5, List.append_nil]
            · rw [if_neg h5] at h
              exact absurd (congrArg Prod.fst h) (by simp)
          · rw [if_neg h4] at h
            by_cases h6 : (vtext zs 0 1048576).e ≠ 0
            · rw [if_pos h6] at h
              exact absurd (congrArg Prod.fst h) h6
            · have h6' : (vtext zs 0 1048576).e = 0 := by simpa using h6
              obtain ⟨e2, l2, m2, n2⟩ := vtext_only hoz h6'
              rw [if_neg h6] at h
              unfold readEnd at h
              by_cases h5 : zs.drop (vtext zs 0 1048576).n = []
              · rw [if_pos h5] at h
                rw [h5, List.append_nil] at e2
                obtain ⟨u, hu⟩ : ∃ u, u = (vtext zs 0 1048576).t := ⟨_, rfl⟩
                rw [← hu] at h e2 m2
                have hou : Octets u := fun b hb => hoz b (by rw [e2]; unfold textB; simp [hb])
                obtain rfl : (⟨false, s, t, u⟩ : Rec) = r := congrArg Prod.snd h
                refine ⟨⟨hs64, hot, hou⟩, ?_, ?_⟩
                · unfold checkR
                  simp only
                  rw [if_neg (by omega), if_neg (by omega), if_neg (by simp), if_neg (by omega)]
                · show 2 :: (vnum s ++ textB t ++ textB u) = _
                  rw [show k = 2 by omega, hxs, e1, e2, List.append_assoc]
              · rw [if_neg h5] at h
                exact absurd (congrArg Prod.fst h) (by simp)

/-- May records stand behind one another? -/
def risesR : List Rec → Bool
  | [] => true
  | [_] => true
  | a :: b :: l => decide (a.seq < b.seq) && risesR (b :: l)
def firstBad : List Rec → Int
  | [] => 0
  | r :: l => if checkR r = 0 then firstBad l else checkR r
def risingR (l : List Rec) : Int := if firstBad l ≠ 0 then firstBad l else if risesR l then 0 else 8

theorem firstBad_zero : ∀ {l : List Rec}, firstBad l = 0 ↔ ∀ r ∈ l, checkR r = 0
  | [] => by simp [firstBad]
  | a :: l => by
    unfold firstBad
    by_cases h : checkR a = 0
    · rw [if_pos h, firstBad_zero]
      simp [h]
    · rw [if_neg h]
      simp [h]
theorem rises_pair : ∀ {l : List Rec}, risesR l = true ↔ l.Pairwise (fun a b => a.seq < b.seq)
  | [] => by simp [risesR]
  | [a] => by simp [risesR]
  | a :: b :: l => by
    unfold risesR
    rw [Bool.and_eq_true, rises_pair, decide_eq_true_eq]
    constructor
    · rintro ⟨h1, h2⟩
      refine List.Pairwise.cons ?_ h2
      intro c hc
      rcases List.mem_cons.1 hc with rfl | hc
      · exact h1
      · exact Nat.lt_trans h1 ((List.pairwise_cons.1 h2).1 c hc)
    · intro h
      obtain ⟨h1, h2⟩ := List.pairwise_cons.1 h
      exact ⟨h1 b List.mem_cons_self, h2⟩
theorem risingR_zero {l : List Rec} : risingR l = 0 ↔ firstBad l = 0 ∧ risesR l = true := by
  unfold risingR
  by_cases h : firstBad l = 0
  · rw [if_neg (by simpa using h)]
    by_cases h2 : risesR l = true
    · rw [if_pos h2]
      simp [h, h2]
    · rw [if_neg h2]
      simp [h2]
  · rw [if_pos h]
    simp [h]
/-- Some of rows that may stand behind one another may, too. -/
theorem risingR_part {l m : List Rec} (h : risingR l = 0) (hs : m.Sublist l) : risingR m = 0 := by
  obtain ⟨h1, h2⟩ := risingR_zero.1 h
  refine risingR_zero.2 ⟨firstBad_zero.2 fun r hr => firstBad_zero.1 h1 r (hs.subset hr), rises_pair.2 ((rises_pair.1 h2).sublist hs)⟩
theorem textB_octets {t : List Int} (h : Octets t) : Octets (textB t) := fun b hb => by
  unfold textB at hb
  rcases List.mem_append.1 hb with h1 | h1
  · exact vnum_octets _ b h1
  · exact h b h1
theorem bodyR_octets {r : Rec} (h : r.Fine) : Octets (bodyR r) := fun b hb => by
  unfold bodyR at hb
  cases hd : r.del with
  | true =>
    rw [hd, if_pos rfl, List.mem_cons, List.mem_append] at hb
    rcases hb with rfl | h1 | h1
    · exact ⟨by decide, by decide⟩
    · exact vnum_octets _ b h1
    · exact textB_octets h.key b h1
  | false =>
    rw [hd, if_neg (by simp), List.mem_cons, List.mem_append, List.mem_append] at hb
    rcases hb with rfl | (h1 | h1) | h1
    · exact ⟨by decide, by decide⟩
    · exact vnum_octets _ b h1
    · exact textB_octets h.key b h1
    · exact textB_octets h.val b h1
end Go.Proofs.Ytbchiccgkhnkaaa

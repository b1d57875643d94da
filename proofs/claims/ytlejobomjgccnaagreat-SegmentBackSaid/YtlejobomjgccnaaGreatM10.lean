/-
  FenGetN; FenGetT; FtNum; PkNum; SgNum; SgRoom.
-/
import Derived.Test.YtlejobomjgccnaaGreatM01
import Derived.Test.YtlejobomjgccnaaGreatM03
import Derived.Test.YtlejobomjgccnaaGreatM04
import Derived.Test.YtlejobomjgccnaaGreatM06
import Derived.Test.YtlejobomjgccnaaGreatM09
namespace Go.Proofs.YtlejobomjgccnaaGreat
open Go.RowKit

theorem NumsSoFar.setOther {w0 wr : World} {l : List Nat} {v : Value} (h : NumsSoFar w0 l v wr) {p : Addr} (hp : v.ownBlock ≠ some p.block) (hb : w0.heap.size ≤ p.block) (x : Value) : NumsSoFar w0 l v (wr.setCell p x) :=
  ⟨ownsRow_setCell_other h.1 hp _, h.2.setCell hb _⟩
theorem NumsSoFar.set3 {w0 wr : World} {l : List Nat} {v : Value} (h : NumsSoFar w0 l v wr) {g : Nat} (hp : v.ownBlock ≠ some g) (hb : w0.heap.size ≤ g) (x y z : Value) : NumsSoFar w0 l v (((wr.setCell ⟨g, 0, none⟩ x).setCell ⟨g, 1, none⟩ y).setCell ⟨g, 2, none⟩ z) :=
  ((h.setOther hp hb x).setOther hp hb y).setOther hp hb z

end Go.Proofs.YtlejobomjgccnaaGreat

namespace Go.Proofs.YtlejobomjgccnaaGreat

end Go.Proofs.YtlejobomjgccnaaGreat

namespace Go.Proofs.YtlejobomjgccnaaGreat

/-- A footer: where its frame begins, and which keys stand where. -/
structure Ft where
  used : Nat
  tab : List En
def Ft.none : Ft := ⟨0, []⟩
structure Ft.Fine (f : Ft) : Prop where
  used : f.used < 4294967296
  tab : ∀ e ∈ f.tab, e.Fine
def belowFt (f : Ft) : Bool := f.tab.all fun e => decide (e.at_ < f.used)
def checkFt (f : Ft) : Int :=
  if f.tab.length < 1 then 4 else if 1048576 < f.tab.length then 3 else if risesE f.tab = true then (if belowFt f = true then 0 else 4) else 8
def bodyFt (f : Ft) : List Int := 4 :: (digits (f.tab.length : Int) 4 ++ (digits (f.used : Int) 4 ++ (textE f.tab ++ textF (ofF f.tab))))
def putFt (f : Ft) : List Int := if checkFt f = 0 then sealN (bodyFt f) else []
def bodyLen (n : Nat) : Nat := 9 + 12 * n + 8 * countF (n : Int)
def mostFt (n : Nat) : Nat := sizeN (bodyLen n)
/-- What a reading of a footer comes to. -/
structure GFt where
  y : Int
  f : Ft
theorem checkFt_ok {f : Ft} : checkFt f = 0 ↔ 1 ≤ f.tab.length ∧ f.tab.length ≤ 1048576 ∧ risesE f.tab = true ∧ belowFt f = true := by
  unfold checkFt
  constructor
  · intro h
    split at h
    · exact absurd h (by decide)
    · split at h
      · exact absurd h (by decide)
      · split at h
        · split at h
          · rename_i a b c d
            exact ⟨by omega, by omega, c, d⟩
          · exact absurd h (by decide)
        · exact absurd h (by decide)
  · rintro ⟨a, b, c, d⟩
    rw [if_neg (by omega), if_neg (by omega), if_pos c, if_pos d]

theorem bodyFt_length (f : Ft) : (bodyFt f).length = bodyLen f.tab.length := by
  unfold bodyFt bodyLen countF
  simp only [List.length_cons, List.length_append, digits_length, textE_length, textF_length, ofF_length, Int.toNat_natCast]
  omega
theorem bodyFt_octets {f : Ft} : Octets (bodyFt f) := by
  unfold bodyFt
  intro b hb
  rcases List.mem_cons.1 hb with rfl | hb
  · decide
  · exact ((digits_octets _ 4).app ((digits_octets _ 4).app ((textE_octets _).app (textF_octets _)))) b hb
theorem bodyLen_le (n : Nat) : bodyLen n ≤ 17 + 13 * n := by
  unfold bodyLen countF
  rw [Int.toNat_natCast]
  omega
end Go.Proofs.YtlejobomjgccnaaGreat

namespace Go.Proofs.YtlejobomjgccnaaGreat

/-- A room: its config's Exp and Segments, its number, how many bytes its frames have, how many records. -/
structure Rm where
  e : Nat
  s : Nat
  num : Nat
  used : Nat
  count : Nat
def Rm.none : Rm := ⟨0, 0, 0, 0, 0⟩
def headLen (e s n : Nat) : Nat := (sealN (headB e s n)).length
def emptyP (e s n : Nat) : Rm := ⟨e, s, n, headLen e s n, 0⟩
def fitsP (r : Rm) (z : Int) : Bool := decide (1 ≤ z) && decide ((r.used : Int) + z + (mostFt (r.count + 1) : Int) ≤ ((2 ^ r.e : Nat) : Int))
def takeP (r : Rm) (z : Int) : Rm := ⟨r.e, r.s, r.num, r.used + z.toNat, r.count + 1⟩
def leftP (r : Rm) : Nat := 2 ^ r.e - (r.used + mostFt (r.count + 1))
def largeP (e s : Nat) (z : Int) : Bool := !(mayC e s) || !(fitsP (emptyP e s (s - 1)) z)
/-- A room that can be. -/
structure Rm.Real (r : Rm) : Prop where
  may : mayHead r.e r.s r.num = true
  head : headLen r.e r.s r.num + r.count ≤ r.used
  first : r.count = 0 → r.used = headLen r.e r.s r.num
  room : r.count ≠ 0 → r.used + mostFt r.count ≤ 2 ^ r.e
  few : r.count ≤ 10000

theorem headLen_eq (e s n : Nat) (hs : s < 18446744073709551616) (hn : n < 18446744073709551616) : headLen e s n = 13 + (vnum s).length + (vnum n).length := by
  have hb : (headB e s n).length = 3 + (vnum s).length + (vnum n).length := by
    unfold headB
    simp only [List.length_cons, List.length_append]
    omega
  have h1 := chunk_long (headB e s n)
  obtain ⟨h2, h3⟩ := seal_length (headB e s n)
  have h4 := headB_length (e := e) hs hn
  unfold headLen
  have h5 : sizeN (headB e s n).length = (headB e s n).length + 10 := by
    unfold sizeN mostOf
    rw [if_neg (by omega)]
    omega
  omega
theorem headLen_le {e s n : Nat} (hs : s < 18446744073709551616) (hn : n < 18446744073709551616) : 15 ≤ headLen e s n ∧ headLen e s n ≤ 33 := by
  have h1 := vnum_pos s
  have h2 := vnum_pos n
  have h3 := vnum_ten hs
  have h4 := vnum_ten hn
  rw [headLen_eq e s n hs hn]
  omega
theorem mostFt_lin (k : Nat) : mostFt k ≤ 40 + 14 * k := by
  unfold mostFt sizeN mostOf bodyLen countF
  simp only [Int.toNat_natCast]
  rw [if_neg (by omega)]
  omega
theorem mostFt_pos (k : Nat) : 1 ≤ mostFt k := by
  unfold mostFt sizeN
  omega
theorem mostFt_mono1 (k : Nat) : mostFt k < mostFt (k + 1) := by
  unfold mostFt sizeN mostOf bodyLen countF
  simp only [Int.toNat_natCast]
  rw [if_neg (by omega), if_neg (by omega)]
  omega
theorem fitsP_true {r : Rm} {z : Int} : fitsP r z = true ↔ 1 ≤ z ∧ (r.used : Int) + z + (mostFt (r.count + 1) : Int) ≤ ((2 ^ r.e : Nat) : Int) := by
  unfold fitsP
  rw [Bool.and_eq_true, decide_eq_true_iff, decide_eq_true_iff]
theorem fitsP_left (r : Rm) (z : Int) : fitsP r z = true ↔ 1 ≤ z ∧ z ≤ (leftP r : Int) := by
  rw [fitsP_true]
  unfold leftP
  obtain ⟨p, hp⟩ : ∃ p, p = 2 ^ r.e := ⟨_, rfl⟩
  rw [← hp]
  omega
theorem real_empty {e s n : Nat} (h : mayHead e s n = true) : (emptyP e s n).Real :=
  ⟨h, Nat.le_refl _, fun _ => rfl, fun h => absurd rfl h, by show 0 ≤ _; omega⟩
theorem real_take {r : Rm} (h : r.Real) {z : Int} (hz : fitsP r z = true) (hc : r.count < 10000) : (takeP r z).Real := by
  obtain ⟨h1, h2⟩ := fitsP_true.1 hz
  refine ⟨h.may, ?_, fun h0 => ?_, fun _ => ?_, ?_⟩
  · have := h.head
    show _ + (r.count + 1) ≤ r.used + z.toNat
    show headLen r.e r.s r.num + (r.count + 1) ≤ r.used + z.toNat
    omega
  · exact absurd h0 (by show ¬ r.count + 1 = 0; omega)
  · show r.used + z.toNat + mostFt (r.count + 1) ≤ 2 ^ r.e
    obtain ⟨p, hp⟩ : ∃ p, p = 2 ^ r.e := ⟨_, rfl⟩
    rw [← hp] at h2 ⊢
    omega
  · show r.count + 1 ≤ 10000
    omega
theorem Rm.Real.small {r : Rm} (h : r.Real) : r.e ≤ 24 ∧ r.used ≤ 16777216 ∧ r.s ≤ 65536 ∧ r.num < r.s := by
  obtain ⟨a, b, c, d, f⟩ := mayHead_true.1 h.may
  have := (two_e b).2
  refine ⟨b, ?_, d, f⟩
  by_cases h0 : r.count = 0
  · rw [h.first h0]
    have := (headLen_le (e := r.e) (s := r.s) (n := r.num) (by omega) (by omega)).2
    omega
  · have := h.room h0
    omega
end Go.Proofs.YtlejobomjgccnaaGreat

namespace Go.Proofs.YtlejobomjgccnaaGreat

/-- The frames of a head and of records, one behind the other. -/
def recB (r : Rec) : List Int := sealN (bodyR r)
def recsB (l : List Rec) : List Int := l.flatMap recB
def outS (e s n : Nat) (l : List Rec) : List Int := sealN (headB e s n) ++ recsB l
/-- A footer's entries for them. -/
def entsGo : Nat → List Rec → List En
  | _, [] => []
  | at_, r :: l => ⟨(wxxh 0 r.key).toNat, at_⟩ :: entsGo (at_ + (recB r).length) l
def entsS (e s n : Nat) (l : List Rec) : List En := entsGo (headLen e s n) l
def footS (e s n : Nat) (l : List Rec) : List Int := sealN (bodyFt ⟨(outS e s n l).length, sortE (entsS e s n l)⟩)
def framesS (e s n : Nat) (l : List Rec) (seal_ : Bool) : List Int := outS e s n l ++ (if seal_ = true then footS e s n l else [])
/-- A whole segment. -/
def textS (e s n : Nat) (l : List Rec) (seal_ : Bool) : List Int := framesS e s n l seal_ ++ List.replicate (2 ^ e - (framesS e s n l seal_).length) 255

/-- The chunks of bytes that a nought ends. -/
def chunksGo : List Int → List Int → List (List Int)
  | _, [] => []
  | cur, b :: r => if b = 0 then cur :: chunksGo [] r else chunksGo (cur ++ [b]) r
def recsTake : List (List Int) → List Rec
  | [] => []
  | c :: cs => if (getR c).1 = 0 then (getR c).2 :: recsTake cs else []
def scanS (ys : List Int) : List Rec := recsTake ((chunksGo [] ys).drop 1)
def parseS (e s n : Nat) (ys : List Int) : Option (List Rec × Bool) :=
  if textS e s n (scanS ys) false = ys then some (scanS ys, false)
  else if 0 < (scanS ys).length ∧ textS e s n (scanS ys) true = ys then some (scanS ys, true) else none

theorem chunksGo_solid : ∀ (c cur r : List Int), Solid c → chunksGo cur (c ++ 0 :: r) = (cur ++ c) :: chunksGo [] r
  | [], cur, r, _ => by simp [chunksGo]
  | b :: c, cur, r, h => by
    have hb : b ≠ 0 := by have := (h b (List.mem_cons_self)).1; omega
    rw [List.cons_append, chunksGo, if_neg hb, chunksGo_solid c (cur ++ [b]) r (fun x hx => h x (List.mem_cons_of_mem _ hx)), List.append_assoc]
    rfl
theorem chunksGo_none : ∀ (ys cur : List Int), (∀ b ∈ ys, b ≠ 0) → chunksGo cur ys = []
  | [], _, _ => rfl
  | b :: ys, cur, h => by
    rw [chunksGo, if_neg (h b List.mem_cons_self)]
    exact chunksGo_none ys _ (fun x hx => h x (List.mem_cons_of_mem _ hx))
theorem chunksGo_seal {xs : List Int} (h : Octets xs) (r : List Int) : chunksGo [] (sealN xs ++ r) = chunkN xs :: chunksGo [] r := by
  unfold sealN
  rw [List.append_assoc]
  exact chunksGo_solid (chunkN xs) [] r (chunk_solid h)
theorem chunksGo_recs : ∀ (l : List Rec) (r : List Int), (∀ x ∈ l, x.Fine) → chunksGo [] (recsB l ++ r) = l.map (fun x => chunkN (bodyR x)) ++ chunksGo [] r
  | [], r, _ => rfl
  | x :: l, r, h => by
    have e : recsB (x :: l) ++ r = recB x ++ (recsB l ++ r) := by unfold recsB; rw [List.flatMap_cons, List.append_assoc]
    rw [e]
    unfold recB
    rw [chunksGo_seal (bodyR_octets (h x List.mem_cons_self)), chunksGo_recs l r (fun y hy => h y (List.mem_cons_of_mem _ hy))]
    rfl
theorem scan_recs : ∀ (l : List Rec) (cs : List (List Int)), (∀ x ∈ l, x.Fine ∧ checkR x = 0) → recsTake (l.map (fun x => chunkN (bodyR x)) ++ cs) = l ++ recsTake cs
  | [], cs, _ => rfl
  | x :: l, cs, h => by
    obtain ⟨h1, h2⟩ := h x List.mem_cons_self
    have hg := getR_put h1 h2 (bodyR_octets h1)
    rw [List.map_cons, List.cons_append, recsTake, hg, if_pos rfl, scan_recs l cs (fun y hy => h y (List.mem_cons_of_mem _ hy))]
    rfl
theorem scan_out {e s n : Nat} (he : e < 256) {l : List Rec} (h : ∀ x ∈ l, x.Fine ∧ checkR x = 0) (r : List Int) : scanS (outS e s n l ++ r) = l ++ recsTake (chunksGo [] r) := by
  unfold scanS outS
  rw [List.append_assoc, chunksGo_seal (headB_octets he), chunksGo_recs l r (fun x hx => (h x hx).1)]
  exact scan_recs l _ h
theorem read_foot (r : List Int) : (readR (4 :: r)).1 ≠ 0 := by
  rw [readR]
  unfold readKind
  rw [if_pos (by decide)]
  decide
theorem get_foot (f : Ft) : (getR (chunkN (bodyFt f))).1 ≠ 0 := by
  unfold getR
  rw [open_chunk bodyFt_octets]
  simp only [ne_eq, not_true_eq_false, if_false]
  unfold bodyFt
  exact read_foot _
theorem rest_none (k : Nat) : chunksGo [] (List.replicate k (255 : Int)) = [] := chunksGo_none _ _ (fun b hb => by rw [(List.mem_replicate.1 hb).2]; decide)
theorem scan_text {e s n : Nat} (he : e < 256) {l : List Rec} (h : ∀ x ∈ l, x.Fine ∧ checkR x = 0) (b : Bool) : scanS (textS e s n l b) = l := by
  unfold textS framesS
  cases b with
  | false =>
    rw [if_neg (by simp), List.append_nil, scan_out he h, rest_none]
    simp [recsTake]
  | true =>
    rw [if_pos rfl, List.append_assoc, scan_out he h]
    unfold footS
    rw [chunksGo_seal bodyFt_octets, rest_none, recsTake, if_neg (get_foot _), List.append_nil]
/-- Sealed or not: never the same bytes. -/
theorem text_sealed {e s n : Nat} (he : e < 256) {l : List Rec} (h : ∀ x ∈ l, x.Fine) : textS e s n l false ≠ textS e s n l true := fun hh => by
  have h1 := congrArg (fun ys => (chunksGo [] ys).length) hh
  unfold textS framesS outS at h1
  rw [if_neg (by simp), if_pos rfl, List.append_nil, List.append_assoc, List.append_assoc, List.append_assoc, chunksGo_seal (headB_octets he), chunksGo_seal (headB_octets he), chunksGo_recs l _ h, chunksGo_recs l _ h] at h1
  unfold footS at h1
  rw [chunksGo_seal bodyFt_octets, rest_none, rest_none] at h1
  simp at h1
/-- What is built is parsed. -/
theorem parse_text {e s n : Nat} (he : e < 256) {l : List Rec} (h : ∀ x ∈ l, x.Fine ∧ checkR x = 0) (b : Bool) (hb : b = true → 0 < l.length) : parseS e s n (textS e s n l b) = some (l, b) := by
  unfold parseS
  rw [scan_text he h b]
  cases b with
  | false => rw [if_pos rfl]
  | true => rw [if_neg (text_sealed he (fun x hx => (h x hx).1)), if_pos ⟨hb rfl, rfl⟩]
theorem parse_only {e s n : Nat} {ys : List Int} {l : List Rec} {b : Bool} (h : parseS e s n ys = some (l, b)) : textS e s n l b = ys ∧ (b = true → 0 < l.length) := by
  unfold parseS at h
  split at h
  · rename_i h1
    obtain ⟨rfl, rfl⟩ := Prod.mk.inj (Option.some.inj h)
    exact ⟨h1, fun h => by simp at h⟩
  · split at h
    · rename_i h1 h2
      obtain ⟨rfl, rfl⟩ := Prod.mk.inj (Option.some.inj h)
      exact ⟨h2.2, fun _ => h2.1⟩
    · simp at h
theorem text_head {e s n : Nat} (l : List Rec) (b : Bool) : ∃ r, textS e s n l b = sealN (headB e s n) ++ r := by
  unfold textS framesS outS
  exact ⟨_, by rw [List.append_assoc, List.append_assoc, List.append_assoc]⟩
/-- As a segment of another number it is none. -/
theorem parse_other {e s n k : Nat} (he : e < 256) (hnk : n ≠ k) (l : List Rec) (b : Bool) : parseS e s k (textS e s n l b) = none := by
  cases hp : parseS e s k (textS e s n l b) with
  | none => rfl
  | some t =>
    obtain ⟨l2, b2⟩ := t
    have h := (parse_only hp).1
    obtain ⟨r1, h1⟩ := text_head (e := e) (s := s) (n := n) l b
    obtain ⟨r2, h2⟩ := text_head (e := e) (s := s) (n := k) l2 b2
    rw [h1, h2] at h
    have h3 := congrArg (fun ys => chunksGo [] ys) h
    rw [chunksGo_seal (headB_octets he), chunksGo_seal (headB_octets he)] at h3
    have h4 := chunk_inj (List.cons.inj h3).1
    unfold headB at h4
    have h5 := (List.cons.inj (List.cons.inj (List.cons.inj h4).2).2).2
    have h6 := (vnum_inj s s (vnum k) (vnum n) h5).2
    have h7 := (vnum_inj k n [] [] (by rw [h6])).1
    exact absurd h7.symm hnk
end Go.Proofs.YtlejobomjgccnaaGreat

namespace Go.Proofs.YtlejobomjgccnaaGreat

theorem entsGo_length : ∀ (l : List Rec) (k : Nat), (entsGo k l).length = l.length
  | [], _ => rfl
  | r :: l, k => by rw [entsGo, List.length_cons, entsGo_length l]; rfl
theorem mostFt_le {m n : Nat} (h : m ≤ n) : mostFt m ≤ mostFt n := by
  induction h with
  | refl => exact Nat.le_refl _
  | step _ ih => exact Nat.le_trans ih (Nat.le_of_lt (mostFt_mono1 _))
/-- A footer has no more bytes than are reserved for so many records. -/
theorem foot_most (e s n : Nat) (l : List Rec) : (footS e s n l).length ≤ mostFt l.length := by
  unfold footS
  have h1 := (seal_length (bodyFt ⟨(outS e s n l).length, sortE (entsS e s n l)⟩)).2
  rw [bodyFt_length] at h1
  have h2 := sortE_len (entsS e s n l)
  have h3 : (entsS e s n l).length = l.length := entsGo_length l _
  exact Nat.le_trans h1 (mostFt_le (show (sortE (entsS e s n l)).length ≤ l.length by omega))
theorem outS_snoc (e s n : Nat) (l : List Rec) (r : Rec) : outS e s n (l ++ [r]) = outS e s n l ++ recB r := by
  unfold outS recsB
  rw [List.flatMap_append, List.append_assoc]
  simp
theorem outS_nil (e s n : Nat) : outS e s n [] = sealN (headB e s n) := by
  unfold outS recsB
  simp
theorem recB_pos (r : Rec) : 1 ≤ (recB r).length := by
  unfold recB
  rw [(seal_length _).1]
  omega
/-- A segment's records, and its room. -/
structure InRoom (r : Rm) (l : List Rec) : Prop where
  real : r.Real
  used : r.used = (outS r.e r.s r.num l).length
  count : r.count = l.length
theorem inRoom_empty {e s n : Nat} (h : mayHead e s n = true) : InRoom (emptyP e s n) [] :=
  ⟨real_empty h, by rw [outS_nil]; rfl, rfl⟩
theorem inRoom_take {r : Rm} {l : List Rec} (h : InRoom r l) {x : Rec} (hf : fitsP r ((recB x).length : Int) = true) (hc : r.count < 10000) : InRoom (takeP r ((recB x).length : Int)) (l ++ [x]) := by
  refine ⟨real_take h.real hf hc, ?_, ?_⟩
  · show r.used + ((recB x).length : Int).toNat = (outS r.e r.s r.num (l ++ [x])).length
    rw [outS_snoc, List.length_append, h.used, Int.toNat_natCast]
  · show r.count + 1 = (l ++ [x]).length
    rw [h.count, List.length_append]
    rfl
/-- All frames, a footer too, fit into the segment. -/
theorem frames_fit {r : Rm} {l : List Rec} (h : InRoom r l) (b : Bool) (hb : b = true → 0 < l.length) : (framesS r.e r.s r.num l b).length ≤ 2 ^ r.e := by
  obtain ⟨a1, a2, _, _, _⟩ := mayHead_true.1 h.real.may
  have hsm := h.real.small
  unfold framesS
  by_cases h0 : r.count = 0
  · have hl : l = [] := List.length_eq_zero_iff.1 (by rw [← h.count]; exact h0)
    have hbf : b = false := by
      cases b with
      | false => rfl
      | true => have := hb rfl; rw [hl] at this; simp at this
    subst hbf
    rw [if_neg (by simp), List.append_nil, ← h.used, h.real.first h0]
    have h1 := (headLen_le (e := r.e) (s := r.s) (n := r.num) (by omega) (by omega)).2
    have h2 := Nat.pow_le_pow_right (n := 2) (by decide) a1
    omega
  · have h1 := h.real.room h0
    have h2 := foot_most r.e r.s r.num l
    rw [h.count] at h1
    rw [List.length_append, ← h.used]
    cases b with
    | false => rw [if_neg (by simp)]; simp; omega
    | true => rw [if_pos rfl]; omega
theorem text_length {r : Rm} {l : List Rec} (h : InRoom r l) (b : Bool) (hb : b = true → 0 < l.length) : (textS r.e r.s r.num l b).length = 2 ^ r.e := by
  have := frames_fit h b hb
  unfold textS
  rw [List.length_append, List.length_replicate]
  omega
end Go.Proofs.YtlejobomjgccnaaGreat

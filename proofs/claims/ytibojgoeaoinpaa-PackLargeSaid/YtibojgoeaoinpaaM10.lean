/-
  FenGetN; FenGetT; FtNum; PkNum; FenText; CobsRef.
-/
import Derived.Deep.RegionHeld3
import Derived.Test.YtibojgoeaoinpaaM01
import Derived.Test.YtibojgoeaoinpaaM03
import Derived.Test.YtibojgoeaoinpaaM04
import Derived.Test.YtibojgoeaoinpaaM06
import Derived.Test.YtibojgoeaoinpaaM07
import Derived.Test.YtibojgoeaoinpaaM09
namespace Go.Proofs.Ytibojgoeaoinpaa
open Go.RowKit

/-- What Get answers: the place, the error's number, the numbers. -/
structure GF where
  m : Nat
  y : Int
  l : List Nat
def getF (n : Int) (xs : List Int) : GF :=
  if n ≤ 0 then ⟨0, 0, []⟩ else if xs.length / 8 < n.toNat then ⟨0, 2, []⟩ else if risesF (takeF n.toNat xs) = true then ⟨8 * n.toNat, 0, takeF n.toNat xs⟩ else ⟨8 * n.toNat, 8, []⟩

/-- One more number: do they fall now? -/
theorem falls_more (R : List Nat) (x : Nat) : (!risesF (R ++ [x])) = (!risesF R || (decide (0 < R.length) && decide (x < R.getD (R.length - 1) 0))) := by
  rw [risesF_snoc]
  cases R with
  | nil => simp
  | cons y R =>
    have e : (y :: R).getLastD 0 = (y :: R).getD ((y :: R).length - 1) 0 := by
      rw [List.getLastD_eq_getLast?, List.getLast?_eq_getElem?, List.getD_eq_getElem?_getD]
    rw [e]
    obtain ⟨z, hz⟩ : ∃ z, z = (y :: R).getD ((y :: R).length - 1) 0 := ⟨_, rfl⟩
    rw [← hz]
    cases risesF (y :: R)
    · simp
    · by_cases h : z ≤ x
      · simp [h, Nat.not_lt.2 h]
      · simp [h, Nat.lt_of_not_le h]

theorem NumsSoFar.setOther {w0 wr : World} {l : List Nat} {v : Value} (h : NumsSoFar w0 l v wr) {p : Addr} (hp : v.ownBlock ≠ some p.block) (hb : w0.heap.size ≤ p.block) (x : Value) : NumsSoFar w0 l v (wr.setCell p x) :=
  ⟨ownsRow_setCell_other h.1 hp _, h.2.setCell hb _⟩
theorem NumsSoFar.set3 {w0 wr : World} {l : List Nat} {v : Value} (h : NumsSoFar w0 l v wr) {g : Nat} (hp : v.ownBlock ≠ some g) (hb : w0.heap.size ≤ g) (x y z : Value) : NumsSoFar w0 l v (((wr.setCell ⟨g, 0, none⟩ x).setCell ⟨g, 1, none⟩ y).setCell ⟨g, 2, none⟩ z) :=
  ((h.setOther hp hb x).setOther hp hb y).setOther hp hb z

/-- One number is appended to a row of one's own; what other blocks hold stays. -/
theorem wpList_append_numG {w w0 : World} {ops : Array Oper} {rest : List Oper} {o : Oper} {a : Act} {Q : Exit → Act → World → Prop} (hgd : o.guard = none) (s x : Operand)
    (ho : o.op = .call { callee := .builtin .append, args := #[s, x], argTypes := #[46, 46] })
    (v : Value) (l : List Nat) (hs : a.eval s = v) (hown : NumsSoFar w0 l v w) (g : Nat) (r : Nat) (hx : a.eval x = .slice (some ⟨g, 0, none⟩) 1 1)
    (h0 : w.cell? ⟨g, 0, none⟩ = some (numV r)) (hl9 : l.length ≤ 1000000)
    (h : ∀ v' w', NumsSoFar w0 (l ++ [r]) v' w' → w.grownBy w' v.ownBlock → wpList Try.prog ops Q rest (a.put o.dst v') w') : wpList Try.prog ops Q (o :: rest) a w := by
  obtain ⟨i0, hi, hz0, hz1, hz2⟩ := info_parts infoU64
  refine wpList_append_own w hgd s x 46 ho w0.heap.size 33 i0 (.int .u64 0) 1 8 Try.underlying46 hi hz0 hz1 hz2 rfl (by decide) v l.length (l.map numV) hs hown.1 ⟨g, 0, none⟩ 1 1 [numV r] hx rfl ?_ ?_ (by unfold maxLen; omega) (by omega) hown.2.size ?_
  · intro j u hj
    rw [Addr.add_lit, Nat.zero_add]
    match j, hj with
    | 0, hj => obtain rfl := Option.some.inj hj; exact h0
    | k + 1, hj => simp at hj
  · intro u hu
    simp at hu
    subst hu
    rfl
  · intro v' w' h2 h3 _
    refine h v' w' ⟨?_, hown.2.trans ((Below.refl _ w).grown h3 hown.2.size (fun k hk => own_from hown.1 hk))⟩ h3
    rw [List.map_append, List.length_append]
    exact h2
end Go.Proofs.Ytibojgoeaoinpaa

namespace Go.Proofs.Ytibojgoeaoinpaa

theorem takeF_text : ∀ {l : List Nat}, (∀ x ∈ l, x < 18446744073709551616) → ∀ xs, takeF l.length (textF l ++ xs) = l
  | [], _, xs => rfl
  | x :: l, hf, xs => by
    have hx := hf x List.mem_cons_self
    have h8 : (digits (x : Int) 8).length = 8 := digits_length _ 8
    have e1 : (textF (x :: l) ++ xs).take 8 = digits (x : Int) 8 := by
      rw [textF, List.append_assoc]
      exact List.take_left' h8
    have e3 : (textF (x :: l) ++ xs).drop 8 = textF l ++ xs := by
      rw [textF, List.append_assoc]
      exact List.drop_left' h8
    rw [List.length_cons, takeF, e1, e3, takeF_text (fun x hx => hf x (List.mem_cons_of_mem _ hx)) xs, le_digits9]
    have b1 : (((x % 2 ^ (8 * 8) : Nat) : Int)).toNat = x := by rw [Int.toNat_natCast]; omega
    rw [b1]
theorem getF_text {l : List Nat} (hf : ∀ x ∈ l, x < 18446744073709551616) : getF (l.length : Int) (textF l) = if risesF l = true then ⟨8 * l.length, 0, l⟩ else ⟨8 * l.length, 8, []⟩ := by
  have ht := takeF_text hf []
  rw [List.append_nil] at ht
  unfold getF
  by_cases h0 : (l.length : Int) ≤ 0
  · obtain rfl : l = [] := List.length_eq_zero_iff.1 (by omega)
    rfl
  · rw [if_neg h0, Int.toNat_natCast, if_neg (by rw [textF_length]; omega), ht]
end Go.Proofs.Ytibojgoeaoinpaa

namespace Go.Proofs.Ytibojgoeaoinpaa

/-- A footer: where its frame begins, and which keys stand where. -/
structure Ft where
  used : Nat
  tab : List En
def Ft.none : Ft := ⟨0, []⟩
structure Ft.Fine (f : Ft) : Prop where
  used : f.used < 4294967296
  tab : ∀ e ∈ f.tab, e.Fine
def belowFt (f : Ft) : Bool := f.tab.all fun e => decide (e.at_ < f.used)
def checkFt (f : Ft) : Int :=
  if f.tab.length < 1 then 4 else if 1048576 < f.tab.length then 3 else if risesE f.tab = true then (if belowFt f = true then 0 else 4) else 8
def bodyFt (f : Ft) : List Int := 4 :: (digits (f.tab.length : Int) 4 ++ (digits (f.used : Int) 4 ++ (textE f.tab ++ textF (ofF f.tab))))
def putFt (f : Ft) : List Int := if checkFt f = 0 then sealN (bodyFt f) else []
def bodyLen (n : Nat) : Nat := 9 + 12 * n + 8 * countF (n : Int)
def mostFt (n : Nat) : Nat := sizeN (bodyLen n)
def placesFt (f : Ft) (h : Nat) : List Nat := if checkFt f = 0 then (f.tab.filter fun e => decide (e.hash = h)).map En.at_ else []

/-- What a reading of a footer comes to. -/
structure GFt where
  y : Int
  f : Ft
def ftEnd (f : Ft) (fs : List Nat) (r : List Int) : GFt :=
  if 0 < r.length then ⟨3, Ft.none⟩ else if checkFt f ≠ 0 then ⟨checkFt f, Ft.none⟩ else if fs ≠ ofF f.tab then ⟨4, Ft.none⟩ else ⟨0, f⟩
def ftFences (n used : Nat) (l : List En) (r : List Int) : GFt :=
  if (getF (countF (n : Int) : Nat) r).y ≠ 0 then ⟨(getF (countF (n : Int) : Nat) r).y, Ft.none⟩ else ftEnd ⟨used, l⟩ (getF (countF (n : Int) : Nat) r).l (r.drop (getF (countF (n : Int) : Nat) r).m)
def ftRows (n used : Nat) (r : List Int) : GFt :=
  if (getE (n : Int) r).y ≠ 0 then ⟨(getE (n : Int) r).y, Ft.none⟩ else ftFences n used (getE (n : Int) r).l (r.drop (getE (n : Int) r).m)
def ftUsed (n : Nat) (r : List Int) : GFt :=
  if 1048576 < n then ⟨3, Ft.none⟩ else if r.length < 4 then ⟨2, Ft.none⟩ else ftRows n (le (r.take 4)).toNat (r.drop 4)
def ftCount (r : List Int) : GFt := if r.length < 4 then ⟨2, Ft.none⟩ else ftUsed (le (r.take 4)).toNat (r.drop 4)
def readFt : List Int → GFt
  | [] => ⟨2, Ft.none⟩
  | b :: r => if b = 4 then ftCount r else ⟨4, Ft.none⟩
def getFt (ys : List Int) : GFt := if (openN ys).1 ≠ 0 then ⟨(openN ys).1, Ft.none⟩ else readFt (openN ys).2

theorem checkFt_ok {f : Ft} : checkFt f = 0 ↔ 1 ≤ f.tab.length ∧ f.tab.length ≤ 1048576 ∧ risesE f.tab = true ∧ belowFt f = true := by
  unfold checkFt
  constructor
  · intro h
    split at h
    · exact absurd h (by decide)
    · split at h
      · exact absurd h (by decide)
      · split at h
        · split at h
          · rename_i a b c d
            exact ⟨by omega, by omega, c, d⟩
          · exact absurd h (by decide)
        · exact absurd h (by decide)
  · rintro ⟨a, b, c, d⟩
    rw [if_neg (by omega), if_neg (by omega), if_pos c, if_pos d]

theorem bodyFt_length (f : Ft) : (bodyFt f).length = bodyLen f.tab.length := by
  unfold bodyFt bodyLen countF
  simp only [List.length_cons, List.length_append, digits_length, textE_length, textF_length, ofF_length, Int.toNat_natCast]
  omega
theorem bodyFt_octets {f : Ft} : Octets (bodyFt f) := by
  unfold bodyFt
  intro b hb
  rcases List.mem_cons.1 hb with rfl | hb
  · decide
  · exact ((digits_octets _ 4).app ((digits_octets _ 4).app ((textE_octets _).app (textF_octets _)))) b hb
theorem bodyLen_le (n : Nat) : bodyLen n ≤ 17 + 13 * n := by
  unfold bodyLen countF
  rw [Int.toNat_natCast]
  omega
/-- A footer's frame has no more bytes than there may be. -/
theorem putFt_most (f : Ft) : (putFt f).length ≤ mostFt f.tab.length := by
  unfold putFt mostFt
  split
  · rw [← bodyFt_length]
    exact (seal_length _).2
  · simp
theorem getE_more {l : List En} (hf : ∀ e ∈ l, e.Fine) (xs : List Int) (hr : risesE l = true) : getE (l.length : Int) (textE l ++ xs) = ⟨12 * l.length, 0, l⟩ := by
  have ht := takeE_text hf xs
  unfold getE
  by_cases h0 : (l.length : Int) ≤ 0
  · obtain rfl : l = [] := List.length_eq_zero_iff.1 (by omega)
    rfl
  · rw [if_neg h0, Int.toNat_natCast, if_neg (by rw [List.length_append, textE_length]; omega), ht, if_pos hr]
theorem risesF_pair : ∀ {l : List Nat}, risesF l = true ↔ ∀ i, i + 1 < l.length → l.getD i 0 ≤ l.getD (i + 1) 0
  | [] => by simp [risesF]
  | [_] => by simp [risesF]
  | x :: y :: l => by
    rw [risesF, Bool.and_eq_true, decide_eq_true_iff, risesF_pair (l := y :: l)]
    constructor
    · rintro ⟨h1, h2⟩ i hi
      match i with
      | 0 => exact h1
      | i + 1 => exact h2 i (by simpa using hi)
    · intro h
      exact ⟨h 0 (by simp), fun i hi => h (i + 1) (by simpa using hi)⟩
theorem ofFrom_head : ∀ (i : Nat) (l : List En) (x : Nat) (m : List Nat), ofFrom i l = x :: m → l.Pairwise LessE → ∀ y ∈ m, x ≤ y
  | _, [], _, _, h, _ => by simp [ofFrom] at h
  | i, e :: l, x, m, h, hp => by
    obtain ⟨h1, h2⟩ := List.pairwise_cons.1 hp
    rw [ofFrom] at h
    split at h
    · injection h with h3 h4
      subst h3
      intro y hy
      rw [← h4] at hy
      obtain ⟨e2, he2, rfl⟩ := ofFrom_mem _ _ _ hy
      have := h1 e2 he2
      unfold LessE at this
      omega
    · exact ofFrom_head (i + 1) l x m h h2
theorem ofFrom_rises : ∀ (i : Nat) (l : List En), l.Pairwise LessE → risesF (ofFrom i l) = true
  | _, [], _ => rfl
  | i, e :: l, hp => by
    obtain ⟨h1, h2⟩ := List.pairwise_cons.1 hp
    have ih := ofFrom_rises (i + 1) l h2
    rw [ofFrom]
    split
    · cases hm : ofFrom (i + 1) l with
      | nil => rfl
      | cons y m =>
        rw [hm] at ih
        rw [risesF, ih, Bool.and_true, decide_eq_true_iff]
        obtain ⟨e2, he2, rfl⟩ := ofFrom_mem (i + 1) l y (by rw [hm]; exact List.mem_cons_self)
        have := h1 e2 he2
        unfold LessE at this
        omega
    · exact ih
theorem ofF_rises {l : List En} (h : risesE l = true) : risesF (ofF l) = true := ofFrom_rises 0 l (risesE_pair.1 h)
/-- What is put is got. -/
theorem readFt_body {f : Ft} (hf : f.Fine) (h : checkFt f = 0) : readFt (bodyFt f) = ⟨0, f⟩ := by
  obtain ⟨h1, h2, h3, _⟩ := checkFt_ok.1 h
  obtain ⟨used, tab⟩ := f
  obtain ⟨hu, ht⟩ := hf
  simp only at h1 h2 h3 hu ht
  unfold bodyFt
  simp only
  rw [readFt, if_pos rfl]
  unfold ftCount
  have l4 : ∀ x : Nat, (digits (x : Int) 4).length = 4 := fun x => digits_length _ 4
  rw [if_neg (by rw [List.length_append, l4]; omega), List.take_left' (l4 _), List.drop_left' (l4 _), le_four (by omega), Int.toNat_natCast]
  unfold ftUsed
  rw [if_neg (by omega), if_neg (by rw [List.length_append, l4]; omega), List.take_left' (l4 _), List.drop_left' (l4 _), le_four hu, Int.toNat_natCast]
  unfold ftRows
  rw [getE_more ht _ h3]
  simp only [ne_eq, not_true_eq_false, if_false]
  rw [List.drop_left' (textE_length tab)]
  unfold ftFences
  have hc : ((countF (tab.length : Int) : Nat) : Int) = ((ofF tab).length : Int) := by rw [ofF_length]; rfl
  have hg := getF_text (ofF_fine ht)
  rw [if_pos (ofF_rises h3)] at hg
  rw [hc, hg]
  simp only [ne_eq, not_true_eq_false, if_false]
  unfold ftEnd
  rw [List.drop_of_length_le (by rw [textF_length]; omega), if_neg (by simp), if_neg (by rw [h]; simp), if_neg (by simp)]
theorem getFt_put {f : Ft} (hf : f.Fine) (h : checkFt f = 0) : getFt (chunkN (bodyFt f)) = ⟨0, f⟩ := by
  unfold getFt
  rw [open_chunk bodyFt_octets]
  simp only [ne_eq, not_true_eq_false, if_false]
  exact readFt_body hf h
theorem textF_inj {a b : List Nat} (ha : ∀ x ∈ a, x < 18446744073709551616) (hb : ∀ x ∈ b, x < 18446744073709551616) (h : textF a = textF b) : a = b := by
  have hl : a.length = b.length := by
    have := congrArg List.length h
    rw [textF_length, textF_length] at this
    omega
  have h1 := takeF_text ha []
  have h2 := takeF_text hb []
  rw [h, hl] at h1
  exact h1.symm.trans h2
end Go.Proofs.Ytibojgoeaoinpaa

namespace Go.Proofs.Ytibojgoeaoinpaa

/-- A room: its config's Exp and Segments, its number, how many bytes its frames have, how many records. -/
structure Rm where
  e : Nat
  s : Nat
  num : Nat
  used : Nat
  count : Nat
def Rm.none : Rm := ⟨0, 0, 0, 0, 0⟩
def headLen (e s n : Nat) : Nat := (sealN (headB e s n)).length
def emptyP (e s n : Nat) : Rm := ⟨e, s, n, headLen e s n, 0⟩
def fitsP (r : Rm) (z : Int) : Bool := decide (1 ≤ z) && decide ((r.used : Int) + z + (mostFt (r.count + 1) : Int) ≤ ((2 ^ r.e : Nat) : Int))
def takeP (r : Rm) (z : Int) : Rm := ⟨r.e, r.s, r.num, r.used + z.toNat, r.count + 1⟩
def leftP (r : Rm) : Nat := 2 ^ r.e - (r.used + mostFt (r.count + 1))
def largeP (e s : Nat) (z : Int) : Bool := !(mayC e s) || !(fitsP (emptyP e s (s - 1)) z)
/-- How far packing has come: why it stopped, the last room, the frames' segments. -/
structure PSt where
  y : Int
  r : Rm
  out : List Nat
def stepP (e s : Nat) (st : PSt) (z : Int) : PSt :=
  if st.y ≠ 0 then st
  else if fitsP (emptyP e s (s - 1)) z = true then
    (if fitsP st.r z = true then ⟨0, takeP st.r z, st.out ++ [st.r.num]⟩
     else if s ≤ st.r.num + 1 then ⟨7, Rm.none, []⟩
     else ⟨0, takeP (emptyP e s (st.r.num + 1)) z, st.out ++ [st.r.num + 1]⟩)
  else ⟨6, Rm.none, []⟩
def runP (e s : Nat) (zs : List Int) : PSt := zs.foldl (stepP e s) ⟨0, emptyP e s 0, []⟩
def planP (e s : Nat) (zs : List Int) : Int × List Nat := if mayC e s = true then ((runP e s zs).y, (runP e s zs).out) else (1, [])

/-- A room that can be. -/
structure Rm.Real (r : Rm) : Prop where
  may : mayHead r.e r.s r.num = true
  head : headLen r.e r.s r.num + r.count ≤ r.used
  first : r.count = 0 → r.used = headLen r.e r.s r.num
  room : r.count ≠ 0 → r.used + mostFt r.count ≤ 2 ^ r.e
  few : r.count ≤ 10000

theorem headLen_eq (e s n : Nat) (hs : s < 18446744073709551616) (hn : n < 18446744073709551616) : headLen e s n = 13 + (vnum s).length + (vnum n).length := by
  have hb : (headB e s n).length = 3 + (vnum s).length + (vnum n).length := by
    unfold headB
    simp only [List.length_cons, List.length_append]
    omega
  have h1 := chunk_long (headB e s n)
  obtain ⟨h2, h3⟩ := seal_length (headB e s n)
  have h4 := headB_length (e := e) hs hn
  unfold headLen
  have h5 : sizeN (headB e s n).length = (headB e s n).length + 10 := by
    unfold sizeN mostOf
    rw [if_neg (by omega)]
    omega
  omega
theorem headLen_le {e s n : Nat} (hs : s < 18446744073709551616) (hn : n < 18446744073709551616) : 15 ≤ headLen e s n ∧ headLen e s n ≤ 33 := by
  have h1 := vnum_pos s
  have h2 := vnum_pos n
  have h3 := vnum_ten hs
  have h4 := vnum_ten hn
  rw [headLen_eq e s n hs hn]
  omega
theorem headLen_mono {e s m n : Nat} (hs : s < 18446744073709551616) (hn : n < 18446744073709551616) (h : m ≤ n) : headLen e s m ≤ headLen e s n := by
  have := vnum_mono h
  rw [headLen_eq e s n hs hn, headLen_eq e s m hs (by omega)]
  omega
theorem mostFt_lin (k : Nat) : mostFt k ≤ 40 + 14 * k := by
  unfold mostFt sizeN mostOf bodyLen countF
  simp only [Int.toNat_natCast]
  rw [if_neg (by omega)]
  omega
theorem mostFt_pos (k : Nat) : 1 ≤ mostFt k := by
  unfold mostFt sizeN
  omega
theorem mostFt_mono1 (k : Nat) : mostFt k < mostFt (k + 1) := by
  unfold mostFt sizeN mostOf bodyLen countF
  simp only [Int.toNat_natCast]
  rw [if_neg (by omega), if_neg (by omega)]
  omega
theorem fitsP_true {r : Rm} {z : Int} : fitsP r z = true ↔ 1 ≤ z ∧ (r.used : Int) + z + (mostFt (r.count + 1) : Int) ≤ ((2 ^ r.e : Nat) : Int) := by
  unfold fitsP
  rw [Bool.and_eq_true, decide_eq_true_iff, decide_eq_true_iff]
theorem fitsP_left (r : Rm) (z : Int) : fitsP r z = true ↔ 1 ≤ z ∧ z ≤ (leftP r : Int) := by
  rw [fitsP_true]
  unfold leftP
  obtain ⟨p, hp⟩ : ∃ p, p = 2 ^ r.e := ⟨_, rfl⟩
  rw [← hp]
  omega
theorem real_empty {e s n : Nat} (h : mayHead e s n = true) : (emptyP e s n).Real :=
  ⟨h, Nat.le_refl _, fun _ => rfl, fun h => absurd rfl h, by show 0 ≤ _; omega⟩
theorem real_take {r : Rm} (h : r.Real) {z : Int} (hz : fitsP r z = true) (hc : r.count < 10000) : (takeP r z).Real := by
  obtain ⟨h1, h2⟩ := fitsP_true.1 hz
  refine ⟨h.may, ?_, fun h0 => ?_, fun _ => ?_, ?_⟩
  · have := h.head
    show _ + (r.count + 1) ≤ r.used + z.toNat
    show headLen r.e r.s r.num + (r.count + 1) ≤ r.used + z.toNat
    omega
  · exact absurd h0 (by show ¬ r.count + 1 = 0; omega)
  · show r.used + z.toNat + mostFt (r.count + 1) ≤ 2 ^ r.e
    obtain ⟨p, hp⟩ : ∃ p, p = 2 ^ r.e := ⟨_, rfl⟩
    rw [← hp] at h2 ⊢
    omega
  · show r.count + 1 ≤ 10000
    omega
theorem Rm.Real.small {r : Rm} (h : r.Real) : r.e ≤ 24 ∧ r.used ≤ 16777216 ∧ r.s ≤ 65536 ∧ r.num < r.s := by
  obtain ⟨a, b, c, d, f⟩ := mayHead_true.1 h.may
  have := (two_e b).2
  refine ⟨b, ?_, d, f⟩
  by_cases h0 : r.count = 0
  · rw [h.first h0]
    have := (headLen_le (e := r.e) (s := r.s) (n := r.num) (by omega) (by omega)).2
    omega
  · have := h.room h0
    omega
/-- What fits into an empty room of the greatest number fits into any empty one. -/
theorem fits_empty {e s m n : Nat} (hs : s < 4294967296) (hn : n < 4294967296) (h : m ≤ n) {z : Int} (hz : fitsP (emptyP e s n) z = true) : fitsP (emptyP e s m) z = true := by
  have := headLen_mono (e := e) (s := s) (m := m) (n := n) (by omega) (by omega) h
  rw [fitsP_true] at hz ⊢
  unfold emptyP at hz ⊢
  simp only at hz ⊢
  omega
theorem stepP_gone {e s : Nat} {st : PSt} (h : st.y ≠ 0) (z : Int) : stepP e s st z = st := if_pos h
theorem foldP_gone {e s : Nat} : ∀ (zs : List Int) {st : PSt}, st.y ≠ 0 → zs.foldl (stepP e s) st = st
  | [], _, _ => rfl
  | z :: zs, st, h => by rw [List.foldl_cons, stepP_gone h]; exact foldP_gone zs h
theorem getI_take {l : List Int} {j : Nat} (hj : j < l.length) : l.take (j + 1) = l.take j ++ [l.getD j 0] := by
  rw [List.take_succ_eq_append_getElem hj]
  simp [hj]
theorem runP_step {e s : Nat} {zs : List Int} {j : Nat} (h : j < zs.length) : runP e s (zs.take (j + 1)) = stepP e s (runP e s (zs.take j)) (zs.getD j 0) := by
  unfold runP
  rw [getI_take h, List.foldl_append]
  rfl
theorem runP_gone {e s : Nat} {zs : List Int} {j : Nat} (h : (runP e s (zs.take j)).y ≠ 0) : runP e s zs = runP e s (zs.take j) := by
  have e1 : zs = zs.take j ++ zs.drop j := (List.take_append_drop j zs).symm
  show zs.foldl _ _ = _
  conv => lhs; rw [e1, List.foldl_append]
  exact foldP_gone _ h
theorem runP_out {e s : Nat} : ∀ (zs : List Int), (runP e s zs).y = 0 → (runP e s zs).out.length = zs.length := by
  intro zs
  have : ∀ (zs : List Int) (st : PSt), (zs.foldl (stepP e s) st).y = 0 → (zs.foldl (stepP e s) st).out.length = st.out.length + zs.length := by
    intro zs
    induction zs with
    | nil => intro st _; rfl
    | cons z zs ih =>
      intro st h
      rw [List.foldl_cons] at h ⊢
      rw [ih _ h, List.length_cons]
      have hy : (stepP e s st z).y = 0 := by
        by_cases hq : (stepP e s st z).y = 0
        · exact hq
        · rw [foldP_gone zs hq] at h; exact h
      have : (stepP e s st z).out.length = st.out.length + 1 := by
        unfold stepP at hy ⊢
        split at hy
        · contradiction
        · split at hy
          · split at hy
            · simp_all
            · split at hy
              · exact absurd hy (by decide)
              · rename_i q1 q2 q3 q4
                rw [if_neg q1, if_pos q2, if_neg q3, if_neg q4]
                simp
          · exact absurd hy (by decide)
      omega
  have h0 := this zs ⟨0, emptyP e s 0, []⟩
  intro h
  have := h0 h
  simpa [runP] using this
theorem runP_none {e s : Nat} {zs : List Int} (h : (runP e s zs).y ≠ 0) : (runP e s zs).out = [] := by
  have : ∀ (zs : List Int) (st : PSt), (st.y ≠ 0 → st.out = []) → (zs.foldl (stepP e s) st).y ≠ 0 → (zs.foldl (stepP e s) st).out = [] := by
    intro zs
    induction zs with
    | nil => intro st h0 h; exact h0 h
    | cons z zs ih =>
      intro st h0 h
      rw [List.foldl_cons] at h ⊢
      refine ih _ ?_ h
      intro hy
      unfold stepP at hy ⊢
      split at hy
      · rename_i hq; rw [if_pos hq]; exact h0 hq
      · split at hy
        · split at hy
          · exact absurd rfl hy
          · split at hy
            · simp_all
            · exact absurd rfl hy
        · simp_all
  exact this zs _ (fun h => absurd rfl h) h
/-- The last room is one that can be, of no more records than frames. -/
theorem runP_real {e s : Nat} (hm : mayC e s = true) (zs : List Int) (h9 : zs.length ≤ 10000) (hy : (runP e s zs).y = 0) : (runP e s zs).r.Real ∧ (runP e s zs).r.e = e ∧ (runP e s zs).r.s = s ∧ (runP e s zs).r.count ≤ zs.length := by
  obtain ⟨m1, m2, m3, m4⟩ := mayC_true.1 hm
  have h0 : mayHead e s 0 = true := mayHead_true.2 ⟨m1, m2, m3, m4, by omega⟩
  have : ∀ j, j ≤ zs.length → (runP e s (zs.take j)).y = 0 → (runP e s (zs.take j)).r.Real ∧ (runP e s (zs.take j)).r.e = e ∧ (runP e s (zs.take j)).r.s = s ∧ (runP e s (zs.take j)).r.count ≤ j := by
    intro j
    induction j with
    | zero => intro _ _; exact ⟨real_empty h0, rfl, rfl, Nat.le_refl _⟩
    | succ j ih =>
      intro hj hy
      rw [runP_step (by omega)] at hy ⊢
      have hy0 : (runP e s (zs.take j)).y = 0 := by
        by_cases hq : (runP e s (zs.take j)).y = 0
        · exact hq
        · rw [stepP_gone hq] at hy; exact hy
      obtain ⟨i1, i2, i3, i4⟩ := ih (by omega) hy0
      obtain ⟨st, hst⟩ : ∃ st, st = runP e s (zs.take j) := ⟨_, rfl⟩
      rw [← hst] at hy hy0 i1 i2 i3 i4 ⊢
      unfold stepP at hy ⊢
      rw [if_neg (by rw [hy0]; simp)] at hy ⊢
      split at hy
      · rename_i hf
        rw [if_pos hf]
        split at hy
        · rename_i hg
          rw [if_pos hg]
          refine ⟨real_take i1 hg (by omega), i2, i3, by show st.r.count + 1 ≤ j + 1; omega⟩
        · rename_i hg
          rw [if_neg hg]
          split at hy
          · exact absurd hy (by decide)
          · rename_i hn
            rw [if_neg hn]
            have hm2 : mayHead e s (st.r.num + 1) = true := mayHead_true.2 ⟨m1, m2, m3, m4, by omega⟩
            refine ⟨real_take (real_empty hm2) (fits_empty (by omega) (by omega) (by omega) hf) (by show 0 < _; omega), rfl, rfl, by show 0 + 1 ≤ j + 1; omega⟩
      · exact absurd hy (by decide)
  have := this zs.length (Nat.le_refl _)
  rw [List.take_length] at this
  exact this hy
end Go.Proofs.Ytibojgoeaoinpaa

namespace Go.Proofs.Ytibojgoeaoinpaa
open Go.RowKit

theorem textF_take {l : List Nat} {j : Nat} (hj : j < l.length) : textF (l.take (j + 1)) = textF (l.take j) ++ digits ((l.getD j 0 : Nat) : Int) 8 := by
  have e : l.take (j + 1) = l.take j ++ [l.getD j 0] := by rw [List.take_succ_eq_append_getElem hj]; simp [hj]
  rw [e, textF_snoc]

end Go.Proofs.Ytibojgoeaoinpaa

namespace Go.Proofs.Ytibojgoeaoinpaa
open Go.RowKit

/-- Where the document's loop stands behind k bytes: what is written, what stands open. -/
def StuffAt (xs : List Int) (k : Nat) (O N : List Int) : Prop :=
  (k ≤ xs.length → ∃ F : Bool, O ++ stuffGo N F (xs.drop k) = stuff xs ∧ N.length < 254 ∧ (F = true ↔ (N = [] ∧ 0 < k ∧ xs.getD (k - 1) 0 ≠ 0))) ∧ (k = xs.length + 1 → O = stuff xs ∧ N = [])

theorem StuffAt.start (xs : List Int) : StuffAt xs 0 [] [] :=
  ⟨fun _ => ⟨false, rfl, by decide, by simp⟩, fun h => by omega⟩
theorem drop_cons_getD (xs : List Int) (k : Nat) (h : k < xs.length) : xs.drop k = xs.getD k 0 :: xs.drop (k + 1) := by
  rw [List.drop_eq_getElem_cons h]
  simp [h]
theorem StuffAt.nought {xs : List Int} {k : Nat} {O N : List Int} (h : StuffAt xs k O N) (hk : k < xs.length) (h0 : xs.getD k 0 = 0) : StuffAt xs (k + 1) (O ++ ((N.length + 1 : Nat) : Int) :: N) [] := by
  obtain ⟨F, h1, h2, h3⟩ := h.1 (by omega)
  refine ⟨fun _ => ⟨false, ?_, by decide, ?_⟩, fun h => by omega⟩
  · rw [← h1, drop_cons_getD xs k hk, stuffGo, if_pos h0, List.append_assoc]
  · rw [Nat.add_sub_cancel, h0]; simp
theorem StuffAt.other {xs : List Int} {k : Nat} {O N : List Int} (h : StuffAt xs k O N) (hk : k < xs.length) (h0 : xs.getD k 0 ≠ 0) (hl : N.length + 1 ≠ 254) : StuffAt xs (k + 1) O (N ++ [xs.getD k 0]) := by
  obtain ⟨F, h1, h2, h3⟩ := h.1 (by omega)
  refine ⟨fun _ => ⟨false, ?_, by simp; omega, by simp⟩, fun h => by omega⟩
  rw [← h1, drop_cons_getD xs k hk, stuffGo, if_neg h0, if_neg hl]
theorem StuffAt.whole {xs : List Int} {k : Nat} {O N : List Int} (h : StuffAt xs k O N) (hk : k < xs.length) (h0 : xs.getD k 0 ≠ 0) (hl : N.length + 1 = 254) : StuffAt xs (k + 1) (O ++ 255 :: (N ++ [xs.getD k 0])) [] := by
  obtain ⟨F, h1, h2, h3⟩ := h.1 (by omega)
  refine ⟨fun _ => ⟨true, ?_, by decide, ?_⟩, fun h => by omega⟩
  · rw [← h1, drop_cons_getD xs k hk, stuffGo, if_neg h0, if_pos hl, List.append_assoc]
  · rw [Nat.add_sub_cancel]; simpa using h0
theorem StuffAt.atEnd {xs : List Int} {O N : List Int} (h : StuffAt xs xs.length O N) (he : ¬ (N = [] ∧ 0 < xs.length ∧ xs.getD (xs.length - 1) 0 ≠ 0)) : StuffAt xs (xs.length + 1) (O ++ ((N.length + 1 : Nat) : Int) :: N) [] := by
  obtain ⟨F, h1, h2, h3⟩ := h.1 (Nat.le_refl _)
  refine ⟨fun h => by omega, fun _ => ⟨?_, rfl⟩⟩
  have hF : F = false := by
    cases F with
    | false => rfl
    | true => exact absurd (h3.1 rfl) he
  rw [← h1, List.drop_length, hF, stuffGo, if_neg (by simp)]
theorem StuffAt.atBreak {xs : List Int} {O : List Int} (h : StuffAt xs xs.length O []) (he : 0 < xs.length ∧ xs.getD (xs.length - 1) 0 ≠ 0) : O = stuff xs := by
  obtain ⟨F, h1, h2, h3⟩ := h.1 (Nat.le_refl _)
  rw [List.drop_length, h3.2 ⟨rfl, he⟩, stuffGo, if_pos rfl, List.append_nil] at h1
  exact h1
theorem StuffAt.bound {xs : List Int} {k : Nat} {O N : List Int} (h : StuffAt xs k O N) (hk : k ≤ xs.length + 1) : O.length ≤ mostOf xs.length ∧ N.length < 254 := by
  have hm := stuff_most xs
  by_cases hke : k = xs.length + 1
  · obtain ⟨h1, h2⟩ := h.2 hke
    rw [h1, h2]
    exact ⟨hm, by decide⟩
  · obtain ⟨F, h1, h2, _⟩ := h.1 (by omega)
    rw [← h1, List.length_append] at hm
    exact ⟨by omega, h2⟩

theorem StuffAt.atEnd' {xs : List Int} {O N : List Int} {k : Nat} (h : StuffAt xs k O N) (hk : k = xs.length) (he : ¬ (N = [] ∧ 0 < k ∧ xs.getD (k - 1) 0 ≠ 0)) : StuffAt xs (k + 1) (O ++ ((N.length + 1 : Nat) : Int) :: N) [] := by
  subst hk; exact h.atEnd he
theorem StuffAt.atBreak' {xs : List Int} {O : List Int} {k : Nat} (h : StuffAt xs k O []) (hk : k = xs.length) (he : 0 < k ∧ xs.getD (k - 1) 0 ≠ 0) : O = stuff xs := by
  subst hk; exact h.atBreak he

theorem str_empty (xs : List Int) : (strOfNums xs).toList.isEmpty = xs.isEmpty := by
  have h : (strOfNums xs).toList = (strOfNums xs).data.toList := ByteArray.toList_eq _
  rw [h]
  unfold strOfNums
  cases xs <;> simp

theorem mostOf_le (n : Nat) : mostOf n ≤ 2 * n + 1 := by
  unfold mostOf
  split <;> omega

set_option maxHeartbeats 2000000 in
set_option maxRecDepth 10000 in
theorem stuff_ref (xs : List Int) (ho : Octets xs) (hl : xs.length ≤ 140737488355328) (w : World) :
    Calls Try.prog 38 #[.string (strOfNums xs)] w fun e w' => e = .returned (.string (strOfNums (stuff xs))) ∧ Keeps NoBlock w w' := by
  have HO1 : Hid (Octets (xs ++ [0])) := Lib.hid (fun b hb => (List.mem_append.1 hb).elim (ho b) (fun h => by rw [List.mem_singleton.1 h]; omega))
  have HO := Lib.hid ho
  have hss : (strOfNums xs).size = xs.length := str_size xs
  have hall : strOfNums xs ++ (ByteArray.mk #[0]) = strOfNums (xs ++ [0]) := str_append xs [0]
  have hsa : (strOfNums (xs ++ [0])).size = xs.length + 1 := by rw [str_size]; simp
  have HMo := Lib.hid (mostOf_le xs.length)
  obtain ⟨n, hn⟩ : ∃ n, n = xs.length := ⟨_, rfl⟩
  have HN := Lib.hid hn
  rw [← hn] at hl hss hsa HMo
  clear ho hn
  go_enter Try.func38, Try.ntmps38
  go_wp2_with fail
  go_loopw [4, 5, 6] (fun s4 s5 i wr => ∃ (k : Nat) (O N : List Int), k ≤ n + 1 ∧ i = .int .i64 (k : Int) ∧ s4 = .string (strOfNums O) ∧ s5 = .string (strOfNums N) ∧ StuffAt xs k O N ∧ Keeps NoBlock w wr) (fun _ _ i _ => n + 1 - (intOf i).toNat)
  case atStart => exact ⟨0, [], [], Nat.zero_le _, rfl, rfl, rfl, StuffAt.start xs, Keeps.refl _ _⟩
  case round =>
    obtain ⟨k, O, N, hk, rfl, rfl, rfl, hst, hkk⟩ := hrel
    have HK := Lib.hid hkk
    have HST := Lib.hid hst
    obtain ⟨hOl, hNl⟩ := hst.bound (by have := HN.out; omega)
    rw [← HN.out] at hOl
    have hsO : (strOfNums O).size = O.length := str_size O
    have hsN : (strOfNums N).size = N.length := str_size N
    have hOb : O.length ≤ 281474976710657 := by have := HMo.out; omega
    clear hst hkk hOl
    by_cases hlt : k < n + 1
    · have hdk : decide ((k : Int) < (n : Int) + 1) = true := decide_eq_true (by omega)
      have hsg := str_get (xs ++ [0]) HO1.out k (by omega)
      by_cases hkn : k < n
      · have hgx : (xs ++ [0]).getD k 0 = xs.getD k 0 := by
          have := HN.out
          simp [List.getD, List.getElem?_append_left (show k < xs.length by omega)]
        rw [hgx] at hsg
        have hbb := HO.out.getD k
        obtain ⟨b, hb⟩ : ∃ b, b = xs.getD k 0 := ⟨_, rfl⟩
        have HB := Lib.hid hb
        rw [← hb] at hsg hbb
        clear hgx hb
        obtain ⟨hb0, hb1⟩ := hbb
        by_cases hz : b = 0
        · subst hz
          obtain ⟨v, hv⟩ : ∃ v, v = (N.length : Int) + 1 := ⟨_, rfl⟩
          have hcv := vnum_conv v wr
          have hw8 : IntKind.u8.wrap ((N.length : Int) + 1) = v := by rw [IntKind.wrap_u8', hv]; omega
          have ha1 : strOfNums O ++ strOfNums [v] = strOfNums (O ++ [v]) := str_append _ _
          have ha2 : strOfNums (O ++ [v]) ++ strOfNums N = strOfNums (O ++ v :: N) := by rw [str_append, List.append_assoc]; rfl
          have hs3 : (strOfNums (O ++ [v])).size = O.length + 1 := by rw [str_size]; simp
          have hs4 : (strOfNums [v]).size = 1 := str_size _
          have HV := Lib.hid hv
          have hv' := hv.symm
          clear hv
          go_wp2_with fail
          refine ⟨⟨k + 1, _, [], by omega, rfl, rfl, rfl, ?_, HK.out.alloc _⟩, by simp [intOf]; omega⟩
          have := HST.out.nought (by have := HN.out; omega) HB.out.symm
          rw [HV.out]
          exact this
        · have hbz : (b == 0) = false := by rw [beq_eq_false_iff_ne]; exact hz
          have hex : (strOfNums (xs ++ [0])).extract k (k + 1) = strOfNums [b] := by
            rw [str_piece _ _ _ k 1 rfl rfl, HB.out]
            have hl : k < xs.length := by have := HN.out; omega
            rw [List.drop_append_of_le_length (by omega), drop_cons_getD xs k hl]
            rfl
          have ha1 : strOfNums N ++ strOfNums [b] = strOfNums (N ++ [b]) := str_append _ _
          have hs3 : (strOfNums (N ++ [b])).size = N.length + 1 := by rw [str_size]; simp
          have hs4 : (strOfNums [b]).size = 1 := str_size _
          by_cases h254 : N.length + 1 = 254
          · have hd : ((N.length : Int) + 1 == 254) = true := by rw [beq_iff_eq]; omega
            have ha2 : strOfNums O ++ (ByteArray.mk #[255]) = strOfNums (O ++ [255]) := str_append O [255]
            have ha3 : strOfNums (O ++ [255]) ++ strOfNums (N ++ [b]) = strOfNums (O ++ 255 :: (N ++ [b])) := by rw [str_append, List.append_assoc]; rfl
            have hs5 : (strOfNums (O ++ [255])).size = O.length + 1 := by rw [str_size]; simp
            go_wp2_with fail
            refine ⟨⟨k + 1, _, [], by omega, rfl, rfl, rfl, ?_, HK.out⟩, by simp [intOf]; omega⟩
            have := HST.out.whole (by have := HN.out; omega) (by rw [← HB.out]; exact hz) h254
            rw [← HB.out] at this
            exact this
          · have hd : ((N.length : Int) + 1 == 254) = false := by rw [beq_eq_false_iff_ne]; omega
            go_wp2_with fail
            refine ⟨⟨k + 1, _, _, by omega, rfl, rfl, rfl, ?_, HK.out⟩, by simp [intOf]; omega⟩
            have := HST.out.other (by have := HN.out; omega) (by rw [← HB.out]; exact hz) h254
            rw [← HB.out] at this
            exact this
      · obtain rfl : k = n := by omega
        have hgx : (xs ++ [0]).getD k 0 = 0 := by
          rw [HN.out]
          simp [List.getD]
        rw [hgx] at hsg
        have hkk : ((k : Int) == (k : Int)) = true := by simp
        clear hgx
        by_cases hbr : N = [] ∧ 0 < k ∧ xs.getD (k - 1) 0 ≠ 0
        · obtain ⟨rfl, hk0, hy0⟩ := hbr
          have HE := Lib.hid (HST.out.atBreak' HN.out ⟨hk0, hy0⟩)
          have hem : (strOfNums []).toList.isEmpty = true := str_empty []
          have hsg2 := str_get (xs ++ [0]) HO1.out (k - 1) (by omega)
          have hgx : (xs ++ [0]).getD (k - 1) 0 = xs.getD (k - 1) 0 := by
            have := HN.out
            simp [List.getD, List.getElem?_append_left (show k - 1 < xs.length by omega)]
          rw [hgx] at hsg2
          obtain ⟨y, hy⟩ : ∃ y, y = xs.getD (k - 1) 0 := ⟨_, rfl⟩
          rw [← hy] at hsg2 hy0
          have hyb : (y != 0) = true := by rw [bne_iff_ne]; exact hy0
          have hdp : decide ((0 : Int) < (k : Int)) = true := decide_eq_true (by omega)
          clear hgx hy
          go_wp2_with fail
          go_ret
          exact ⟨by rw [← HE.out]; rfl, HK.out⟩
        · have HEnd := Lib.hid (HST.out.atEnd' HN.out hbr)
          obtain ⟨v, hv⟩ : ∃ v, v = (N.length : Int) + 1 := ⟨_, rfl⟩
          have hcv := vnum_conv v wr
          have hw8 : IntKind.u8.wrap ((N.length : Int) + 1) = v := by rw [IntKind.wrap_u8', hv]; omega
          have ha1 : strOfNums O ++ strOfNums [v] = strOfNums (O ++ [v]) := str_append _ _
          have ha2 : strOfNums (O ++ [v]) ++ strOfNums N = strOfNums (O ++ v :: N) := by rw [str_append, List.append_assoc]; rfl
          have hs3 : (strOfNums (O ++ [v])).size = O.length + 1 := by rw [str_size]; simp
          have hs4 : (strOfNums [v]).size = 1 := str_size _
          have HV := Lib.hid hv
          have hv' := hv.symm
          clear hv
          by_cases hN : N = []
          · have hem : (strOfNums N).toList.isEmpty = true := by rw [str_empty, hN]; rfl
            have hnb : ¬ (0 < k ∧ xs.getD (k - 1) 0 ≠ 0) := fun h => hbr ⟨hN, h⟩
            clear hN hbr
            by_cases hk0 : 0 < k
            · have hsg2 := str_get (xs ++ [0]) HO1.out (k - 1) (by omega)
              have hgx : (xs ++ [0]).getD (k - 1) 0 = xs.getD (k - 1) 0 := by
                have := HN.out
                simp [List.getD, List.getElem?_append_left (show k - 1 < xs.length by omega)]
              have hy0 : xs.getD (k - 1) 0 = 0 := by
                rcases Classical.em (xs.getD (k - 1) 0 = 0) with h | h
                · exact h
                · exact absurd ⟨hk0, h⟩ hnb
              rw [hgx, hy0] at hsg2
              have hdp : decide ((0 : Int) < (k : Int)) = true := decide_eq_true (by omega)
              clear hgx hy0 hnb
              go_wp2_with fail
              refine ⟨⟨k + 1, _, [], by omega, rfl, rfl, rfl, ?_, HK.out.alloc _⟩, by simp [intOf]⟩
              rw [HV.out]
              exact HEnd.out
            · have hdp : decide ((0 : Int) < (k : Int)) = false := decide_eq_false (by omega)
              clear hnb
              go_wp2_with fail
              refine ⟨⟨k + 1, _, [], by omega, rfl, rfl, rfl, ?_, HK.out.alloc _⟩, by simp [intOf]⟩
              rw [HV.out]
              exact HEnd.out
          · have hem : (strOfNums N).toList.isEmpty = false := by rw [str_empty]; simpa using hN
            clear hbr
            go_wp2_with fail
            refine ⟨⟨k + 1, _, [], by omega, rfl, rfl, rfl, ?_, HK.out.alloc _⟩, by simp [intOf]⟩
            rw [HV.out]
            exact HEnd.out
    · obtain rfl : k = n + 1 := by omega
      have hdk : decide (((n + 1 : Nat) : Int) < (n : Int) + 1) = false := decide_eq_false (by omega)
      obtain ⟨e, _⟩ := HST.out.2 (by rw [HN.out])
      have HE := Lib.hid e
      clear e
      go_wp2_with fail
      go_ret
      exact ⟨by rw [← HE.out]; rfl, HK.out⟩
end Go.Proofs.Ytibojgoeaoinpaa

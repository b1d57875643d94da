/-
  BufK; FenOwn; RecRow; RecRise; RecLaws; TextGet.
-/
import Derived.Test.YtmifbohdepejaaaM01
import Derived.Test.YtmifbohdepejaaaM02
import Derived.Test.YtmifbohdepejaaaM05
import Derived.Test.YtmifbohdepejaaaM06
import Derived.Test.YtmifbohdepejaaaM08
import Derived.Test.YtmifbohdepejaaaM12
import Derived.Test.YtmifbohdepejaaaM14
namespace Go.Proofs.Ytmifbohdepejaaa
open Go.RowKit

def InLoopK (base g : Nat) (xs : List Int) (x : Int) (w : World) (k : Nat) (wr : World) : Prop := BufAt wr base g (xs ++ digits x k) ∧ Keeps (OnBuf base g) w wr

set_option maxHeartbeats 800000 in
theorem bufNumberK (base g : Nat) (xs : List Int) (x : Int) (n : Nat) (z : Int) (hz : z = n) (w : World) (h : BufAt w base g xs) (hs : base ≤ w.heap.size) (hx : xs.length + n ≤ 140737488355328) (hn : n ≤ 8) (_x0 : 0 ≤ x) (x1 : x < 18446744073709551616) :
    Calls Try.prog 54 #[.pointer (some ⟨g, 0, none⟩), .int .u64 x, .int .i64 z] w (BufOkK base g (xs ++ digits x n) w) := by
  subst hz
  have H := Lib.hid h; have HX := Lib.hid hx; have HX1 := Lib.hid x1
  clear h hx x1
  go_enter Try.func54, Try.ntmps54
  go_wp2_with fail
  go_loopw [9] (fun i wr => ∃ k : Nat, k ≤ n ∧ i = .int .i64 k ∧ InLoopK base g xs x w k wr) (fun i _ => n - (intOf i).toNat)
  case atStart => exact ⟨0, Nat.zero_le _, rfl, by simpa [digits] using H.out, Keeps.refl _ _⟩
  case round =>
    obtain ⟨k, hk, rfl, hin⟩ := hrel
    have HI := Lib.hid hin
    clear hin
    by_cases hlt : k < n
    · go_wp2_with fail
      refine (bufByteK base g (xs ++ digits x k) _ _ HI.out.1 (by have := HI.out.2.size; omega) (by have := HX.out; simp [digits_length]; omega)).mono ?_
      rintro e w2 ⟨rfl, hbuf, hbel⟩
      have HB := Lib.hid hbuf; have HL := Lib.hid (HI.out.2.trans hbel)
      clear hbuf hbel
      go_wp2_with fail
      go_roundw
      case rel =>
        refine ⟨k + 1, by omega, by go_num, ?_, HL.out⟩
        have := HB.out
        rw [List.append_assoc] at this
        exact this
      case measure => simp [intOf]; omega
    · go_wp2_with fail
      go_ret
      obtain rfl : k = n := by omega
      exact ⟨rfl, HI.out.1, HI.out.2⟩

theorem bufFourK (base g : Nat) (xs : List Int) (x : Int) (w : World) (h : BufAt w base g xs) (hs : base ≤ w.heap.size) (hx : xs.length + 4 ≤ 140737488355328) (x0 : 0 ≤ x) (x1 : x < 4294967296) :
    Calls Try.prog 22 #[.pointer (some ⟨g, 0, none⟩), .int .u32 x] w (BufOkK base g (xs ++ digits x 4) w) := by
  have H := Lib.hid h
  clear h
  go_enter Try.func22, Try.ntmps22
  go_wp2_with fail
  refine (bufNumberK base g xs _ 4 _ (by rfl) _ H.out hs hx (by omega) (by omega) (by omega)).mono ?_
  rintro e w2 ⟨rfl, hbuf, hbel⟩
  have HB := Lib.hid hbuf; have HL := Lib.hid hbel
  clear hbuf hbel
  go_wp2_with fail
  go_ret
  exact ⟨rfl, HB.out, HL.out⟩

theorem bufEightK (base g : Nat) (xs : List Int) (x : Int) (w : World) (h : BufAt w base g xs) (hs : base ≤ w.heap.size) (hx : xs.length + 8 ≤ 140737488355328) (x0 : 0 ≤ x) (x1 : x < 18446744073709551616) :
    Calls Try.prog 55 #[.pointer (some ⟨g, 0, none⟩), .int .u64 x] w (BufOkK base g (xs ++ digits x 8) w) := by
  have H := Lib.hid h; have HX1 := Lib.hid x1
  clear h x1
  go_enter Try.func55, Try.ntmps55
  go_wp2_with fail
  refine (bufNumberK base g xs _ 8 _ (by rfl) _ H.out hs hx (by omega) x0 HX1.out).mono ?_
  rintro e w2 ⟨rfl, hbuf, hbel⟩
  have HB := Lib.hid hbuf; have HL := Lib.hid hbel
  clear hbuf hbel
  go_wp2_with fail
  go_ret
  exact ⟨rfl, HB.out, HL.out⟩
end Go.Proofs.Ytmifbohdepejaaa

namespace Go.Proofs.Ytmifbohdepejaaa
open Go.RowKit

set_option maxHeartbeats 1000000 in
theorem fcount_own (n : Int) (w : World) (h0 : -1000000000 ≤ n) (h1 : n ≤ 1000000000) :
    Calls Try.prog 41 #[.int .i64 n] w fun e w' => e = .returned (.int .i64 (countF n : Int)) ∧ Keeps NoBlock w w' := by
  by_cases hz : n ≤ 0
  · have hd : decide (n ≤ 0) = true := decide_eq_true hz
    have e : countF n = 0 := by unfold countF; omega
    rw [e]
    clear e
    go_enter Try.func41, Try.ntmps41
    go_wp2_with fail
    go_ret
    exact ⟨rfl, Keeps.refl _ _⟩
  · obtain ⟨m, rfl⟩ : ∃ m : Nat, n = (m : Int) + 1 := ⟨n.toNat - 1, by omega⟩
    have hd : decide ((m : Int) + 1 ≤ 0) = false := decide_eq_false hz
    have e : countF ((m : Int) + 1) = m / 16 + 1 := by unfold countF; omega
    have hq : ((m : Int)).tdiv 16 = ((m / 16 : Nat) : Int) := by rw [Int.tdiv_eq_ediv_of_nonneg (by omega)]; omega
    have hq2 : (m : Int) / 16 = ((m / 16 : Nat) : Int) := by omega
    obtain ⟨k, hk⟩ : ∃ k, k = m / 16 := ⟨_, rfl⟩
    rw [← hk] at hq hq2 e
    have hk9 : k ≤ 1000000000 := by omega
    rw [e]
    have hs : (m : Int) + 1 - 1 = (m : Int) := by omega
    clear hk e
    go_enter Try.func41, Try.ntmps41
    go_wp2_with fail
    go_ret
    exact ⟨by go_num, Keeps.refl _ _⟩

theorem textF_takeO {l : List Nat} {j : Nat} (hj : j < l.length) : textF (l.take (j + 1)) = textF (l.take j) ++ digits ((l.getD j 0 : Nat) : Int) 8 := by
  have e : l.take (j + 1) = l.take j ++ [l.getD j 0] := by rw [List.take_succ_eq_append_getElem hj]; simp [hj]
  rw [e, textF_snoc]

set_option maxHeartbeats 4000000 in
set_option maxRecDepth 10000 in
theorem fput_own (base g : Nat) (xs : List Int) (p : Option Addr) (n c : Nat) (l : List Nat) (w : World) (h : BufAt w base g xs) (hs : base ≤ w.heap.size) (hi : InN w p n c l) (hn9 : n ≤ 100000) (hfar : 0 < n → ∀ a, p = some a → ¬ OnBuf base g a.block) (hx : xs.length ≤ 100000000) :
    Calls Try.prog 24 #[.pointer (some ⟨g, 0, none⟩), .slice p n c] w fun e w' => e = .returned (.tuple #[]) ∧ BufAt w' base g (xs ++ textF l) ∧ Keeps (OnBuf base g) w w' := by
  have H := Lib.hid h
  have HI := Lib.hid hi
  have HF := Lib.hid hfar
  have HX := Lib.hid hx
  clear h hi hfar hx
  go_enter Try.func24, Try.ntmps24
  go_wp2_with fail
  go_loopw [10] (fun i wr => ∃ j : Nat, j ≤ n ∧ i = .int .i64 (j : Int) ∧ Hid (BufAt wr base g (xs ++ textF (l.take j))) ∧ Hid (Keeps (OnBuf base g) w wr)) (fun i _ => n - (intOf i).toNat)
  case atStart => exact ⟨0, Nat.zero_le _, rfl, Lib.hid (by simpa [textF] using H.out), Lib.hid (Keeps.refl _ _)⟩
  case round =>
    obtain ⟨j, hj, rfl, HB, HK⟩ := hrel
    by_cases hlt : j < n
    · have hdj : decide ((j : Int) < (n : Int)) = true := decide_eq_true (by omega)
      have hjl : j < l.length := by rw [← HI.out.len]; exact hlt
      obtain ⟨a, rfl, c0⟩ := (RowN.keepAt HI.out.at_ HK.out (fun h0 a ha => HF.out (by omega) a ha)) j hjl
      have hfn := HI.out.fine (l.getD j 0) (by simp [hjl])
      have HT := Lib.hid (textF_takeO hjl)
      obtain ⟨r, hr⟩ : ∃ r, r = l.getD j 0 := ⟨_, rfl⟩
      rw [← hr] at c0 hfn HT
      clear hr
      have HL : Hid ((xs ++ textF (l.take j)).length ≤ 110000000) := Lib.hid (by
        have := HX.out
        rw [List.length_append, textF_length, List.length_take]
        omega)
      have HE := Lib.hid (bufEightK base g (xs ++ textF (l.take j)) (r : Int) wr HB.out (by have := HK.out.size; omega) (by have := HL.out; omega) (by omega) (by omega))
      clear hfn hjl HB
      go_wp2_with fail
      refine HE.out.mono ?_
      rintro e w2 ⟨rfl, hb, hk⟩
      have HB2 := Lib.hid hb
      have HK2 := Lib.hid (HK.out.trans hk)
      clear hb hk HE
      go_wp2_with fail
      go_roundw
      case rel =>
        refine ⟨j + 1, by omega, by go_num, Lib.hid ?_, Lib.hid HK2.out⟩
        rw [HT.out, ← List.append_assoc]
        exact HB2.out
      case measure => simp [intOf]; omega
    · have hdj : decide ((j : Int) < (n : Int)) = false := decide_eq_false (by omega)
      have HE : Hid (l.take j = l) := Lib.hid (List.take_of_length_le (by have := HI.out.len; omega))
      rw [HE.out] at HB
      go_wp2_with fail
      go_returns
      exact ⟨rfl, HB.out, HK.out⟩
end Go.Proofs.Ytmifbohdepejaaa

namespace Go.Proofs.Ytmifbohdepejaaa
open Go.RowKit

/-- A row of records that can be read. -/
def RecsAt (w : World) (p : Option Addr) (l : List Rec) : Prop :=
  ∀ i, i < l.length → ∃ a : Addr, p = some a ∧ w.cell? (a.add (i * 4)) = some (.bool (l.getD i Rec.none).del) ∧ w.cell? ⟨(a.add (i * 4)).block, (a.add (i * 4)).off + 1, none⟩ = some (.int .u64 ((l.getD i Rec.none).seq : Int)) ∧
    w.cell? ⟨(a.add (i * 4)).block, (a.add (i * 4)).off + 2, none⟩ = some (.string (strOfNums (l.getD i Rec.none).key)) ∧ w.cell? ⟨(a.add (i * 4)).block, (a.add (i * 4)).off + 3, none⟩ = some (.string (strOfNums (l.getD i Rec.none).val))
theorem RecsAt.keep {w w' : World} {p : Option Addr} {l : List Rec} (h : RecsAt w p l) {S : Nat → Prop} (hk : Keeps S w w') (hs : ∀ k, k < w.heap.size → ¬ S k) : RecsAt w' p l := fun i hi => by
  obtain ⟨a, rfl, c0, c1, c2, c3⟩ := h i hi
  exact ⟨a, rfl, hk.cell c0 (hs _ (ltOfCell c0)), hk.cell c1 (hs _ (ltOfCell c1)), hk.cell c2 (hs _ (ltOfCell c2)), hk.cell c3 (hs _ (ltOfCell c3))⟩

def littleR (bytes : Nat) (r : Rec) : Bool := decide (r.key.length ≤ bytes) && decide (r.val.length ≤ bytes)
def fewR (l : List Rec) (most bytes : Nat) : Bool := l.all (littleR bytes) && decide (l.length ≤ most)

theorem all_take_succ {l : List Rec} {b j : Nat} (hj : j < l.length) : (l.take (j + 1)).all (littleR b) = ((l.take j).all (littleR b) && littleR b (l.getD j Rec.none)) := by
  rw [List.take_succ_eq_append_getElem hj, List.all_append]
  simp [hj]

end Go.Proofs.Ytmifbohdepejaaa

namespace Go.Proofs.Ytmifbohdepejaaa
open Go.RowKit

theorem firstBad_append : ∀ (a b : List Rec), firstBad (a ++ b) = if firstBad a = 0 then firstBad b else firstBad a
  | [], b => by simp [firstBad]
  | r :: a, b => by
    rw [List.cons_append, firstBad, firstBad]
    by_cases h : checkR r = 0
    · rw [if_pos h, if_pos h, firstBad_append a b]
    · rw [if_neg h, if_neg h, if_neg h]
theorem firstBad_take {l : List Rec} {j : Nat} (hj : j < l.length) (h : firstBad (l.take j) = 0) : firstBad (l.take (j + 1)) = checkR (l.getD j Rec.none) := by
  rw [List.take_succ_eq_append_getElem hj, firstBad_append, if_pos h]
  unfold firstBad
  have e : l.getD j Rec.none = l[j] := by simp [hj]
  rw [e]
  by_cases hc : checkR l[j] = 0
  · rw [if_pos hc, hc]
    rfl
  · rw [if_neg hc]
theorem firstBad_stop {l : List Rec} {j : Nat} (h : firstBad (l.take j) ≠ 0) : firstBad l = firstBad (l.take j) := by
  conv => lhs; rw [← List.take_append_drop j l]
  rw [firstBad_append, if_neg h]

theorem rises_adj : ∀ {l : List Rec}, risesR l = true ↔ ∀ i, i + 1 < l.length → (l.getD i Rec.none).seq < (l.getD (i + 1) Rec.none).seq
  | [] => by simp [risesR]
  | [a] => by simp [risesR]
  | a :: b :: l => by
    unfold risesR
    rw [Bool.and_eq_true, rises_adj, decide_eq_true_eq]
    constructor
    · rintro ⟨h1, h2⟩ i hi
      cases i with
      | zero => exact h1
      | succ i => exact h2 i (by simpa using hi)
    · intro h
      exact ⟨h 0 (by simp), fun i hi => h (i + 1) (by simpa using hi)⟩

end Go.Proofs.Ytmifbohdepejaaa

namespace Go.Proofs.Ytmifbohdepejaaa
open Go.RowKit

/-- A record of no more bytes than the laws have. -/
structure Rec.Modest (r : Rec) : Prop where
  fine : r.Fine
  key : r.key.length ≤ 2000000
  val : r.val.length ≤ 2000000
def bodyE (r : Rec) : List Int := if checkR r = 0 then bodyR r else []

theorem vnum_one : vnum 1 = [1] := by rw [vnum]; rfl
theorem body_lives : bodyE ⟨false, 1, [97], [98]⟩ = [2, 1, 1, 97, 1, 98] := by
  have h : checkR ⟨false, 1, [97], [98]⟩ = 0 := by decide
  unfold bodyE
  rw [if_pos h]
  show 2 :: (vnum 1 ++ (vnum 1 ++ [97]) ++ (vnum 1 ++ [98])) = _
  rw [vnum_one]
  rfl

end Go.Proofs.Ytmifbohdepejaaa

namespace Go.Proofs.Ytmifbohdepejaaa
open Go.RowKit

/-- How GetText ends: with the text, or given up, for what is wrong. -/
def TextPost (k : Nat) (p : Option Addr) (N c a : Nat) (t : VT) (w : World) (e : Ending) (w' : World) : Prop :=
  Keeps (Just k) w w' ∧ ((t.e = 0 ∧ e = .returned (.string (strOfNums t.t)) ∧ CurB w' k p N c (a + t.n) true 0) ∨ (t.e ≠ 0 ∧ e = .panicked (given k) ∧ CurB w' k p N c (a + t.n) true t.e))

theorem vtext_by (xs : List Int) (l m : Nat) (t : VR) (ht : t = vget xs) : vtext xs l m = if t.e ≠ 0 then ⟨t.e, t.n, []⟩
  else if (m : Int) < t.x then ⟨3, t.n, []⟩
  else if t.x < (l : Int) then ⟨4, t.n, []⟩
  else if (xs.drop t.n).length < t.x.toNat then ⟨2, t.n, []⟩
  else ⟨0, t.n + t.x.toNat, (xs.drop t.n).take t.x.toNat⟩ := by subst ht; rfl

end Go.Proofs.Ytmifbohdepejaaa

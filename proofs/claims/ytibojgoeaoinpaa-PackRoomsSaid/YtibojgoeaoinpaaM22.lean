/-
  FrGetH; FrLaws; FrOpen; RecRead; FrRead; FrGetOwn.
-/
import Derived.Test.YtibojgoeaoinpaaM05
import Derived.Test.YtibojgoeaoinpaaM06
import Derived.Test.YtibojgoeaoinpaaM11
import Derived.Test.YtibojgoeaoinpaaM14
import Derived.Test.YtibojgoeaoinpaaM17
import Derived.Test.YtibojgoeaoinpaaM20
import Derived.Test.YtibojgoeaoinpaaM21
namespace Go.Proofs.Ytibojgoeaoinpaa
open Go.RowKit

end Go.Proofs.Ytibojgoeaoinpaa

namespace Go.Proofs.Ytibojgoeaoinpaa
open Go.RowKit

/-- A record of no more bytes than frames are made of here. -/
structure Rec.Little (r : Rec) : Prop where
  fine : r.Fine
  key : r.key.length ≤ 100000
  val : r.val.length ≤ 100000
theorem seal_nil : (sealN []).length = 10 ∧ (sealN []).getD 0 0 = 9 ∧ (sealN []).getD 9 0 = 0 := by decide +kernel

end Go.Proofs.Ytibojgoeaoinpaa

namespace Go.Proofs.Ytibojgoeaoinpaa
open Go.RowKit

/-- Why the reading of a sum stops, where, and the sum. -/
def sumE (N : Nat) : Int := if N < 8 then 2 else 0
def sumA (N : Nat) : Nat := if N < 8 then 0 else 8
def sumX (xs : List Int) : Int := if xs.length < 8 then 0 else le xs

end Go.Proofs.Ytibojgoeaoinpaa

namespace Go.Proofs.Ytibojgoeaoinpaa
open Go.RowKit

theorem drop_succ (b : Int) (ys : List Int) (n : Nat) : (b :: ys).drop (1 + n) = ys.drop n := by rw [Nat.add_comm, List.drop_succ_cons]

end Go.Proofs.Ytibojgoeaoinpaa

namespace Go.Proofs.Ytibojgoeaoinpaa
open Go.RowKit

theorem drop_head {xs : List Int} {a : Nat} {b : Int} {r : List Int} (h : xs.drop a = b :: r) : a < xs.length ∧ xs.getD a 0 = b ∧ xs.drop (a + 1) = r := by
  have hl : a < xs.length := by
    have := congrArg List.length h
    rw [List.length_drop, List.length_cons] at this
    omega
  have e := List.drop_eq_getElem_cons hl
  rw [h] at e
  refine ⟨hl, ?_, (List.cons.inj e).2.symm⟩
  rw [List.getD_eq_getElem?_getD, List.getElem?_eq_getElem hl]
  exact (List.cons.inj e).1.symm

/-- What a reading of a head comes to: why it stops, where, and what it has read. -/
structure HR where
  y : Int
  a : Nat
  e : Int
  s : Int
  n : Int
def hLast (a : Nat) (e s n : Int) : List Int → HR
  | [] => ⟨0, a, e, s, n⟩
  | _ :: _ => ⟨3, a, e, s, n⟩
def hNum (a : Nat) (e s : Int) (xs : List Int) : HR := if (vget xs).e ≠ 0 then ⟨(vget xs).e, a + (vget xs).n, e, s, 0⟩ else hLast (a + (vget xs).n) e s (vget xs).x (xs.drop (vget xs).n)
def hSeg (a : Nat) (e : Int) (xs : List Int) : HR := if (vget xs).e ≠ 0 then ⟨(vget xs).e, a + (vget xs).n, e, 0, 0⟩ else hNum (a + (vget xs).n) e (vget xs).x (xs.drop (vget xs).n)
def hExp (a : Nat) : List Int → HR
  | [] => ⟨2, a, 0, 0, 0⟩
  | b :: r => hSeg (a + 1) b r
def hVer (a : Nat) : List Int → HR
  | [] => ⟨2, a, 0, 0, 0⟩
  | b :: r => if b = 2 then hExp (a + 1) r else ⟨4, a + 1, 0, 0, 0⟩
def hKind (a : Nat) : List Int → HR
  | [] => ⟨2, a, 0, 0, 0⟩
  | b :: r => if b = 1 then hVer (a + 1) r else ⟨4, a + 1, 0, 0, 0⟩

section
variable {w0 : World} {A B C : Nat} {p : Option Addr} {xs : List Int} {N c a : Nat} {y x s n : Int} {W : World}
end

/-- What the reading leaves. -/
def LeftH (w0 : World) (A B C : Nat) (t : HR) (w2 : World) : Prop :=
  Keeps (fun i => i = A ∨ i = B ∨ i = C) w0 w2 ∧ Whole w2 A 5 #[.int .u8 t.e] ∧ Whole w2 B 33 #[.int .u64 t.s] ∧ Whole w2 C 33 #[.int .u64 t.n]

end Go.Proofs.Ytibojgoeaoinpaa

namespace Go.Proofs.Ytibojgoeaoinpaa
open Go.RowKit

/-- What a head's reading says, once it is asked whether it may be. -/
def hOut (t : HR) : Int × Nat × Nat × Nat :=
  if t.y ≠ 0 then (t.y, 0, 0, 0) else if t.s.toNat ≤ 4294967295 ∧ t.n.toNat ≤ 4294967295 ∧ mayHead t.e.toNat t.s.toNat t.n.toNat = true then (0, t.e.toNat, t.s.toNat, t.n.toNat) else (1, 0, 0, 0)
theorem hLast_out (a : Nat) (e s n : Int) (l : List Int) : headLast e.toNat s.toNat n.toNat l = hOut (hLast a e s n l) := by
  cases l with
  | nil => rfl
  | cons b r => rfl
theorem hNum_out (a : Nat) (e s : Int) (xs : List Int) : (if (vget xs).e ≠ 0 then ((vget xs).e, 0, 0, 0) else headLast e.toNat s.toNat (vget xs).x.toNat (xs.drop (vget xs).n)) = hOut (hNum a e s xs) := by
  unfold hNum
  by_cases h2 : (vget xs).e ≠ 0
  · rw [if_pos h2, if_pos h2]
    unfold hOut
    rw [if_pos h2]
  · rw [if_neg h2, if_neg h2]
    exact hLast_out _ _ _ _ _
theorem hSeg_out (a : Nat) (e : Int) (xs : List Int) : headNums e.toNat xs = hOut (hSeg a e xs) := by
  unfold headNums hSeg
  by_cases h1 : (vget xs).e ≠ 0
  · rw [if_pos h1, if_pos h1]
    unfold hOut
    rw [if_pos h1]
  · rw [if_neg h1, if_neg h1]
    exact hNum_out _ _ _ _
theorem hExp_out (a : Nat) (xs : List Int) : headExp xs = hOut (hExp a xs) := by
  cases xs with
  | nil => rfl
  | cons b r => exact hSeg_out _ _ _
theorem hVer_out (a : Nat) (xs : List Int) : headVer xs = hOut (hVer a xs) := by
  cases xs with
  | nil => rfl
  | cons b r =>
    show (if b ≠ 2 then (4, 0, 0, 0) else headExp r) = hOut (if b = 2 then hExp (a + 1) r else ⟨4, a + 1, 0, 0, 0⟩)
    by_cases h : b = 2
    · rw [if_neg (by simpa using h), if_pos h]
      exact hExp_out _ _
    · rw [if_pos h, if_neg h]
      rfl
theorem hKind_out (a : Nat) (xs : List Int) : headR xs = hOut (hKind a xs) := by
  cases xs with
  | nil => rfl
  | cons b r =>
    show (if b ≠ 1 then (4, 0, 0, 0) else headVer r) = hOut (if b = 1 then hVer (a + 1) r else ⟨4, a + 1, 0, 0, 0⟩)
    by_cases h : b = 1
    · rw [if_neg (by simpa using h), if_pos h]
      exact hVer_out _ _
    · rw [if_pos h, if_neg h]
      rfl

/-- The numbers that a head's reading leaves are bytes and words. -/
structure HR.Fine (t : HR) : Prop where
  e : 0 ≤ t.e ∧ t.e < 256
  s : 0 ≤ t.s ∧ t.s < 18446744073709551616
  n : 0 ≤ t.n ∧ t.n < 18446744073709551616
theorem vget_u64 {xs : List Int} (ho : Octets xs) (h : (vget xs).e = 0) : 0 ≤ (vget xs).x ∧ (vget xs).x < 18446744073709551616 := vread_bound 9 true xs ho h
theorem hLast_fine {a : Nat} {e s n : Int} (l : List Int) (he : 0 ≤ e ∧ e < 256) (hs : 0 ≤ s ∧ s < 18446744073709551616) (hn : 0 ≤ n ∧ n < 18446744073709551616) : (hLast a e s n l).Fine := by
  cases l <;> exact ⟨he, hs, hn⟩
theorem hSeg_fine {a : Nat} {e : Int} {xs : List Int} (ho : Octets xs) (he : 0 ≤ e ∧ e < 256) : (hSeg a e xs).Fine := by
  have hz : (0 : Int) ≤ 0 ∧ (0 : Int) < 18446744073709551616 := by decide
  unfold hSeg
  by_cases h1 : (vget xs).e = 0
  · rw [if_neg (by simpa using h1)]
    have hs := vget_u64 ho h1
    unfold hNum
    by_cases h2 : (vget (xs.drop (vget xs).n)).e = 0
    · rw [if_neg (by simpa using h2)]
      exact hLast_fine _ he hs (vget_u64 (ho.drop _) h2)
    · rw [if_pos h2]
      exact ⟨he, hs, hz⟩
  · rw [if_pos h1]
    exact ⟨he, hz, hz⟩
theorem hKind_fine {a : Nat} {xs : List Int} (ho : Octets xs) : (hKind a xs).Fine := by
  have hz : (0 : Int) ≤ 0 ∧ (0 : Int) < 18446744073709551616 := by decide
  have h8 : (0 : Int) ≤ 0 ∧ (0 : Int) < 256 := by decide
  cases xs with
  | nil => exact ⟨h8, hz, hz⟩
  | cons b r =>
    have ho1 : Octets r := fun x hx => ho x (List.mem_cons_of_mem _ hx)
    show (if b = 1 then hVer (a + 1) r else ⟨4, a + 1, 0, 0, 0⟩ : HR).Fine
    split
    · cases r with
      | nil => exact ⟨h8, hz, hz⟩
      | cons b2 r2 =>
        have ho2 : Octets r2 := fun x hx => ho1 x (List.mem_cons_of_mem _ hx)
        show (if b2 = 2 then hExp (a + 1 + 1) r2 else ⟨4, a + 1 + 1, 0, 0, 0⟩ : HR).Fine
        split
        · cases r2 with
          | nil => exact ⟨h8, hz, hz⟩
          | cons b3 r3 => exact hSeg_fine (fun x hx => ho2 x (List.mem_cons_of_mem _ hx)) (ho2 b3 List.mem_cons_self)
        · exact ⟨h8, hz, hz⟩
    · exact ⟨h8, hz, hz⟩

set_option maxHeartbeats 1000000 in
set_option maxRecDepth 10000 in
theorem hcheck_own (e s n : Nat) (w : World) : Calls Try.prog 33 #[confV e s, .int .u32 (n : Int)] w fun r w' => r = .returned (.int .i64 (if mayHead e s n = true then 0 else 1)) ∧ Keeps NoBlock w w' := by
  have HR := Lib.hid (Whole.new w 24 (confCells e s))
  have HK := Lib.hid ((Keeps.refl NoBlock w).alloc (.cells (confCells e s) 24))
  have H1 := Lib.hid (fun w => check_conf e s w)
  have hdef : mayHead e s n = (mayC e s && decide (n < s)) := rfl
  rw [hdef]
  cases hm : mayC e s
  · rw [checkC_not hm] at H1
    rw [Bool.false_and, if_neg (by decide)]
    clear hdef hm
    unfold confV at H1 ⊢
    go_enter Try.func33, Try.ntmps33
    go_wp2_with fail
    refine (H1.out _).mono ?_
    rintro r w1 ⟨rfl, hk⟩
    have HK := Lib.hid (HK.out.trans hk)
    clear hk
    go_wp2_with fail
    go_ret
    exact ⟨rfl, HK.out⟩
  · rw [checkC_may hm] at H1
    rw [Bool.true_and]
    clear hdef hm
    unfold confV at H1 ⊢
    by_cases hns : n < s
    · have d1 : decide ((s : Int) ≤ (n : Int)) = false := decide_eq_false (by omega)
      have d2 : decide (s ≤ n) = false := decide_eq_false (by omega)
      rw [if_pos (decide_eq_true hns)]
      have HN := Lib.hid hns
      clear hns
      go_enter Try.func33, Try.ntmps33
      go_wp2_with fail
      refine (H1.out _).mono ?_
      rintro r w1 ⟨rfl, hk⟩
      have c1 := (HR.out.keep hk (fun h => h)).cell 1 rfl
      simp only [confCells, List.getElem_toArray, List.getElem_cons_zero, List.getElem_cons_succ] at c1
      have HK := Lib.hid (HK.out.trans hk)
      clear hk
      have hns : ¬ (s : Int) ≤ (n : Int) := by have := HN.out; omega
      go_wp2_with fail
      go_ret
      exact ⟨rfl, HK.out⟩
    · have d1 : decide ((s : Int) ≤ (n : Int)) = true := decide_eq_true (by omega)
      have d2 : decide (s ≤ n) = true := decide_eq_true (by omega)
      rw [if_neg (by simpa using hns)]
      have HN := Lib.hid hns
      clear hns
      go_enter Try.func33, Try.ntmps33
      go_wp2_with fail
      refine (H1.out _).mono ?_
      rintro r w1 ⟨rfl, hk⟩
      have c1 := (HR.out.keep hk (fun h => h)).cell 1 rfl
      simp only [confCells, List.getElem_toArray, List.getElem_cons_zero, List.getElem_cons_succ] at c1
      have HK := Lib.hid (HK.out.trans hk)
      clear hk
      have hns : (s : Int) ≤ (n : Int) := by have := HN.out; omega
      go_wp2_with fail
      go_ret
      exact ⟨rfl, HK.out⟩
end Go.Proofs.Ytibojgoeaoinpaa

/-
  The document's Get of a double; what is read of what was written.
-/
import Derived.Test.YtillkgbnokkacaaEdgeWalks
import Derived.Test.YtillkgbnokkacaaRef1
import Derived.Test.YtillkgbnokkacaaSet3
namespace Go.Proofs.Ytillkgbnokkacaa
open Go.RowKit

theorem le_word {xs : List Int} (ho : Octets xs) : Word64 (le (xs.take 8)).toNat ∧ (((le (xs.take 8)).toNat : Nat) : Int) = le (xs.take 8) := by
  have hb := le_bound (xs.take 8) (ho.take 8)
  have h1 : (2 : Nat) ^ (8 * (xs.take 8).length) ≤ 2 ^ 64 := Nat.pow_le_pow_right (by decide) (by rw [List.length_take]; omega)
  have h2 : ((2 : Int) ^ (8 * (xs.take 8).length)) = ((2 ^ (8 * (xs.take 8).length) : Nat) : Int) := by push_cast; rfl
  have h3 : (2 : Int) ^ (8 * (xs.take 8).length) ≤ 18446744073709551616 := by
    rw [h2]
    exact Int.le_trans (Int.ofNat_le.2 h1) (by decide)
  constructor
  · unfold Word64
    omega
  · omega

theorem eget_short {xs : List Int} (h : xs.length < 8) : eget xs = ⟨2, 0, 0⟩ := by unfold eget; rw [if_pos h]
theorem eget_good {xs : List Int} {z : Nat} (h : ¬ xs.length < 8) (hz : z = (le (xs.take 8)).toNat) (ht : textW z = z) : eget xs = ⟨0, 8, z⟩ := by
  unfold eget
  rw [if_neg h, ← hz, if_pos ht]
theorem eget_form {xs : List Int} {z : Nat} (h : ¬ xs.length < 8) (hz : z = (le (xs.take 8)).toNat) (ht : ¬ textW z = z) : eget xs = ⟨4, 8, 0⟩ := by
  unfold eget
  rw [if_neg h, ← hz, if_neg ht]

theorem le_digits (x : Nat) : ∀ n, le (digits (x : Int) n) = ((x % 2 ^ (8 * n) : Nat) : Int)
  | 0 => by simp [digits, le, Nat.mod_one]
  | n + 1 => by
    rw [digits, le_snoc, digits_length, le_digits x n]
    have hp : 2 ^ (8 * (n + 1)) = 2 ^ (8 * n) * 256 := by rw [show 8 * (n + 1) = 8 * n + 8 by omega, Nat.pow_add]
    have e1 : ((2 : Int) ^ (8 * n)) = ((2 ^ (8 * n) : Nat) : Int) := by push_cast; rfl
    rw [hp, e1, show ((x : Int) / ((2 ^ (8 * n) : Nat) : Int) % 256) = ((x / 2 ^ (8 * n) % 256 : Nat) : Int) by omega, ← Int.natCast_mul, ← Int.natCast_add, Nat.mod_mul]
theorem eget_digits {b : Nat} (hb : Word64 b) (r : List Int) : eget (digits (textW b : Int) 8 ++ r) = ⟨0, 8, textW b⟩ := by
  have hl := digits_length (textW b : Int) 8
  have ht : (digits (textW b : Int) 8 ++ r).take 8 = digits (textW b : Int) 8 := by
    conv => lhs; arg 1; rw [← hl]
    exact List.take_left
  have hw := text_word hb
  unfold Word64 at hw
  refine eget_good (by rw [List.length_append, hl]; omega) ?_ ?_
  · rw [ht, le_digits]
    rw [show (2 : Nat) ^ (8 * 8) = 18446744073709551616 from rfl, Nat.mod_eq_of_lt hw]
    rfl
  · unfold textW
    by_cases h : nanW b = true
    · rw [if_pos h]
      rfl
    · rw [if_neg h, if_neg h]

/-- What the document's Get leaves. -/
def erefOut (xs : List Int) (a : Int) (t : ER) : Value := .tuple #[rdr (xs.drop t.n) (a + t.n) t.e, .float .f64 t.x]

set_option maxHeartbeats 2000000 in
set_option maxRecDepth 10000 in
theorem eget_ref (xs : List Int) (a : Int) (hl : xs.length ≤ 140737488355328) (ha : 0 ≤ a ∧ a ≤ 140737488355328) (ho : Octets xs) (w : World) :
    Calls Try.prog 26 #[rdr xs a 0] w fun e w' => e = .returned (erefOut xs a (eget xs)) ∧ Keeps NoBlock w w' := by
  by_cases h8 : xs.length < 8
  · have HG := Lib.hid (fun w => get1_ref_short xs a 8 8 rfl (by decide) h8 w)
    have hf := fun w => run_frombits 0 w
    rw [eget_short h8]
    unfold erefOut
    rw [List.drop_zero, Int.natCast_zero, Int.add_zero]
    unfold rdr at *
    clear hl ha ho h8
    go_enter Try.func26, Try.ntmps26
    go_wp2_with fail
    refine (HG.out _).mono ?_
    rintro e w1 ⟨rfl, hk⟩
    have hb : Whole w1 w.heap.size 47 #[.string (strOfNums xs), .int .i64 a, .int .i64 0] := ((Whole.new w _ _).alloc _).keep hk (fun h => h)
    have hs : Whole w1 (w.heap.size + 1) 47 #[.string { data := #[] }, .int .i64 0, .int .i64 0] := (Whole.newAt _ _ _ _ (by simp)).keep hk (fun h => h)
    have HK := Lib.hid ((((Keeps.refl NoBlock w).alloc _).alloc _).trans hk)
    have b0 := hb.cell 0 rfl
    have b1 := hb.cell 1 rfl
    have b2 := hb.cell 2 rfl
    have c0 := hs.cell 0 rfl
    have c1 := hs.cell 1 rfl
    have c2 := hs.cell 2 rfl
    have g0 := hb.free 0
    have g1 := hb.free 1
    have g2 := hb.free 2
    have f0 := hs.free 0
    have f1 := hs.free 1
    have f2 := hs.free 2
    simp only [List.getElem_toArray, List.getElem_cons_zero, List.getElem_cons_succ] at b0 b1 b2 c0 c1 c2
    clear hk hb hs
    go_wp2_with fail
    exact bodyPost_ret (v := .tuple #[rdr xs a 2, .float .f64 0]) (by simp [results, Try.results26, go_sem, rdr, c0, c1, c2]) rfl ⟨rfl, (HK.out.set3 (Nat.le_refl _) _ _ _).set3 (by omega) _ _ _⟩
  · have hob := le_word ho
    have hd := ho.drop 8
    obtain ⟨z, hz⟩ : ∃ z, z = (le (xs.take 8)).toNat := ⟨_, rfl⟩
    rw [← hz] at hob
    have HG := Lib.hid (fun w => get1_ref xs a 8 8 rfl (by decide) (by omega) (by decide) hl ha ho w)
    rw [← hob.2] at HG
    have hf := fun w => run_frombits (z : Int) w
    rw [Int.toNat_natCast] at hf
    have HB := Lib.hid (fun w => bits_ref z w)
    have HF := Lib.hid (fun w => fail_ref (xs.drop 8) (a + ((8 : Nat) : Int)) 4 w)
    have hgood := fun ht => eget_good (xs := xs) h8 hz ht
    have hform := fun ht => eget_form (xs := xs) h8 hz ht
    have ha1 : (0 : Int) ≤ a + ((8 : Nat) : Int) := by omega
    obtain ⟨u, hu⟩ : ∃ u, u = textW z := ⟨_, rfl⟩
    rw [← hu] at HB hgood hform
    have HGo := Lib.hid hgood
    have HFo := Lib.hid hform
    unfold rdr at HF HG
    clear hl ho hd hob hz h8 hu hgood hform
    by_cases hz : u = z
    · rw [HGo.out hz]
      unfold erefOut rdr
      have hbz : ((u : Int) != (z : Int)) = false := by rw [hz]; simp
      subst hz
      go_enter Try.func26, Try.ntmps26
      go_wp2_with fail
      refine (HG.out _).mono ?_
      rintro e w1 ⟨rfl, hk⟩
      have hb : Whole w1 w.heap.size 47 #[.string (strOfNums xs), .int .i64 a, .int .i64 0] := ((Whole.new w _ _).alloc _).keep hk (fun h => h)
      have hs : Whole w1 (w.heap.size + 1) 47 #[.string { data := #[] }, .int .i64 0, .int .i64 0] := (Whole.newAt _ _ _ _ (by simp)).keep hk (fun h => h)
      have HK := Lib.hid ((((Keeps.refl NoBlock w).alloc _).alloc _).trans hk)
      have b0 := hb.cell 0 rfl
      have b1 := hb.cell 1 rfl
      have b2 := hb.cell 2 rfl
      have c0 := hs.cell 0 rfl
      have c1 := hs.cell 1 rfl
      have c2 := hs.cell 2 rfl
      have g0 := hb.free 0
      have g1 := hb.free 1
      have g2 := hb.free 2
      have f0 := hs.free 0
      have f1 := hs.free 1
      have f2 := hs.free 2
      simp only [List.getElem_toArray, List.getElem_cons_zero, List.getElem_cons_succ] at b0 b1 b2 c0 c1 c2
      have HS := Lib.hid (hs.other3 (h := w.heap.size) (by omega) (.string (strOfNums (xs.drop 8))) (.int .i64 (a + ((8 : Nat) : Int))) (.int .i64 0))
      clear hk hb hs HS
      go_wp2_with fail
      refine (HB.out _).mono ?_
      rintro e w2 ⟨rfl, rfl⟩
      go_wp2_with fail
      exact bodyPost_ret (v := .tuple #[rdr (xs.drop 8) (a + ((8 : Nat) : Int)) 0, .float .f64 u]) (by simp [results, Try.results26, go_sem, rdr, c0, c1, c2]) rfl ⟨rfl, (HK.out.set3 (Nat.le_refl _) _ _ _).set3 (by omega) _ _ _⟩
    · rw [HFo.out hz]
      unfold erefOut rdr
      have hbz : ((u : Int) != (z : Int)) = true := by simp; omega
      go_enter Try.func26, Try.ntmps26
      go_wp2_with fail
      refine (HG.out _).mono ?_
      rintro e w1 ⟨rfl, hk⟩
      have hb : Whole w1 w.heap.size 47 #[.string (strOfNums xs), .int .i64 a, .int .i64 0] := ((Whole.new w _ _).alloc _).keep hk (fun h => h)
      have hs : Whole w1 (w.heap.size + 1) 47 #[.string { data := #[] }, .int .i64 0, .int .i64 0] := (Whole.newAt _ _ _ _ (by simp)).keep hk (fun h => h)
      have HK := Lib.hid ((((Keeps.refl NoBlock w).alloc _).alloc _).trans hk)
      have b0 := hb.cell 0 rfl
      have b1 := hb.cell 1 rfl
      have b2 := hb.cell 2 rfl
      have c0 := hs.cell 0 rfl
      have c1 := hs.cell 1 rfl
      have c2 := hs.cell 2 rfl
      have g0 := hb.free 0
      have g1 := hb.free 1
      have g2 := hb.free 2
      have f0 := hs.free 0
      have f1 := hs.free 1
      have f2 := hs.free 2
      simp only [List.getElem_toArray, List.getElem_cons_zero, List.getElem_cons_succ] at b0 b1 b2 c0 c1 c2
      have HS := Lib.hid (hs.other3 (h := w.heap.size) (by omega) (.string (strOfNums (xs.drop 8))) (.int .i64 (a + ((8 : Nat) : Int))) (.int .i64 0))
      clear hk hb hs
      go_wp2_with fail
      refine (HB.out _).mono ?_
      rintro e w2 ⟨rfl, rfl⟩
      go_wp2_with fail
      refine (HF.out _).mono ?_
      rintro e w3 ⟨rfl, hk3⟩
      have hs3 := HS.out.keep hk3 (fun h => h)
      have HK3 := Lib.hid ((HK.out.set3 (Nat.le_refl _) _ _ _).trans hk3)
      have c0 := hs3.cell 0 rfl
      have c1 := hs3.cell 1 rfl
      have c2 := hs3.cell 2 rfl
      have f0 := hs3.free 0
      have f1 := hs3.free 1
      have f2 := hs3.free 2
      simp only [List.getElem_toArray, List.getElem_cons_zero, List.getElem_cons_succ] at c0 c1 c2
      clear hk3 hs3
      go_wp2_with fail
      exact bodyPost_ret (v := .tuple #[rdr (xs.drop 8) (a + ((8 : Nat) : Int)) 4, .float .f64 0]) (by simp [results, Try.results26, go_sem, rdr, c0, c1, c2]) rfl ⟨rfl, HK3.out.set3 (by omega) _ _ _⟩
end Go.Proofs.Ytillkgbnokkacaa

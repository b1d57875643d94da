/-
  Package wide: a State in memory; eight, New, take.
-/
import Derived.Test.YtbchiccgkhnkaaaWideSum
namespace Go.Proofs.Ytbchiccgkhnkaaa
open Go.RowKit

theorem four8_le {xs : List Int} (h8 : 8 ≤ xs.length) : four8 xs 0 = four4 xs 0 + 4294967296 * four4 (xs.drop 4) 0 := by
  match xs, h8 with
  | a :: b :: c :: d :: e :: f :: g :: h :: r, _ => simp [four4, four8, le]; omega

set_option maxHeartbeats 2000000 in
set_option maxRecDepth 10000 in
theorem eight_wide (p : Option Addr) (N c : Nat) (xs : List Int) (hx : N = xs.length) (h8 : 8 ≤ N) (hc : N ≤ c) (ho : Octets xs) (w : World) (hb : Bytes8 w p xs) :
    Calls Try.prog 88 #[.slice p N c] w fun e w' => e = .returned (.int .u64 (four8 xs 0)) ∧ ∃ n, w' = w.drewN n := by
  have hb4 := hb.piece (q := p.map (·.add 4)) 4 (N - 4) (by omega) (fun _ => rfl)
  rw [List.take_of_length_le (by rw [List.length_drop]; omega)] at hb4
  obtain ⟨a, rfl, _⟩ := id hb (by omega)
  have HB := Lib.hid hb
  have HB4 : Hid (Bytes8 w (some ⟨a.block, a.off + 4, none⟩) (xs.drop 4)) := Lib.hid hb4
  have HF0 := Lib.hid (fun w hb => four_wide (some a) N c xs hx (by omega) ho w hb)
  have HF1 := Lib.hid (fun w hb => four_wide (some ⟨a.block, a.off + 4, none⟩) (N - 4) (c - 4) (xs.drop 4) (by rw [List.length_drop, hx]) (by omega) (ho.drop 4) w hb)
  have b0 := four4_bound ho 0
  have b1 := four4_bound (ho.drop 4) 0
  have he := four8_le (xs := xs) (by omega)
  obtain ⟨f0, e0⟩ : ∃ f, f = four4 xs 0 := ⟨_, rfl⟩
  obtain ⟨f1, e1⟩ : ∃ f, f = four4 (xs.drop 4) 0 := ⟨_, rfl⟩
  rw [← e0] at HF0 b0 he
  rw [← e1] at HF1 b1 he
  have hor : bits BinOp.or IntKind.u64 f0 (f1 * 4294967296) = f0 + 4294967296 * f1 := by
    obtain ⟨x, rfl⟩ := Int.eq_ofNat_of_zero_le b0.1
    obtain ⟨y, rfl⟩ := Int.eq_ofNat_of_zero_le b1.1
    have hxx : x < 2 ^ 32 := by have := b0.2; omega
    have hyy : y < 4294967296 := by have := b1.2; omega
    have e2 : (y : Int) * 4294967296 = ((4294967296 * y : Nat) : Int) := by omega
    have e3 : 4294967296 * y + x = 4294967296 * y ||| x := Nat.two_pow_add_eq_or_of_lt (i := 32) hxx y
    rw [e2, u64_or_nat _ _ (by omega) (by omega), Nat.or_comm, ← e3]
    omega
  have HE := Lib.hid (he.trans hor.symm)
  have z0 := b0.1
  have z1 := b0.2
  have z2 := b1.1
  have z3 := b1.2
  have hcne : ¬ c = 4 := by omega
  have n4 : (4 : Int) ≤ (N : Int) := by omega
  have c4 : (4 : Int) ≤ (c : Int) := by omega
  clear hb hb4 e0 e1 b0 b1 hor he ho hx
  go_enter Try.func88, Try.ntmps88
  go_wp2_with fail
  go_quiet (first
    | (go_at_call_of 89 (Value.slice (some a) N c); exact Calls.quiet_of (HF0.out _ (by exact HB.out)))
    | (go_at_call 89; exact Calls.quiet_of (HF1.out _ (by exact HB4.out))))
  go_wp2_with fail
  go_ret
  exact ⟨by rw [HE.out]; rfl, nq, rfl⟩

/-- A State's cells. -/
def scells (s : Int) (v : Nat → Int) (ps : List Int) (z : Int) : Array Value :=
  (Value.int .u64 s :: Value.int .u64 (v 0) :: Value.int .u64 (v 1) :: Value.int .u64 (v 2) :: Value.int .u64 (v 3) :: (ps.map (Value.int .u8) ++ [Value.int .u64 z])).toArray
theorem scells_seed (s : Int) (v : Nat → Int) (ps : List Int) (z : Int) : (scells s v ps z)[0]? = some (.int .u64 s) := rfl
theorem scells_num (s : Int) (v : Nat → Int) (ps : List Int) (z : Int) {j : Nat} (hj : j < 4) : (scells s v ps z)[1 + j]? = some (.int .u64 (v j)) := by
  have : j = 0 ∨ j = 1 ∨ j = 2 ∨ j = 3 := by omega
  rcases this with rfl | rfl | rfl | rfl <;> rfl
theorem scells_size (s : Int) (v : Nat → Int) {ps : List Int} (z : Int) (h : ps.length = 32) : (scells s v ps z)[37]? = some (.int .u64 z) := by
  unfold scells
  rw [List.getElem?_toArray]
  show (ps.map (Value.int .u8) ++ [Value.int .u64 z])[32]? = _
  rw [List.getElem?_append_right (by simp [h])]
  simp [h]
theorem scells_part (s : Int) (v : Nat → Int) {ps : List Int} (z : Int) (i : Nat) (h : i < ps.length) : (scells s v ps z)[5 + i]? = some (.int .u8 (ps.getD i 0)) := by
  unfold scells
  rw [List.getElem?_toArray, Nat.add_comm 5]
  show (ps.map (Value.int .u8) ++ [Value.int .u64 z])[i]? = _
  rw [List.getElem?_append_left (by simpa using h)]
  simp [h]
theorem scells_setNum (s : Int) (v : Nat → Int) (ps : List Int) (z : Int) {j : Nat} (hj : j < 4) (x : Int) : (scells s v ps z).setIfInBounds (1 + j) (.int .u64 x) = scells s (upd v j x) ps z := by
  have : j = 0 ∨ j = 1 ∨ j = 2 ∨ j = 3 := by omega
  rcases this with rfl | rfl | rfl | rfl <;> rfl
theorem scells_setSize (s : Int) (v : Nat → Int) {ps : List Int} (z y : Int) (h : ps.length = 32) : (scells s v ps z).setIfInBounds 37 (.int .u64 y) = scells s v ps y := by
  apply Array.ext'
  unfold scells
  rw [Array.toList_setIfInBounds]
  show (Value.int .u64 s :: Value.int .u64 (v 0) :: Value.int .u64 (v 1) :: Value.int .u64 (v 2) :: Value.int .u64 (v 3) :: ((ps.map (Value.int .u8) ++ [Value.int .u64 z]).set 32 (.int .u64 y))) = _
  rw [List.set_append_right _ _ (by simp [h])]
  simp [h]
theorem scells_copy (s : Int) (v : Nat → Int) {ps cs : List Int} (z : Int) (o : Nat) (h : ps.length = 32) (hf : o + cs.length ≤ 32) :
    ((scells s v ps z).toList.take (5 + o) ++ cs.map (Value.int .u8) ++ (scells s v ps z).toList.drop (5 + o + cs.length)).toArray = scells s v (ps.take o ++ cs ++ ps.drop (o + cs.length)) z := by
  unfold scells
  rw [show 5 + o + cs.length = 5 + (o + cs.length) by omega, Nat.add_comm 5 o, Nat.add_comm 5 (o + cs.length)]
  simp only [List.take_succ_cons, List.drop_succ_cons, List.cons_append]
  rw [List.take_append_of_le_length (by simp; omega), List.drop_append_of_le_length (by simp; omega)]
  simp [List.map_take, List.map_drop]

/-- The State at block g: its cells. -/
def StAt (w : World) (g : Nat) (s : Int) (v : Nat → Int) (ps : List Int) (z : Int) : Prop :=
  ps.length = 32 ∧ Octets ps ∧ Whole w g 123 (scells s v ps z)
/-- The State at block g has these bytes. -/
def Holds (w : World) (g : Nat) (s : Int) (xs : List Int) : Prop :=
  ∃ ps, StAt w g s (wnums (wseed s) xs (xs.length / 32)) ps xs.length ∧ ps.take (xs.length % 32) = wleft xs

theorem StAt.keep {w w' : World} {g : Nat} {s : Int} {v : Nat → Int} {ps : List Int} {z : Int} (h : StAt w g s v ps z) {S : Nat → Prop} (hk : Keeps S w w') (hs : ¬ S g) : StAt w' g s v ps z :=
  ⟨h.1, h.2.1, h.2.2.keep hk hs⟩
theorem Holds.keep {w w' : World} {g : Nat} {s : Int} {xs : List Int} (h : Holds w g s xs) {S : Nat → Prop} (hk : Keeps S w w') (hs : ¬ S g) : Holds w' g s xs := by
  obtain ⟨ps, h1, h2⟩ := h
  exact ⟨ps, h1.keep hk hs, h2⟩

set_option maxHeartbeats 2000000 in
set_option maxRecDepth 10000 in
theorem new_wide (s : Int) (hs : U64 s) (w : World) :
    Calls Try.prog 70 #[.int .u64 s] w fun e w' => e = .returned (.pointer (some ⟨w.heap.size, 0, none⟩)) ∧ Holds w' w.heap.size s [] ∧ Keeps NoBlock w w' := by
  have h0 := hs.1
  have h1 := hs.2
  clear hs
  go_enter Try.func70, Try.ntmps70
  go_wp2_with fail
  go_ret
  refine ⟨rfl, ⟨List.replicate 32 0, ⟨rfl, fun b hb => ?_, ?_⟩, rfl⟩, (Keeps.refl _ _).alloc _⟩
  · have := List.eq_of_mem_replicate hb
    omega
  · exact Whole.new _ _ _

set_option maxHeartbeats 2000000 in
set_option maxRecDepth 10000 in
theorem take_wide (g : Nat) (s : Int) (v : Nat → Int) (ps : List Int) (z : Int) (p : Option Addr) (N c : Nat) (bs : List Int) (w : World) (hst : StAt w g s v ps z) (hv : ∀ j, j < 4 → U64 (v j)) (hx : N = bs.length) (h32 : 32 ≤ N) (hc : N ≤ c) (hc' : c ≤ 9223372036854775807) (ho : Octets bs) (hb : Bytes8 w p bs)
    (hsep : ∀ a, p = some a → ∀ i j, i < N → j < 4 → a.add i ≠ ⟨g, 1 + j, none⟩) :
    Calls Try.prog 84 #[.pointer (some ⟨g, 0, none⟩), .slice p N c] w fun e w' => e = .returned (.tuple #[]) ∧ StAt w' g s (wtaken v bs 4) ps z ∧ Keeps (Just g) w w' := by
  obtain ⟨hl, hpo, hwh⟩ := hst
  obtain ⟨a, rfl, hcell⟩ := hb (by omega)
  have HW0 := Lib.hid hwh
  have HC := Lib.hid hcell
  have HV := Lib.hid hv
  have HX := Lib.hid hx
  have HO := Lib.hid ho
  have HSep := Lib.hid (fun i j hi hj => hsep a rfl i j hi hj)
  have HL := Lib.hid hl
  have HP := Lib.hid hpo
  clear hl hpo hwh hcell hv hx ho hsep hb
  go_enter Try.func84, Try.ntmps84
  go_wp2_with fail
  go_loopw [5] (fun i wr => ∃ k : Nat, k ≤ 4 ∧ i = .int .i64 (k : Int) ∧ Whole wr g 123 (scells s (wtaken v bs k) ps z) ∧ (∀ i, i < bs.length → wr.cell? (a.add i) = some (.int .u8 (bs.getD i 0))) ∧ Keeps (Just g) w wr) (fun i _ => 4 - (intOf i).toNat)
  case atStart => exact ⟨0, by omega, rfl, by rw [wtaken_zero]; exact HW0.out, HC.out, Keeps.refl _ _⟩
  case round =>
    obtain ⟨k, hk4, rfl, hwk, hck, hkk⟩ := hrel
    have HWk := Lib.hid hwk
    have HCk := Lib.hid hck
    have HKk := Lib.hid hkk
    clear hkk hck
    by_cases hlt4 : k < 4
    · have c0 := hwk.cell (1 + k) (scells_num s (wtaken v bs k) ps z hlt4)
      have f0 := hwk.free (1 + k)
      have hub := wtaken_bound HV.out bs k k hlt4
      have hu0 := hub.1
      have hu1 := hub.2
      have HI := Lib.hid (fun w => winto_wide (wtaken v bs k k) (four8 bs k) hub (four8_bound HO.out k) w)
      clear hwk hub
      have ha1 : (0 : Int) ≤ (k : Int) := by omega
      have ha2 : (k : Int) < 4 := by omega
      have ha3 : (8 : Int) * (k : Int) ≤ (N : Int) := by omega
      have ha4 : (0 : Int) ≤ 8 * (k : Int) := by omega
      have ha5 : (8 : Int) * (k : Int) ≤ (c : Int) := by omega
      have hw1 : IntKind.i64.wrap (8 * (k : Int)) = 8 * (k : Int) := by rw [IntKind.wrap_i64]; omega
      have hdne : ¬ c = 8 * k := by omega
      have htn : (8 * (k : Int)).toNat = 8 * k := by omega
      have HF := Lib.hid (fun w' (hb : Bytes8 w' (some (a.add (8 * k))) (bs.drop (8 * k))) => eight_wide (some (a.add (8 * k))) (N - 8 * k) (c - 8 * k) (bs.drop (8 * k)) (by rw [List.length_drop, HX.out]) (by omega) (by omega) (HO.out.drop _) w' hb)
      have hbk : Bytes8 wr (some (a.add (8 * k))) (bs.drop (8 * k)) := by
        have h1 : Bytes8 wr (some a) bs := fun _ => ⟨a, rfl, HCk.out⟩
        have h2 := h1.piece (q := some (a.add (8 * k))) (8 * k) (N - 8 * k) (by have := HX.out; omega) (fun _ => rfl)
        rw [List.take_of_length_le (by rw [List.length_drop]; have := HX.out; omega)] at h2
        exact h2
      have HBk := Lib.hid hbk
      rw [show four8 (bs.drop (8 * k)) 0 = four8 bs k by simp [four8]] at HF
      obtain ⟨y, hyd⟩ : ∃ y, y = four8 bs k := ⟨_, rfl⟩
      have hfb := four8_bound HO.out k
      have hsx := wtaken_succ v bs k
      rw [← hyd] at HF hfb HI hsx
      obtain ⟨u, hu⟩ : ∃ u, u = win (wtaken v bs k k) y := ⟨_, rfl⟩
      rw [← hu] at HI hsx
      have HSX := Lib.hid hsx
      have hy0 := hfb.1
      have hy1 := hfb.2
      clear hbk hfb hyd hu hsx
      go_wp2_with fail
      go_region_with (first | (go_at_call 88; refine (HF.out _ (by exact HBk.out)).mono ?_; rintro e w5 ⟨rfl, n5, rfl⟩) | (go_at_call 87; refine (HI.out _).mono ?_; rintro e w5 ⟨rfl, rfl⟩) | fail)
      all_goals
        go_wp2_with fail
        go_roundw
        case rel =>
          refine ⟨k + 1, by omega, rfl, ?_, ?_, ?_⟩
          · rw [← HSX.out, ← scells_setNum _ _ _ _ hlt4]
            exact HWk.out.set (1 + k) _
          · intro i hi
            rw [World.cell?_setCell_other _ _ _ _ (fun e => HSep.out i k (by have := HX.out; omega) hlt4 e.symm)]
            exact HCk.out i hi
          · exact (HKk.out.drewN _).setIn (Just.self _) _ _
        case measure => simp [intOf]; omega
    · obtain rfl : k = 4 := by omega
      have HS := Lib.hid (show StAt wr g s (wtaken v bs 4) ps z from ⟨HL.out, HP.out, HWk.out⟩)
      clear hwk
      go_wp2_with fail
      go_returns
      exact ⟨rfl, HS.out, HKk.out⟩
end Go.Proofs.Ytbchiccgkhnkaaa

/-
  CobsUnNum; CobsUnstuff; CobsAll; WideSum; WideState; WideCopy.
-/
import Derived.BigQuiet
import Derived.Laws.CopyRow
import Derived.Deep.CutRange
import Derived.Deep.DeepCutAuto
import Derived.Test.YtjeammmfdniokaaGreatM01
import Derived.Test.YtjeammmfdniokaaGreatM06
import Derived.Test.YtjeammmfdniokaaGreatM11
import Derived.Test.YtjeammmfdniokaaGreatM23
namespace Go.Proofs.YtjeammmfdniokaaGreat

end Go.Proofs.YtjeammmfdniokaaGreat

namespace Go.Proofs.YtjeammmfdniokaaGreat
open Go.RowKit

theorem Copied.more {w wr w3 : World} {N m : Nat} {xs ys : List Int} {v v' : Value} (h : Copied w N xs v wr) (hown : w3.ownsRow w.heap.size 5 1 v' (N + m) (xs.map (Value.int .u8) ++ ys.map (Value.int .u8))) (hgrow : wr.grownBy w3 v.ownBlock) : Copied w (N + m) (xs ++ ys) v' w3 :=
  ⟨by rw [List.map_append]; exact hown, h.2.grown hgrow h.2.size (fun k hk => own_base h.1 hk)⟩

end Go.Proofs.YtjeammmfdniokaaGreat

namespace Go.Proofs.YtjeammmfdniokaaGreat
open Go.RowKit

end Go.Proofs.YtjeammmfdniokaaGreat

namespace Go.Proofs.YtjeammmfdniokaaGreat
open Go.RowKit

theorem and63 (n : Nat) (hn : n < 64) : bits BinOp.and IntKind.u64 (n : Int) 63 = (n : Int) := by
  have e := u64_and_nat n 63 (by omega) (by decide)
  rw [show n &&& 63 = n % 2 ^ 6 from Nat.and_two_pow_sub_one_eq_mod n 6, Nat.mod_eq_of_lt (by omega)] at e
  exact e

set_option maxHeartbeats 800000 in
set_option maxRecDepth 10000 in
theorem wrotl (x y : Int) (n : Nat) (hn : n < 64) (h0 : 0 < n) (hy : y = n) (h : U64 x) (w : World) :
    Calls Tryz.prog 126 #[.int .u64 x, .int .i64 y] w fun e w' => e = .returned (.int .u64 (wrot n x)) ∧ w = w' := by
  subst hy
  have ha := and63 n hn
  have HR := Lib.hid (wrot_of hn h)
  have hx0 := h.1
  have hx1 := h.2
  clear h
  go_enter Tryz.func126, Tryz.ntmps126
  go_wp2
  go_ret
  exact ⟨by rw [← HR.out, ← IntKind.wrap_u64]; rfl, rfl⟩

set_option maxHeartbeats 800000 in
set_option maxRecDepth 10000 in
theorem winto_wide (x y : Int) (h : U64 x) (hy : U64 y) (w : World) :
    Calls Tryz.prog 127 #[.int .u64 x, .int .u64 y] w fun e w' => e = .returned (.int .u64 (win x y)) ∧ w = w' := by
  have hm := wmod_bound (x + IntKind.u64.wrap (y * 14029467366897019727))
  have hr := wrot_bound (n := 31) (by decide) hm
  have HT := Lib.hid (wrotl _ 31 31 (by decide) (by decide) rfl hm)
  have h0 := h.1; have h1 := h.2; have h2 := hy.1; have h3 := hy.2; have h4 := hr.1; have h5 := hr.2
  have he : win x y = IntKind.u64.wrap (wrot 31 (IntKind.u64.wrap (x + IntKind.u64.wrap (y * 14029467366897019727))) * 11400714785074694791) := rfl
  have HE := Lib.hid he
  clear h hy hm hr he
  rw [HE.out]
  obtain ⟨z, hz⟩ : ∃ z, z = wrot 31 (IntKind.u64.wrap (x + IntKind.u64.wrap (y * 14029467366897019727))) := ⟨_, rfl⟩
  rw [← hz] at h4 h5 HT ⊢
  clear hz HE
  go_enter Tryz.func127, Tryz.ntmps127
  go_wp2_with fail
  refine (HT.out _).mono ?_
  rintro e w' ⟨rfl, rfl⟩
  go_wp2_with fail
  go_ret
  exact ⟨rfl, rfl⟩

theorem wdown64 {x : Int} (h : U64 x) : bits BinOp.xor IntKind.u64 x (x / 8589934592) = down 33 x ∧ bits BinOp.xor IntKind.u64 x (x / 536870912) = down 29 x ∧ bits BinOp.xor IntKind.u64 x (x / 4294967296) = down 32 x :=
  ⟨wdown_of 33 h, wdown_of 29 h, wdown_of 32 h⟩

set_option maxHeartbeats 800000 in
set_option maxRecDepth 10000 in
theorem wmix_wide (x : Int) (h : U64 x) (w : World) :
    Calls Tryz.prog 130 #[.int .u64 x] w fun e w' => e = .returned (.int .u64 (wend x)) ∧ w = w' := by
  have hx0 := h.1
  have hx1 := h.2
  have e1 := (wdown64 h).1
  have hd1 := wdown_bound 33 h
  have hend : wend x = down 32 (IntKind.u64.wrap (down 29 (IntKind.u64.wrap (down 33 x * 14029467366897019727)) * 1609587929392839161)) := rfl
  obtain ⟨d1, q1⟩ : ∃ d, d = down 33 x := ⟨_, rfl⟩
  rw [← q1] at e1 hd1 hend
  obtain ⟨m1, t1⟩ : ∃ d, d = IntKind.u64.wrap (d1 * 14029467366897019727) := ⟨_, rfl⟩
  have hm1 := wmod_bound (d1 * 14029467366897019727)
  rw [← t1] at hm1 hend
  have e2 := (wdown64 hm1).2.1
  have hd2 := wdown_bound 29 hm1
  obtain ⟨d2, q2⟩ : ∃ d, d = down 29 m1 := ⟨_, rfl⟩
  rw [← q2] at e2 hd2 hend
  obtain ⟨m2, t2⟩ : ∃ d, d = IntKind.u64.wrap (d2 * 1609587929392839161) := ⟨_, rfl⟩
  have hm2 := wmod_bound (d2 * 1609587929392839161)
  rw [← t2] at hm2 hend
  have e3 := (wdown64 hm2).2.2
  have p0 := hd1.1
  have p1 := hd1.2
  have p2 := hd2.1
  have p3 := hd2.2
  have r0 := hm1.1
  have r1 := hm1.2
  have r2 := hm2.1
  have r3 := hm2.2
  have HE := Lib.hid (hend.trans e3.symm)
  have t1' := t1.symm
  have t2' := t2.symm
  clear q1 q2 hd1 hd2 hend h e3 hm1 hm2 t1 t2
  go_enter Tryz.func130, Tryz.ntmps130
  go_wp2
  go_ret
  exact ⟨by rw [HE.out]; rfl, rfl⟩

/-- 'x | uint64(b) << (8*k)' where x has k bytes: as the walk says it. -/
theorem or_byte64 (X y : Int) (k : Nat) (hk : k < 4) (hX0 : 0 ≤ X) (hX : X < 2 ^ (8 * k)) (h0 : 0 ≤ y) (h1 : y < 256) :
    bits BinOp.or IntKind.u64 X (y * 2 ^ (8 * k)) = X + 2 ^ (8 * k) * y := by
  obtain ⟨x, rfl⟩ := Int.eq_ofNat_of_zero_le hX0
  obtain ⟨b, rfl⟩ := Int.eq_ofNat_of_zero_le h0
  have hp := pow_le_of (show k < 8 by omega)
  have hx : x < 2 ^ (8 * k) := by exact_mod_cast hX
  have hb : b < 256 := by omega
  have hbp : b * 2 ^ (8 * k) < 18446744073709551616 := by
    have : b * 2 ^ (8 * k) < 256 * 2 ^ (8 * k) := Nat.mul_lt_mul_of_pos_right hb (Nat.two_pow_pos _)
    rw [Nat.mul_comm 256] at this
    omega
  have e2 : (b : Int) * 2 ^ (8 * k) = ((b * 2 ^ (8 * k) : Nat) : Int) := by push_cast; rfl
  rw [e2, u64_or_nat _ _ (by omega) hbp, Nat.or_comm, Nat.mul_comm b, ← Nat.two_pow_add_eq_or_of_lt hx]
  push_cast
  omega

set_option maxHeartbeats 2000000 in
set_option maxRecDepth 10000 in
theorem four_wide (p : Option Addr) (N c : Nat) (xs : List Int) (hx : N = xs.length) (h4 : 4 ≤ N) (ho : Octets xs) (w : World) (hb : Bytes8 w p xs) :
    Calls Tryz.prog 129 #[.slice p N c] w fun e w' => e = .returned (.int .u64 (four4 xs 0)) ∧ ∃ n, w' = w.drewN n := by
  obtain ⟨a, rfl, c0, c1, c2, c3⟩ := hb.at4 (by omega)
  have HF := Lib.hid (four_le (xs := xs) (by omega))
  have g0 := ho.getD 0
  have g1 := ho.getD 1
  have g2 := ho.getD 2
  have g3 := ho.getD 3
  clear hb ho hx
  obtain ⟨b0, e0⟩ : ∃ b, b = xs.getD 0 0 := ⟨_, rfl⟩
  obtain ⟨b1, e1⟩ : ∃ b, b = xs.getD 1 0 := ⟨_, rfl⟩
  obtain ⟨b2, e2⟩ : ∃ b, b = xs.getD 2 0 := ⟨_, rfl⟩
  obtain ⟨b3, e3⟩ : ∃ b, b = xs.getD 3 0 := ⟨_, rfl⟩
  rw [← e0] at c0 HF g0
  rw [← e1] at c1 HF g1
  rw [← e2] at c2 HF g2
  rw [← e3] at c3 HF g3
  clear e0 e1 e2 e3
  obtain ⟨g00, g01⟩ := g0
  obtain ⟨g10, g11⟩ := g1
  obtain ⟨g20, g21⟩ := g2
  obtain ⟨g30, g31⟩ := g3
  go_enter Tryz.func129, Tryz.ntmps129
  have n0 : 0 < N := by omega
  have o1 := or_byte64 b0 b1 1 (by decide) g00 g01 g10 g11
  have o2 := or_byte64 (b0 + 256 * b1) b2 2 (by decide) (by omega) (by omega) g20 g21
  have o3 := or_byte64 (b0 + 256 * b1 + 65536 * b2) b3 3 (by decide) (by omega) (by omega) g30 g31
  have hor : bits BinOp.or IntKind.u64 (bits BinOp.or IntKind.u64 (bits BinOp.or IntKind.u64 b0 (b1 * 256)) (b2 * 65536)) (b3 * 16777216) = b0 + 256 * b1 + 65536 * b2 + 16777216 * b3 := by
    rw [show bits BinOp.or IntKind.u64 b0 (b1 * 256) = b0 + 256 * b1 from o1, show bits BinOp.or IntKind.u64 (b0 + 256 * b1) (b2 * 65536) = b0 + 256 * b1 + 65536 * b2 from o2]
    exact o3
  have HO := Lib.hid hor
  clear o1 o2 o3 hor
  have n1 : (1 : Int) < (N : Int) := by omega
  have n2 : (2 : Int) < (N : Int) := by omega
  have n3 : (3 : Int) < (N : Int) := by omega
  go_wp2
  go_quiet (fail)
  go_wp2
  go_ret
  refine ⟨?_, nq, rfl⟩
  rw [HF.out, ← HO.out]
  rfl
end Go.Proofs.YtjeammmfdniokaaGreat

namespace Go.Proofs.YtjeammmfdniokaaGreat
open Go.RowKit

theorem four8_le {xs : List Int} (h8 : 8 ≤ xs.length) : four8 xs 0 = four4 xs 0 + 4294967296 * four4 (xs.drop 4) 0 := by
  match xs, h8 with
  | a :: b :: c :: d :: e :: f :: g :: h :: r, _ => simp [four4, four8, le]; omega

set_option maxHeartbeats 2000000 in
set_option maxRecDepth 10000 in
theorem eight_wide (p : Option Addr) (N c : Nat) (xs : List Int) (hx : N = xs.length) (h8 : 8 ≤ N) (hc : N ≤ c) (ho : Octets xs) (w : World) (hb : Bytes8 w p xs) :
    Calls Tryz.prog 128 #[.slice p N c] w fun e w' => e = .returned (.int .u64 (four8 xs 0)) ∧ ∃ n, w' = w.drewN n := by
  have hb4 := hb.piece (q := p.map (·.add 4)) 4 (N - 4) (by omega) (fun _ => rfl)
  rw [List.take_of_length_le (by rw [List.length_drop]; omega)] at hb4
  obtain ⟨a, rfl, _⟩ := id hb (by omega)
  have HB := Lib.hid hb
  have HB4 : Hid (Bytes8 w (some ⟨a.block, a.off + 4, none⟩) (xs.drop 4)) := Lib.hid hb4
  have HF0 := Lib.hid (fun w hb => four_wide (some a) N c xs hx (by omega) ho w hb)
  have HF1 := Lib.hid (fun w hb => four_wide (some ⟨a.block, a.off + 4, none⟩) (N - 4) (c - 4) (xs.drop 4) (by rw [List.length_drop, hx]) (by omega) (ho.drop 4) w hb)
  have b0 := four4_bound ho 0
  have b1 := four4_bound (ho.drop 4) 0
  have he := four8_le (xs := xs) (by omega)
  obtain ⟨f0, e0⟩ : ∃ f, f = four4 xs 0 := ⟨_, rfl⟩
  obtain ⟨f1, e1⟩ : ∃ f, f = four4 (xs.drop 4) 0 := ⟨_, rfl⟩
  rw [← e0] at HF0 b0 he
  rw [← e1] at HF1 b1 he
  have hor : bits BinOp.or IntKind.u64 f0 (f1 * 4294967296) = f0 + 4294967296 * f1 := by
    obtain ⟨x, rfl⟩ := Int.eq_ofNat_of_zero_le b0.1
    obtain ⟨y, rfl⟩ := Int.eq_ofNat_of_zero_le b1.1
    have hxx : x < 2 ^ 32 := by have := b0.2; omega
    have hyy : y < 4294967296 := by have := b1.2; omega
    have e2 : (y : Int) * 4294967296 = ((4294967296 * y : Nat) : Int) := by omega
    have e3 : 4294967296 * y + x = 4294967296 * y ||| x := Nat.two_pow_add_eq_or_of_lt (i := 32) hxx y
    rw [e2, u64_or_nat _ _ (by omega) (by omega), Nat.or_comm, ← e3]
    omega
  have HE := Lib.hid (he.trans hor.symm)
  have z0 := b0.1
  have z1 := b0.2
  have z2 := b1.1
  have z3 := b1.2
  have hcne : ¬ c = 4 := by omega
  have n4 : (4 : Int) ≤ (N : Int) := by omega
  have c4 : (4 : Int) ≤ (c : Int) := by omega
  clear hb hb4 e0 e1 b0 b1 hor he ho hx
  go_enter Tryz.func128, Tryz.ntmps128
  go_wp2_with fail
  go_quiet (first
    | (go_at_call_of 129 (Value.slice (some a) N c); exact Calls.quiet_of (HF0.out _ (by exact HB.out)))
    | (go_at_call 129; exact Calls.quiet_of (HF1.out _ (by exact HB4.out))))
  go_wp2_with fail
  go_ret
  exact ⟨by rw [HE.out]; rfl, nq, rfl⟩

/-- A State's cells. -/
def scells (s : Int) (v : Nat → Int) (ps : List Int) (z : Int) : Array Value :=
  (Value.int .u64 s :: Value.int .u64 (v 0) :: Value.int .u64 (v 1) :: Value.int .u64 (v 2) :: Value.int .u64 (v 3) :: (ps.map (Value.int .u8) ++ [Value.int .u64 z])).toArray
theorem scells_seed (s : Int) (v : Nat → Int) (ps : List Int) (z : Int) : (scells s v ps z)[0]? = some (.int .u64 s) := rfl
theorem scells_num (s : Int) (v : Nat → Int) (ps : List Int) (z : Int) {j : Nat} (hj : j < 4) : (scells s v ps z)[1 + j]? = some (.int .u64 (v j)) := by
  have : j = 0 ∨ j = 1 ∨ j = 2 ∨ j = 3 := by omega
  rcases this with rfl | rfl | rfl | rfl <;> rfl
theorem scells_size (s : Int) (v : Nat → Int) {ps : List Int} (z : Int) (h : ps.length = 32) : (scells s v ps z)[37]? = some (.int .u64 z) := by
  unfold scells
  rw [List.getElem?_toArray]
  show (ps.map (Value.int .u8) ++ [Value.int .u64 z])[32]? = _
  rw [List.getElem?_append_right (by simp [h])]
  simp [h]
theorem scells_part (s : Int) (v : Nat → Int) {ps : List Int} (z : Int) (i : Nat) (h : i < ps.length) : (scells s v ps z)[5 + i]? = some (.int .u8 (ps.getD i 0)) := by
  unfold scells
  rw [List.getElem?_toArray, Nat.add_comm 5]
  show (ps.map (Value.int .u8) ++ [Value.int .u64 z])[i]? = _
  rw [List.getElem?_append_left (by simpa using h)]
  simp [h]
theorem scells_setNum (s : Int) (v : Nat → Int) (ps : List Int) (z : Int) {j : Nat} (hj : j < 4) (x : Int) : (scells s v ps z).setIfInBounds (1 + j) (.int .u64 x) = scells s (upd v j x) ps z := by
  have : j = 0 ∨ j = 1 ∨ j = 2 ∨ j = 3 := by omega
  rcases this with rfl | rfl | rfl | rfl <;> rfl
theorem scells_setSize (s : Int) (v : Nat → Int) {ps : List Int} (z y : Int) (h : ps.length = 32) : (scells s v ps z).setIfInBounds 37 (.int .u64 y) = scells s v ps y := by
  apply Array.ext'
  unfold scells
  rw [Array.toList_setIfInBounds]
  show (Value.int .u64 s :: Value.int .u64 (v 0) :: Value.int .u64 (v 1) :: Value.int .u64 (v 2) :: Value.int .u64 (v 3) :: ((ps.map (Value.int .u8) ++ [Value.int .u64 z]).set 32 (.int .u64 y))) = _
  rw [List.set_append_right _ _ (by simp [h])]
  simp [h]
theorem scells_copy (s : Int) (v : Nat → Int) {ps cs : List Int} (z : Int) (o : Nat) (h : ps.length = 32) (hf : o + cs.length ≤ 32) :
    ((scells s v ps z).toList.take (5 + o) ++ cs.map (Value.int .u8) ++ (scells s v ps z).toList.drop (5 + o + cs.length)).toArray = scells s v (ps.take o ++ cs ++ ps.drop (o + cs.length)) z := by
  unfold scells
  rw [show 5 + o + cs.length = 5 + (o + cs.length) by omega, Nat.add_comm 5 o, Nat.add_comm 5 (o + cs.length)]
  simp only [List.take_succ_cons, List.drop_succ_cons, List.cons_append]
  rw [List.take_append_of_le_length (by simp; omega), List.drop_append_of_le_length (by simp; omega)]
  simp [List.map_take, List.map_drop]

/-- The State at block g: its cells. -/
def StAt (w : World) (g : Nat) (s : Int) (v : Nat → Int) (ps : List Int) (z : Int) : Prop :=
  ps.length = 32 ∧ Octets ps ∧ Whole w g 182 (scells s v ps z)
/-- The State at block g has these bytes. -/
def Holds (w : World) (g : Nat) (s : Int) (xs : List Int) : Prop :=
  ∃ ps, StAt w g s (wnums (wseed s) xs (xs.length / 32)) ps xs.length ∧ ps.take (xs.length % 32) = wleft xs

theorem StAt.keep {w w' : World} {g : Nat} {s : Int} {v : Nat → Int} {ps : List Int} {z : Int} (h : StAt w g s v ps z) {S : Nat → Prop} (hk : Keeps S w w') (hs : ¬ S g) : StAt w' g s v ps z :=
  ⟨h.1, h.2.1, h.2.2.keep hk hs⟩
theorem Holds.keep {w w' : World} {g : Nat} {s : Int} {xs : List Int} (h : Holds w g s xs) {S : Nat → Prop} (hk : Keeps S w w') (hs : ¬ S g) : Holds w' g s xs := by
  obtain ⟨ps, h1, h2⟩ := h
  exact ⟨ps, h1.keep hk hs, h2⟩

set_option maxHeartbeats 2000000 in
set_option maxRecDepth 10000 in
theorem new_wide (s : Int) (hs : U64 s) (w : World) :
    Calls Tryz.prog 107 #[.int .u64 s] w fun e w' => e = .returned (.pointer (some ⟨w.heap.size, 0, none⟩)) ∧ Holds w' w.heap.size s [] ∧ Keeps NoBlock w w' := by
  have h0 := hs.1
  have h1 := hs.2
  clear hs
  go_enter Tryz.func107, Tryz.ntmps107
  go_wp2_with fail
  go_ret
  refine ⟨rfl, ⟨List.replicate 32 0, ⟨rfl, fun b hb => ?_, ?_⟩, rfl⟩, (Keeps.refl _ _).alloc _⟩
  · have := List.eq_of_mem_replicate hb
    omega
  · exact Whole.new _ _ _

set_option maxHeartbeats 2000000 in
set_option maxRecDepth 10000 in
theorem take_wide (g : Nat) (s : Int) (v : Nat → Int) (ps : List Int) (z : Int) (p : Option Addr) (N c : Nat) (bs : List Int) (w : World) (hst : StAt w g s v ps z) (hv : ∀ j, j < 4 → U64 (v j)) (hx : N = bs.length) (h32 : 32 ≤ N) (hc : N ≤ c) (hc' : c ≤ 9223372036854775807) (ho : Octets bs) (hb : Bytes8 w p bs)
    (hsep : ∀ a, p = some a → ∀ i j, i < N → j < 4 → a.add i ≠ ⟨g, 1 + j, none⟩) :
    Calls Tryz.prog 124 #[.pointer (some ⟨g, 0, none⟩), .slice p N c] w fun e w' => e = .returned (.tuple #[]) ∧ StAt w' g s (wtaken v bs 4) ps z ∧ Keeps (Just g) w w' := by
  obtain ⟨hl, hpo, hwh⟩ := hst
  obtain ⟨a, rfl, hcell⟩ := hb (by omega)
  have HW0 := Lib.hid hwh
  have HC := Lib.hid hcell
  have HV := Lib.hid hv
  have HX := Lib.hid hx
  have HO := Lib.hid ho
  have HSep := Lib.hid (fun i j hi hj => hsep a rfl i j hi hj)
  have HL := Lib.hid hl
  have HP := Lib.hid hpo
  clear hl hpo hwh hcell hv hx ho hsep hb
  go_enter Tryz.func124, Tryz.ntmps124
  go_wp2_with fail
  go_loopw [5] (fun i wr => ∃ k : Nat, k ≤ 4 ∧ i = .int .i64 (k : Int) ∧ Whole wr g 182 (scells s (wtaken v bs k) ps z) ∧ (∀ i, i < bs.length → wr.cell? (a.add i) = some (.int .u8 (bs.getD i 0))) ∧ Keeps (Just g) w wr) (fun i _ => 4 - (intOf i).toNat)
  case atStart => exact ⟨0, by omega, rfl, by rw [wtaken_zero]; exact HW0.out, HC.out, Keeps.refl _ _⟩
  case round =>
    obtain ⟨k, hk4, rfl, hwk, hck, hkk⟩ := hrel
    have HWk := Lib.hid hwk
    have HCk := Lib.hid hck
    have HKk := Lib.hid hkk
    clear hkk hck
    by_cases hlt4 : k < 4
    · have c0 := hwk.cell (1 + k) (scells_num s (wtaken v bs k) ps z hlt4)
      have f0 := hwk.free (1 + k)
      have hub := wtaken_bound HV.out bs k k hlt4
      have hu0 := hub.1
      have hu1 := hub.2
      have HI := Lib.hid (fun w => winto_wide (wtaken v bs k k) (four8 bs k) hub (four8_bound HO.out k) w)
      clear hwk hub
      have ha1 : (0 : Int) ≤ (k : Int) := by omega
      have ha2 : (k : Int) < 4 := by omega
      have ha3 : (8 : Int) * (k : Int) ≤ (N : Int) := by omega
      have ha4 : (0 : Int) ≤ 8 * (k : Int) := by omega
      have ha5 : (8 : Int) * (k : Int) ≤ (c : Int) := by omega
      have hw1 : IntKind.i64.wrap (8 * (k : Int)) = 8 * (k : Int) := by rw [IntKind.wrap_i64]; omega
      have hdne : ¬ c = 8 * k := by omega
      have htn : (8 * (k : Int)).toNat = 8 * k := by omega
      have HF := Lib.hid (fun w' (hb : Bytes8 w' (some (a.add (8 * k))) (bs.drop (8 * k))) => eight_wide (some (a.add (8 * k))) (N - 8 * k) (c - 8 * k) (bs.drop (8 * k)) (by rw [List.length_drop, HX.out]) (by omega) (by omega) (HO.out.drop _) w' hb)
      have hbk : Bytes8 wr (some (a.add (8 * k))) (bs.drop (8 * k)) := by
        have h1 : Bytes8 wr (some a) bs := fun _ => ⟨a, rfl, HCk.out⟩
        have h2 := h1.piece (q := some (a.add (8 * k))) (8 * k) (N - 8 * k) (by have := HX.out; omega) (fun _ => rfl)
        rw [List.take_of_length_le (by rw [List.length_drop]; have := HX.out; omega)] at h2
        exact h2
      have HBk := Lib.hid hbk
      rw [show four8 (bs.drop (8 * k)) 0 = four8 bs k by simp [four8]] at HF
      obtain ⟨y, hyd⟩ : ∃ y, y = four8 bs k := ⟨_, rfl⟩
      have hfb := four8_bound HO.out k
      have hsx := wtaken_succ v bs k
      rw [← hyd] at HF hfb HI hsx
      obtain ⟨u, hu⟩ : ∃ u, u = win (wtaken v bs k k) y := ⟨_, rfl⟩
      rw [← hu] at HI hsx
      have HSX := Lib.hid hsx
      have hy0 := hfb.1
      have hy1 := hfb.2
      clear hbk hfb hyd hu hsx
      go_wp2_with fail
      go_region_with (first | (go_at_call 128; refine (HF.out _ (by exact HBk.out)).mono ?_; rintro e w5 ⟨rfl, n5, rfl⟩) | (go_at_call 127; refine (HI.out _).mono ?_; rintro e w5 ⟨rfl, rfl⟩) | fail)
      all_goals
        go_wp2_with fail
        go_roundw
        case rel =>
          refine ⟨k + 1, by omega, rfl, ?_, ?_, ?_⟩
          · rw [← HSX.out, ← scells_setNum _ _ _ _ hlt4]
            exact HWk.out.set (1 + k) _
          · intro i hi
            rw [World.cell?_setCell_other _ _ _ _ (fun e => HSep.out i k (by have := HX.out; omega) hlt4 e.symm)]
            exact HCk.out i hi
          · exact (HKk.out.drewN _).setIn (Just.self _) _ _
        case measure => simp [intOf]; omega
    · obtain rfl : k = 4 := by omega
      have HS := Lib.hid (show StAt wr g s (wtaken v bs 4) ps z from ⟨HL.out, HP.out, HWk.out⟩)
      clear hwk
      go_wp2_with fail
      go_returns
      exact ⟨rfl, HS.out, HKk.out⟩
end Go.Proofs.YtjeammmfdniokaaGreat

namespace Go.Proofs.YtjeammmfdniokaaGreat
open Go.RowKit

theorem take_mid {α : Type} (A B C : List α) (n : Nat) (h : n = A.length + B.length) : (A ++ B ++ C).take n = A ++ B := by
  rw [List.take_append_of_le_length (by simp; omega), List.take_of_length_le (by simp; omega)]

/-- The bytes don't fill the block that is open. -/
theorem part_short (v : Nat → Int) (xs ys ps : List Int) (N : Nat) (hN : N = ys.length) (ht : ps.take (xs.length % 32) = wleft xs) (hs : xs.length % 32 + N < 32) :
    (ps.take (xs.length % 32) ++ ys.take (min N (32 - xs.length % 32)) ++ ps.drop (xs.length % 32 + min N (32 - xs.length % 32))).take ((xs ++ ys).length % 32) = wleft (xs ++ ys) ∧ wnums v (xs ++ ys) ((xs ++ ys).length / 32) = wnums v xs (xs.length / 32) := by
  have e1 : (xs ++ ys).length % 32 = xs.length % 32 + N := by rw [List.length_append]; omega
  have e2 : (xs ++ ys).length / 32 = xs.length / 32 := by rw [List.length_append]; omega
  have e3 : ys.take (min N (32 - xs.length % 32)) = ys := List.take_of_length_le (by omega)
  refine ⟨?_, ?_⟩
  · rw [e1, e3, ht, take_mid _ _ _ _ (by rw [wleft_length]; omega)]
    unfold wleft
    rw [e2, List.drop_append_of_le_length (by omega)]
  · rw [e2, wnums_append _ _ _ _ (by omega)]
/-- They fill it. -/
theorem part_full (v : Nat → Int) (xs ys ps : List Int) (N : Nat) (hN : N = ys.length) (hp : ps.length = 32) (ht : ps.take (xs.length % 32) = wleft xs) (hs : 32 ≤ xs.length % 32 + N) :
    wtaken (wnums v xs (xs.length / 32)) (ps.take (xs.length % 32) ++ ys.take (min N (32 - xs.length % 32)) ++ ps.drop (xs.length % 32 + min N (32 - xs.length % 32))) 4 = wnums v (xs ++ ys) (xs.length / 32 + 1) ∧ ys.drop (min N (32 - xs.length % 32)) = (xs ++ ys).drop (32 * (xs.length / 32 + 1)) := by
  have e1 : min N (32 - xs.length % 32) = 32 - xs.length % 32 := by omega
  have e2 : ps.drop (xs.length % 32 + (32 - xs.length % 32)) = [] := List.drop_eq_nil_of_le (by omega)
  rw [e1, e2, List.append_nil, ht]
  refine ⟨?_, ?_⟩
  · show _ = wtaken (wnums v (xs ++ ys) (xs.length / 32)) ((xs ++ ys).drop (32 * (xs.length / 32))) 4
    rw [wnums_append _ _ _ _ (by omega), List.drop_append_of_le_length (by omega)]
    have e3 : xs.drop (32 * (xs.length / 32)) ++ ys = wleft xs ++ ys.take (32 - xs.length % 32) ++ ys.drop (32 - xs.length % 32) := by
      rw [List.append_assoc, List.take_append_drop]
      rfl
    rw [e3, wtaken_append _ (wleft xs ++ ys.take (32 - xs.length % 32)) _ _ (by rw [List.length_append, wleft_length, List.length_take]; omega)]
  · rw [List.drop_append, show xs.drop (32 * (xs.length / 32 + 1)) = [] from List.drop_eq_nil_of_le (by omega), List.nil_append]
    congr 1
    omega
/-- What stands behind the last whole block goes into the part. -/
theorem part_end (all ps : List Int) (k m : Nat) (hm : m = (all.drop (32 * k)).length) (hk : 32 * k ≤ all.length) (hs : m < 32) :
    (ps.take 0 ++ (all.drop (32 * k)).take (min m 32) ++ ps.drop (0 + min m 32)).take (all.length % 32) = wleft all ∧ k = all.length / 32 := by
  rw [List.length_drop] at hm
  have e : k = all.length / 32 := by omega
  refine ⟨?_, e⟩
  rw [List.take_zero, List.nil_append]
  rw [List.take_append_of_le_length (by simp; omega), List.take_of_length_le (by simp; omega), List.take_of_length_le (by simp; omega)]
  unfold wleft
  rw [e]

theorem Keeps.setRow {S : Nat → Prop} {a b : World} (h : Keeps S a b) {g : Nat} (hg : S g) (cs : Array Value) : Keeps S a (b.setRow g cs) := by
  refine ⟨h.os, h.tape, h.output, ?_, fun k hk hn => ?_⟩
  · refine Nat.le_trans h.size ?_
    unfold World.setRow
    simp
  · refine Eq.trans ?_ (h.block k hk hn)
    have hkg : ¬ g = k := fun e => hn (e ▸ hg)
    unfold World.setRow
    simp [Array.getElem?_modify, hkg]
theorem Whole.setRow {w : World} {g : Nat} {t : TypeId} {cs : Array Value} (h : Whole w g t cs) (cs' : Array Value) : Whole (w.setRow g cs') g t cs' := setRow_heap w g cs cs' t (0, 0) h

/-- Bytes are copied into a State's part. -/
theorem copy_part {w : World} {g : Nat} {s : Int} {v : Nat → Int} {ps : List Int} {z : Int} (h : StAt w g s v ps z) (o D off : Nat) (hoff : off = 5 + o) (hD : o + D ≤ 32) (p : Option Addr) (N c : Nat) (ys : List Int) (hx : N = ys.length) (hn0 : p = none → N = 0 ∧ c = 0) (hb : Bytes8 w p ys) (ho : Octets ys) :
    ∃ w', (Builtin.copy_ #[29, 29] 3 #[.slice (some ⟨g, off, none⟩) D D, .slice p N c]).run Tryz.prog w = .ok (.int .i64 ((min N D : Nat) : Int)) w' ∧ StAt w' g s v (ps.take o ++ ys.take (min N D) ++ ps.drop (o + min N D)) z ∧ Keeps (Just g) w w' := by
  obtain ⟨hl, hpo, hwh⟩ := h
  subst hoff
  obtain ⟨i0, hi, hz0, hz1, hz2⟩ := info_parts infoByte
  cases p with
  | none =>
    obtain ⟨rfl, rfl⟩ := hn0 rfl
    refine ⟨w, ?_, ⟨by simpa using hl, by simpa using hpo, by simpa using hwh⟩, Keeps.refl _ _⟩
    rw [Nat.zero_min]
    exact run_copy_nil Tryz.prog w _ _ _ _ _ _ _ Tryz.underlying29 (by rw [hi]; rfl)
  | some a =>
    have hlen : (ys.take (min N D)).length = min N D := by rw [List.length_take]; omega
    have e := run_copy_row Tryz.prog w 29 29 3 5 g (5 + o) D D a N c (scells s v ps z) 182 ((ys.take (min N D)).map (Value.int .u8)) Tryz.underlying29 (by rw [hi]; simpa using hz1) hwh (by rw [List.length_map, hlen])
      (fun j u hj => by
        have hj1 := (List.getElem?_eq_some_iff.1 hj).1
        rw [List.length_map, hlen] at hj1
        obtain ⟨a', ha', hcell⟩ := hb (by omega)
        obtain rfl := Option.some.inj ha'
        rw [hcell j (by omega)]
        rw [← hj]
        simp [show j < min N D by omega, show j < ys.length by omega])
      (by rw [List.length_map, hlen]; show 5 + o + min N D ≤ (scells s v ps z).size; simp [scells, hl]; omega)
      (fun u hu => by obtain ⟨x, _, rfl⟩ := List.mem_map.1 hu; rfl)
    rw [List.length_map, hlen] at e
    have hc := scells_copy s v (ps := ps) (cs := ys.take (min N D)) z o hl (by rw [hlen]; omega)
    rw [hlen] at hc
    rw [hc] at e
    refine ⟨_, e, ⟨?_, ?_, hwh.setRow _⟩, (Keeps.refl _ _).setRow (Just.self g) _⟩
    · simp [hl]; omega
    · intro b hb'
      simp only [List.mem_append] at hb'
      rcases hb' with (hb' | hb') | hb'
      · exact hpo.take _ b hb'
      · exact ho.take _ b hb'
      · exact hpo.drop _ b hb'
end Go.Proofs.YtjeammmfdniokaaGreat

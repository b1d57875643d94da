/-
  Contracts of package thin: RotateLeft32, four, mix, blocks, Sum, Check.
-/
import Derived.Test.YtdkpkpmgiglnhaaThinRefSum
import Derived.BigQuiet
namespace Go.Proofs.Ytdkpkpmgiglnhaa
open Go.RowKit

theorem and31 (n : Nat) (hn : n < 32) : bits BinOp.and IntKind.u64 (n : Int) 31 = (n : Int) := by
  have e := u64_and_nat n 31 (by omega) (by decide)
  rw [show n &&& 31 = n % 2 ^ 5 from Nat.and_two_pow_sub_one_eq_mod n 5, Nat.mod_eq_of_lt (by omega)] at e
  exact e

set_option maxHeartbeats 800000 in
set_option maxRecDepth 10000 in
theorem rotl (x y : Int) (n : Nat) (hn : n < 32) (h0 : 0 < n) (hy : y = n) (h : U32 x) (w : World) :
    Calls Try.prog 33 #[.int .u32 x, .int .i64 y] w fun e w' => e = .returned (.int .u32 (rot n x)) ∧ w = w' := by
  subst hy
  have ha := and31 n hn
  have HR := Lib.hid (rot_of32 h0 hn h)
  have hx0 := h.1
  have hx1 := h.2
  clear h
  go_enter Try.func33, Try.ntmps33
  go_wp2
  go_ret
  exact ⟨by rw [HR.out]; rfl, rfl⟩

theorem down32 {x : Int} (h : U32 x) : bits BinOp.xor IntKind.u32 x (x / 32768) = down 15 x ∧ bits BinOp.xor IntKind.u32 x (x / 8192) = down 13 x ∧ bits BinOp.xor IntKind.u32 x (x / 65536) = down 16 x :=
  ⟨down_of32 15 h, down_of32 13 h, down_of32 16 h⟩

set_option maxHeartbeats 800000 in
set_option maxRecDepth 10000 in
theorem mix_thin (x : Int) (h : U32 x) (w : World) :
    Calls Try.prog 35 #[.int .u32 x] w fun e w' => e = .returned (.int .u32 (tend x)) ∧ w = w' := by
  have hx0 := h.1
  have hx1 := h.2
  have e1 := (down32 h).1
  have hd1 := down_bound 15 h
  have hend : tend x = down 16 (down 13 (down 15 x * 2246822519 % 4294967296) * 3266489917 % 4294967296) := rfl
  obtain ⟨d1, q1⟩ : ∃ d, d = down 15 x := ⟨_, rfl⟩
  rw [← q1] at e1 hd1 hend
  have e2 := (down32 (mod_bound (d1 * 2246822519))).2.1
  have hd2 := down_bound 13 (mod_bound (d1 * 2246822519))
  obtain ⟨d2, q2⟩ : ∃ d, d = down 13 (d1 * 2246822519 % 4294967296) := ⟨_, rfl⟩
  rw [← q2] at e2 hd2 hend
  have e3 := (down32 (mod_bound (d2 * 3266489917))).2.2
  have p0 := hd1.1
  have p1 := hd1.2
  have p2 := hd2.1
  have p3 := hd2.2
  have HE := Lib.hid hend
  have HE3 := Lib.hid e3
  clear q1 q2 hd1 hd2 hend h e3
  go_enter Try.func35, Try.ntmps35
  go_wp2
  go_ret
  exact ⟨by rw [HE.out, ← HE3.out]; rfl, rfl⟩

def lenOf : Value → Nat
  | .slice _ n _ => n
  | _ => 0

/-- 'x | uint32(low) << (8*k)' where x has k bytes. -/
theorem or_byte32 (X y : Int) (k : Nat) (hk : k < 4) (hX0 : 0 ≤ X) (hX : X < 2 ^ (8 * k)) (h0 : 0 ≤ y) (h1 : y < 256) :
    bits BinOp.or IntKind.u32 X (y * 2 ^ (8 * k)) = X + 2 ^ (8 * k) * y := by
  obtain ⟨x, rfl⟩ := Int.eq_ofNat_of_zero_le hX0
  obtain ⟨b, rfl⟩ := Int.eq_ofNat_of_zero_le h0
  have hp : (2 : Nat) ^ (8 * k) * 256 ≤ 4294967296 := by
    have e : (2 : Nat) ^ (8 * k) * 256 = 2 ^ (8 * k + 8) := by rw [Nat.pow_add]
    rw [e]
    exact Nat.pow_le_pow_right (by decide) (show 8 * k + 8 ≤ 32 by omega)
  have hx : x < 2 ^ (8 * k) := by exact_mod_cast hX
  have hb : b < 256 := by omega
  have hbp : b * 2 ^ (8 * k) < 4294967296 := by
    have : b * 2 ^ (8 * k) < 256 * 2 ^ (8 * k) := Nat.mul_lt_mul_of_pos_right hb (Nat.two_pow_pos _)
    rw [Nat.mul_comm 256] at this
    omega
  have e2 : (b : Int) * 2 ^ (8 * k) = ((b * 2 ^ (8 * k) : Nat) : Int) := by push_cast; rfl
  rw [e2, u32_or_nat _ _ (by omega) hbp, Nat.or_comm, Nat.mul_comm b, ← Nat.two_pow_add_eq_or_of_lt hx]
  push_cast
  omega

theorem Bytes8.at4 {w : World} {p : Option Addr} {xs : List Int} (h : Bytes8 w p xs) (h4 : 4 ≤ xs.length) : ∃ a, p = some a ∧ w.cell? a = some (.int .u8 (xs.getD 0 0)) ∧ w.cell? ⟨a.block, a.off + 1, none⟩ = some (.int .u8 (xs.getD 1 0)) ∧ w.cell? ⟨a.block, a.off + 2, none⟩ = some (.int .u8 (xs.getD 2 0)) ∧ w.cell? ⟨a.block, a.off + 3, none⟩ = some (.int .u8 (xs.getD 3 0)) := by
  obtain ⟨a, rfl, hc⟩ := h (by omega)
  exact ⟨a, rfl, hc 0 (by omega), hc 1 (by omega), hc 2 (by omega), hc 3 (by omega)⟩

theorem four_le {xs : List Int} (h4 : 4 ≤ xs.length) : four4 xs 0 = xs.getD 0 0 + 256 * (xs.getD 1 0) + 65536 * (xs.getD 2 0) + 16777216 * (xs.getD 3 0) := by
  match xs, h4 with
  | a :: b :: c :: d :: r, _ => simp [four4, le]; omega

set_option maxHeartbeats 2000000 in
set_option maxRecDepth 10000 in
theorem four_thin (p : Option Addr) (N c : Nat) (xs : List Int) (hx : N = xs.length) (h4 : 4 ≤ N) (ho : Octets xs) (w : World) (hb : Bytes8 w p xs) :
    Calls Try.prog 34 #[.slice p N c] w fun e w' => e = .returned (.int .u32 (four4 xs 0)) ∧ ∃ n, w' = w.drewN n := by
  obtain ⟨a, rfl, c0, c1, c2, c3⟩ := hb.at4 (by omega)
  have HF := Lib.hid (four_le (xs := xs) (by omega))
  have g0 := ho.getD 0
  have g1 := ho.getD 1
  have g2 := ho.getD 2
  have g3 := ho.getD 3
  clear hb ho hx
  obtain ⟨b0, e0⟩ : ∃ b, b = xs.getD 0 0 := ⟨_, rfl⟩
  obtain ⟨b1, e1⟩ : ∃ b, b = xs.getD 1 0 := ⟨_, rfl⟩
  obtain ⟨b2, e2⟩ : ∃ b, b = xs.getD 2 0 := ⟨_, rfl⟩
  obtain ⟨b3, e3⟩ : ∃ b, b = xs.getD 3 0 := ⟨_, rfl⟩
  rw [← e0] at c0 HF g0
  rw [← e1] at c1 HF g1
  rw [← e2] at c2 HF g2
  rw [← e3] at c3 HF g3
  clear e0 e1 e2 e3
  obtain ⟨g00, g01⟩ := g0
  obtain ⟨g10, g11⟩ := g1
  obtain ⟨g20, g21⟩ := g2
  obtain ⟨g30, g31⟩ := g3
  go_enter Try.func34, Try.ntmps34
  have n0 : 0 < N := by omega
  have o1 := or_byte32 b0 b1 1 (by decide) g00 g01 g10 g11
  have o2 := or_byte32 (b0 + 256 * b1) b2 2 (by decide) (by omega) (by omega) g20 g21
  have o3 := or_byte32 (b0 + 256 * b1 + 65536 * b2) b3 3 (by decide) (by omega) (by omega) g30 g31
  have hor : bits BinOp.or IntKind.u32 (bits BinOp.or IntKind.u32 (bits BinOp.or IntKind.u32 b0 (b1 * 256)) (b2 * 65536)) (b3 * 16777216) = b0 + 256 * b1 + 65536 * b2 + 16777216 * b3 := by
    rw [show bits BinOp.or IntKind.u32 b0 (b1 * 256) = b0 + 256 * b1 from o1, show bits BinOp.or IntKind.u32 (b0 + 256 * b1) (b2 * 65536) = b0 + 256 * b1 + 65536 * b2 from o2]
    exact o3
  have HO := Lib.hid hor
  clear o1 o2 o3 hor
  have n1 : (1 : Int) < (N : Int) := by omega
  have n2 : (2 : Int) < (N : Int) := by omega
  have n3 : (3 : Int) < (N : Int) := by omega
  go_wp2
  go_quiet (fail)
  go_wp2
  go_ret
  refine ⟨?_, nq, rfl⟩
  rw [HF.out, ← HO.out]
  rfl

set_option maxHeartbeats 2000000 in
set_option maxRecDepth 10000 in
theorem blocks_thin (s : Int) (hs : U32 s) (p : Option Addr) (N c : Nat) (xs : List Int) (hx : N = xs.length) (hc : N ≤ c) (hc' : c ≤ 9223372036854775807) (ho : Octets xs) (w : World) (hb : Bytes8 w p xs) :
    Calls Try.prog 32 #[.int .u32 s, .slice p N c] w fun e w' => ∃ (q : Option Addr) (m d : Nat), e = .returned (.tuple #[.int .u32 (tblocks s xs).1, .slice q m d]) ∧ m = (tblocks s xs).2.length ∧ m ≤ d ∧ d ≤ c ∧ Bytes8 w q (tblocks s xs).2 ∧ Keeps NoBlock w w' := by
  have h0 := hs.1
  have h1 := hs.2
  by_cases h16 : N < 16
  · have htb : tblocks s xs = ((s + 374761393) % 4294967296, xs) := by
      unfold tblocks
      rw [if_pos (by omega)]
    rw [htb]
    have HB := Lib.hid hb
    have HX := Lib.hid hx
    clear hb hx htb hs ho
    go_enter Try.func32, Try.ntmps32
    go_wp2_with fail
    exact bodyPost_ret (v := .tuple #[.int .u32 ((s + 374761393) % 4294967296), .slice p N c]) (by simp [results, Try.results32, go_sem]) rfl ⟨p, N, c, rfl, HX.out, hc, Nat.le_refl _, HB.out, Keeps.refl _ _⟩
  · have htb : tblocks s xs = sixteens ((s + 2654435761 + 2246822519) % 4294967296) ((s + 2246822519) % 4294967296) s ((s + 4294967296 - 2654435761) % 4294967296) xs := by
      unfold tblocks
      rw [if_neg (by omega)]
    have HT := Lib.hid htb
    have HB := Lib.hid hb
    have HX := Lib.hid hx
    have HO := Lib.hid ho
    have HS := Lib.hid hs
    clear hb hx htb hs ho
    go_enter Try.func32, Try.ntmps32
    go_wp2_with fail
    rw [show ((s + 2654435761) % 4294967296 + 2246822519) % 4294967296 = (s + 2654435761 + 2246822519) % 4294967296 by omega]
    go_loopw [1] (fun s1 wr => ∃ (v : Nat → Int) (ys : List Int) (q : Option Addr) (m d : Nat), s1 = .slice q m d ∧ m = ys.length ∧ m ≤ d ∧ d ≤ c ∧ Whole wr w.heap.size 89 (row4 .u32 v) ∧ Hid (∀ j, j < 4 → U32 (v j)) ∧ Hid (Octets ys) ∧ Hid (Bytes8 w q ys) ∧ Hid (sixteens (v 0) (v 1) (v 2) (v 3) ys = tblocks s xs) ∧ Keeps NoBlock w wr) (fun s1 _ => lenOf s1)
    case atStart =>
      refine ⟨fun j => match j with | 0 => (s + 2654435761 + 2246822519) % 4294967296 | 1 => (s + 2246822519) % 4294967296 | 2 => s | _ => (s + 4294967296 - 2654435761) % 4294967296, xs, p, N, c, rfl, HX.out, hc, Nat.le_refl _, ?_, Lib.hid ?_, HO, HB, Lib.hid ?_, (Keeps.refl _ _).alloc _⟩
      · rw [show (s - 2654435761) % 4294967296 = (s + 4294967296 - 2654435761) % 4294967296 by omega]
        exact Whole.new _ _ _
      · intro j hj
        have : j = 0 ∨ j = 1 ∨ j = 2 ∨ j = 3 := by omega
        rcases this with rfl | rfl | rfl | rfl
        · exact mod_bound _
        · exact mod_bound _
        · exact HS.out
        · exact mod_bound _
      · rw [HT.out]
        rfl
    case round =>
      obtain ⟨v, ys, q, m, d, rfl, hm, hmd, hdc, hwh, hv, hy, hyb, hsix, hk⟩ := hrel
      have HW := Lib.hid hwh
      have HK := Lib.hid hk
      have HM := Lib.hid hm
      clear hwh hk hm
      by_cases hg : 16 ≤ m
      · have hdm : decide ((16 : Int) ≤ (m : Int)) = true := decide_eq_true (by omega)
        go_wp2_with fail
        obtain ⟨W1, rfl⟩ : ∃ W1, W1 = wr := ⟨_, rfl⟩
        go_loopw [28] (fun i wr => ∃ k : Nat, k ≤ 4 ∧ i = .int .i64 (k : Int) ∧ Whole wr w.heap.size 89 (row4 .u32 (taken v ys k)) ∧ Keeps (Just w.heap.size) W1 wr) (fun i _ => 4 - (intOf i).toNat)
        case atStart => exact ⟨0, by omega, rfl, by rw [taken_zero]; exact HW.out, Keeps.refl _ _⟩
        case round =>
          obtain ⟨k, hk4, rfl, hwk, hkk⟩ := hrel
          have HWk := Lib.hid hwk
          have HKk := Lib.hid hkk
          clear hkk
          by_cases hlt4 : k < 4
          · have c0 := hwk.cell k (row4_get hlt4)
            have f0 := hwk.free k
            have hub := taken_bound hv.out ys k k hlt4
            have hu0 := hub.1
            have hu1 := hub.2
            clear hwk hub
            have ha1 : (0 : Int) ≤ (k : Int) := by omega
            have ha2 : (k : Int) < 4 := by omega
            have ha3 : (4 : Int) * (k : Int) ≤ (m : Int) := by omega
            have ha4 : (0 : Int) ≤ 4 * (k : Int) := by omega
            have ha5 : (4 : Int) * (k : Int) ≤ (d : Int) := by omega
            have hw1 : IntKind.i64.wrap (4 * (k : Int)) = 4 * (k : Int) := by rw [IntKind.wrap_i64]; omega
            have hdne : ¬ d = 4 * k := by omega
            have htn : (4 * (k : Int)).toNat = 4 * k := by omega
            have HF := Lib.hid (fun w' (hb : Bytes8 w' (q.map (fun x => x.add (4 * k))) (ys.drop (4 * k))) => four_thin _ (m - 4 * k) (d - 4 * k) (ys.drop (4 * k)) (by rw [List.length_drop, HM.out]) (by omega) (hy.out.drop _) w' hb)
            have hbk := (hyb.out.piece (q := q.map (fun x => x.add (4 * k))) (4 * k) (m - 4 * k) (by have := HM.out; omega) (fun _ => rfl))
            rw [List.take_of_length_le (by rw [List.length_drop]; have := HM.out; omega)] at hbk
            have HBk := Lib.hid (hbk.keep (HK.out.then (S := NoBlock) HKk.out (fun i hi h => by unfold Just at h; omega)) (fun _ _ h => h))
            rw [show four4 (ys.drop (4 * k)) 0 = four4 ys k by simp [four4]] at HF
            have hfb := four4_bound hy.out k
            have hy0 := hfb.1
            have hy1 := hfb.2
            have het : tin (taken v ys k k) (four4 ys k) = rot 13 ((taken v ys k k + four4 ys k * 2246822519) % 4294967296) * 2654435761 % 4294967296 := rfl
            have HR := Lib.hid (fun w' => rotl ((taken v ys k k + four4 ys k * 2246822519) % 4294967296) 13 13 (by decide) (by decide) rfl (mod_bound _) w')
            have hrb := rot_bound (n := 13) (by decide) (mod_bound (taken v ys k k + four4 ys k * 2246822519))
            have hwr1 : IntKind.u32.wrap (taken v ys k k + IntKind.u32.wrap (four4 ys k * 2246822519)) = (taken v ys k k + four4 ys k * 2246822519) % 4294967296 := by rw [IntKind.wrap_u32, IntKind.wrap_u32]; omega
            obtain ⟨r, hr⟩ : ∃ r, r = rot 13 ((taken v ys k k + four4 ys k * 2246822519) % 4294967296) := ⟨_, rfl⟩
            rw [← hr] at HR hrb het
            have hwr2 : IntKind.u32.wrap (r * 2654435761) = tin (taken v ys k k) (four4 ys k) := by rw [IntKind.wrap_u32, het]
            clear hbk hfb hrb het hr
            go_wp2_with fail
            go_region_with (first | (go_at_call 34; refine (HF.out _ (by exact HBk.out)).mono ?_; rintro e w5 ⟨rfl, n5, rfl⟩) | (go_at_call 33; refine (HR.out _).mono ?_; rintro e w5 ⟨rfl, rfl⟩) | fail)
            all_goals
              go_wp2_with fail
              go_roundw
              case rel =>
                refine ⟨k + 1, by omega, rfl, ?_, ?_⟩
                · rw [← taken_succ, ← row4_set hlt4]
                  exact HWk.out.set k _
                · exact (HKk.out.drewN _).setIn (Just.self _) _ _
              case measure => simp [intOf]; omega
          · obtain rfl : k = 4 := by omega
            have HKk2 := Lib.hid (HK.out.then (S := NoBlock) HKk.out (fun i hi h => by unfold Just at h; omega))
            have hs6 := sixteens_go (a := v 0) (b := v 1) (c := v 2) (d := v 3) (xs := ys) (by have := HM.out; omega)
            have HX6 := Lib.hid hs6
            have hbk := (hyb.out.piece (q := if d = 16 then q else Option.map (fun x => { block := x.block, off := x.off + 16 }) q) 16 (m - 16) (by have := HM.out; omega) (fun h => by rw [if_neg (by omega)]; cases q <;> simp [Addr.add]))
            rw [List.take_of_length_le (by rw [List.length_drop]; have := HM.out; omega)] at hbk
            have HBk := Lib.hid hbk
            clear hs6 hwk hbk
            go_wp2_with fail
            refine ⟨⟨taken v ys 4, ys.drop 16, _, _, _, rfl, by rw [List.length_drop, HM.out], by omega, by omega, HWk.out, Lib.hid (fun j hj => taken_bound hv.out ys 4 j hj), Lib.hid (hy.out.drop 16), HBk, Lib.hid ?_, HKk2.out⟩, ?_⟩
            · rw [← hsix.out, HX6.out]
              rfl
            · show m - 16 < m
              omega
      · have c0 := HW.out.cell 0 (row4_get (by decide))
        have c1 := HW.out.cell 1 (row4_get (by decide))
        have c2 := HW.out.cell 2 (row4_get (by decide))
        have c3 := HW.out.cell 3 (row4_get (by decide))
        have hr0 := rot_bound (n := 1) (by decide) (hv.out 0 (by decide))
        have hr1 := rot_bound (n := 7) (by decide) (hv.out 1 (by decide))
        have hr2 := rot_bound (n := 12) (by decide) (hv.out 2 (by decide))
        have hr3 := rot_bound (n := 18) (by decide) (hv.out 3 (by decide))
        have HT0 := Lib.hid (fun w => rotl (v 0) 1 1 (by decide) (by decide) rfl (hv.out 0 (by decide)) w)
        have HT1 := Lib.hid (fun w => rotl (v 1) 7 7 (by decide) (by decide) rfl (hv.out 1 (by decide)) w)
        have HT2 := Lib.hid (fun w => rotl (v 2) 12 12 (by decide) (by decide) rfl (hv.out 2 (by decide)) w)
        have HT3 := Lib.hid (fun w => rotl (v 3) 18 18 (by decide) (by decide) rfl (hv.out 3 (by decide)) w)
        have hjoin : IntKind.u32.wrap (IntKind.u32.wrap (IntKind.u32.wrap (rot 1 (v 0) + rot 7 (v 1)) + rot 12 (v 2)) + rot 18 (v 3)) = (rot 1 (v 0) + rot 7 (v 1) + rot 12 (v 2) + rot 18 (v 3)) % 4294967296 := by
          rw [IntKind.wrap_u32, IntKind.wrap_u32, IntKind.wrap_u32]
          omega
        have HE := Lib.hid (sixteens_end (a := v 0) (b := v 1) (c := v 2) (d := v 3) (xs := ys) (by have := HM.out; omega))
        clear hr0 hr1 hr2 hr3
        go_wp2_with fail
        refine wp_region_still_lit (by kernel_rfl) (by kernel_rfl) ?_
        repeat still_step
        still_call ((HT0.out _).mono fun e w5 h => ⟨h.1, h.2.symm⟩)
        repeat still_step
        still_call ((HT1.out _).mono fun e w5 h => ⟨h.1, h.2.symm⟩)
        repeat still_step
        still_call ((HT2.out _).mono fun e w5 h => ⟨h.1, h.2.symm⟩)
        repeat still_step
        still_call ((HT3.out _).mono fun e w5 h => ⟨h.1, h.2.symm⟩)
        repeat still_step
        refine wpStill_nil ?_
        go_wp2_with fail
        exact bodyPost_ret (v := .tuple #[.int .u32 ((rot 1 (v 0) + rot 7 (v 1) + rot 12 (v 2) + rot 18 (v 3)) % 4294967296), .slice q m d]) (by simp [results, Try.results32, go_sem]) rfl
          ⟨q, m, d, by rw [← hsix.out, HE.out], by rw [← hsix.out, HE.out]; exact HM.out, hmd, hdc, by rw [← hsix.out, HE.out]; exact hyb.out, HK.out.drew⟩
end Go.Proofs.Ytdkpkpmgiglnhaa

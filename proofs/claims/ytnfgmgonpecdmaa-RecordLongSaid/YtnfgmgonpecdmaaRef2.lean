/-
  Contract of the document's Get: the number with which any bytes begin, or what is wrong.
-/
import Derived.Test.YtnfgmgonpecdmaaRef1
import Derived.Test.YtnfgmgonpecdmaaVarGet
import Derived.Deep.Cut
namespace Go.Proofs.Ytnfgmgonpecdmaa
open Go.RowKit

/-- What the document's Get leaves: the rest, how far, why it stops; the number. -/
def refOut (xs : List Int) (a : Int) (t : VR) : Value := .tuple #[rdr (xs.drop t.n) (a + t.n) t.e, .int .u64 (if t.e = 0 then t.x else 0)]

/-- Ahead of byte i: the Reader's block, the number so far. -/
structure RState2 (xs : List Int) (a : Int) (B R : Nat) (w : World) (i X : Nat) (wr : World) : Prop where
  rd : Whole wr B 62 #[.string (strOfNums (xs.drop i)), .int .i64 (a + i), .int .i64 0]
  res : Whole wr R 62 #[.string { data := #[] }, .int .i64 0, .int .i64 0]
  keep : Keeps NoBlock w wr
  lt : X < 2 ^ (7 * i)
  vr : vget xs = (vread (9 - i + 1) (i == 0) (xs.drop i)).up i X
  i9 : i ≤ 9
  le : i ≤ xs.length

section
variable {xs : List Int} {a : Int} {B R : Nat} {w : World} {i X : Nat} {wr : World}

theorem RState2.short (h : RState2 xs a B R w i X wr) (hs : ¬ i < xs.length) : refOut xs a (vget xs) = .tuple #[rdr (xs.drop i) (a + i) 2, .int .u64 0] := by
  have hd : xs.drop i = [] := List.drop_eq_nil_of_le (by omega)
  rw [h.vr, hd, vread]
  simp [VR.up, refOut, hd]

theorem RState2.wrong (h : RState2 xs a B R w i X wr) (hs : i < xs.length) (y b : Int) (hb : b = xs.getD i 0) (hy : (y = 3 ∧ i = 9 ∧ 1 < b) ∨ (y = 4 ∧ ¬ (i = 9 ∧ 1 < b) ∧ 0 < i ∧ b = 0)) : refOut xs a (vget xs) = .tuple #[rdr (xs.drop (i + 1)) (a + i + 1) y, .int .u64 0] := by
  have hd := drop_cons (xs := xs) (n := i) hs
  rw [← hb] at hd
  have hi9 := h.i9
  have e2 : vget xs = ⟨y, i + 1, X + 2 ^ (7 * i) * 0⟩ := by
    rw [h.vr, hd, vread]
    rcases hy with ⟨rfl, rfl, h1⟩ | ⟨rfl, h0, h1, h2⟩
    · rw [if_pos ⟨by omega, h1⟩]
      simp [VR.up, Nat.add_comm]
    · rw [if_neg (by omega), if_pos ⟨beq_false_of_ne (by omega), h2⟩]
      simp [VR.up, Nat.add_comm]
  rw [e2]
  have hy0 : ¬ y = 0 := by rcases hy with ⟨rfl, _⟩ | ⟨rfl, _⟩ <;> simp
  simp only [refOut, if_neg hy0]
  rw [show a + ((i + 1 : Nat) : Int) = a + i + 1 by omega]

theorem RState2.last (h : RState2 xs a B R w i X wr) (hs : i < xs.length) (b : Int) (hb : b = xs.getD i 0) (h9 : ¬ (i = 9 ∧ 1 < b)) (h0 : ¬ (0 < i ∧ b = 0)) (h1 : b < 128) : refOut xs a (vget xs) = .tuple #[rdr (xs.drop (i + 1)) (a + i + 1) 0, .int .u64 (X + 2 ^ (7 * i) * b)] := by
  have hd := drop_cons (xs := xs) (n := i) hs
  rw [← hb] at hd
  have hi9 := h.i9
  have e2 : vget xs = ⟨0, i + 1, X + 2 ^ (7 * i) * b⟩ := by
    rw [h.vr, hd, vread, if_neg (by omega), if_neg (fun hh => h0 ⟨Nat.pos_of_ne_zero (by simpa using hh.1), hh.2⟩), if_pos h1]
    simp [VR.up, Nat.add_comm]
  rw [e2]
  simp only [refOut]
  rw [show a + ((i + 1 : Nat) : Int) = a + i + 1 by omega]
  rfl

/-- More follow. -/
theorem RState2.more (h : RState2 xs a B R w i X wr) (hs : i < xs.length) (b : Int) (hb : b = xs.getD i 0) (h9 : i ≤ 8) (h0 : 128 ≤ b) (h1 : b < 256) {w2 : World}
    (hrd : Whole w2 B 62 #[.string (strOfNums (xs.drop (i + 1))), .int .i64 (a + i + 1), .int .i64 0]) (hres : Whole w2 R 62 #[.string { data := #[] }, .int .i64 0, .int .i64 0]) (hk : Keeps NoBlock w w2) : RState2 xs a B R w (i + 1) (X + 2 ^ (7 * i) * (b.toNat % 128)) w2 := by
  have hd := drop_cons (xs := xs) (n := i) hs
  rw [← hb] at hd
  have hp : 2 ^ (7 * (i + 1)) = 128 * 2 ^ (7 * i) := by rw [show 7 * (i + 1) = 7 + 7 * i by omega, Nat.pow_add]
  refine ⟨by rw [show a + ((i + 1 : Nat) : Int) = a + i + 1 by omega]; exact hrd, hres, hk, ?_, ?_, by omega, by omega⟩
  · have := h.lt
    have h2 : 2 ^ (7 * i) * (b.toNat % 128) ≤ 2 ^ (7 * i) * 127 := Nat.mul_le_mul_left _ (by omega)
    omega
  · rw [h.vr, hd, vread, if_neg (by omega), if_neg (by omega), if_neg (by omega)]
    have e1 : 9 - i = 9 - (i + 1) + 1 := by omega
    rw [show ((i + 1 == 0) : Bool) = false from by simp, ← e1]
    simp only [VR.up, VR.mk.injEq, true_and]
    refine ⟨by omega, ?_⟩
    have e2 : ((2 : Int) ^ (7 * (i + 1))) = 128 * 2 ^ (7 * i) := by rw [show 7 * (i + 1) = 7 + 7 * i by omega, Int.pow_add]; rfl
    have e3 : ((X + 2 ^ (7 * i) * (b.toNat % 128) : Nat) : Int) = X + 2 ^ (7 * i) * (b - 128) := by
      push_cast
      congr 2
      omega
    rw [e2, e3, Int.mul_add, Int.mul_assoc, Int.add_assoc, Int.mul_left_comm]
end

/-- The byte's group is added. -/
theorem acc_group (X P i : Nat) (b : Int) (b0 : 0 ≤ b) (b1 : b < 256) (hX : X < 2 ^ (7 * i)) (hP : P = 2 ^ (7 * i)) (hi : i ≤ 9) (h9 : i = 9 → b ≤ 1) :
    IntKind.u64.wrap ((X : Int) + IntKind.u64.wrap (b % 128 * (P : Int))) = ((X + 2 ^ (7 * i) * (b.toNat % 128) : Nat) : Int) := by
  rw [← hP] at hX ⊢
  have hm : (b % 128 * (P : Int)) = ((P * (b.toNat % 128) : Nat) : Int) := by
    push_cast
    rw [Int.mul_comm]
    congr 1
    omega
  have hp : P * (b.toNat % 128) ≤ 9223372036854775808 := by
    by_cases h : i = 9
    · subst h
      have := h9 rfl
      have h1 : b.toNat % 128 ≤ 1 := by omega
      have h2 : P * (b.toNat % 128) ≤ P * 1 := Nat.mul_le_mul_left _ h1
      rw [hP] at h2 ⊢
      exact Nat.le_trans h2 (by decide)
    · have h1 : P ≤ 2 ^ 56 := by rw [hP]; exact Nat.pow_le_pow_right (by omega) (by omega)
      have h2 : P * (b.toNat % 128) ≤ 2 ^ 56 * 127 := Nat.mul_le_mul h1 (by omega)
      exact Nat.le_trans h2 (by decide)
  have hq : P ≤ 9223372036854775808 := by
    have h1 : P ≤ 2 ^ 63 := by rw [hP]; exact Nat.pow_le_pow_right (by omega) (by omega)
    exact h1
  rw [hm, IntKind.wrap_u64, IntKind.wrap_u64]
  omega

theorem acc_last (X P i : Nat) (b : Int) (b0 : 0 ≤ b) (b1 : b < 128) (hX : X < 2 ^ (7 * i)) (hP : P = 2 ^ (7 * i)) (hi : i ≤ 9) (h9 : i = 9 → b ≤ 1) :
    IntKind.u64.wrap ((X : Int) + IntKind.u64.wrap (b % 128 * (P : Int))) = X + 2 ^ (7 * i) * b := by
  rw [acc_group X P i b b0 (by omega) hX hP hi h9]
  push_cast
  congr 2
  omega

theorem acc_pow (P i : Nat) (hP : P = 2 ^ (7 * i)) (hi : i ≤ 8) : IntKind.u64.wrap ((P : Int) * 128) = ((2 ^ (7 * (i + 1)) : Nat) : Int) := by
  have e : 2 ^ (7 * (i + 1)) = P * 128 := by rw [hP, show 7 * (i + 1) = 7 * i + 7 by omega, Nat.pow_add]
  have h1 : P ≤ 2 ^ 56 := by rw [hP]; exact Nat.pow_le_pow_right (by omega) (by omega)
  rw [e, IntKind.wrap_u64]
  omega

set_option maxHeartbeats 4000000 in
set_option maxRecDepth 10000 in
theorem get_ref (xs : List Int) (a : Int) (hl : xs.length ≤ 140737488355328) (ha : 0 ≤ a ∧ a + xs.length ≤ 140737488355328) (ho : Octets xs) (w : World) :
    Calls Try.prog 30 #[rdr xs a 0] w fun e w' => e = .returned (refOut xs a (vget xs)) ∧ Keeps NoBlock w w' := by
  have HL := Lib.hid hl; have HA := Lib.hid ha; have HO := Lib.hid ho
  clear hl ha ho
  unfold rdr
  go_enter Try.func30, Try.ntmps30
  go_wp2_with fail
  go_loopw [4, 5, 9] (fun x q v wr => ∃ (i X P : Nat), x = .int .u64 X ∧ q = .int .u64 P ∧ v = .int .i64 i ∧ i ≤ 9 ∧ Hid (P = 2 ^ (7 * i)) ∧ RState2 xs a w.heap.size (w.heap.size + 1) w i X wr) (fun _ _ v _ => 10 - (intOf v).toNat)
  case atStart => exact ⟨0, 0, 1, rfl, rfl, rfl, by omega, Lib.hid rfl, ⟨by simpa using (Whole.new w _ _).alloc _, Whole.newAt _ _ _ _ (by simp), ((Keeps.refl _ _).alloc _).alloc _, by decide, by simp [VR.up, vget], by omega, by omega⟩⟩
  case round =>
    obtain ⟨i, X, P, rfl, rfl, rfl, hi9, HP, hst⟩ := hrel
    have c0 := hst.rd.cell 0 rfl
    have c1 := hst.rd.cell 1 rfl
    have c2 := hst.rd.cell 2 rfl
    simp only [List.getElem_toArray, List.getElem_cons_zero, List.getElem_cons_succ] at c0 c1 c2
    have HS := Lib.hid hst
    clear hst
    by_cases hs : i < xs.length
    · have HG := Lib.hid (get1_ref (xs.drop i) (a + i) 1 1 rfl (by omega) (by rw [List.length_drop]; omega) (by omega) (by rw [List.length_drop]; have := HL.out; omega) (by have := HA.out; omega) (HO.out.drop i))
      obtain ⟨b, hbd⟩ : ∃ b, b = xs.getD i 0 := ⟨_, rfl⟩
      have hb0 : 0 ≤ b ∧ b < 256 := by rw [hbd]; exact HO.out.getD _
      have htk : le ((xs.drop i).take 1) = b := by
        rw [drop_cons hs, ← hbd]
        simp [le]
      rw [htk, List.drop_drop, show ((1 : Nat) : Int) = 1 from rfl] at HG
      unfold rdr at HG
      obtain ⟨b0, b1⟩ := hb0
      have HBd := Lib.hid hbd
      clear hbd htk
      go_wp2_with fail
      refine (HG.out _).mono ?_
      rintro e w1 ⟨rfl, hk⟩
      have hrd1 := HS.out.rd.keep hk (fun h => h)
      have hre1 := HS.out.res.keep hk (fun h => h)
      have hkw1 := HS.out.keep.trans hk
      clear hk HG
      obtain ⟨W, hW⟩ : ∃ W, W = w1.alloc (.cells #[.string (strOfNums (xs.drop (i + 1))), .int .i64 (a + i + 1), .int .i64 0] 62) := ⟨_, rfl⟩
      have hW1 : Whole W w.heap.size 62 #[.string (strOfNums (xs.drop i)), .int .i64 (a + i), .int .i64 0] := by rw [hW]; exact hrd1.alloc _
      have hW2 : Whole W (w.heap.size + 1) 62 #[.string { data := #[] }, .int .i64 0, .int .i64 0] := by rw [hW]; exact hre1.alloc _
      have hW3 : Whole W w1.heap.size 62 #[.string (strOfNums (xs.drop (i + 1))), .int .i64 (a + i + 1), .int .i64 0] := by rw [hW]; exact Whole.new _ _ _
      have hkW : Keeps NoBlock w W := by rw [hW]; exact hkw1.alloc _
      have d0 := hW1.cell 0 rfl
      have d1 := hW1.cell 1 rfl
      have d2 := hW1.cell 2 rfl
      have f0 := hW1.free 0
      have f1 := hW1.free 1
      have f2 := hW1.free 2
      have s0 := hW3.cell 0 rfl
      have s1 := hW3.cell 1 rfl
      have s2 := hW3.cell 2 rfl
      simp only [List.getElem_toArray, List.getElem_cons_zero, List.getElem_cons_succ] at d0 d1 d2 s0 s1 s2
      have HW1 := Lib.hid hW1; have HW2 := Lib.hid hW2; have HkW := Lib.hid hkW
      clear hrd1 hre1 hkw1 hW1 hW2 hW3 hkW c0 c1 c2
      go_upto_region 7 with (fail)
      rw [← hW]
      clear hW
      go_upto_region 8 with (fail)
      obtain ⟨V, hV⟩ : ∃ V, V = ((W.setCell ⟨w.heap.size, 0, none⟩ (.string (strOfNums (xs.drop (i + 1))))).setCell ⟨w.heap.size, 1, none⟩ (.int .i64 (a + i + 1))).setCell ⟨w.heap.size, 2, none⟩ (.int .i64 0) := ⟨_, rfl⟩
      rw [← hV]
      have hV1 : Whole V w.heap.size 62 #[.string (strOfNums (xs.drop (i + 1))), .int .i64 (a + i + 1), .int .i64 0] := by rw [hV]; exact ((HW1.out.set 0 _).set 1 _).set 2 _
      have hV2 : Whole V (w.heap.size + 1) 62 #[.string { data := #[] }, .int .i64 0, .int .i64 0] := by rw [hV]; exact (((HW2.out.setOther (by simp) _).setOther (by simp) _).setOther (by simp) _)
      have hkV : Keeps NoBlock w V := by rw [hV]; exact ((HkW.out.setNew (Nat.le_refl _) 0 _).setNew (Nat.le_refl _) 1 _).setNew (Nat.le_refl _) 2 _
      have HV1 := Lib.hid hV1; have HV2 := Lib.hid hV2; have HkV := Lib.hid hkV
      have c0 := hV1.cell 0 rfl
      have c1 := hV1.cell 1 rfl
      have c2 := hV1.cell 2 rfl
      have r0 := hV2.cell 0 rfl
      have r1 := hV2.cell 1 rfl
      have r2 := hV2.cell 2 rfl
      have g0 := hV2.free 0
      have g1 := hV2.free 1
      have g2 := hV2.free 2
      simp only [List.getElem_toArray, List.getElem_cons_zero, List.getElem_cons_succ] at c0 c1 c2 r0 r1 r2
      clear hV1 hV2 hkV hV d0 d1 d2 f0 f1 f2 s0 s1 s2 HW1 HW2 HkW
      have HLt := Lib.hid (And.intro HS.out.lt HP.out)
      by_cases h9 : i = 9
      · by_cases k1 : 1 < b
        · subst h9
          have HF := Lib.hid (fail_ref (xs.drop (9 + 1)) (a + (9 : Nat) + 1) 3)
          have HOut := Lib.hid (HS.out.wrong hs 3 b HBd.out (.inl ⟨rfl, rfl, k1⟩))
          unfold rdr at HF
          clear HBd HLt
          go_wp2_with fail
          refine (HF.out _).mono ?_
          rintro e w4 ⟨rfl, hk⟩
          have hR := HV2.out.keep hk (fun h => h)
          have HK := Lib.hid (HkV.out.trans hk)
          have q0 := hR.cell 0 rfl
          have q1 := hR.cell 1 rfl
          have q2 := hR.cell 2 rfl
          have p0 := hR.free 0
          have p1 := hR.free 1
          have p2 := hR.free 2
          simp only [List.getElem_toArray, List.getElem_cons_zero, List.getElem_cons_succ] at q0 q1 q2
          clear hk hR
          go_wp2_with fail
          rw [HOut.out]
          exact bodyPost_ret (v := .tuple #[rdr (xs.drop (9 + 1)) (a + (9 : Nat) + 1) 3, .int .u64 0]) (by simp [results, Try.results30, go_sem, rdr, q0, q1, q2]) rfl ⟨rfl, ((HK.out.setNew (by omega) 0 _).setNew (by omega) 1 _).setNew (by omega) 2 _⟩
        · by_cases k0 : b = 0
          · subst h9
            subst k0
            have HF := Lib.hid (fail_ref (xs.drop (9 + 1)) (a + (9 : Nat) + 1) 4)
            have HOut := Lib.hid (HS.out.wrong hs 4 0 HBd.out (.inr ⟨rfl, by omega, by omega, rfl⟩))
            unfold rdr at HF
            clear HBd HLt
            go_wp2_with fail
            refine (HF.out _).mono ?_
            rintro e w4 ⟨rfl, hk⟩
            have hR := HV2.out.keep hk (fun h => h)
            have HK := Lib.hid (HkV.out.trans hk)
            have q0 := hR.cell 0 rfl
            have q1 := hR.cell 1 rfl
            have q2 := hR.cell 2 rfl
            have p0 := hR.free 0
            have p1 := hR.free 1
            have p2 := hR.free 2
            simp only [List.getElem_toArray, List.getElem_cons_zero, List.getElem_cons_succ] at q0 q1 q2
            clear hk hR
            go_wp2_with fail
            rw [HOut.out]
            exact bodyPost_ret (v := .tuple #[rdr (xs.drop (9 + 1)) (a + (9 : Nat) + 1) 4, .int .u64 0]) (by simp [results, Try.results30, go_sem, rdr, q0, q1, q2]) rfl ⟨rfl, ((HK.out.setNew (by omega) 0 _).setNew (by omega) 1 _).setNew (by omega) 2 _⟩
          · subst h9
            have HOut := Lib.hid (HS.out.last hs b HBd.out (by omega) (by omega) (by omega))
            have HNum := Lib.hid (acc_last X P 9 b b0 (by omega) HLt.out.1 HLt.out.2 (by omega) (fun _ => by omega))
            clear HBd
            go_wp2_with fail
            rw [HOut.out]
            refine bodyPost_ret (v := .tuple #[rdr (xs.drop (9 + 1)) (a + (9 : Nat) + 1) 0, .int .u64 (X + 2 ^ (7 * 9) * b)]) ?_ rfl ⟨rfl, ((HkV.out.setNew (by omega) 0 _).setNew (by omega) 1 _).setNew (by omega) 2 _⟩
            rw [← HNum.out]
            simp [results, Try.results30, go_sem, rdr, r0, r1, r2]
      · by_cases k0 : b = 0
        · by_cases hi0 : i = 0
          · subst hi0
            subst k0
            have HOut := Lib.hid (HS.out.last hs 0 HBd.out (by omega) (by omega) (by omega))
            have HNum := Lib.hid (show IntKind.u64.wrap (X : Int) = X + 2 ^ (7 * 0) * 0 by have := HLt.out.1; rw [IntKind.wrap_u64]; simp at this; subst this; rfl)
            clear HBd
            go_wp2_with fail
            rw [HOut.out]
            refine bodyPost_ret (v := .tuple #[rdr (xs.drop (0 + 1)) (a + (0 : Nat) + 1) 0, .int .u64 (X + 2 ^ (7 * 0) * 0)]) ?_ rfl ⟨rfl, ?_⟩
            · rw [← HNum.out]
              simp [results, Try.results30, go_sem, rdr, r0, r1, r2]
            · exact ((HkV.out.setNew (by omega) 0 _).setNew (by omega) 1 _).setNew (by omega) 2 _
          · subst k0
            have hi1 : 0 < i := by omega
            have HF := Lib.hid (fail_ref (xs.drop (i + 1)) (a + (i : Nat) + 1) 4)
            have HOut := Lib.hid (HS.out.wrong hs 4 0 HBd.out (.inr ⟨rfl, by omega, by omega, rfl⟩))
            unfold rdr at HF
            clear HBd HLt
            go_wp2_with fail
            refine (HF.out _).mono ?_
            rintro e w4 ⟨rfl, hk⟩
            have hR := HV2.out.keep hk (fun h => h)
            have HK := Lib.hid (HkV.out.trans hk)
            have q0 := hR.cell 0 rfl
            have q1 := hR.cell 1 rfl
            have q2 := hR.cell 2 rfl
            have p0 := hR.free 0
            have p1 := hR.free 1
            have p2 := hR.free 2
            simp only [List.getElem_toArray, List.getElem_cons_zero, List.getElem_cons_succ] at q0 q1 q2
            clear hk hR
            go_wp2_with fail
            rw [HOut.out]
            exact bodyPost_ret (v := .tuple #[rdr (xs.drop (i + 1)) (a + (i : Nat) + 1) 4, .int .u64 0]) (by simp [results, Try.results30, go_sem, rdr, q0, q1, q2]) rfl ⟨rfl, ((HK.out.setNew (by omega) 0 _).setNew (by omega) 1 _).setNew (by omega) 2 _⟩
        · by_cases k2 : b < 128
          · have HOut := Lib.hid (HS.out.last hs b HBd.out (by omega) (by omega) (by omega))
            have HNum := Lib.hid (acc_last X P i b b0 (by omega) HLt.out.1 HLt.out.2 (by omega) (fun _ => by omega))
            clear HBd
            go_wp2_with fail
            rw [HOut.out]
            refine bodyPost_ret (v := .tuple #[rdr (xs.drop (i + 1)) (a + (i : Nat) + 1) 0, .int .u64 (X + 2 ^ (7 * i) * b)]) ?_ rfl ⟨rfl, ((HkV.out.setNew (by omega) 0 _).setNew (by omega) 1 _).setNew (by omega) 2 _⟩
            rw [← HNum.out]
            simp [results, Try.results30, go_sem, rdr, r0, r1, r2]
          · have HMore := Lib.hid (HS.out.more hs b HBd.out (by omega) (by omega) b1 HV1.out HV2.out HkV.out)
            have HNum := Lib.hid (acc_group X P i b b0 b1 HLt.out.1 HLt.out.2 (by omega) (fun _ => by omega))
            have HPow := Lib.hid (acc_pow P i HLt.out.2 (by omega))
            clear HBd
            go_wp2_with fail
            go_roundw
            case rel => exact ⟨i + 1, _, _, congrArg (Value.int IntKind.u64) HNum.out, congrArg (Value.int IntKind.u64) HPow.out, by go_num, by omega, Lib.hid rfl, HMore.out⟩
            case measure => simp [intOf]; omega
    · have HG := Lib.hid (get1_ref_short (xs.drop i) (a + i) 1 1 rfl (by omega) (by rw [List.length_drop]; omega))
      unfold rdr at HG
      go_wp2_with fail
      refine (HG.out _).mono ?_
      rintro e w1 ⟨rfl, hk⟩
      have hrd1 := HS.out.rd.keep hk (fun h => h)
      have hre1 := HS.out.res.keep hk (fun h => h)
      have hkw1 := HS.out.keep.trans hk
      clear hk HG
      obtain ⟨W, hW⟩ : ∃ W, W = w1.alloc (.cells #[.string (strOfNums (xs.drop i)), .int .i64 (a + i), .int .i64 2] 62) := ⟨_, rfl⟩
      have hW1 : Whole W w.heap.size 62 #[.string (strOfNums (xs.drop i)), .int .i64 (a + i), .int .i64 0] := by rw [hW]; exact hrd1.alloc _
      have hW2 : Whole W (w.heap.size + 1) 62 #[.string { data := #[] }, .int .i64 0, .int .i64 0] := by rw [hW]; exact hre1.alloc _
      have hW3 : Whole W w1.heap.size 62 #[.string (strOfNums (xs.drop i)), .int .i64 (a + i), .int .i64 2] := by rw [hW]; exact Whole.new _ _ _
      have HkW := Lib.hid (show Keeps NoBlock w W by rw [hW]; exact hkw1.alloc _)
      have d0 := hW1.cell 0 rfl
      have d1 := hW1.cell 1 rfl
      have d2 := hW1.cell 2 rfl
      have f0 := hW1.free 0
      have f1 := hW1.free 1
      have f2 := hW1.free 2
      have s0 := hW3.cell 0 rfl
      have s1 := hW3.cell 1 rfl
      have s2 := hW3.cell 2 rfl
      have r0 := hW2.cell 0 rfl
      have r1 := hW2.cell 1 rfl
      have r2 := hW2.cell 2 rfl
      have g0 := hW2.free 0
      have g1 := hW2.free 1
      have g2 := hW2.free 2
      simp only [List.getElem_toArray, List.getElem_cons_zero, List.getElem_cons_succ] at d0 d1 d2 s0 s1 s2 r0 r1 r2
      have HOut := Lib.hid (HS.out.short hs)
      clear hrd1 hre1 hkw1 hW1 hW2 hW3 c0 c1 c2
      go_upto_region 7 with (fail)
      rw [← hW]
      clear hW
      go_wp2_with fail
      rw [HOut.out]
      exact bodyPost_ret (v := .tuple #[rdr (xs.drop i) (a + i) 2, .int .u64 0]) (by simp [results, Try.results30, go_sem, rdr, r0, r1, r2]) rfl ⟨rfl, (((((HkW.out.setNew (by omega) 0 _).setNew (by omega) 1 _).setNew (by omega) 2 _).setNew (by omega) 0 _).setNew (by omega) 1 _).setNew (by omega) 2 _⟩
end Go.Proofs.Ytnfgmgonpecdmaa

/-
  The law CursorBack: its reading, the loop.
-/
import Derived.Test.YthgjipgkbinjkaaBackRead
namespace Go.Proofs.Ythgjipgkbinjkaa
open Go.RowKit

set_option maxRecDepth 100000 in
set_option maxHeartbeats 4000000 in
theorem back_loop (w0 W : World) (RB b1 b3 : Nat) (p pr lp : Option Addr) (ys zs : List Int) (Nb cb N c n lc : Nat) (hB : Begun w0 p Nb cb 0 0 W) (hRB : RB < w0.heap.size) (hL : BLoop w0 W RB b1 b3 p pr lp (allOf ys zs) ys zs Nb cb N c n lc 0 W)
    (hN : N = ys.length) (hn : n = zs.length) (hNb : Nb = n * (13 + N)) (hcb : Nb ≤ cb) (hNb' : Nb ≤ 140737488355328) (hcb' : cb ≤ 9223372036854775807) (hy : Octets ys) (hz : ∀ z ∈ zs, 0 ≤ z ∧ z < 18446744073709551616) (hK : Keeps NoBlock w0 W) :
    Calls Try.prog 19 (#[.pointer (some ⟨w0.heap.size + 1 + 1, 0, none⟩)] ++ #[.pointer (some ⟨b1, 0, none⟩), .pointer (some ⟨RB, 0, none⟩), .pointer (some ⟨b3, 0, none⟩)]) W (ReadEnds w0 p Nb cb Nb 0 (fun w2 => Keeps (Just RB) w0 w2 ∧ Whole w2 RB 4 #[.bool true])) := by
  have HL0 := Lib.hid hL; have HB := Lib.hid hB; have HN := Lib.hid hN; have Hn := Lib.hid hn; have HNb := Lib.hid hNb; have HY := Lib.hid hy; have HZ := Lib.hid hz; have HKW := Lib.hid hK
  have hNX : Nb = (allOf ys zs).length := by rw [allOf_length, hNb, hN, hn]
  have HX := Lib.hid hNX
  have d1 := hL.sl.cell 0 rfl
  simp only [List.getElem_toArray, List.getElem_cons_zero] at d1
  have hn9 : n ≤ 9223372036854775807 := by
    have : n * 13 ≤ n * (13 + N) := Nat.mul_le_mul_left _ (by omega)
    omega
  have hN9 : N ≤ 9223372036854775807 ∨ n = 0 := by
    rcases Nat.eq_zero_or_pos n with h | h
    · exact .inr h
    · left
      have : 1 * (13 + N) ≤ n * (13 + N) := Nat.mul_le_mul_right _ h
      omega
  clear hL hB hN hn hNb hy hz hK hNX
  simp only [List.append_toArray, List.nil_append, List.cons_append]
  go_enter Try.func19, Try.ntmps19
  go_wp2_with fail
  go_loopw [9] (fun i wr => ∃ k : Nat, k ≤ n ∧ i = .int .i64 k ∧ BLoop w0 W RB b1 b3 p pr lp (allOf ys zs) ys zs Nb cb N c n lc k wr) (fun i _ => n - (intOf i).toNat)
  case atStart => exact ⟨0, Nat.zero_le _, rfl, HL0.out⟩
  case round =>
    obtain ⟨k, hk, rfl, hbl⟩ := hrel
    have HK := Lib.hid hbl
    clear hbl d1
    by_cases hlt : k < n
    · have hN9 : N ≤ 9223372036854775807 := by rcases hN9 with h | h; exact h; omega
      have hkl : k < zs.length := by have := Hn.out; omega
      have hkz := HZ.out _ (List.getElem_mem hkl)
      obtain ⟨a, rfl, hc⟩ := HK.out.ws k hkl
      obtain ⟨z, hzdef⟩ : ∃ z, z = zs.getD k 0 := ⟨_, rfl⟩
      rw [← hzdef] at hc
      have hz0 : 0 ≤ z := by rw [hzdef]; simpa [hkl] using hkz.1
      have hz1 : z < 18446744073709551616 := by rw [hzdef]; simpa [hkl] using hkz.2
      have HD := Lib.hid hzdef
      have HZ1 := Lib.hid hz1
      have hroom : k * (13 + N) + 13 + N ≤ Nb := by
        have h1 : (k + 1) * (13 + N) ≤ n * (13 + N) := Nat.mul_le_mul_right _ hlt
        rw [← HNb.out, Nat.add_mul] at h1
        omega
      have HR := Lib.hid hroom
      have q1 : (allOf ys zs).getD (k * (13 + N)) 0 = IntKind.u8.wrap z := by rw [IntKind.wrap_u8, HN.out, HD.out]; exact all_byte hkl
      have q2 : le (((allOf ys zs).drop (k * (13 + N) + 1)).take 4) = IntKind.u32.wrap z := by rw [IntKind.wrap_u32, HN.out, HD.out]; exact all_four hkl (by rw [← HD.out]; exact hz0)
      have q3 : le (((allOf ys zs).drop (k * (13 + N) + 1 + 4)).take 8) = z := by
        have := all_eight (ys := ys) hkl (by rw [← HD.out]; exact hz0) (by rw [← HD.out]; exact hz1)
        rw [HN.out, HD.out]; exact this
      have q4 : ((allOf ys zs).drop (k * (13 + N) + 1 + 4 + 8)).take N = ys := by
        have := all_raw (ys := ys) hkl
        rw [HN.out]; exact this
      have Q1 := Lib.hid q1; have Q2 := Lib.hid q2; have Q3 := Lib.hid q3; have Q4 := Lib.hid q4
      have HO := Lib.hid (allOf_octets ys HY.out zs)
      clear q1 q2 q3 q4 hz1 hzdef hkz hroom hkl hN9 hk
      have s0 := (HK.out.st.held HN.out)
      have HS := Lib.hid HK.out.st
      have hr1 : k * (13 + N) + 1 ≤ Nb := by have := HR.out; omega
      have hr2 : k * (13 + N) + 1 + 4 ≤ Nb := by have := HR.out; omega
      have hr3 : k * (13 + N) + 1 + 4 + 8 ≤ Nb := by have := HR.out; omega
      have hr4 : k * (13 + N) + 1 + 4 + 8 + N ≤ Nb := by have := HR.out; omega
      have R1 := Lib.hid hr1; have R2 := Lib.hid hr2; have R3 := Lib.hid hr3; have R4 := Lib.hid hr4
      clear hr1 hr2 hr3 hr4
      go_wp2_with fail
      obtain ⟨s01, s02, s03⟩ := s0
      go_region_with (first
          | (go_at_call 20; refine (went_byte (HS.out.drewN _) z HX.out HO.out R1.out hcb hcb' Q1.out).mono ?_; rintro e wA ⟨rfl, hsA, hkA⟩; have HA := Lib.hid hsA; have KA := Lib.hid hkA; clear hsA hkA)
          | (go_at_call 21; refine (went_four HA.out z HX.out HO.out R2.out hcb hcb' Q2.out).mono ?_; rintro e wB ⟨rfl, hsB, hkB⟩; have HB2 := Lib.hid hsB; have KB := Lib.hid hkB; clear hsB hkB)
          | (go_at_call 22; refine (went_eight HB2.out z HX.out HO.out R3.out hcb hcb' Q3.out).mono ?_; rintro e wC ⟨rfl, hsC, hkC⟩; have HC := Lib.hid hsC; have KC := Lib.hid hkC; obtain ⟨sC1, sC2, sC3⟩ := hsC.held HN.out; clear hsC hkC)
          | (go_at_call 9; refine (went_take HC.out HX.out HN.out R4.out hcb hNb' hcb' Q4.out).mono ?_; rintro e wD ⟨qD, cD, rfl, hcvD, hsD, hkD⟩; have HD2 := Lib.hid hsD; have KD := Lib.hid hkD; have fD := hsD.right.free 0; obtain ⟨sD1, sD2, sD3⟩ := hsD.held HN.out; clear hsD hkD))
      all_goals
        have HE := Lib.hid (HK.out.step (((((Keeps.refl (Just (w0.heap.size + 1 + 1)) wr).drewN _).trans KA.out).trans KB.out).trans KC.out |>.trans KD.out) HD2.out)
        go_wp2_with fail
        go_roundw
        case rel => exact ⟨k + 1, by omega, by go_num, by first | exact HE.out | exact HE.out.drewN _⟩
        case measure => simp [intOf]; omega
    · obtain rfl : k = n := by omega
      have hcur : CurB wr (w0.heap.size + 1 + 1) p Nb cb Nb true 0 := by
        have := HK.out.st.cur
        rw [← HNb.out] at this
        exact this
      have HC := Lib.hid hcur
      clear hcur
      go_wp2_with fail
      refine (end_done _ _ HC.out (by omega)).mono ?_
      rintro e w2 ⟨rfl, m, rfl⟩
      go_wp2_with fail
      go_returns
      have hk2 : Keeps (fun i => i = w0.heap.size + 1 + 1 ∨ i = RB) W (wr.drewN m) := HK.out.keep.drewN m
      exact ⟨.inl rfl, HB.out.ends hk2 hRB HC.out, (HKW.out.wider (S' := Just RB) (fun _ _ h => h.elim)).then hk2 (fun i hi h => by unfold Just; omega), HK.out.st.right⟩
end Go.Proofs.Ythgjipgkbinjkaa

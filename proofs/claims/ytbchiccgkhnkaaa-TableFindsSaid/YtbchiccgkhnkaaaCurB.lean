/-
  Contracts of package cursor's numbers and copies: number, Byte, Four, Eight, bytes.Clone, Take.
-/
import Derived.Test.YtbchiccgkhnkaaaCurA
import Derived.Test.YtbchiccgkhnkaaaNum
namespace Go.Proofs.Ytbchiccgkhnkaaa
open Go.RowKit

set_option maxHeartbeats 400000 in
theorem number_any (p : Option Addr) (n c : Nat) (xs : List Int) (w : World) (hn : n = xs.length) (hx : xs.length ≤ 8) (h : Bytes8 w p xs) (hb : Octets xs) :
    Calls Try.prog 67 #[.slice p n c] w fun e w' => e = .returned (.int .u64 (le xs)) ∧ w = w' := by
  have HN := Lib.hid hn
  have HB := Lib.hid hb
  have H := Lib.hid h
  have h8 : n ≤ 8 := by omega
  clear hn h hb hx
  go_enter Try.func67, Try.ntmps67
  go_wp2
  go_loop [3, 8] (fun x i => ∃ k : Nat, k ≤ n ∧ i = .int .i64 k ∧ x = .int .u64 (le (xs.take k))) (fun _ i => n - (intOf i).toNat)
  case atStart => exact ⟨0, Nat.zero_le _, rfl, rfl⟩
  case round =>
    obtain ⟨k, hk, rfl, rfl⟩ := hrel
    by_cases hlt : k < n
    · obtain ⟨a, ha, hc⟩ := H.out (by rw [← HN.out]; omega)
      have hc := hc k (by rw [← HN.out]; exact hlt)
      subst ha
      go_wp2
      go_round
      case rel =>
        have hl : (xs.take k).length = k := by have := HN.out; simp; omega
        have hbd := le_bound _ (HB.out.take k)
        rw [hl] at hbd
        have hy := HB.out.getD k
        refine ⟨k + 1, by omega, by go_num, ?_⟩
        have hs := le_snoc (xs.take k) (xs.getD k 0)
        rw [hl] at hs
        rw [take_succ_getD xs k (by have := HN.out; omega), hs]
        have ho := or_byte (le (xs.take k)) (xs.getD k 0) k (by omega) hbd.1 hbd.2 hy.1 hy.2
        rw [← ho]
        simp
      case measure => simp [intOf]; omega
    · go_wp2
      go_ret
      have hkn : xs.take k = xs := List.take_of_length_le (by have := HN.out; omega)
      exact ⟨by rw [hkn]; rfl, rfl⟩

theorem le_one (xs : List Int) (h : xs.length = 1) : le xs = xs.getD 0 0 := by
  match xs, h with
  | [b], _ => simp [le]

def NumOk (k : Nat) (p : Option Addr) (N c a n : Nat) (v : Value) (w : World) (e : Ending) (w' : World) : Prop :=
  e = .returned v ∧ CurB w' k p N c (a + n) true 0 ∧ Keeps (Just k) w w'

/-- A piece of the cursor's bytes, as next hands it out. -/
theorem piece_of {k : Nat} {p : Option Addr} {xs : List Int} {a n : Nat} {w w' : World} {v : Value} (hf : From p a n v) (hb : Bytes8 w p xs) (hn : a + n ≤ xs.length) (hk : Keeps (Just k) w w') (hp : 0 < xs.length → ∀ q, p = some q → q.block ≠ k) :
    ∃ q c, v = .slice q n c ∧ Bytes8 w' q ((xs.drop a).take n) := by
  obtain ⟨q, c, rfl, hq⟩ := hf
  exact ⟨q, c, rfl, (hb.keepPos hk fun h0 r hr => hp h0 r hr).piece a n hn hq⟩

theorem four_at (k : Nat) (p : Option Addr) (xs : List Int) (N c a : Nat) (w : World) (hx : N = xs.length) (h : CurB w k p N c a true 0) (hb : Bytes8 w p xs) (ho : Octets xs) (hp : 0 < xs.length → ∀ q, p = some q → q.block ≠ k)
    (hn : a + 4 ≤ N) (hN : N ≤ c) (hc : c ≤ 9223372036854775807) :
    Calls Try.prog 45 #[.pointer (some ⟨k, 0, none⟩)] w (NumOk k p N c a 4 (.int .u32 (le ((xs.drop a).take 4))) w) := by
  subst hx
  have H := Lib.hid h; have HB := Lib.hid hb; have HO := Lib.hid ho; have HP := Lib.hid hp
  clear h hb ho hp
  have hy := HO.out.getD a
  go_enter Try.func45, Try.ntmps45
  go_wp2_with fail
  refine (next_at k p xs.length c a 4 4 rfl _ H.out hn hN hc).mono ?_
  rintro e w1 ⟨v, rfl, hf, hcur, hk⟩
  obtain ⟨q, c', rfl, hq⟩ := piece_of hf HB.out hn hk HP.out
  have HK := Lib.hid hk; have HC := Lib.hid hcur; have HQ := Lib.hid hq
  clear hf hk hcur hq
  go_wp2_with fail
  refine (number_any q 4 c' _ _ (by simp; omega) (by simp; omega) HQ.out ((HO.out.drop _).take _)).mono ?_
  rintro e w2 ⟨rfl, rfl⟩
  have hl : ((xs.drop a).take 4).length = 4 := by simp; omega
  have hbd := le_bound ((xs.drop a).take 4) ((HO.out.drop _).take _)
  rw [hl] at hbd
  obtain ⟨z, hz⟩ : ∃ z, z = le ((xs.drop a).take 4) := ⟨_, rfl⟩
  rw [← hz] at hbd ⊢
  have HZ := Lib.hid hz
  clear hz hl
  go_wp2_with fail
  go_ret
  refine ⟨?_, HC.out, HK.out⟩
  rw [← HZ.out]
  simp only [Array.getD]; simp; try omega

theorem four_short (k : Nat) (p : Option Addr) (N c a : Nat) (w : World) (h : CurB w k p N c a true 0) (hn : a ≤ N) (hs : N < a + 4) (hc : N ≤ 9223372036854775807) :
    Calls Try.prog 45 #[.pointer (some ⟨k, 0, none⟩)] w fun e w' => e = .panicked (given k) ∧ CurB w' k p N c a true 2 ∧ Keeps (Just k) w w' := by
  have H := Lib.hid h; clear h
  go_enter Try.func45, Try.ntmps45
  go_wp2_with fail
  refine (next_short k p N c a 4 _ H.out hn (by omega) hc).mono ?_
  rintro e w' ⟨rfl, hcur, hk⟩
  exact ⟨rfl, rfl, hcur, hk⟩

theorem four_dead (p : Option Addr) (w : World) (h : Dead w p) :
    Calls Try.prog 45 #[.pointer p] w fun e w' => e = .returned (.int .u32 0) ∧ w = w' := by
  have H := Lib.hid h; clear h
  go_enter Try.func45, Try.ntmps45
  go_wp2_with fail
  refine (next_dead p 4 _ H.out).mono ?_
  rintro e w' ⟨rfl, rfl⟩
  go_wp2_with fail
  refine (number_any none 0 0 [] _ rfl (by simp) (Bytes8.nil _ _) (by intro b hb; simp at hb)).mono ?_
  rintro e w' ⟨rfl, rfl⟩
  rw [show le [] = 0 from rfl]
  go_wp2_with fail
  go_ret
  exact ⟨rfl, rfl⟩

theorem eight_at (k : Nat) (p : Option Addr) (xs : List Int) (N c a : Nat) (w : World) (hx : N = xs.length) (h : CurB w k p N c a true 0) (hb : Bytes8 w p xs) (ho : Octets xs) (hp : 0 < xs.length → ∀ q, p = some q → q.block ≠ k)
    (hn : a + 8 ≤ N) (hN : N ≤ c) (hc : c ≤ 9223372036854775807) :
    Calls Try.prog 44 #[.pointer (some ⟨k, 0, none⟩)] w (NumOk k p N c a 8 (.int .u64 (le ((xs.drop a).take 8))) w) := by
  subst hx
  have H := Lib.hid h; have HB := Lib.hid hb; have HO := Lib.hid ho; have HP := Lib.hid hp
  clear h hb ho hp
  have hy := HO.out.getD a
  go_enter Try.func44, Try.ntmps44
  go_wp2_with fail
  refine (next_at k p xs.length c a 8 8 rfl _ H.out hn hN hc).mono ?_
  rintro e w1 ⟨v, rfl, hf, hcur, hk⟩
  obtain ⟨q, c', rfl, hq⟩ := piece_of hf HB.out hn hk HP.out
  have HK := Lib.hid hk; have HC := Lib.hid hcur; have HQ := Lib.hid hq
  clear hf hk hcur hq
  go_wp2_with fail
  refine (number_any q 8 c' _ _ (by simp; omega) (by simp; omega) HQ.out ((HO.out.drop _).take _)).mono ?_
  rintro e w2 ⟨rfl, rfl⟩
  have hl : ((xs.drop a).take 8).length = 8 := by simp; omega
  have hbd := le_bound ((xs.drop a).take 8) ((HO.out.drop _).take _)
  rw [hl] at hbd
  obtain ⟨z, hz⟩ : ∃ z, z = le ((xs.drop a).take 8) := ⟨_, rfl⟩
  rw [← hz] at hbd ⊢
  have HZ := Lib.hid hz
  clear hz hl
  go_wp2_with fail
  go_ret
  refine ⟨?_, HC.out, HK.out⟩
  rw [← HZ.out]
  simp only [Array.getD]; simp; try omega

theorem eight_short (k : Nat) (p : Option Addr) (N c a : Nat) (w : World) (h : CurB w k p N c a true 0) (hn : a ≤ N) (hs : N < a + 8) (hc : N ≤ 9223372036854775807) :
    Calls Try.prog 44 #[.pointer (some ⟨k, 0, none⟩)] w fun e w' => e = .panicked (given k) ∧ CurB w' k p N c a true 2 ∧ Keeps (Just k) w w' := by
  have H := Lib.hid h; clear h
  go_enter Try.func44, Try.ntmps44
  go_wp2_with fail
  refine (next_short k p N c a 8 _ H.out hn (by omega) hc).mono ?_
  rintro e w' ⟨rfl, hcur, hk⟩
  exact ⟨rfl, rfl, hcur, hk⟩

theorem eight_dead (p : Option Addr) (w : World) (h : Dead w p) :
    Calls Try.prog 44 #[.pointer p] w fun e w' => e = .returned (.int .u64 0) ∧ w = w' := by
  have H := Lib.hid h; clear h
  go_enter Try.func44, Try.ntmps44
  go_wp2_with fail
  refine (next_dead p 8 _ H.out).mono ?_
  rintro e w' ⟨rfl, rfl⟩
  go_wp2_with fail
  refine (number_any none 0 0 [] _ rfl (by simp) (Bytes8.nil _ _) (by intro b hb; simp at hb)).mono ?_
  rintro e w' ⟨rfl, rfl⟩
  rw [show le [] = 0 from rfl]
  go_wp2_with fail
  go_ret
  exact ⟨rfl, rfl⟩

end Go.Proofs.Ytbchiccgkhnkaaa

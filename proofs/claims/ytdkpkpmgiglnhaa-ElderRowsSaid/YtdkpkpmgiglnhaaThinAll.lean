/-
  Contracts of package thin: Sum, Check.
-/
import Derived.Test.YtdkpkpmgiglnhaaThinSum
namespace Go.Proofs.Ytdkpkpmgiglnhaa
open Go.RowKit

set_option maxHeartbeats 2000000 in
set_option maxRecDepth 10000 in
theorem sum_thin (s : Int) (hs : U32 s) (p : Option Addr) (N c : Nat) (xs : List Int) (hx : N = xs.length) (hc : N ≤ c) (hc' : c ≤ 9223372036854775807) (ho : Octets xs) (w : World) (hb : Bytes8 w p xs) :
    Calls Try.prog 22 #[.int .u32 s, .slice p N c] w fun e w' => e = .returned (.int .u32 (xxh s xs)) ∧ Keeps NoBlock w w' := by
  have HBl := Lib.hid (blocks_thin s hs p N c xs hx hc hc' ho w hb)
  obtain ⟨b1, b2, b3⟩ := tblocks_ok s xs
  have hspec : xxh s xs = tend (tails (((tblocks s xs).1 + xs.length) % 4294967296) (tblocks s xs).2) := rfl
  obtain ⟨B, hB⟩ : ∃ B, B = (tblocks s xs).1 := ⟨_, rfl⟩
  obtain ⟨L, hL⟩ : ∃ L, L = (tblocks s xs).2 := ⟨_, rfl⟩
  rw [← hB] at b1 hspec HBl
  rw [← hL] at b2 b3 hspec HBl
  rw [← hx] at b2 hspec
  have HS0 := Lib.hid hspec
  have HL := Lib.hid (b3 ho)
  have B0 := b1.1
  have B1 := b1.2
  clear hB hL b3 b1 hspec hs ho hb hx
  go_enter Try.func22, Try.ntmps22
  go_wp2_with fail
  refine HBl.out.mono ?_
  rintro e w1 ⟨q, m, d, rfl, hm, hmd, hdc, hq8, hk⟩
  have HK := Lib.hid hk
  have HQ := Lib.hid (hq8.keep hk (fun _ _ h => h))
  have HM := Lib.hid hm
  clear hk hq8 hm HBl
  go_wp2_with fail
  rw [show (B + (N : Int) % 4294967296) % 4294967296 = (B + (N : Int)) % 4294967296 by omega]
  go_loopw [5, 6] (fun s5 s6 wr => ∃ (h : Int) (ys : List Int) (q : Option Addr) (m d : Nat), s6 = .slice q m d ∧ s5 = .int .u32 h ∧ m = ys.length ∧ m ≤ d ∧ d ≤ c ∧ Hid (U32 h) ∧ Hid (Octets ys) ∧ Hid (Bytes8 w1 q ys) ∧ Hid (tails h ys = tails ((B + N) % 4294967296) L) ∧ Keeps NoBlock w1 wr) (fun _ s6 _ => lenOf s6)
  case atStart => exact ⟨_, L, q, m, d, rfl, rfl, HM.out, hmd, hdc, Lib.hid (mod_bound _), HL, HQ, Lib.hid rfl, Keeps.refl _ _⟩
  case round =>
    clear HQ HM hmd hdc
    obtain ⟨h, ys, q, m, d, rfl, rfl, hm, hmd, hdc, hu, hy, hyb, ht, hk⟩ := hrel
    have HM := Lib.hid hm
    have HK2 := Lib.hid hk
    clear hm hk
    have hu0 := hu.out.1
    have hu1 := hu.out.2
    by_cases h4 : 4 ≤ m
    · have hdm : decide ((4 : Int) ≤ (m : Int)) = true := decide_eq_true (by omega)
      have HF := Lib.hid (fun w' (hb : Bytes8 w' q ys) => four_thin q m d ys HM.out h4 hy.out w' hb)
      obtain ⟨y, hyd⟩ : ∃ y, y = four4 ys 0 := ⟨_, rfl⟩
      have hyb4 := four4_bound hy.out 0
      have HT := Lib.hid (fun w => rotl ((h + y * 3266489917) % 4294967296) 17 17 (by decide) (by decide) rfl (mod_bound _) w)
      have hrb := rot_bound (n := 17) (by decide) (mod_bound (h + y * 3266489917))
      rw [← hyd] at hyb4 HF
      have hy0 := hyb4.1
      have hy1 := hyb4.2
      have hr0 := hrb.1
      have hr1 := hrb.2
      have HG := Lib.hid (tails_go (h := h) (xs := ys) (by have := HM.out; omega))
      rw [← hyd] at HG
      have he : tfour h y = rot 17 ((h + y * 3266489917) % 4294967296) * 668265263 % 4294967296 := rfl
      obtain ⟨r, hr⟩ : ∃ r, r = rot 17 ((h + y * 3266489917) % 4294967296) := ⟨_, rfl⟩
      rw [← hr] at hr0 hr1 HT he
      have HE := Lib.hid he
      have hw0 : (h + y * 3266489917 % 4294967296) % 4294967296 = (h + y * 3266489917) % 4294967296 := by omega
      have hbk := (hyb.out.piece (q := if d = 4 then q else Option.map (fun x => { block := x.block, off := x.off + 4 }) q) 4 (m - 4) (by have := HM.out; omega) (fun h => by rw [if_neg (by omega)]; cases q <;> simp [Addr.add]))
      rw [List.take_of_length_le (by rw [List.length_drop]; have := HM.out; omega)] at hbk
      have HBk := Lib.hid hbk
      clear hyd hyb4 hrb hr he hbk
      go_wp2_with fail
      refine (HF.out _ (hyb.out.keep HK2.out (fun _ _ h => h))).mono ?_
      rintro e w' ⟨rfl, n5, rfl⟩
      go_wp2_with fail
      refine (HT.out _).mono ?_
      rintro e w' ⟨rfl, rfl⟩
      go_wp2_with fail
      refine ⟨⟨_, ys.drop 4, _, _, _, rfl, rfl, by rw [List.length_drop, HM.out], by omega, by omega, Lib.hid (mod_bound _), Lib.hid (hy.out.drop 4), HBk, Lib.hid ?_, HK2.out.drewN _⟩, ?_⟩
      · rw [← HE.out, ← HG.out]
        exact ht.out
      · show m - 4 < m
        omega
    · have HG := Lib.hid (tails_end (h := h) (xs := ys) (by have := HM.out; omega))
      obtain ⟨W1, rfl⟩ : ∃ W1, W1 = wr := ⟨_, rfl⟩
      go_wp2_with fail
      go_loop [5, 34] (fun s5 i => ∃ k : Nat, k ≤ m ∧ i = .int .i64 (k : Int) ∧ s5 = .int .u32 ((ys.take k).foldl tone h)) (fun _ i => m - (intOf i).toNat)
      case atStart => exact ⟨0, Nat.zero_le _, rfl, rfl⟩
      case round =>
        obtain ⟨k, hk, rfl, rfl⟩ := hrel
        have hfb := fold_tone (ys.take k) h hu.out
        by_cases hlt : k < m
        · have HN2 := Lib.hid (fold_next ys h k (by have := HM.out; omega))
          have hgb := hy.out.getD k
          obtain ⟨a, rfl, hcell⟩ := (hyb.out.keep HK2.out (fun _ _ h => h)) (by have := HM.out; omega)
          have c0 := hcell k (by have := HM.out; omega)
          obtain ⟨z, hq⟩ : ∃ z, z = (ys.take k).foldl tone h := ⟨_, rfl⟩
          obtain ⟨b, hb⟩ : ∃ b, b = ys.getD k 0 := ⟨_, rfl⟩
          rw [← hq] at hfb HN2 ⊢
          rw [← hb] at hgb HN2 c0
          have hq0 := hfb.1
          have hq1 := hfb.2
          have hb0 := hgb.1
          have hb1 := hgb.2
          have HT := Lib.hid (fun w => rotl ((z + b * 374761393) % 4294967296) 11 11 (by decide) (by decide) rfl (mod_bound _) w)
          have hrb := rot_bound (n := 11) (by decide) (mod_bound (z + b * 374761393))
          have he : tone z b = rot 11 ((z + b * 374761393) % 4294967296) * 2654435761 % 4294967296 := rfl
          obtain ⟨r, hr⟩ : ∃ r, r = rot 11 ((z + b * 374761393) % 4294967296) := ⟨_, rfl⟩
          rw [← hr] at hrb HT he
          have hr0 := hrb.1
          have hr1 := hrb.2
          have HE := Lib.hid he
          have hdk : decide ((k : Int) < (m : Int)) = true := decide_eq_true (by omega)
          clear hq hb hfb hgb hr hrb he hcell
          go_wp2_with fail
          refine (HT.out _).mono ?_
          rintro e w' ⟨rfl, rfl⟩
          go_wp2_with fail
          exact ⟨⟨k + 1, by omega, rfl, by rw [HN2.out, HE.out]⟩, by simp [intOf]; omega⟩
        · obtain rfl : k = m := by omega
          rw [List.take_of_length_le (Nat.le_of_eq HM.out.symm), ← HG.out, ht.out] at hfb ⊢
          obtain ⟨z, hz⟩ : ∃ z, z = tails ((B + (N : Int)) % 4294967296) L := ⟨_, rfl⟩
          rw [← hz] at hfb ⊢
          have HX := Lib.hid (fun w => mix_thin z hfb w)
          rw [← hz] at HS0
          have HK3 := Lib.hid (HK.out.trans HK2.out)
          clear hfb hz
          go_wp2_with fail
          refine (HX.out _).mono ?_
          rintro e w' ⟨rfl, rfl⟩
          go_wp2_with fail
          go_ret
          exact ⟨by rw [HS0.out]; rfl, HK3.out⟩

set_option maxHeartbeats 2000000 in
set_option maxRecDepth 10000 in
theorem check_thin (s : Int) (hs : U32 s) (p : Option Addr) (N c : Nat) (xs : List Int) (z : Int) (hx : N = xs.length) (hc : N ≤ c) (hc' : c ≤ 9223372036854775807) (ho : Octets xs) (w : World) (hb : Bytes8 w p xs) :
    Calls Try.prog 42 #[.int .u32 s, .slice p N c, .int .u32 z] w fun e w' => e = .returned (.bool (xxh s xs == z)) ∧ Keeps NoBlock w w' := by
  have HS := Lib.hid (sum_thin s hs p N c xs hx hc hc' ho w hb)
  clear hs hx hc hc' ho hb
  go_enter Try.func42, Try.ntmps42
  go_wp2_with fail
  refine HS.out.mono ?_
  rintro e w1 ⟨rfl, hk⟩
  go_wp2_with fail
  go_ret
  exact ⟨rfl, hk⟩
end Go.Proofs.Ytdkpkpmgiglnhaa

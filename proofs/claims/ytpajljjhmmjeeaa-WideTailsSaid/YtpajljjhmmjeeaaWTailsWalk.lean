/-
  The law WideTails: its walk.
-/
import Derived.Test.YtpajljjhmmjeeaaWideLives
import Derived.Test.YtpajljjhmmjeeaaTailsWalk
import Derived.Test.YtpajljjhmmjeeaaWTailsNum
namespace Go.Proofs.Ytpajljjhmmjeeaa
open Go.RowKit

theorem wxxh_apart (s : Int) (xs : List Int) (b c : Int) (h : (xs.length + 1) % 4 ≠ 0) (hb : 0 ≤ b ∧ b < 256) (hc : 0 ≤ c ∧ c < 256) (hne : b ≠ c) : wxxh s (xs ++ [b]) ≠ wxxh s (xs ++ [c]) :=
  fun e => hne (wxxh_snoc s xs b c h hb hc e)

set_option maxHeartbeats 4000000 in
set_option maxRecDepth 10000 in
theorem wtails_small (s t : Int) (hs : U64 s) (ht : 0 ≤ t ∧ t < 256) (ht0 : t ≠ 0) (a : Addr) (N c : Nat) (ys : List Int) (y : Int) (w : World) (hx : N = ys.length + 1) (hb : Bytes8 w (some a) (ys ++ [y])) (hoc : Octets (ys ++ [y])) (hc : N ≤ c) (hc' : c ≤ 9223372036854775807) (hg : N ≤ 400) (h4 : N % 4 ≠ 0) :
    Calls Try.prog 5 #[.int .u64 s, .slice (some a) N c, .int .u8 t] w fun e w' => e = .returned (.bool true) ∧ Keeps NoBlock w w' := by
  obtain ⟨i0, hi, hz0, hz1, hz2⟩ := info_parts infoByte
  have hyb := hoc y (by simp)
  have hox : ∀ z, 0 ≤ z ∧ z < 256 → Octets (ys ++ [z]) := fun z hz b hb => by
    rcases List.mem_append.1 hb with h | h
    · exact hoc b (List.mem_append_left _ h)
    · rw [List.mem_singleton.1 h]; exact hz
  obtain ⟨hzb, hne⟩ := u8_xor_apart y t hyb ht ht0
  obtain ⟨z, hzd⟩ : ∃ z, z = bits BinOp.xor IntKind.u8 y t := ⟨_, rfl⟩
  have HZ := Lib.hid hzd
  rw [← hzd] at hzb hne
  have hap := wxxh_apart s ys y z (by omega) hyb hzb hne
  have HS1 := Lib.hid (fun w hb => sum_wide s hs (some a) N c (ys ++ [y]) (by simp [hx]) hc hc' (fun h => by simp at h) hoc (by omega) w hb)
  have HS2 := Lib.hid (fun (q : Addr) (d : Nat) w (hd : N ≤ d) (hd' : d ≤ 9223372036854775807) hb => sum_wide s hs (some q) N d (ys ++ [z]) (by simp [hx]) hd hd' (fun h => by simp at h) (hox z hzb) (by omega) w hb)
  obtain ⟨k1, hk1⟩ : ∃ k, k = wxxh s (ys ++ [y]) := ⟨_, rfl⟩
  obtain ⟨k2, hk2⟩ : ∃ k, k = wxxh s (ys ++ [z]) := ⟨_, rfl⟩
  rw [← hk1] at HS1 hap
  rw [← hk2] at HS2 hap
  have hlen : N = (ys ++ [y]).length := by simp [hx]
  have HX := Lib.hid hlen
  have HB := Lib.hid hb
  have HY := Lib.hid hx
  have hbo1 : decide ((400 : Int) < (N : Int)) = false := decide_eq_false (by omega)
  have hbo2 : ((N : Int) % 4 == 0) = false := by rw [beq_eq_false_iff_ne]; omega
  have hbo3 : (t == 0) = false := by rw [beq_eq_false_iff_ne]; exact ht0
  obtain ⟨t0, t1⟩ := ht
  clear hk1 hk2 hzd hzb hne hyb hox hoc hb hs hlen hx
  go_enter Try.func5, Try.ntmps5
  go_wp2_with fail
  refine (lives4_true _).mono ?_
  rintro e w1 ⟨rfl, hk⟩
  have HK1 := Lib.hid hk
  have HB1 := Lib.hid (HB.out.keep hk (fun _ _ h => h))
  clear hk HB
  go_wp2_with (at_builtin; refine wpList_append_own _ rfl _ _ 23 rfl w1.heap.size 5 i0 (.int .u8 0) 1 1 Try.underlying23 hi hz0 hz1 hz2 rfl (by decide) _ _ _ rfl (World.ownsRow_made w1 #[] 0 (Nat.le_refl _) (Nat.zero_le _) rfl) a N c ((ys ++ [y]).map (Value.int .u8)) rfl ?qc1 ?qc2 ?qc3 ?qc4 ?qc5 ?qc6 ?_)
  case qc1 => have := HX.out; rw [List.length_map]; omega
  case qc2 =>
    intro j u hj
    have hjn : j < (ys ++ [y]).length := by
      have := (List.getElem?_eq_some_iff.1 hj).1
      rwa [List.length_map] at this
    obtain ⟨a', ha', hcell⟩ := HB1.out (by omega)
    obtain rfl := Option.some.inj ha'
    refine Lib.cell?_alloc_some _ ?_
    rw [hcell j hjn]
    have e : ((ys ++ [y]).map (Value.int .u8))[j]? = some (Value.int .u8 ((ys ++ [y]).getD j 0)) := by rw [List.getElem?_map, List.getElem?_eq_getElem hjn]; simp [List.getD, List.getElem?_eq_getElem hjn]
    rw [e] at hj
    exact hj
  case qc3 => intro u hu; obtain ⟨x, _, rfl⟩ := List.mem_map.1 hu; rfl
  case qc4 => unfold maxLen; omega
  case qc5 => omega
  case qc6 => simp
  intro v' wg hown hgrow hnil
  have hbel : Below w1.heap.size w1 wg := ((Below.refl _ w1).alloc (Nat.le_refl _) _).grown hgrow (by simp) (by intro k hk; simp [Value.ownBlock] at hk; omega)
  have HC : Copied w1 N (ys ++ [y]) v' wg := ⟨by simpa using hown, hbel⟩
  obtain ⟨g, d, cur, rfl, hd, hd', hgw, hwh, hcur⟩ := HC.whole HX.out (by omega)
  have hlast : (ys ++ [y]).getD (N - 1) 0 = y := by rw [HY.out]; simp [List.getD]
  have hcl := hcur (N - 1) (by omega)
  rw [hlast] at hcl
  have c0 := hwh.cell (N - 1) hcl
  have f0 := hwh.free (N - 1)
  have HW := Lib.hid hwh
  have HCur := Lib.hid hcur
  have HBel := Lib.hid hbel
  have hN1 : ((N : Int) - 1).toNat = N - 1 := by omega
  clear hown hgrow hnil hbel HC hwh hcur hcl hlast
  go_wp2_with fail
  rw [← HZ.out]
  have hkg := Keeps.ofBelow (S := NoBlock) HBel.out
  have hk2 : Keeps NoBlock w (wg.setCell ⟨g, N - 1, none⟩ (.int .u8 z)) := (HK1.out.trans hkg).setNew (by have := HK1.out.size; omega) _ _
  have hba : a.block < w1.heap.size := by
    obtain ⟨a', ha', hcell⟩ := HB1.out (by have := HX.out; omega)
    obtain rfl := Option.some.inj ha'
    have := ltOfCell (hcell 0 (by have := HX.out; omega))
    rwa [addBlock] at this
  have hb1 : Bytes8 (wg.setCell ⟨g, N - 1, none⟩ (.int .u8 z)) (some a) (ys ++ [y]) := HB1.out.keep (hkg.setNew (by omega) _ _) (fun _ _ h => h)
  have hw2 := HW.out.set (N - 1) (.int .u8 z)
  have hb2 : Bytes8 (wg.setCell ⟨g, N - 1, none⟩ (.int .u8 z)) (some ⟨g, 0, none⟩) (ys ++ [z]) := hw2.bytes _ (fun i hi => by
    rw [List.length_append, List.length_singleton, ← HY.out] at hi
    rw [Array.getElem?_setIfInBounds]
    by_cases h : N - 1 = i
    · have hsz : i < cur.size := by
        have := HCur.out i hi
        exact (Array.getElem?_eq_some_iff.1 this).1
      rw [if_pos h, if_pos (by omega), ← h, HY.out]
      simp [List.getD]
    · rw [if_neg h, HCur.out i hi]
      have hil : i < ys.length := by have := HY.out; omega
      simp [List.getD, List.getElem?_append_left hil])
  obtain ⟨W2, hW2⟩ : ∃ W2, W2 = wg.setCell ⟨g, N - 1, none⟩ (.int .u8 z) := ⟨_, rfl⟩
  rw [← hW2] at hk2 hb1 hb2 ⊢
  have HK2 := Lib.hid hk2
  have HB3 := Lib.hid hb1
  have HB4 := Lib.hid hb2
  clear hk2 hb1 hb2 hw2 hkg hW2 c0 f0
  refine (HS1.out _ HB3.out).mono ?_
  rintro e w3 ⟨rfl, hk⟩
  have HK3 := Lib.hid (HK2.out.trans hk)
  have HB5 := Lib.hid (HB4.out.keep hk (fun _ _ h => h))
  clear hk
  go_wp2_with fail
  refine (HS2.out _ d _ hd hd' HB5.out).mono ?_
  rintro e w4 ⟨rfl, hk⟩
  have HK4 := Lib.hid (HK3.out.trans hk)
  clear hk
  go_wp2_with fail
  go_ret
  exact ⟨ret_bool (by simpa using hap), HK4.out⟩

set_option maxRecDepth 10000 in
theorem wtails_walk (s t : Int) (hs : U64 s) (ht : 0 ≤ t ∧ t < 256) (p : Option Addr) (N c : Nat) (xs : List Int) (w : World) (hx : N = xs.length) (hb : Bytes8 w p xs) (hoc : Octets xs) (hc : N ≤ c) (hc' : c ≤ 9223372036854775807) :
    Calls Try.prog 5 #[.int .u64 s, .slice p N c, .int .u8 t] w fun e w' => e = .returned (.bool true) ∧ Keeps NoBlock w w' := by
  by_cases hgo : N ≤ 400 ∧ N % 4 ≠ 0 ∧ t ≠ 0
  · obtain ⟨hg, h4, ht0⟩ := hgo
    obtain ⟨ys, y, rfl⟩ := snoc_of xs (by omega)
    obtain ⟨a, rfl, _⟩ := hb (by omega)
    exact wtails_small s t hs ht ht0 a N c ys y w (by simpa using hx) hb hoc hc hc' hg h4
  · obtain ⟨t0, t1⟩ := ht
    clear hx hb hoc hs
    by_cases hg : N ≤ 400
    · have hbo1 : decide ((400 : Int) < (N : Int)) = false := decide_eq_false (by omega)
      by_cases h4 : N % 4 = 0
      · have hbo2 : ((N : Int) % 4 == 0) = true := by rw [beq_iff_eq]; omega
        go_enter Try.func5, Try.ntmps5
        go_wp2_with fail
        refine (lives4_true _).mono ?_
        rintro e w1 ⟨rfl, hk⟩
        have HK := Lib.hid hk
        clear hk
        go_wp2_with fail
        refine (lives4_true _).mono ?_
        rintro e w2 ⟨rfl, hk2⟩
        have HK2 := Lib.hid (HK.out.trans hk2)
        clear hk2
        go_wp2_with fail
        go_ret
        exact ⟨rfl, HK2.out⟩
      · have hbo2 : ((N : Int) % 4 == 0) = false := by rw [beq_eq_false_iff_ne]; omega
        have ht0 : t = 0 := by
          rcases Classical.em (t = 0) with h | h
          · exact h
          · exact absurd ⟨hg, h4, h⟩ hgo
        subst ht0
        go_enter Try.func5, Try.ntmps5
        go_wp2_with fail
        refine (lives4_true _).mono ?_
        rintro e w1 ⟨rfl, hk⟩
        have HK := Lib.hid hk
        clear hk
        go_wp2_with fail
        refine (lives4_true _).mono ?_
        rintro e w2 ⟨rfl, hk2⟩
        have HK2 := Lib.hid (HK.out.trans hk2)
        clear hk2
        go_wp2_with fail
        go_ret
        exact ⟨rfl, HK2.out⟩
    · have hbo1 : decide ((400 : Int) < (N : Int)) = true := decide_eq_true (by omega)
      go_enter Try.func5, Try.ntmps5
      go_wp2_with fail
      refine (lives4_true _).mono ?_
      rintro e w1 ⟨rfl, hk⟩
      have HK := Lib.hid hk
      clear hk
      go_wp2_with fail
      refine (lives4_true _).mono ?_
      rintro e w2 ⟨rfl, hk2⟩
      have HK2 := Lib.hid (HK.out.trans hk2)
      clear hk2
      go_wp2_with fail
      go_ret
      exact ⟨rfl, HK2.out⟩
end Go.Proofs.Ytpajljjhmmjeeaa

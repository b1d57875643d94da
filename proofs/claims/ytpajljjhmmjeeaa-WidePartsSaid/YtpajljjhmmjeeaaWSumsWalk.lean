/-
  The law WideSums: its walk.
-/
import Derived.Test.YtpajljjhmmjeeaaWideLives
import Derived.Test.YtpajljjhmmjeeaaWideRefSum
import Derived.Test.YtpajljjhmmjeeaaSumsWalk
namespace Go.Proofs.Ytpajljjhmmjeeaa
open Go.RowKit

theorem Copied.read2 {w0 wx : World} {N : Nat} {xs : List Int} {v : Value} (h : Copied w0 N xs v wx) (hn : N = xs.length) : ∃ q d, v = .slice q N d ∧ N ≤ d ∧ d ≤ 9223372036854775807 ∧ Bytes8 wx q xs ∧ (q = none → N = 0 ∧ d = 0) := by
  obtain ⟨q, d, hv, h1, h2, h3⟩ := h.read hn
  cases q with
  | some a => exact ⟨_, d, hv, h1, h2, h3, fun h => by simp at h⟩
  | none =>
    have hN : N = 0 := by
      rcases Nat.eq_zero_or_pos N with h0 | h0
      · exact h0
      · obtain ⟨a, ha, _⟩ := h3 (by omega)
        simp at ha
    obtain ⟨⟨_, ⟨rfl, _⟩ | ⟨g, cap, cur, rfl, _⟩⟩, _⟩ := h
    · exact ⟨none, 0, by rw [hN], by omega, by omega, h3, fun _ => ⟨hN, rfl⟩⟩
    · simp at hv

set_option maxHeartbeats 4000000 in
set_option maxRecDepth 10000 in
theorem wsums_small (s : Int) (hs : U64 s) (p : Option Addr) (N c : Nat) (xs : List Int) (w : World) (hx : N = xs.length) (hb : Bytes8 w p xs) (hoc : Octets xs) (hc : N ≤ c) (hc' : c ≤ 9223372036854775807) (hn0 : p = none → N = 0 ∧ c = 0) (hg : N ≤ 400) :
    Calls Try.prog 3 #[.int .u64 s, .slice p N c] w fun e w' => e = .returned (.bool true) ∧ Keeps NoBlock w w' := by
  obtain ⟨i0, hi, hz0, hz1, hz2⟩ := info_parts infoByte
  have HS := Lib.hid (fun (q : Option Addr) (d : Nat) w (hd : N ≤ d) (hd' : d ≤ 9223372036854775807) (hq0 : q = none → N = 0 ∧ d = 0) hb => sum_wide s hs q N d xs hx hd hd' hq0 hoc (by omega) w hb)
  have HR := Lib.hid (fun w => wsum_ref s xs hs hoc (by omega) w)
  obtain ⟨z, hzd⟩ : ∃ z, z = wxxh s xs := ⟨_, rfl⟩
  rw [← hzd] at HS HR
  have HB := Lib.hid hb
  have HX := Lib.hid hx
  clear hzd hb hx hoc hs
  go_enter Try.func3, Try.ntmps3
  go_wp2_with fail
  refine (lives4_true _).mono ?_
  rintro e w1 ⟨rfl, hk⟩
  have HK1 := Lib.hid hk
  have HB1 := Lib.hid (HB.out.keep hk (fun _ _ h => h))
  clear hk HB
  go_upto_region 3 with (fail)
  go_cut [5] (fun s5 wx => Copied w1 N xs s5 wx)
  case first =>
    cases p with
    | none =>
      obtain ⟨rfl, rfl⟩ := hn0 rfl
      go_wp2_with (at_builtin; refine wpList_append_own_none rfl _ _ 23 rfl w1.heap.size 5 i0 1 Try.underlying23 hi _ _ _ rfl (World.ownsRow_made w1 #[] 0 (Nat.le_refl _) (Nat.zero_le _) rfl) rfl ?_)
      go_meet
      case rel =>
        have hxs : xs = [] := List.length_eq_zero_iff.1 HX.out.symm
        subst hxs
        exact ⟨World.ownsRow_made w1 #[] 0 (Nat.le_refl _) (Nat.zero_le _) rfl, (Below.refl _ w1).alloc (Nat.le_refl _) _⟩
    | some a =>
      go_wp2_with (at_builtin; refine wpList_append_own _ rfl _ _ 23 rfl w1.heap.size 5 i0 (.int .u8 0) 1 1 Try.underlying23 hi hz0 hz1 hz2 rfl (by decide) _ _ _ rfl (World.ownsRow_made w1 #[] 0 (Nat.le_refl _) (Nat.zero_le _) rfl) a N c (xs.map (Value.int .u8)) rfl ?qc1 ?qc2 ?qc3 ?qc4 ?qc5 ?qc6 ?_)
      case qc1 => have := HX.out; simp; omega
      case qc2 =>
        intro j u hj
        have hjn : j < xs.length := by
          have := (List.getElem?_eq_some_iff.1 hj).1
          simpa using this
        obtain ⟨a', ha', hcell⟩ := HB1.out (by omega)
        obtain rfl := Option.some.inj ha'
        refine Lib.cell?_alloc_some _ ?_
        rw [hcell j hjn]
        have e : (xs.map (Value.int .u8))[j]? = some (Value.int .u8 (xs.getD j 0)) := by simp [List.getElem?_eq_getElem hjn]
        rw [e] at hj
        exact hj
      case qc3 => intro u hu; obtain ⟨x, _, rfl⟩ := List.mem_map.1 hu; rfl
      case qc4 => unfold maxLen; omega
      case qc5 => omega
      case qc6 => simp
      intro v' wg hown hgrow hnil
      have hbel : Below w1.heap.size w1 wg := ((Below.refl _ w1).alloc (Nat.le_refl _) _).grown hgrow (by simp) (by intro k hk; simp [Value.ownBlock] at hk; omega)
      have HC := Lib.hid (show Copied w1 N xs v' wg from ⟨by simpa using hown, hbel⟩)
      clear hown hgrow hnil hbel
      go_wp2_with fail
      go_meet
      case rel => exact HC.out
  case rest =>
    obtain ⟨q, d, rfl, hd, hd', hq, hq0⟩ := hcut.read2 HX.out
    have hkc := Keeps.ofBelow (S := NoBlock) hcut.2
    have HK9 := Lib.hid (HK1.out.trans hkc)
    have HBp := Lib.hid (HB1.out.keep hkc (fun _ _ h => h))
    have HBq := Lib.hid hq
    have s0 := And.intro (textOf p N c xs wc.drew HX.out HBp.out) (textOf q N d xs wc.drew HX.out HBq.out)
    have sN := And.intro (textOf p N c xs wc HX.out HBp.out) (textOf q N d xs wc HX.out HBq.out)
    clear hcut hkc hq HB1 HK1
    go_wp2_with fail
    go_region_held3 (fun w' => (convert 23 9 (.slice p N c)).run Try.prog w' = .ok (.string (strOfNums xs)) w' ∧ (convert 23 9 (.slice q N d)).run Try.prog w' = .ok (.string (strOfNums xs)) w')
      (first | exact s5 | exact s0 | exact sN)
      (first | (go_at_call 7; refine (HS.out q d _ hd hd' hq0 (by exact HBq.out)).mono ?_; rintro e w5 ⟨rfl, hk⟩; have HK9 := Lib.hid (HK9.out.trans (c := w5) (by first | exact hk | exact hk.ofDrew | exact hk.ofDrewN)); have HBp := Lib.hid (HBp.out.keep (w' := w5) (S := NoBlock) (by first | exact hk | exact hk.ofDrew | exact hk.ofDrewN) (fun _ _ h => h)); have HBq := Lib.hid (HBq.out.keep (w' := w5) (S := NoBlock) (by first | exact hk | exact hk.ofDrew | exact hk.ofDrewN) (fun _ _ h => h)); have s5 := And.intro (textOf p N c xs w5 HX.out HBp.out) (textOf q N d xs w5 HX.out HBq.out); clear hk) | (go_at_call 8; refine (HR.out _).mono ?_; rintro e w5 ⟨rfl, hk⟩; have HK9 := Lib.hid (HK9.out.trans (c := w5) (by first | exact hk | exact hk.ofDrew | exact hk.ofDrewN)); have HBp := Lib.hid (HBp.out.keep (w' := w5) (S := NoBlock) (by first | exact hk | exact hk.ofDrew | exact hk.ofDrewN) (fun _ _ h => h)); have HBq := Lib.hid (HBq.out.keep (w' := w5) (S := NoBlock) (by first | exact hk | exact hk.ofDrew | exact hk.ofDrewN) (fun _ _ h => h)); have s5 := And.intro (textOf p N c xs w5 HX.out HBp.out) (textOf q N d xs w5 HX.out HBq.out); clear hk))
    all_goals
      go_wp2_with fail
      go_ret
      exact ⟨rfl, HK9.out⟩

set_option maxRecDepth 10000 in
theorem wsums_walk (s : Int) (hs : U64 s) (p : Option Addr) (N c : Nat) (xs : List Int) (w : World) (hx : N = xs.length) (hb : Bytes8 w p xs) (hoc : Octets xs) (hc : N ≤ c) (hc' : c ≤ 9223372036854775807) (hn0 : p = none → N = 0 ∧ c = 0) :
    Calls Try.prog 3 #[.int .u64 s, .slice p N c] w fun e w' => e = .returned (.bool true) ∧ Keeps NoBlock w w' := by
  by_cases hg : N ≤ 400
  · exact wsums_small s hs p N c xs w hx hb hoc hc hc' hn0 hg
  · clear hx hb hoc hn0
    go_enter Try.func3, Try.ntmps3
    go_wp2_with fail
    refine (lives4_true _).mono ?_
    rintro e w1 ⟨rfl, hk⟩
    have HK := Lib.hid hk
    clear hk
    go_wp2_with fail
    refine (lives4_true _).mono ?_
    rintro e w2 ⟨rfl, hk2⟩
    have HK2 := Lib.hid (HK.out.trans hk2)
    clear hk2
    go_wp2_with fail
    go_ret
    exact ⟨rfl, HK2.out⟩
end Go.Proofs.Ytpajljjhmmjeeaa

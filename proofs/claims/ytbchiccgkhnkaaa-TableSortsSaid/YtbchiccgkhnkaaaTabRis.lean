/-
  Package table's own Rising.
-/
import Derived.Test.YtbchiccgkhnkaaaTabCmp2
import Derived.Shelf.SlSortCmp.QuietGrown
namespace Go.Proofs.Ytbchiccgkhnkaaa
open Go.RowKit Go.Sort

theorem ltOfCell' {w : World} {a : Addr} {v : Value} (h : w.cell? a = some v) : a.block < w.heap.size := World.block_lt_of_cell? _ _ h
theorem cellG {w : World} {a : Addr} {v : Value} (h : w.cell? a = some v) (n : Nat) (os : Array Obj) : (grow (w.drewN n) os).cell? a = some v := cell_grown (ltOfCell' h) h n os
theorem keepsG {S : Nat → Prop} {w w' : World} (h : Keeps S w w') (n : Nat) (os : Array Obj) : Keeps S w (grow (w'.drewN n) os) :=
  h.then (show Grown w' _ from ⟨n, os, rfl⟩).keeps (fun _ _ h => h.elim)

set_option maxHeartbeats 4000000 in
set_option maxRecDepth 10000 in
theorem rising_own (p : Option Addr) (n c : Nat) (l : List En) (hn : n = l.length) (hn9 : n ≤ 1000000) (w : World) (hl : EnsAt w p l) :
    Calls Try.prog 14 #[.slice p n c] w fun e w' => e = .returned (.bool (risesE l)) ∧ Keeps NoBlock w w' := by
  have HL := Lib.hid hl
  have HN := Lib.hid hn
  have HCmp := Lib.hid (fun a b w => compare_grown a b w)
  unfold enV Grown at HCmp
  have mixed : Try.prog.follows .mixedOrders = true := by kernel_rfl
  clear hl hn
  go_enter Try.func14, Try.ntmps14
  go_wp2_with fail
  go_loopw [3] (fun i wr => ∃ m : Nat, m ≤ n ∧ i = .int .i64 ((m + 1 : Nat) : Int) ∧ Hid (∀ i, i + 1 < m + 1 → i + 1 < n → LessE (l.getD i En.none) (l.getD (i + 1) En.none)) ∧ Keeps NoBlock w wr) (fun i _ => n + 1 - (intOf i).toNat)
  case atStart => exact ⟨0, Nat.zero_le _, rfl, Lib.hid (fun i h => by omega), Keeps.refl _ _⟩
  case round =>
    obtain ⟨m, hm, rfl, HA, hkk⟩ := hrel
    have HK := Lib.hid hkk
    clear hkk
    by_cases hlt : m + 1 < n
    · have hdk : decide (((m + 1 : Nat) : Int) < (n : Int)) = true := decide_eq_true (by omega)
      have hdk2 : decide ((m : Int) + 1 < (n : Int)) = true := decide_eq_true (by omega)
      obtain ⟨a, rfl, c0, c1⟩ := (HL.out.keep HK.out).at_ (m + 1) (by have := HN.out; omega)
      obtain ⟨b, hb, d0, d1⟩ := (HL.out.keep HK.out).at_ m (by have := HN.out; omega)
      obtain rfl := Option.some.inj hb
      obtain ⟨r, hr⟩ : ∃ r, r = l.getD (m + 1) En.none := ⟨_, rfl⟩
      obtain ⟨s, hs⟩ : ∃ s, s = l.getD m En.none := ⟨_, rfl⟩
      rw [← hr] at c0 c1
      rw [← hs] at d0 d1
      have HRr := Lib.hid hr
      have HSs := Lib.hid hs
      clear hr hs hb
      have C0 : ∀ n os, (grow (wr.drewN n) os).cell? _ = _ := fun n os => cellG c0 n os
      have C1 : ∀ n os, (grow (wr.drewN n) os).cell? _ = _ := fun n os => cellG c1 n os
      have D0 : ∀ n os, (grow (wr.drewN n) os).cell? _ = _ := fun n os => cellG d0 n os
      have D1 : ∀ n os, (grow (wr.drewN n) os).cell? _ = _ := fun n os => cellG d1 n os
      clear c0 c1 d0 d1
      have hmn : (m : Int) < (n : Int) := by omega
      have hmn2 : m < n := by omega
      have hmn3 : (m : Int) + 1 < (n : Int) := by omega
      have hm3 : (0 : Int) ≤ (m : Int) + 1 := by omega
      have hm4 : ((m : Int) + 1).toNat = m + 1 := by omega
      have w1 : IntKind.i64.wrap (m : Int) = (m : Int) := by rw [IntKind.wrap_i64]; omega
      have hm0 : (0 : Int) ≤ (m : Int) := by omega
      have hcall := fun n os => HCmp.out s r (grow (wr.drewN n) os)
      by_cases hls : LessE s r
      · have hc : cmpE s r < 0 := cmpE_less.2 hls
        have HLs := Lib.hid hls
        obtain ⟨z, hz⟩ : ∃ z, z = cmpE s r := ⟨_, rfl⟩
        rw [← hz] at hcall hc
        have hz0 : decide (0 ≤ z) = false := decide_eq_false (by omega)
        clear hls hz
        go_wp2_with fail
        go_quiet_grown ((go_at_call 10; exact Calls.grown_of (hcall _ _)))
        go_wp2_with fail
        go_roundw
        case rel =>
          refine ⟨m + 1, by omega, by go_num, Lib.hid (fun i h h2 => ?_), by first | exact keepsG HK.out _ _ | exact (keepsG HK.out _ _).drew⟩
          by_cases he : i = m
          · rw [he, ← HRr.out, ← HSs.out]
            exact HLs.out
          · exact HA.out i (by omega) h2
        case measure => simp [intOf]; omega
      · have hc : ¬ cmpE s r < 0 := fun h => hls (cmpE_less.1 h)
        have HB : Hid (risesE l = false) := Lib.hid (by
          cases hb : risesE l
          · rfl
          · have h := risesE_adj.1 hb m (by have := HN.out; omega)
            rw [← HRr.out, ← HSs.out] at h
            exact absurd h hls)
        obtain ⟨z, hz⟩ : ∃ z, z = cmpE s r := ⟨_, rfl⟩
        rw [← hz] at hcall hc
        have hz0 : decide (0 ≤ z) = true := decide_eq_true (by omega)
        clear hls hz
        go_wp2_with fail
        go_quiet_grown ((go_at_call 10; exact Calls.grown_of (hcall _ _)))
        go_wp2_with fail
        go_ret
        rw [HB.out]
        exact ⟨rfl, by first | exact keepsG HK.out _ _ | exact (keepsG HK.out _ _).drew⟩
    · have hdk : decide (((m + 1 : Nat) : Int) < (n : Int)) = false := decide_eq_false (by omega)
      have hdk2 : decide ((m : Int) + 1 < (n : Int)) = false := decide_eq_false (by omega)
      have HB : Hid (risesE l = true) := Lib.hid (risesE_adj.2 fun i hi => HA.out i (by have := HN.out; omega) (by have := HN.out; omega))
      go_wp2_with fail
      go_ret
      rw [HB.out]
      exact ⟨rfl, HK.out⟩
theorem ris_ok : RisOk := ⟨fun p n c l w h h9 => rising_own p n c l h.len (by omega) w h.at_⟩
end Go.Proofs.Ytbchiccgkhnkaaa

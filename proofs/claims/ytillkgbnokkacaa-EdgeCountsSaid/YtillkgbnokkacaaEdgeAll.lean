/-
  Package edge's own functions are what its laws ask.
-/
import Derived.Test.YtillkgbnokkacaaEdgePut
import Derived.Test.YtillkgbnokkacaaEdgeMost
import Derived.Test.YtillkgbnokkacaaEdgeWh
namespace Go.Proofs.Ytillkgbnokkacaa
open Go.RowKit

theorem nan_word : nanW 9221120237041090560 = true := by decide

set_option maxHeartbeats 800000 in
set_option maxRecDepth 10000 in
theorem emost_none (n c : Nat) (w : World) (hn : n = 0) (p : Option Addr) : Calls Try.prog 33 #[.slice p n c] w fun e w' => e = .returned (.float .f64 9221120237041090560) ∧ w = w' := by
  subst hn
  have HN := Lib.hid (fun w => enumber_go 9221120237041090560 (by show _ < _; decide) w)
  rw [show textW 9221120237041090560 = 9221120237041090560 by decide] at HN
  go_enter Try.func33, Try.ntmps33
  go_wp2_with fail
  refine (HN.out _).mono ?_
  rintro e w1 ⟨rfl, rfl⟩
  go_wp2_with fail
  go_ret
  exact ⟨rfl, rfl⟩

set_option maxHeartbeats 800000 in
theorem emost_some (a : Addr) (n c : Nat) (l : List Nat) (w : World) (hn : n = l.length) (h0 : 0 < n) (hc : n ≤ c) (hm : c ≤ 9223372036854775807) (hr : RowF w (some a) l) (hw : ∀ b ∈ l, Word64 b) :
    Calls Try.prog 33 #[.slice (some a) n c] w (MaxOk l w) := by
  have HM := Lib.hid (maxfunc_go a n c l w hn h0 hc hm hr hw)
  have hne : ((n : Int) == 0) = false := beq_eq_false_iff_ne.2 (by omega)
  have hne2 : (n == 0) = false := beq_eq_false_iff_ne.2 (by omega)
  clear hr hw hn
  go_enter Try.func33, Try.ntmps33
  go_wp2_with fail
  refine HM.out.mono ?_
  rintro e w1 ⟨b, rfl, hb, hk⟩
  have HB := Lib.hid hb; have HK := Lib.hid hk
  clear hb hk
  go_wp2_with fail
  go_ret
  exact ⟨b, rfl, HB.out, HK.out⟩

theorem edge_ok : EdgeOk where
  key b w hb := (ekey_go b hb w).mono fun _ _ h => ⟨h.1, h.2 ▸ Keeps.refl _ _⟩
  of k w hk := (eof_go k hk w).mono fun _ _ h => ⟨_, h.1, unkey_of k hk, h.2 ▸ Keeps.refl _ _⟩
  compare a b w ha hb := (ecompare_go a b ha hb w).mono fun _ _ h => ⟨h.1, h.2 ▸ Keeps.refl _ _⟩
  same a b w ha hb := (esame_go a b ha hb w).mono fun _ _ h => ⟨h.1, h.2 ▸ Keeps.refl _ _⟩
  ratio m n w hm hn := (eratio_go m n hm hn w).mono fun _ _ h => ⟨h.1, h.2 ▸ Keeps.refl _ _⟩
  clamp x l h w hx hl hh := (eclamp_go x l h hx hl hh w).mono fun _ _ hh2 => ⟨_, hh2.1, by (unfold clampW; repeat' split) <;> assumption, rfl, hh2.2 ▸ Keeps.refl _ _⟩
  whole x m w hx _ := (ewhole_go x m hx w).mono fun _ _ h => ⟨h.1, h.2 ▸ Keeps.refl _ _⟩
  most p n c l w hn hc hm hr hw := by
    by_cases h0 : n = 0
    · refine (emost_none n c w h0 p).mono fun e w' h => ⟨_, h.1, ?_, h.2 ▸ Keeps.refl _ _⟩
      have hl : l = [] := List.length_eq_zero_iff.1 (by omega)
      exact ⟨by show _ < _; decide, .inl ⟨hl, nan_word⟩⟩
    · obtain ⟨a, rfl, _⟩ := hr 0 (by omega)
      refine (emost_some a n c l w hn (by omega) hc hm hr hw).mono fun e w' h => ?_
      obtain ⟨b, he, hb, hk⟩ := h
      refine ⟨b, he, ⟨hb.2.1, .inr ⟨⟨b, hb.1, rfl⟩, fun c hcm => hb.2.2 c ?_⟩⟩, hk⟩
      rw [List.take_length]
      exact hcm
  put base g xs b w h hs hx hb := eput_go base g xs b w h hs hx hb
  get k p xs N c a w hx h hb ho hp ha hN hc := eget_go k p xs N c a w hx h hb ho hp ha hN hc
end Go.Proofs.Ytillkgbnokkacaa

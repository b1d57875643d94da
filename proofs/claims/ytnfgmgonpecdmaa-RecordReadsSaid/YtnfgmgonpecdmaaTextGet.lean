/-
  Contract of GetText: the next text of a cursor's bytes, or where and why its reading stops.
-/
import Derived.Test.YtnfgmgonpecdmaaVarGet
import Derived.Test.YtnfgmgonpecdmaaBufB
import Derived.Test.YtnfgmgonpecdmaaRecNum
namespace Go.Proofs.Ytnfgmgonpecdmaa
open Go.RowKit

theorem bound_any (n : Nat) (z : Int) (hz : z = n) (hn : n ≤ 9223372036854775807) (w : World) :
    Calls Try.prog 39 #[.int .i64 z] w fun e w' => e = .returned (.int .u64 (n : Int)) ∧ w = w' := by
  subst hz
  have hw : IntKind.u64.wrap (n : Int) = n := by rw [IntKind.wrap_u64]; omega
  by_cases h0 : n = 0
  · subst h0
    go_enter Try.func39, Try.ntmps39
    go_wp2_with fail
    go_ret
    exact ⟨rfl, rfl⟩
  · have h1 : 1 ≤ n := by omega
    go_enter Try.func39, Try.ntmps39
    go_wp2_with fail
    all_goals
      go_ret
      exact ⟨by first | rfl | simp [hw], rfl⟩

/-- How GetText ends: with the text, or given up, for what is wrong. -/
def TextPost (k : Nat) (p : Option Addr) (N c a : Nat) (t : VT) (w : World) (e : Ending) (w' : World) : Prop :=
  Keeps (Just k) w w' ∧ ((t.e = 0 ∧ e = .returned (.string (strOfNums t.t)) ∧ CurB w' k p N c (a + t.n) true 0) ∨ (t.e ≠ 0 ∧ e = .panicked (given k) ∧ CurB w' k p N c (a + t.n) true t.e))

theorem vtext_by (xs : List Int) (l m : Nat) (t : VR) (ht : t = vget xs) : vtext xs l m = if t.e ≠ 0 then ⟨t.e, t.n, []⟩
  else if (m : Int) < t.x then ⟨3, t.n, []⟩
  else if t.x < (l : Int) then ⟨4, t.n, []⟩
  else if (xs.drop t.n).length < t.x.toNat then ⟨2, t.n, []⟩
  else ⟨0, t.n + t.x.toNat, (xs.drop t.n).take t.x.toNat⟩ := by subst ht; rfl

set_option maxHeartbeats 2000000 in
set_option maxRecDepth 10000 in
theorem gettext_any (k : Nat) (p : Option Addr) (xs : List Int) (N c a l m : Nat) (zl zm : Int) (hzl : zl = (l : Int)) (hzm : zm = (m : Int)) (hl4 : l ≤ 1000000) (hm9 : m ≤ 100000000) (w : World) (hx : N = xs.length) (h : CurB w k p N c a true 0) (hb : Bytes8 w p xs) (ho : Octets xs) (hp : 0 < xs.length → ∀ q, p = some q → q.block ≠ k)
    (hn : a ≤ N) (hN : N ≤ c) (hN9 : N ≤ 140737488355328) (hc : c ≤ 9223372036854775807) :
    Calls Try.prog 26 #[.pointer (some ⟨k, 0, none⟩), .int .i64 zl, .int .i64 zm] w (TextPost k p N c a (vtext (xs.drop a) l m) w) := by
  subst hzl hzm
  have hg := get_any k p xs N c a w hx h hb ho hp hn hN hc
  obtain ⟨t, ht⟩ : ∃ t, t = vget (xs.drop a) := ⟨_, rfl⟩
  have htn : t.n ≤ N - a := by
    rw [ht, hx, ← List.length_drop]
    exact vread_n 10 true _
  have htx : t.e = 0 → 0 ≤ t.x ∧ t.x < 18446744073709551616 := fun he => by
    have := vread_bound 9 true (xs.drop a) (ho.drop a) (by rw [ht] at he; exact he)
    rw [ht]
    exact this
  rw [vtext_by _ l m t ht]
  rw [← ht] at hg
  have HG := Lib.hid hg; have HB := Lib.hid hb; have HP := Lib.hid hp; have HX := Lib.hid hx
  have HBl := Lib.hid (fun w => bound_any l l rfl (by omega) w)
  have HBm := Lib.hid (fun w => bound_any m m rfl (by omega) w)
  have HC := Lib.hid hc; have HN := Lib.hid hN
  clear hg ht h hb ho hp hx hc hN
  by_cases he : t.e = 0
  · obtain ⟨hx0, hx1⟩ := htx he
    rw [if_neg (by simpa using he)]
    clear htx
    obtain ⟨te, tn, tx⟩ := t
    simp only at he htn hx0 hx1 ⊢ HG
    subst he
    obtain ⟨X, rfl⟩ : ∃ X : Nat, tx = (X : Int) := ⟨tx.toNat, by omega⟩
    have hx1' : X < 18446744073709551616 := by omega
    have hlen : ((xs.drop a).drop tn).length = N - (a + tn) := by rw [List.drop_drop, List.length_drop, HX.out]
    rw [hlen]
    clear hlen
    simp only [Int.toNat_natCast]
    have HG := Lib.hid (HG.out.mono fun e w1 (h : GetPost k p N c a ⟨0, tn, (X : Int)⟩ w e w1) => show e = .returned (.int .u64 (X : Int)) ∧ CurB w1 k p N c (a + tn) true 0 ∧ Keeps (Just k) w w1 by
      obtain ⟨hk, ⟨_, rfl, hcur⟩ | ⟨he, _, _⟩⟩ := h
      · exact ⟨rfl, hcur, hk⟩
      · exact absurd rfl he)
    by_cases hm : (m : Int) < (X : Int)
    · rw [if_pos hm]
      have hmn : m < X := by omega
      have hd : decide ((X : Int) > m) = true := by simp; omega
      go_enter Try.func26, Try.ntmps26
      go_wp2_with fail
      refine HG.out.mono ?_
      rintro e w1 ⟨rfl, hcur, hk⟩
      have HK := Lib.hid hk; have HCu := Lib.hid hcur
      clear hk hcur HG
      go_wp2_with fail
      refine (HBm.out _).mono ?_
      rintro e w2 ⟨rfl, rfl⟩
      go_wp2_with fail
      refine (fail_at k p N c (a + tn) 3 _ HCu.out (by decide)).mono ?_
      rintro e w2 ⟨rfl, hcur, hk⟩
      exact ⟨rfl, HK.out.trans hk, .inr ⟨by simp, rfl, hcur⟩⟩
    · rw [if_neg hm]
      have hmn : X ≤ m := by omega
      clear hx1 hx1'
      by_cases hl : (X : Int) < (l : Int)
      · rw [if_pos hl]
        have hln : X < l := by omega
        go_enter Try.func26, Try.ntmps26
        go_wp2_with fail
        refine HG.out.mono ?_
        rintro e w1 ⟨rfl, hcur, hk⟩
        have HK := Lib.hid hk; have HCu := Lib.hid hcur
        clear hk hcur HG
        go_wp2_with fail
        refine (HBm.out _).mono ?_
        rintro e w2 ⟨rfl, rfl⟩
        go_wp2_with fail
        refine (HBl.out _).mono ?_
        rintro e w2 ⟨rfl, rfl⟩
        go_wp2_with fail
        refine (fail_at k p N c (a + tn) 4 _ HCu.out (by decide)).mono ?_
        rintro e w2 ⟨rfl, hcur, hk⟩
        exact ⟨rfl, HK.out.trans hk, .inr ⟨by simp, rfl, hcur⟩⟩
      · rw [if_neg hl]
        have hln : l ≤ X := by omega
        have hw : IntKind.i64.wrap (X : Int) = X := by rw [IntKind.wrap_i64]; omega
        by_cases hs : N - (a + tn) < X
        · rw [if_pos hs]
          go_enter Try.func26, Try.ntmps26
          go_wp2_with fail
          refine HG.out.mono ?_
          rintro e w1 ⟨rfl, hcur, hk⟩
          have HK := Lib.hid hk; have HCu := Lib.hid hcur
          clear hk hcur HG
          go_wp2_with fail
          refine (HBm.out _).mono ?_
          rintro e w2 ⟨rfl, rfl⟩
          go_wp2_with fail
          refine (HBl.out _).mono ?_
          rintro e w2 ⟨rfl, rfl⟩
          go_wp2_with fail
          refine (take_short k p N c (a + tn) (X : Int) _ HCu.out (by omega) (by omega) (by omega)).mono ?_
          rintro e w2 ⟨rfl, hcur, hk⟩
          exact ⟨rfl, HK.out.trans hk, .inr ⟨by simp, rfl, hcur⟩⟩
        · rw [if_neg hs]
          go_enter Try.func26, Try.ntmps26
          go_wp2_with fail
          refine HG.out.mono ?_
          rintro e w1 ⟨rfl, hcur, hk⟩
          have HK := Lib.hid hk; have HCu := Lib.hid hcur
          have HB1 := Lib.hid (HB.out.keepPos hk (fun h0 q hq => HP.out h0 q hq))
          clear hk hcur HG
          go_wp2_with fail
          refine (HBm.out _).mono ?_
          rintro e w2 ⟨rfl, rfl⟩
          go_wp2_with fail
          refine (HBl.out _).mono ?_
          rintro e w2 ⟨rfl, rfl⟩
          go_wp2_with fail
          refine (take_at k p xs N c (a + tn) X (X : Int) _ HX.out (by omega) HCu.out HB1.out HP.out (by omega) HN.out (by omega) HC.out).mono ?_
          rintro e w2 ⟨v, rfl, ⟨q, d, rfl, hd, hd', hbv, hq, hk⟩, hcur⟩
          have hcv := textOf q X d ((xs.drop (a + tn)).take X) w2 (by rw [List.length_take, List.length_drop]; have := HX.out; omega) hbv
          have HK2 := Lib.hid (HK.out.trans hk); have HC2 := Lib.hid hcur
          clear hk hcur hbv hq HK HCu
          go_wp2_with fail
          go_ret
          refine ⟨HK2.out, .inl ⟨rfl, ?_, ?_⟩⟩
          · rw [List.drop_drop]
            rfl
          · rw [← Nat.add_assoc]
            exact HC2.out
  · rw [if_pos (by simpa using he)]
    clear htx
    go_enter Try.func26, Try.ntmps26
    go_wp2_with fail
    refine HG.out.mono ?_
    rintro e w1 ⟨hk, ⟨he', _, _⟩ | ⟨he', rfl, hcur⟩⟩
    · exact absurd he' he
    · exact ⟨rfl, hk, .inr ⟨he, rfl, hcur⟩⟩
end Go.Proofs.Ytnfgmgonpecdmaa

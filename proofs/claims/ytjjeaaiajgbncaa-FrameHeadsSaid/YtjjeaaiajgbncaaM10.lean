/-
  RecRise; RecLaws; TextGet; BufO; StrBytes; TextPut.
-/
import Derived.Lib.ConvBytes
import Derived.Test.YtjjeaaiajgbncaaM01
import Derived.Test.YtjjeaaiajgbncaaM02
import Derived.Test.YtjjeaaiajgbncaaM03
import Derived.Test.YtjjeaaiajgbncaaM05
import Derived.Test.YtjjeaaiajgbncaaM07
import Derived.Test.YtjjeaaiajgbncaaM09
namespace Go.Proofs.Ytjjeaaiajgbncaa
open Go.RowKit

theorem firstBad_append : ∀ (a b : List Rec), firstBad (a ++ b) = if firstBad a = 0 then firstBad b else firstBad a
  | [], b => by simp [firstBad]
  | r :: a, b => by
    rw [List.cons_append, firstBad, firstBad]
    by_cases h : checkR r = 0
    · rw [if_pos h, if_pos h, firstBad_append a b]
    · rw [if_neg h, if_neg h, if_neg h]
theorem firstBad_take {l : List Rec} {j : Nat} (hj : j < l.length) (h : firstBad (l.take j) = 0) : firstBad (l.take (j + 1)) = checkR (l.getD j Rec.none) := by
  rw [List.take_succ_eq_append_getElem hj, firstBad_append, if_pos h]
  unfold firstBad
  have e : l.getD j Rec.none = l[j] := by simp [hj]
  rw [e]
  by_cases hc : checkR l[j] = 0
  · rw [if_pos hc, hc]
    rfl
  · rw [if_neg hc]
theorem firstBad_stop {l : List Rec} {j : Nat} (h : firstBad (l.take j) ≠ 0) : firstBad l = firstBad (l.take j) := by
  conv => lhs; rw [← List.take_append_drop j l]
  rw [firstBad_append, if_neg h]

theorem rises_adj : ∀ {l : List Rec}, risesR l = true ↔ ∀ i, i + 1 < l.length → (l.getD i Rec.none).seq < (l.getD (i + 1) Rec.none).seq
  | [] => by simp [risesR]
  | [a] => by simp [risesR]
  | a :: b :: l => by
    unfold risesR
    rw [Bool.and_eq_true, rises_adj, decide_eq_true_eq]
    constructor
    · rintro ⟨h1, h2⟩ i hi
      cases i with
      | zero => exact h1
      | succ i => exact h2 i (by simpa using hi)
    · intro h
      exact ⟨h 0 (by simp), fun i hi => h (i + 1) (by simpa using hi)⟩

end Go.Proofs.Ytjjeaaiajgbncaa

namespace Go.Proofs.Ytjjeaaiajgbncaa
open Go.RowKit

/-- A record of no more bytes than the laws have. -/
structure Rec.Modest (r : Rec) : Prop where
  fine : r.Fine
  key : r.key.length ≤ 2000000
  val : r.val.length ≤ 2000000
def bodyE (r : Rec) : List Int := if checkR r = 0 then bodyR r else []

/-- The contracts of Check, Body. -/
structure BodyOk : Prop where
  check : ∀ (r : Rec) (w : World), r.Modest → Calls Try.prog 65 #[recV r] w fun e w' => e = .returned (.int .i64 (checkR r)) ∧ Keeps NoBlock w w'
  body : ∀ (r : Rec) (w : World), r.Modest → Calls Try.prog 38 #[recV r] w fun e w' => ∃ v, e = .returned (.tuple #[v, .int .i64 (checkR r)]) ∧ NewBytes w (bodyE r) v w'
theorem vnum_one : vnum 1 = [1] := by rw [vnum]; rfl
theorem body_lives : bodyE ⟨false, 1, [97], [98]⟩ = [2, 1, 1, 97, 1, 98] := by
  have h : checkR ⟨false, 1, [97], [98]⟩ = 0 := by decide
  unfold bodyE
  rw [if_pos h]
  show 2 :: (vnum 1 ++ (vnum 1 ++ [97]) ++ (vnum 1 ++ [98])) = _
  rw [vnum_one]
  rfl

end Go.Proofs.Ytjjeaaiajgbncaa

namespace Go.Proofs.Ytjjeaaiajgbncaa
open Go.RowKit

theorem bound_any (n : Nat) (z : Int) (hz : z = n) (hn : n ≤ 9223372036854775807) (w : World) :
    Calls Try.prog 95 #[.int .i64 z] w fun e w' => e = .returned (.int .u64 (n : Int)) ∧ w = w' := by
  subst hz
  have hw : IntKind.u64.wrap (n : Int) = n := by rw [IntKind.wrap_u64]; omega
  by_cases h0 : n = 0
  · subst h0
    go_enter Try.func95, Try.ntmps95
    go_wp2_with fail
    go_ret
    exact ⟨rfl, rfl⟩
  · have h1 : 1 ≤ n := by omega
    go_enter Try.func95, Try.ntmps95
    go_wp2_with fail
    all_goals
      go_ret
      exact ⟨by first | rfl | simp [hw], rfl⟩

/-- How GetText ends: with the text, or given up, for what is wrong. -/
def TextPost (k : Nat) (p : Option Addr) (N c a : Nat) (t : VT) (w : World) (e : Ending) (w' : World) : Prop :=
  Keeps (Just k) w w' ∧ ((t.e = 0 ∧ e = .returned (.string (strOfNums t.t)) ∧ CurB w' k p N c (a + t.n) true 0) ∨ (t.e ≠ 0 ∧ e = .panicked (given k) ∧ CurB w' k p N c (a + t.n) true t.e))

theorem vtext_by (xs : List Int) (l m : Nat) (t : VR) (ht : t = vget xs) : vtext xs l m = if t.e ≠ 0 then ⟨t.e, t.n, []⟩
  else if (m : Int) < t.x then ⟨3, t.n, []⟩
  else if t.x < (l : Int) then ⟨4, t.n, []⟩
  else if (xs.drop t.n).length < t.x.toNat then ⟨2, t.n, []⟩
  else ⟨0, t.n + t.x.toNat, (xs.drop t.n).take t.x.toNat⟩ := by subst ht; rfl

set_option maxHeartbeats 2000000 in
set_option maxRecDepth 10000 in
theorem gettext_any (k : Nat) (p : Option Addr) (xs : List Int) (N c a l m : Nat) (zl zm : Int) (hzl : zl = (l : Int)) (hzm : zm = (m : Int)) (hl4 : l ≤ 1000000) (hm9 : m ≤ 100000000) (w : World) (hx : N = xs.length) (h : CurB w k p N c a true 0) (hb : Bytes8 w p xs) (ho : Octets xs) (hp : 0 < xs.length → ∀ q, p = some q → q.block ≠ k)
    (hn : a ≤ N) (hN : N ≤ c) (hN9 : N ≤ 140737488355328) (hc : c ≤ 9223372036854775807) :
    Calls Try.prog 71 #[.pointer (some ⟨k, 0, none⟩), .int .i64 zl, .int .i64 zm] w (TextPost k p N c a (vtext (xs.drop a) l m) w) := by
  subst hzl hzm
  have hg := get_any k p xs N c a w hx h hb ho hp hn hN hc
  obtain ⟨t, ht⟩ : ∃ t, t = vget (xs.drop a) := ⟨_, rfl⟩
  have htn : t.n ≤ N - a := by
    rw [ht, hx, ← List.length_drop]
    exact vread_n 10 true _
  have htx : t.e = 0 → 0 ≤ t.x ∧ t.x < 18446744073709551616 := fun he => by
    have := vread_bound 9 true (xs.drop a) (ho.drop a) (by rw [ht] at he; exact he)
    rw [ht]
    exact this
  rw [vtext_by _ l m t ht]
  rw [← ht] at hg
  have HG := Lib.hid hg; have HB := Lib.hid hb; have HP := Lib.hid hp; have HX := Lib.hid hx
  have HBl := Lib.hid (fun w => bound_any l l rfl (by omega) w)
  have HBm := Lib.hid (fun w => bound_any m m rfl (by omega) w)
  have HC := Lib.hid hc; have HN := Lib.hid hN
  clear hg ht h hb ho hp hx hc hN
  by_cases he : t.e = 0
  · obtain ⟨hx0, hx1⟩ := htx he
    rw [if_neg (by simpa using he)]
    clear htx
    obtain ⟨te, tn, tx⟩ := t
    simp only at he htn hx0 hx1 ⊢ HG
    subst he
    obtain ⟨X, rfl⟩ : ∃ X : Nat, tx = (X : Int) := ⟨tx.toNat, by omega⟩
    have hx1' : X < 18446744073709551616 := by omega
    have hlen : ((xs.drop a).drop tn).length = N - (a + tn) := by rw [List.drop_drop, List.length_drop, HX.out]
    rw [hlen]
    clear hlen
    simp only [Int.toNat_natCast]
    have HG := Lib.hid (HG.out.mono fun e w1 (h : GetPost k p N c a ⟨0, tn, (X : Int)⟩ w e w1) => show e = .returned (.int .u64 (X : Int)) ∧ CurB w1 k p N c (a + tn) true 0 ∧ Keeps (Just k) w w1 by
      obtain ⟨hk, ⟨_, rfl, hcur⟩ | ⟨he, _, _⟩⟩ := h
      · exact ⟨rfl, hcur, hk⟩
      · exact absurd rfl he)
    by_cases hm : (m : Int) < (X : Int)
    · rw [if_pos hm]
      have hmn : m < X := by omega
      have hd : decide ((X : Int) > m) = true := by simp; omega
      go_enter Try.func71, Try.ntmps71
      go_wp2_with fail
      refine HG.out.mono ?_
      rintro e w1 ⟨rfl, hcur, hk⟩
      have HK := Lib.hid hk; have HCu := Lib.hid hcur
      clear hk hcur HG
      go_wp2_with fail
      refine (HBm.out _).mono ?_
      rintro e w2 ⟨rfl, rfl⟩
      go_wp2_with fail
      refine (fail_at k p N c (a + tn) 3 _ HCu.out (by decide)).mono ?_
      rintro e w2 ⟨rfl, hcur, hk⟩
      exact ⟨rfl, HK.out.trans hk, .inr ⟨by simp, rfl, hcur⟩⟩
    · rw [if_neg hm]
      have hmn : X ≤ m := by omega
      clear hx1 hx1'
      by_cases hl : (X : Int) < (l : Int)
      · rw [if_pos hl]
        have hln : X < l := by omega
        go_enter Try.func71, Try.ntmps71
        go_wp2_with fail
        refine HG.out.mono ?_
        rintro e w1 ⟨rfl, hcur, hk⟩
        have HK := Lib.hid hk; have HCu := Lib.hid hcur
        clear hk hcur HG
        go_wp2_with fail
        refine (HBm.out _).mono ?_
        rintro e w2 ⟨rfl, rfl⟩
        go_wp2_with fail
        refine (HBl.out _).mono ?_
        rintro e w2 ⟨rfl, rfl⟩
        go_wp2_with fail
        refine (fail_at k p N c (a + tn) 4 _ HCu.out (by decide)).mono ?_
        rintro e w2 ⟨rfl, hcur, hk⟩
        exact ⟨rfl, HK.out.trans hk, .inr ⟨by simp, rfl, hcur⟩⟩
      · rw [if_neg hl]
        have hln : l ≤ X := by omega
        have hw : IntKind.i64.wrap (X : Int) = X := by rw [IntKind.wrap_i64]; omega
        by_cases hs : N - (a + tn) < X
        · rw [if_pos hs]
          go_enter Try.func71, Try.ntmps71
          go_wp2_with fail
          refine HG.out.mono ?_
          rintro e w1 ⟨rfl, hcur, hk⟩
          have HK := Lib.hid hk; have HCu := Lib.hid hcur
          clear hk hcur HG
          go_wp2_with fail
          refine (HBm.out _).mono ?_
          rintro e w2 ⟨rfl, rfl⟩
          go_wp2_with fail
          refine (HBl.out _).mono ?_
          rintro e w2 ⟨rfl, rfl⟩
          go_wp2_with fail
          refine (take_short k p N c (a + tn) (X : Int) _ HCu.out (by omega) (by omega) (by omega)).mono ?_
          rintro e w2 ⟨rfl, hcur, hk⟩
          exact ⟨rfl, HK.out.trans hk, .inr ⟨by simp, rfl, hcur⟩⟩
        · rw [if_neg hs]
          go_enter Try.func71, Try.ntmps71
          go_wp2_with fail
          refine HG.out.mono ?_
          rintro e w1 ⟨rfl, hcur, hk⟩
          have HK := Lib.hid hk; have HCu := Lib.hid hcur
          have HB1 := Lib.hid (HB.out.keepPos hk (fun h0 q hq => HP.out h0 q hq))
          clear hk hcur HG
          go_wp2_with fail
          refine (HBm.out _).mono ?_
          rintro e w2 ⟨rfl, rfl⟩
          go_wp2_with fail
          refine (HBl.out _).mono ?_
          rintro e w2 ⟨rfl, rfl⟩
          go_wp2_with fail
          refine (take_at k p xs N c (a + tn) X (X : Int) _ HX.out (by omega) HCu.out HB1.out HP.out (by omega) HN.out (by omega) HC.out).mono ?_
          rintro e w2 ⟨v, rfl, ⟨q, d, rfl, hd, hd', hbv, hq, hk⟩, hcur⟩
          have hcv := textOf q X d ((xs.drop (a + tn)).take X) w2 (by rw [List.length_take, List.length_drop]; have := HX.out; omega) hbv
          have HK2 := Lib.hid (HK.out.trans hk); have HC2 := Lib.hid hcur
          clear hk hcur hbv hq HK HCu
          go_wp2_with fail
          go_ret
          refine ⟨HK2.out, .inl ⟨rfl, ?_, ?_⟩⟩
          · rw [List.drop_drop]
            rfl
          · rw [← Nat.add_assoc]
            exact HC2.out
  · rw [if_pos (by simpa using he)]
    clear htx
    go_enter Try.func71, Try.ntmps71
    go_wp2_with fail
    refine HG.out.mono ?_
    rintro e w1 ⟨hk, ⟨he', _, _⟩ | ⟨he', rfl, hcur⟩⟩
    · exact absurd he' he
    · exact ⟨rfl, hk, .inr ⟨he, rfl, hcur⟩⟩
end Go.Proofs.Ytjjeaaiajgbncaa

namespace Go.Proofs.Ytjjeaaiajgbncaa
open Go.RowKit

theorem bufNewB (w : World) (base : Nat) : BufAt (w.alloc (.cells #[.slice none 0 0] 60)) base w.heap.size [] :=
  ⟨.slice none 0 0, Whole.new _ _ _, by simp, .inl ⟨rfl, by simp⟩⟩

theorem BufAt.keepO {w w' : World} {base g : Nat} {xs : List Int} (h : BufAt w base g xs) {S : Nat → Prop} (hk : Keeps S w w') (hg : ¬ S g) (ho : ∀ j cs, Whole w j 5 cs → base ≤ j → ¬ S j) : BufAt w' base g xs := by
  obtain ⟨v, hv, hown⟩ := h
  refine ⟨v, hv.keep hk hg, hown.1, ?_⟩
  rcases hown.2 with h2 | ⟨j, cap, cur, rfl, hb, hh, r⟩
  · exact .inl h2
  · exact .inr ⟨j, cap, cur, rfl, hb, Whole.keep (show Whole w j 5 cur from hh) hk (ho j cur hh hb), r⟩

theorem BufAt.lower {w : World} {base base' g : Nat} {xs : List Int} (h : BufAt w base g xs) (hb : base' ≤ base) : BufAt w base' g xs := by
  obtain ⟨v, hv, hown⟩ := h
  refine ⟨v, hv, hown.1, ?_⟩
  rcases hown.2 with h2 | ⟨j, cap, cur, rfl, hb2, r⟩
  · exact .inl h2
  · exact .inr ⟨j, cap, cur, rfl, Nat.le_trans hb hb2, r⟩
end Go.Proofs.Ytjjeaaiajgbncaa

namespace Go.Proofs.Ytjjeaaiajgbncaa
open Go.RowKit

theorem bytesWorld_keeps (S : Nat → Prop) (w : World) (e : TypeId) (s : ByteArray) : Keeps S w (Lib.bytesWorld w e s) :=
  ⟨rfl, rfl, rfl, by rw [Lib.bytesWorld_size]; omega, fun k hk _ => Lib.bytesWorld_at_old w e s k hk⟩

theorem bytesWorld_bytes (w : World) (e : TypeId) (xs : List Int) (ho : Octets xs) : Bytes8 (Lib.bytesWorld w e (strOfNums xs)) (some ⟨w.heap.size, 0, none⟩) xs := fun _ => ⟨_, rfl, fun i hi => by
  rw [show (⟨w.heap.size, 0, none⟩ : Addr).add i = ⟨w.heap.size, i, none⟩ by
    unfold Addr.add
    split
    · rename_i h
      subst h
      rfl
    · simp]
  rw [Lib.bytesWorld_cell w e _ i (by rw [str_size]; exact hi)]
  have hb := ho (xs.getD i 0) (by rw [List.getD_eq_getElem?_getD, List.getElem?_eq_getElem hi]; exact List.getElem_mem hi)
  have e1 : (strOfNums xs).data.toList.getD i 0 = UInt8.ofNat (xs.getD i 0).toNat := by
    simp [strOfNums, List.getD_eq_getElem?_getD, hi]
  rw [e1]
  have e2 : ((UInt8.ofNat (xs.getD i 0).toNat).toNat : Int) = xs.getD i 0 := by
    simp only [UInt8.toNat_ofNat']
    omega
  rw [e2]⟩

/-- '[]byte(s)': the slice, and the world behind it. -/
theorem run_str_bytes (xs : List Int) (w : World) :
    (convert 9 22 (.string (strOfNums xs))).run Try.prog w = .ok (.slice (some ⟨w.heap.size, 0, none⟩) xs.length (grownCap w xs.length 0 5)) (Lib.bytesWorld w 5 (strOfNums xs)) := by
  have h := Lib.run_convert_string_bytes (P := Try.prog) w 9 22 5 (strOfNums xs) Try.underlying9 Try.underlying22 Try.underlying5
  rw [str_size] at h
  exact h
end Go.Proofs.Ytjjeaaiajgbncaa

namespace Go.Proofs.Ytjjeaaiajgbncaa
open Go.RowKit

set_option maxHeartbeats 800000 in
set_option maxRecDepth 10000 in
theorem puttext_any (base g : Nat) (xs t : List Int) (w : World) (h : BufAt w base g xs) (hb : base ≤ g) (hs : base ≤ w.heap.size) (ho : Octets t) (ht : t.length ≤ 100000000) (hx : xs.length ≤ 1000000000) :
    Calls Try.prog 67 #[.pointer (some ⟨g, 0, none⟩), .string (strOfNums t)] w fun e w' => e = .returned (.tuple #[]) ∧ BufAt w' base g (xs ++ textB t) ∧ Below base w w' := by
  have HP := Lib.hid (fun z hz => put_any base g xs t.length z hz w h hs (by omega) (by omega))
  have hten := vnum_ten (x := t.length) (by omega)
  have hsz := str_size t
  have hcv := run_str_bytes t
  have HR := Lib.hid (fun W q c (h : BufAt W base g (xs ++ vnum t.length)) (hs : base ≤ W.heap.size) (hy : Bytes8 W (some q) t) => bufRaw_some base g (xs ++ vnum t.length) t q t.length c W h rfl hy hb hs (by rw [List.length_append]; omega))
  have HB := Lib.hid (fun W => bytesWorld_bytes W 5 t ho)
  unfold textB
  rw [← List.append_assoc]
  obtain ⟨L, hL⟩ : ∃ L, L = t.length := ⟨_, rfl⟩
  rw [← hL] at hsz hcv HP HR ht ⊢
  clear h ho hten hx hL
  go_enter Try.func67, Try.ntmps67
  go_wp2_with fail
  refine (HP.out _ (by first | rfl | omega | (rw [IntKind.wrap_u64']; omega))).mono ?_
  rintro e w1 ⟨rfl, hbuf, hk⟩
  have HBu := Lib.hid hbuf; have HK := Lib.hid hk
  clear hbuf hk HP
  go_wp2_with fail
  have hk2 := HK.out.trans (bytesWorld_keeps (OnBuf base g) w1 5 (strOfNums t))
  have hbuf2 : BufAt (Lib.bytesWorld w1 5 (strOfNums t)) base g (xs ++ vnum L) := HBu.out.keepO (bytesWorld_keeps NoBlock w1 5 (strOfNums t)) (fun h => h) (fun _ _ _ _ h => h)
  refine (HR.out _ _ _ hbuf2 (by rw [Lib.bytesWorld_size]; have := hk2.size; have := HK.out.size; omega) (HB.out _)).mono ?_
  rintro e w2 ⟨rfl, hbuf, hbel⟩
  have HL2 := Lib.hid ((onBuf_below hk2 hb hs).trans hbel); have HB2 := Lib.hid hbuf
  clear hbuf hbel hk2 hbuf2 HR HB HBu HK
  go_wp2_with fail
  go_returns
  exact ⟨rfl, HB2.out, HL2.out⟩
end Go.Proofs.Ytjjeaaiajgbncaa

/-
  BufT; TabPut; RecRise; RecLaws; TextGet; TextPut.
-/
import Derived.Test.YtlejobomjgccnaaGreatM01
import Derived.Test.YtlejobomjgccnaaGreatM02
import Derived.Test.YtlejobomjgccnaaGreatM05
import Derived.Test.YtlejobomjgccnaaGreatM07
import Derived.Test.YtlejobomjgccnaaGreatM12
import Derived.Test.YtlejobomjgccnaaGreatM13
import Derived.Test.YtlejobomjgccnaaGreatM14
import Derived.Test.YtlejobomjgccnaaGreatM21
import Derived.Test.YtlejobomjgccnaaGreatM23
namespace Go.Proofs.YtlejobomjgccnaaGreat
open Go.RowKit

/-- Blocks that hold neither bytes nor a Buffer stay. -/
def Stays (w w' : World) : Prop := ∀ (k : Nat) (t : TypeId) (cs : Array Value), t ≠ 5 → t ≠ 102 → Whole w k t cs → Whole w' k t cs
theorem Stays.refl (w : World) : Stays w w := fun _ _ _ _ _ h => h
theorem Stays.trans {a b c : World} (h : Stays a b) (g : Stays b c) : Stays a c := fun k t cs h1 h2 h3 => g k t cs h1 h2 (h k t cs h1 h2 h3)
/-- What each of its writings leaves. -/
def BufOkT (base g : Nat) (xs : List Int) (w : World) (e : Ending) (w' : World) : Prop :=
  e = .returned (.pointer (some ⟨g, 0, none⟩)) ∧ BufAt w' base g xs ∧ Keeps (OnBuf base g) w w' ∧ Stays w w'

theorem own_not {w : World} {base n k : Nat} {v : Value} {xs : List Value} {t : TypeId} {cs : Array Value} (h : w.ownsRow base 5 1 v n xs) (ht : t ≠ 5) (hk : Whole w k t cs) : v.ownBlock ≠ some k := by
  rcases h with ⟨_, ⟨rfl, rfl⟩ | ⟨j, cap, cur, rfl, _, hh, _⟩⟩
  · simp [Value.ownBlock]
  · intro e
    obtain rfl : j = k := by simpa [Value.ownBlock] using e
    exact absurd (Whole.unique (show Whole w j 5 cur from hh) hk).1.symm ht

set_option maxHeartbeats 800000 in
theorem bufByteT (base g : Nat) (xs : List Int) (x : Int) (w : World) (h : BufAt w base g xs) (hs : base ≤ w.heap.size) (hx : xs.length + 1 ≤ 140737488355328) :
    Calls Tryz.prog 49 #[.pointer (some ⟨g, 0, none⟩), .int .u8 x] w (BufOkT base g (xs ++ [x]) w) := by
  obtain ⟨v, hg, hown⟩ := h
  obtain ⟨i0, hi, hz0, hz1, hz2⟩ := info_parts infoByte
  have hgw := hg.lt
  have c0 := hg.cell 0 rfl
  simp only [List.getElem_toArray, List.getElem_cons_zero] at c0
  have hne := ownBlock_ne hown hg
  have HG := Lib.hid hg; have HO := Lib.hid hown; have HN := Lib.hid hne; have HX := Lib.hid hx
  clear hg hown hne hx
  go_enter Tryz.func49, Tryz.ntmps49
  go_wp2_with (at_builtin; refine wpList_append_own _ rfl _ _ 52 rfl base 5 i0 (.int .u8 0) 1 1 Tryz.underlying52 hi hz0 hz1 hz2 rfl (by decide) _ _ _ rfl (HO.out.alloc _) ⟨w.heap.size, 0, none⟩ 1 1 [.int .u8 x] rfl ?qc1 ?qc2 ?qc3 ?qc4 ?qc5 ?qc6 ?_)
  case qc1 => rfl
  case qc2 =>
    intro j u hj
    match j, hj with
    | 0, hj =>
      obtain rfl : Value.int .u8 x = u := by simpa using hj
      exact Whole.cell (Whole.new w _ _) 0 rfl
  case qc3 => intro u hu; simp at hu; subst hu; rfl
  case qc4 => have := HX.out; unfold maxLen; omega
  case qc5 => have := HX.out; omega
  case qc6 => simp; omega
  intro v' w1 hown hgrow _
  obtain ⟨p', c', hv'⟩ := own_slice hown
  have hg1 := Whole.grown (HG.out.alloc _) hgrow HN.out
  have d0 := hg1.cell 0 rfl
  simp only [List.getElem_toArray, List.getElem_cons_zero] at d0
  have f0 := hg1.free 0
  have hne' := ownBlock_ne hown hg1
  have HB := Lib.hid (show BufAt (w1.setCell ⟨g, 0, none⟩ v') base g (xs ++ [x]) from ⟨v', hg1.set 0 v', by simpa using ownsRow_setCell_other hown (a := ⟨g, 0, none⟩) hne' v'⟩)
  have HL := Lib.hid ((((Keeps.refl (OnBuf base g) w).alloc _).grown hgrow (fun k hk => .inl (.inr (own_base HO.out hk)))).setIn (.inl rfl) 0 v')
  have HSt : Hid (Stays w (w1.setCell ⟨g, 0, none⟩ v')) := Lib.hid (fun k t cs h1 h2 h3 => by
    have hA := h3.alloc (.cells #[.int .u8 x] 5)
    have hB := HO.out.alloc (.cells #[.int .u8 x] 5)
    refine (hA.grown hgrow (own_not hB h1 hA)).setOther (p := ⟨g, 0, none⟩) (fun e => ?_) v'
    have e' : k = g := e
    subst e'
    exact absurd (Whole.unique HG.out h3).1.symm h2)
  clear hown hgrow hg1 hne' c0
  subst hv'
  go_wp2_with fail
  go_ret
  exact ⟨rfl, HB.out, HL.out, HSt.out⟩

def InLoopT (base g : Nat) (xs : List Int) (x : Int) (w : World) (k : Nat) (wr : World) : Prop := BufAt wr base g (xs ++ digits x k) ∧ Keeps (OnBuf base g) w wr ∧ Stays w wr

set_option maxHeartbeats 800000 in
theorem bufNumberT (base g : Nat) (xs : List Int) (x : Int) (n : Nat) (z : Int) (hz : z = n) (w : World) (h : BufAt w base g xs) (hs : base ≤ w.heap.size) (hx : xs.length + n ≤ 140737488355328) (hn : n ≤ 8) (_x0 : 0 ≤ x) (x1 : x < 18446744073709551616) :
    Calls Tryz.prog 109 #[.pointer (some ⟨g, 0, none⟩), .int .u64 x, .int .i64 z] w (BufOkT base g (xs ++ digits x n) w) := by
  subst hz
  have H := Lib.hid h; have HX := Lib.hid hx; have HX1 := Lib.hid x1
  clear h hx x1
  go_enter Tryz.func109, Tryz.ntmps109
  go_wp2_with fail
  go_loopw [9] (fun i wr => ∃ k : Nat, k ≤ n ∧ i = .int .i64 k ∧ InLoopT base g xs x w k wr) (fun i _ => n - (intOf i).toNat)
  case atStart => exact ⟨0, Nat.zero_le _, rfl, by simpa [digits] using H.out, Keeps.refl _ _, Stays.refl _⟩
  case round =>
    obtain ⟨k, hk, rfl, hin⟩ := hrel
    have HI := Lib.hid hin
    clear hin
    by_cases hlt : k < n
    · go_wp2_with fail
      refine (bufByteT base g (xs ++ digits x k) _ _ HI.out.1 (by have := HI.out.2.1.size; omega) (by have := HX.out; simp [digits_length]; omega)).mono ?_
      rintro e w2 ⟨rfl, hbuf, hbel, hst⟩
      have HB := Lib.hid hbuf; have HL := Lib.hid (HI.out.2.1.trans hbel)
      have HT := Lib.hid (HI.out.2.2.trans hst)
      clear hbuf hbel hst
      go_wp2_with fail
      go_roundw
      case rel =>
        refine ⟨k + 1, by omega, by go_num, ?_, HL.out, HT.out⟩
        have := HB.out
        rw [List.append_assoc] at this
        exact this
      case measure => simp [intOf]; omega
    · go_wp2_with fail
      go_ret
      obtain rfl : k = n := by omega
      exact ⟨rfl, HI.out.1, HI.out.2⟩

theorem bufFourT (base g : Nat) (xs : List Int) (x : Int) (w : World) (h : BufAt w base g xs) (hs : base ≤ w.heap.size) (hx : xs.length + 4 ≤ 140737488355328) (x0 : 0 ≤ x) (x1 : x < 4294967296) :
    Calls Tryz.prog 91 #[.pointer (some ⟨g, 0, none⟩), .int .u32 x] w (BufOkT base g (xs ++ digits x 4) w) := by
  have H := Lib.hid h
  clear h
  go_enter Tryz.func91, Tryz.ntmps91
  go_wp2_with fail
  refine (bufNumberT base g xs _ 4 _ (by rfl) _ H.out hs hx (by omega) (by omega) (by omega)).mono ?_
  rintro e w2 ⟨rfl, hbuf, hbel, hst⟩
  have HB := Lib.hid hbuf; have HL := Lib.hid hbel; have HT := Lib.hid hst
  clear hbuf hbel hst
  go_wp2_with fail
  go_ret
  exact ⟨rfl, HB.out, HL.out, HT.out⟩

theorem bufEightT (base g : Nat) (xs : List Int) (x : Int) (w : World) (h : BufAt w base g xs) (hs : base ≤ w.heap.size) (hx : xs.length + 8 ≤ 140737488355328) (x0 : 0 ≤ x) (x1 : x < 18446744073709551616) :
    Calls Tryz.prog 82 #[.pointer (some ⟨g, 0, none⟩), .int .u64 x] w (BufOkT base g (xs ++ digits x 8) w) := by
  have H := Lib.hid h; have HX1 := Lib.hid x1
  clear h x1
  go_enter Tryz.func82, Tryz.ntmps82
  go_wp2_with fail
  refine (bufNumberT base g xs _ 8 _ (by rfl) _ H.out hs hx (by omega) x0 HX1.out).mono ?_
  rintro e w2 ⟨rfl, hbuf, hbel, hst⟩
  have HB := Lib.hid hbuf; have HL := Lib.hid hbel; have HT := Lib.hid hst
  clear hbuf hbel hst
  go_wp2_with fail
  go_ret
  exact ⟨rfl, HB.out, HL.out, HT.out⟩
end Go.Proofs.YtlejobomjgccnaaGreat

namespace Go.Proofs.YtlejobomjgccnaaGreat
open Go.RowKit

set_option maxHeartbeats 4000000 in
set_option maxRecDepth 10000 in
theorem put_own (base g : Nat) (xs : List Int) (p : Option Addr) (n c : Nat) (l : List En) (w : World) (h : BufAt w base g xs) (hs : base ≤ w.heap.size) (hi : InE w p n c l) (hn9 : n ≤ 100000) (hfar : 0 < n → ∀ a, p = some a → ¬ OnBuf base g a.block) (hx : xs.length ≤ 100000000) :
    Calls Tryz.prog 92 #[.pointer (some ⟨g, 0, none⟩), .slice p n c] w fun e w' => e = .returned (.tuple #[]) ∧ BufAt w' base g (xs ++ textE l) ∧ Keeps (OnBuf base g) w w' := by
  have H := Lib.hid h
  have HI := Lib.hid hi
  have HF := Lib.hid hfar
  have HX := Lib.hid hx
  clear h hi hfar hx
  go_enter Tryz.func92, Tryz.ntmps92
  go_wp2_with fail
  go_loopw [10] (fun i wr => ∃ j : Nat, j ≤ n ∧ i = .int .i64 (j : Int) ∧ Hid (BufAt wr base g (xs ++ textE (l.take j))) ∧ Hid (Keeps (OnBuf base g) w wr)) (fun i _ => n - (intOf i).toNat)
  case atStart => exact ⟨0, Nat.zero_le _, rfl, Lib.hid (by simpa [textE] using H.out), Lib.hid (Keeps.refl _ _)⟩
  case round =>
    obtain ⟨j, hj, rfl, HB, HK⟩ := hrel
    by_cases hlt : j < n
    · have hdj : decide ((j : Int) < (n : Int)) = true := decide_eq_true (by omega)
      have hjl : j < l.length := by rw [← HI.out.len]; exact hlt
      obtain ⟨a, rfl, c0, c1⟩ := (EnsAt.keepFar HI.out.at_ HK.out (fun h0 a ha => HF.out (by omega) a ha)).at_ j hjl
      have hfn := HI.out.fine (l.getD j En.none) (by simp [hjl])
      have HT := Lib.hid (textE_take hjl)
      obtain ⟨r, hr⟩ : ∃ r, r = l.getD j En.none := ⟨_, rfl⟩
      rw [← hr] at c0 c1 hfn HT
      clear hr
      have h64 : ((r.hash : Nat) : Int) < 18446744073709551616 := by have := hfn.hash; omega
      have h32 : ((r.at_ : Nat) : Int) < 4294967296 := by have := hfn.at_; omega
      have HL : Hid ((xs ++ textE (l.take j)).length ≤ 110000000) := Lib.hid (by
        have := HX.out
        rw [List.length_append, textE_length, List.length_take]
        omega)
      have H64 := Lib.hid h64
      have H32 := Lib.hid h32
      clear h64 h32 hfn hjl
      obtain ⟨Y, hY⟩ : ∃ Y, Y = xs ++ textE (l.take j) := ⟨_, rfl⟩
      rw [← hY] at HB HL
      have HYd := Lib.hid hY
      clear hY
      have HB0 := Lib.hid (show BufAt (wr.alloc (.cells #[.int .u64 (r.hash : Int), .int .u32 (r.at_ : Int)] 80)) base g Y from by
        obtain ⟨v, h1, h2⟩ := HB.out
        exact ⟨v, h1.alloc _, World.ownsRow.alloc h2 _⟩)
      have HK0 := Lib.hid (HK.out.alloc (.cells #[.int .u64 (r.hash : Int), .int .u32 (r.at_ : Int)] 80))
      have HW0 := Lib.hid (Whole.new wr 80 #[.int .u64 (r.hash : Int), .int .u32 (r.at_ : Int)])
      have HSz : Hid (base ≤ (wr.alloc (.cells #[.int .u64 (r.hash : Int), .int .u32 (r.at_ : Int)] 80)).heap.size) := Lib.hid (by have := HK0.out.size; omega)
      clear HB
      go_wp2_with fail
      obtain ⟨W, hW⟩ : ∃ W, W = wr.alloc (.cells #[.int .u64 (r.hash : Int), .int .u32 (r.at_ : Int)] 80) := ⟨_, rfl⟩
      rw [← hW] at HB0 HK0 HW0 HSz ⊢
      clear hW c0 c1
      have sN : W.cell? ⟨wr.heap.size, 0, none⟩ = some (.int .u64 (r.hash : Int)) ∧ W.cell? ⟨wr.heap.size, 1, none⟩ = some (.int .u32 (r.at_ : Int)) := ⟨HW0.out.cell 0 rfl, HW0.out.cell 1 rfl⟩
      have s0 : W.drew.cell? ⟨wr.heap.size, 0, none⟩ = some (.int .u64 (r.hash : Int)) ∧ W.drew.cell? ⟨wr.heap.size, 1, none⟩ = some (.int .u32 (r.at_ : Int)) := sN
      go_region_held3 (fun w' => w'.cell? ⟨wr.heap.size, 0, none⟩ = some (.int .u64 (r.hash : Int)) ∧ w'.cell? ⟨wr.heap.size, 1, none⟩ = some (.int .u32 (r.at_ : Int)))
        (first | exact s5 | exact s0 | exact sN)
        (first | (go_at_call 82; refine (bufEightT base g Y (r.hash : Int) _ (by exact HB0.out) (by exact HSz.out) (by have := HL.out; omega) (by omega) H64.out).mono ?_; rintro e w5 ⟨rfl, hb, hk, hst⟩; have HB1 := Lib.hid hb; have HK1 := Lib.hid (HK0.out.trans (by first | exact hk | exact hk.ofDrew | exact hk.ofDrewN)); have HW1 := Lib.hid (hst wr.heap.size 80 _ (by decide) (by decide) (by exact HW0.out)); have HSz1 : Hid (base ≤ w5.heap.size) := Lib.hid (by have := HK1.out.size; omega); have s5 : w5.cell? ⟨wr.heap.size, 0, none⟩ = some (.int .u64 (r.hash : Int)) ∧ w5.cell? ⟨wr.heap.size, 1, none⟩ = some (.int .u32 (r.at_ : Int)) := ⟨HW1.out.cell 0 rfl, HW1.out.cell 1 rfl⟩; clear hb hk hst) | (go_at_call 91; refine (bufFourT base g (Y ++ digits (r.hash : Int) 8) (r.at_ : Int) _ (by exact HB1.out) (by exact HSz1.out) (by have := HL.out; rw [List.length_append, digits_length]; omega) (by omega) H32.out).mono ?_; rintro e w6 ⟨rfl, hb, hk, hst⟩; have HB2 := Lib.hid hb; have HK2 := Lib.hid (HK1.out.trans (by first | exact hk | exact hk.ofDrew | exact hk.ofDrewN)); have HW2 := Lib.hid (hst wr.heap.size 80 _ (by decide) (by decide) (by exact HW1.out)); have s5 : w6.cell? ⟨wr.heap.size, 0, none⟩ = some (.int .u64 (r.hash : Int)) ∧ w6.cell? ⟨wr.heap.size, 1, none⟩ = some (.int .u32 (r.at_ : Int)) := ⟨HW2.out.cell 0 rfl, HW2.out.cell 1 rfl⟩; clear hb hk hst))
      go_wp2_with fail
      go_roundw
      case rel =>
        refine ⟨j + 1, by omega, by go_num, Lib.hid ?_, Lib.hid HK2.out⟩
        rw [HT.out, ← List.append_assoc, ← HYd.out, ← List.append_assoc]
        exact HB2.out
      case measure => simp [intOf]; omega
    · have hdj : decide ((j : Int) < (n : Int)) = false := decide_eq_false (by omega)
      have HE : Hid (l.take j = l) := Lib.hid (List.take_of_length_le (by have := HI.out.len; omega))
      rw [HE.out] at HB
      go_wp2_with fail
      go_returns
      exact ⟨rfl, HB.out, HK.out⟩
end Go.Proofs.YtlejobomjgccnaaGreat

namespace Go.Proofs.YtlejobomjgccnaaGreat
open Go.RowKit

end Go.Proofs.YtlejobomjgccnaaGreat

namespace Go.Proofs.YtlejobomjgccnaaGreat
open Go.RowKit

/-- A record of no more bytes than the laws have. -/
structure Rec.Modest (r : Rec) : Prop where
  fine : r.Fine
  key : r.key.length ≤ 2000000
  val : r.val.length ≤ 2000000
def bodyE (r : Rec) : List Int := if checkR r = 0 then bodyR r else []

end Go.Proofs.YtlejobomjgccnaaGreat

namespace Go.Proofs.YtlejobomjgccnaaGreat
open Go.RowKit

theorem bound_any (n : Nat) (z : Int) (hz : z = n) (hn : n ≤ 9223372036854775807) (w : World) :
    Calls Tryz.prog 171 #[.int .i64 z] w fun e w' => e = .returned (.int .u64 (n : Int)) ∧ w = w' := by
  subst hz
  have hw : IntKind.u64.wrap (n : Int) = n := by rw [IntKind.wrap_u64]; omega
  by_cases h0 : n = 0
  · subst h0
    go_enter Tryz.func171, Tryz.ntmps171
    go_wp2_with fail
    go_ret
    exact ⟨rfl, rfl⟩
  · have h1 : 1 ≤ n := by omega
    go_enter Tryz.func171, Tryz.ntmps171
    go_wp2_with fail
    all_goals
      go_ret
      exact ⟨by first | rfl | simp [hw], rfl⟩

/-- How GetText ends: with the text, or given up, for what is wrong. -/
def TextPost (k : Nat) (p : Option Addr) (N c a : Nat) (t : VT) (w : World) (e : Ending) (w' : World) : Prop :=
  Keeps (Just k) w w' ∧ ((t.e = 0 ∧ e = .returned (.string (strOfNums t.t)) ∧ CurB w' k p N c (a + t.n) true 0) ∨ (t.e ≠ 0 ∧ e = .panicked (given k) ∧ CurB w' k p N c (a + t.n) true t.e))

theorem vtext_by (xs : List Int) (l m : Nat) (t : VR) (ht : t = vget xs) : vtext xs l m = if t.e ≠ 0 then ⟨t.e, t.n, []⟩
  else if (m : Int) < t.x then ⟨3, t.n, []⟩
  else if t.x < (l : Int) then ⟨4, t.n, []⟩
  else if (xs.drop t.n).length < t.x.toNat then ⟨2, t.n, []⟩
  else ⟨0, t.n + t.x.toNat, (xs.drop t.n).take t.x.toNat⟩ := by subst ht; rfl

set_option maxHeartbeats 2000000 in
set_option maxRecDepth 10000 in
theorem gettext_any (k : Nat) (p : Option Addr) (xs : List Int) (N c a l m : Nat) (zl zm : Int) (hzl : zl = (l : Int)) (hzm : zm = (m : Int)) (hl4 : l ≤ 1000000) (hm9 : m ≤ 100000000) (w : World) (hx : N = xs.length) (h : CurB w k p N c a true 0) (hb : Bytes8 w p xs) (ho : Octets xs) (hp : 0 < xs.length → ∀ q, p = some q → q.block ≠ k)
    (hn : a ≤ N) (hN : N ≤ c) (hN9 : N ≤ 140737488355328) (hc : c ≤ 9223372036854775807) :
    Calls Tryz.prog 133 #[.pointer (some ⟨k, 0, none⟩), .int .i64 zl, .int .i64 zm] w (TextPost k p N c a (vtext (xs.drop a) l m) w) := by
  subst hzl hzm
  have hg := get_any k p xs N c a w hx h hb ho hp hn hN hc
  obtain ⟨t, ht⟩ : ∃ t, t = vget (xs.drop a) := ⟨_, rfl⟩
  have htn : t.n ≤ N - a := by
    rw [ht, hx, ← List.length_drop]
    exact vread_n 10 true _
  have htx : t.e = 0 → 0 ≤ t.x ∧ t.x < 18446744073709551616 := fun he => by
    have := vread_bound 9 true (xs.drop a) (ho.drop a) (by rw [ht] at he; exact he)
    rw [ht]
    exact this
  rw [vtext_by _ l m t ht]
  rw [← ht] at hg
  have HG := Lib.hid hg; have HB := Lib.hid hb; have HP := Lib.hid hp; have HX := Lib.hid hx
  have HBl := Lib.hid (fun w => bound_any l l rfl (by omega) w)
  have HBm := Lib.hid (fun w => bound_any m m rfl (by omega) w)
  have HC := Lib.hid hc; have HN := Lib.hid hN
  clear hg ht h hb ho hp hx hc hN
  by_cases he : t.e = 0
  · obtain ⟨hx0, hx1⟩ := htx he
    rw [if_neg (by simpa using he)]
    clear htx
    obtain ⟨te, tn, tx⟩ := t
    simp only at he htn hx0 hx1 ⊢ HG
    subst he
    obtain ⟨X, rfl⟩ : ∃ X : Nat, tx = (X : Int) := ⟨tx.toNat, by omega⟩
    have hx1' : X < 18446744073709551616 := by omega
    have hlen : ((xs.drop a).drop tn).length = N - (a + tn) := by rw [List.drop_drop, List.length_drop, HX.out]
    rw [hlen]
    clear hlen
    simp only [Int.toNat_natCast]
    have HG := Lib.hid (HG.out.mono fun e w1 (h : GetPost k p N c a ⟨0, tn, (X : Int)⟩ w e w1) => show e = .returned (.int .u64 (X : Int)) ∧ CurB w1 k p N c (a + tn) true 0 ∧ Keeps (Just k) w w1 by
      obtain ⟨hk, ⟨_, rfl, hcur⟩ | ⟨he, _, _⟩⟩ := h
      · exact ⟨rfl, hcur, hk⟩
      · exact absurd rfl he)
    by_cases hm : (m : Int) < (X : Int)
    · rw [if_pos hm]
      have hmn : m < X := by omega
      have hd : decide ((X : Int) > m) = true := by simp; omega
      go_enter Tryz.func133, Tryz.ntmps133
      go_wp2_with fail
      refine HG.out.mono ?_
      rintro e w1 ⟨rfl, hcur, hk⟩
      have HK := Lib.hid hk; have HCu := Lib.hid hcur
      clear hk hcur HG
      go_wp2_with fail
      refine (HBm.out _).mono ?_
      rintro e w2 ⟨rfl, rfl⟩
      go_wp2_with fail
      refine (fail_at k p N c (a + tn) 3 _ HCu.out (by decide)).mono ?_
      rintro e w2 ⟨rfl, hcur, hk⟩
      exact ⟨rfl, HK.out.trans hk, .inr ⟨by simp, rfl, hcur⟩⟩
    · rw [if_neg hm]
      have hmn : X ≤ m := by omega
      clear hx1 hx1'
      by_cases hl : (X : Int) < (l : Int)
      · rw [if_pos hl]
        have hln : X < l := by omega
        go_enter Tryz.func133, Tryz.ntmps133
        go_wp2_with fail
        refine HG.out.mono ?_
        rintro e w1 ⟨rfl, hcur, hk⟩
        have HK := Lib.hid hk; have HCu := Lib.hid hcur
        clear hk hcur HG
        go_wp2_with fail
        refine (HBm.out _).mono ?_
        rintro e w2 ⟨rfl, rfl⟩
        go_wp2_with fail
        refine (HBl.out _).mono ?_
        rintro e w2 ⟨rfl, rfl⟩
        go_wp2_with fail
        refine (fail_at k p N c (a + tn) 4 _ HCu.out (by decide)).mono ?_
        rintro e w2 ⟨rfl, hcur, hk⟩
        exact ⟨rfl, HK.out.trans hk, .inr ⟨by simp, rfl, hcur⟩⟩
      · rw [if_neg hl]
        have hln : l ≤ X := by omega
        have hw : IntKind.i64.wrap (X : Int) = X := by rw [IntKind.wrap_i64]; omega
        by_cases hs : N - (a + tn) < X
        · rw [if_pos hs]
          go_enter Tryz.func133, Tryz.ntmps133
          go_wp2_with fail
          refine HG.out.mono ?_
          rintro e w1 ⟨rfl, hcur, hk⟩
          have HK := Lib.hid hk; have HCu := Lib.hid hcur
          clear hk hcur HG
          go_wp2_with fail
          refine (HBm.out _).mono ?_
          rintro e w2 ⟨rfl, rfl⟩
          go_wp2_with fail
          refine (HBl.out _).mono ?_
          rintro e w2 ⟨rfl, rfl⟩
          go_wp2_with fail
          refine (take_short k p N c (a + tn) (X : Int) _ HCu.out (by omega) (by omega) (by omega)).mono ?_
          rintro e w2 ⟨rfl, hcur, hk⟩
          exact ⟨rfl, HK.out.trans hk, .inr ⟨by simp, rfl, hcur⟩⟩
        · rw [if_neg hs]
          go_enter Tryz.func133, Tryz.ntmps133
          go_wp2_with fail
          refine HG.out.mono ?_
          rintro e w1 ⟨rfl, hcur, hk⟩
          have HK := Lib.hid hk; have HCu := Lib.hid hcur
          have HB1 := Lib.hid (HB.out.keepPos hk (fun h0 q hq => HP.out h0 q hq))
          clear hk hcur HG
          go_wp2_with fail
          refine (HBm.out _).mono ?_
          rintro e w2 ⟨rfl, rfl⟩
          go_wp2_with fail
          refine (HBl.out _).mono ?_
          rintro e w2 ⟨rfl, rfl⟩
          go_wp2_with fail
          refine (take_at k p xs N c (a + tn) X (X : Int) _ HX.out (by omega) HCu.out HB1.out HP.out (by omega) HN.out (by omega) HC.out).mono ?_
          rintro e w2 ⟨v, rfl, ⟨q, d, rfl, hd, hd', hbv, hq, hk⟩, hcur⟩
          have hcv := textOf q X d ((xs.drop (a + tn)).take X) w2 (by rw [List.length_take, List.length_drop]; have := HX.out; omega) hbv
          have HK2 := Lib.hid (HK.out.trans hk); have HC2 := Lib.hid hcur
          clear hk hcur hbv hq HK HCu
          go_wp2_with fail
          go_ret
          refine ⟨HK2.out, .inl ⟨rfl, ?_, ?_⟩⟩
          · rw [List.drop_drop]
            rfl
          · rw [← Nat.add_assoc]
            exact HC2.out
  · rw [if_pos (by simpa using he)]
    clear htx
    go_enter Tryz.func133, Tryz.ntmps133
    go_wp2_with fail
    refine HG.out.mono ?_
    rintro e w1 ⟨hk, ⟨he', _, _⟩ | ⟨he', rfl, hcur⟩⟩
    · exact absurd he' he
    · exact ⟨rfl, hk, .inr ⟨he, rfl, hcur⟩⟩
end Go.Proofs.YtlejobomjgccnaaGreat

namespace Go.Proofs.YtlejobomjgccnaaGreat
open Go.RowKit

set_option maxHeartbeats 800000 in
set_option maxRecDepth 10000 in
theorem puttext_any (base g : Nat) (xs t : List Int) (w : World) (h : BufAt w base g xs) (hb : base ≤ g) (hs : base ≤ w.heap.size) (ho : Octets t) (ht : t.length ≤ 100000000) (hx : xs.length ≤ 1000000000) :
    Calls Tryz.prog 87 #[.pointer (some ⟨g, 0, none⟩), .string (strOfNums t)] w fun e w' => e = .returned (.tuple #[]) ∧ BufAt w' base g (xs ++ textB t) ∧ Below base w w' := by
  have HP := Lib.hid (fun z hz => put_any base g xs t.length z hz w h hs (by omega) (by omega))
  have hten := vnum_ten (x := t.length) (by omega)
  have hsz := str_size t
  have hcv := run_str_bytes t
  have HR := Lib.hid (fun W q c (h : BufAt W base g (xs ++ vnum t.length)) (hs : base ≤ W.heap.size) (hy : Bytes8 W (some q) t) => bufRaw_some base g (xs ++ vnum t.length) t q t.length c W h rfl hy hb hs (by rw [List.length_append]; omega))
  have HB := Lib.hid (fun W => bytesWorld_bytes W 5 t ho)
  unfold textB
  rw [← List.append_assoc]
  obtain ⟨L, hL⟩ : ∃ L, L = t.length := ⟨_, rfl⟩
  rw [← hL] at hsz hcv HP HR ht ⊢
  clear h ho hten hx hL
  go_enter Tryz.func87, Tryz.ntmps87
  go_wp2_with fail
  refine (HP.out _ (by first | rfl | omega | (rw [IntKind.wrap_u64']; omega))).mono ?_
  rintro e w1 ⟨rfl, hbuf, hk⟩
  have HBu := Lib.hid hbuf; have HK := Lib.hid hk
  clear hbuf hk HP
  go_wp2_with fail
  have hk2 := HK.out.trans (bytesWorld_keeps (OnBuf base g) w1 5 (strOfNums t))
  have hbuf2 : BufAt (Lib.bytesWorld w1 5 (strOfNums t)) base g (xs ++ vnum L) := HBu.out.keepO (bytesWorld_keeps NoBlock w1 5 (strOfNums t)) (fun h => h) (fun _ _ _ _ h => h)
  refine (HR.out _ _ _ hbuf2 (by rw [Lib.bytesWorld_size]; have := hk2.size; have := HK.out.size; omega) (HB.out _)).mono ?_
  rintro e w2 ⟨rfl, hbuf, hbel⟩
  have HL2 := Lib.hid ((onBuf_below hk2 hb hs).trans hbel); have HB2 := Lib.hid hbuf
  clear hbuf hbel hk2 hbuf2 HR HB HBu HK
  go_wp2_with fail
  go_returns
  exact ⟨rfl, HB2.out, HL2.out⟩
end Go.Proofs.YtlejobomjgccnaaGreat

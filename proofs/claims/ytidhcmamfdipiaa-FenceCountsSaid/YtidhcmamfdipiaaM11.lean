/-
  FenByIn; BufK; FenOwn; FenIter; In8; CobsRef.
-/
import Derived.RangeFuncBox
import Derived.RangeFuncNested
import Derived.RangeFuncBound
import Derived.RangeFuncCalls
import Derived.RangeFuncLeaves
import Derived.Shelf.Abstract
import Derived.Shelf.RegionOpen
import Derived.OwnWalkIn
import Derived.TacticsInMore
import Derived.LoopNIn
import Derived.LoopIn
import Derived.Maps.AppendAt
import Derived.Deep.RegionHeld3
import Derived.Test.YtidhcmamfdipiaaM01
import Derived.Test.YtidhcmamfdipiaaM02
import Derived.Test.YtidhcmamfdipiaaM03
import Derived.Test.YtidhcmamfdipiaaM04
import Derived.Test.YtidhcmamfdipiaaM06
import Derived.Test.YtidhcmamfdipiaaM07
import Derived.Test.YtidhcmamfdipiaaM08
import Derived.Test.YtidhcmamfdipiaaM09
import Derived.Test.YtidhcmamfdipiaaM10
namespace Go.Proofs.Ytidhcmamfdipiaa
open Go.RowKit

/-- A row that was got: new memory. -/
def GotRowF (w : World) (l : List Nat) (v : Value) (w' : World) : Prop :=
  ∃ (q : Option Addr) (m d : Nat), v = .slice q m d ∧ m = l.length ∧ m ≤ d ∧ d ≤ 9223372036854775807 ∧ (q = none → m = 0 ∧ d = 0) ∧ RowN w' q l ∧ (0 < m → ∀ a, q = some a → w.heap.size ≤ a.block)
/-- How Get ends. -/
def GetFPost (k : Nat) (p : Option Addr) (N c a : Nat) (t : GF) (w : World) (e : Ending) (w' : World) : Prop :=
  Keeps (Just k) w w' ∧ ((t.y = 0 ∧ (∃ v, e = .returned v ∧ GotRowF w t.l v w') ∧ CurB w' k p N c (a + t.m) true 0) ∨ (t.y ≠ 0 ∧ e = .panicked (given k) ∧ CurB w' k p N c (a + t.m) true t.y))
/-- A row of numbers that comes in. -/
structure InN (w : World) (p : Option Addr) (n c : Nat) (l : List Nat) : Prop where
  len : n = l.length
  cap : n ≤ c
  room : c ≤ 9223372036854775807
  bare : p = none → n = 0 ∧ c = 0
  fine : ∀ x ∈ l, x < 18446744073709551616
  at_ : RowN w p l
/-- The contracts of Put, Get. -/
structure FenByOk : Prop where
  put : ∀ (base g : Nat) (xs : List Int) (p : Option Addr) (n c : Nat) (l : List Nat) (w : World), BufAt w base g xs → base ≤ w.heap.size → InN w p n c l → n ≤ 100000 → (0 < n → ∀ a, p = some a → ¬ OnBuf base g a.block) → xs.length ≤ 100000000 →
    Calls Try.prog 17 #[.pointer (some ⟨g, 0, none⟩), .slice p n c] w fun e w' => e = .returned (.tuple #[]) ∧ BufAt w' base g (xs ++ textF l) ∧ Keeps (OnBuf base g) w w'
  get : ∀ (k : Nat) (p : Option Addr) (xs : List Int) (N c a : Nat) (z : Int) (w : World), N = xs.length → CurB w k p N c a true 0 → Bytes8 w p xs → Octets xs → (0 < xs.length → ∀ q, p = some q → q.block ≠ k) → a ≤ N → N ≤ c → c ≤ 9223372036854775807 → N ≤ 1000000 →
    Calls Try.prog 21 #[.pointer (some ⟨k, 0, none⟩), .int .i64 z] w (GetFPost k p N c a (getF z (xs.drop a)) w)

/-- What a reading of fences leaves in block D. -/
def LeftF (w0 : World) (D : Nat) (t : GF) (w2 : World) : Prop :=
  Keeps (Just D) w0 w2 ∧ (t.y = 0 → ∃ (q : Option Addr) (m d : Nat), Whole w2 D 26 #[.slice q m d] ∧ m = t.l.length ∧ m ≤ d ∧ d ≤ 9223372036854775807 ∧ (q = none → m = 0 ∧ d = 0) ∧ RowN w2 q t.l ∧ (0 < m → ∀ a, q = some a → w0.heap.size + 1 + 1 + 1 + 1 ≤ a.block))

theorem Begun.storeAt12 {w0 : World} {p : Option Addr} {N c a : Nat} {y : Int} {W : World} (h : Begun w0 p N c a y W) {D : Nat} (hD : D < w0.heap.size) (v : Value) : Begun w0 p N c a y (W.setCell ⟨D, 0, none⟩ v) :=
  ⟨h.at_.setOther (by simp; omega) v, h.why.setOther (by simp; omega) v, Whole.setOther h.cur (by simp; omega) v, h.var.setOther (by simp; omega) v⟩
theorem enter_fb1 (args : Array Value) (w : World) : (callFunc 20 args).run Try.prog w = .ok (.enter 20 args) w := by kernel_rfl
theorem enter_fb2 (args : Array Value) (w : World) : (callFunc 24 args).run Try.prog w = .ok (.enter 24 args) w := by kernel_rfl

set_option maxHeartbeats 2000000 in
set_option maxRecDepth 10000 in
theorem fb2In (H : FenByOk) (w0 W : World) (A D : Nat) (z : Int) (p : Option Addr) (xs : List Int) (N c : Nat) (hx : N = xs.length) (hN9 : N ≤ 1000000) (hB : Begun w0 p N c 0 0 W) (hK : Keeps NoBlock w0 W) (hsz : W.heap.size = w0.heap.size + 1 + 1 + 1 + 1) (hA : Whole W A 3 #[.int .i64 z]) (hD : Whole W D 26 #[.slice none 0 0]) (hDlt : D < w0.heap.size) (hb : Bytes8 W p xs) (ho : Octets xs)
    (hp : 0 < xs.length → ∀ q, p = some q → q.block < w0.heap.size) (hc : N ≤ c) (hc' : c ≤ 9223372036854775807) :
    Calls Try.prog 24 (#[.pointer (some ⟨w0.heap.size + 1 + 1, 0, none⟩)] ++ #[.pointer (some ⟨A, 0, none⟩), .pointer (some ⟨D, 0, none⟩)]) W (ReadEnds w0 p N c (getF z xs).m (getF z xs).y (LeftF w0 D (getF z xs))) := by
  have hg := H.get (w0.heap.size + 1 + 1) p xs N c 0 z W hx hB.cur hb ho (fun h0 q hq => by have := hp h0 q hq; omega) (Nat.zero_le _) hc hc' hN9
  rw [List.drop_zero] at hg
  obtain ⟨t, ht⟩ : ∃ t, t = getF z xs := ⟨_, rfl⟩
  rw [← ht] at hg ⊢
  have a0 := hA.cell 0 rfl
  simp only [List.getElem_toArray, List.getElem_cons_zero] at a0
  have HG := Lib.hid hg; have HB := Lib.hid hB; have HK := Lib.hid hK; have HD := Lib.hid hD; have HSz := Lib.hid hsz
  clear hg hB hK hD hA hb ho hp hx hc hc' ht hsz hN9
  simp only [List.append_toArray, List.nil_append, List.cons_append]
  go_enter Try.func24, Try.ntmps24
  go_wp2_with fail
  refine HG.out.mono ?_
  rintro e w1 ⟨hk, ⟨hy, ⟨v, rfl, q, m, d, rfl, hm, hmd, hdd, hq, hat, hnew⟩, hcur⟩ | ⟨hy, rfl, hcur⟩⟩
  · rw [Nat.zero_add] at hcur
    have hD1 := HD.out.keep hk (by unfold Just; omega)
    have d0 := hD1.cell 0 rfl
    have f0 := hD1.free 0
    simp only [List.getElem_toArray, List.getElem_cons_zero] at d0
    have HB1 := Lib.hid ((HB.out.keep hk hcur).storeAt12 hDlt (.slice q m d))
    have HR := Lib.hid (show Keeps (Just D) w0 (w1.setCell ⟨D, 0, none⟩ (.slice q m d)) from ((HK.out.wider (S' := Just D) (fun _ _ h => h.elim)).then hk (fun i hi h => by unfold Just at h; omega)).setIn (Just.self D) 0 _)
    have HD2 := Lib.hid (hD1.set 0 (.slice q m d))
    have HE := Lib.hid (RowN.keepAt hat ((Keeps.refl (Just D) w1).setIn (Just.self D) 0 (.slice q m d)) (fun h0 a ha => by have := hnew (by omega) a ha; have := HSz.out; unfold Just; omega))
    have HNew := Lib.hid (show 0 < m → ∀ a, q = some a → w0.heap.size + 1 + 1 + 1 + 1 ≤ a.block from fun h0 a ha => by have := hnew h0 a ha; have := HSz.out; omega)
    have HM := Lib.hid (And.intro hm (And.intro hmd (And.intro hdd hq)))
    have HY := Lib.hid hy
    clear hk hcur hD1 HG hat hnew hm hmd hdd hq hy
    go_wp2_with fail
    go_returns
    exact ⟨.inl rfl, by rw [HY.out]; exact HB1.out, HR.out, fun _ => ⟨q, m, d, HD2.out, HM.out.1, HM.out.2.1, HM.out.2.2.1, HM.out.2.2.2, HE.out, HNew.out⟩⟩
  · rw [Nat.zero_add] at hcur
    exact ⟨rfl, .inr (gave_given _), HB.out.keep hk hcur, (HK.out.wider (S' := Just D) (fun _ _ h => h.elim)).then hk (fun i hi h => by unfold Just at h; omega), fun h => absurd h hy⟩

set_option maxHeartbeats 2000000 in
set_option maxRecDepth 10000 in
theorem fb1In (H : FenByOk) (w0 W : World) (A D : Nat) (pa : Option Addr) (z ca : Nat) (p : Option Addr) (xs : List Int) (N c : Nat) (hx : N = xs.length) (hN9 : N ≤ 1000000) (hB : Begun w0 p N c 0 0 W) (hK : Keeps NoBlock w0 W) (hsz : W.heap.size = w0.heap.size + 1 + 1 + 1 + 1) (hA : Whole W A 26 #[.slice pa z ca]) (hD : Whole W D 26 #[.slice none 0 0]) (hDlt : D < w0.heap.size) (hb : Bytes8 W p xs) (ho : Octets xs)
    (hp : 0 < xs.length → ∀ q, p = some q → q.block < w0.heap.size) (hc : N ≤ c) (hc' : c ≤ 9223372036854775807) (hend : (getF (z : Int) xs).y = 0 → (getF (z : Int) xs).m = N) :
    Calls Try.prog 20 (#[.pointer (some ⟨w0.heap.size + 1 + 1, 0, none⟩)] ++ #[.pointer (some ⟨A, 0, none⟩), .pointer (some ⟨D, 0, none⟩)]) W (ReadEnds w0 p N c (getF (z : Int) xs).m (getF (z : Int) xs).y (LeftF w0 D (getF (z : Int) xs))) := by
  have hg := H.get (w0.heap.size + 1 + 1) p xs N c 0 (z : Int) W hx hB.cur hb ho (fun h0 q hq => by have := hp h0 q hq; omega) (Nat.zero_le _) hc hc' hN9
  rw [List.drop_zero] at hg
  obtain ⟨t, ht⟩ : ∃ t, t = getF (z : Int) xs := ⟨_, rfl⟩
  rw [← ht] at hg hend ⊢
  have hN63 : (N : Int) ≤ 9223372036854775807 := by omega
  have HEnd := Lib.hid hend
  have a0 := hA.cell 0 rfl
  simp only [List.getElem_toArray, List.getElem_cons_zero] at a0
  have HG := Lib.hid hg; have HB := Lib.hid hB; have HK := Lib.hid hK; have HD := Lib.hid hD; have HSz := Lib.hid hsz
  clear hg hB hK hD hA hb ho hp hx hc hc' ht hsz hN9 hend
  simp only [List.append_toArray, List.nil_append, List.cons_append]
  go_enter Try.func20, Try.ntmps20
  go_wp2_with fail
  refine HG.out.mono ?_
  rintro e w1 ⟨hk, ⟨hy, ⟨v, rfl, q, m, d, rfl, hm, hmd, hdd, hq, hat, hnew⟩, hcur⟩ | ⟨hy, rfl, hcur⟩⟩
  · rw [Nat.zero_add] at hcur
    have hD1 := HD.out.keep hk (by unfold Just; omega)
    have d0 := hD1.cell 0 rfl
    have f0 := hD1.free 0
    simp only [List.getElem_toArray, List.getElem_cons_zero] at d0
    have HB1 := Lib.hid ((HB.out.keep hk hcur).storeAt12 hDlt (.slice q m d))
    have HR := Lib.hid (show Keeps (Just D) w0 (w1.setCell ⟨D, 0, none⟩ (.slice q m d)) from ((HK.out.wider (S' := Just D) (fun _ _ h => h.elim)).then hk (fun i hi h => by unfold Just at h; omega)).setIn (Just.self D) 0 _)
    have HD2 := Lib.hid (hD1.set 0 (.slice q m d))
    have HE := Lib.hid (RowN.keepAt hat ((Keeps.refl (Just D) w1).setIn (Just.self D) 0 (.slice q m d)) (fun h0 a ha => by have := hnew (by omega) a ha; have := HSz.out; unfold Just; omega))
    have HNew := Lib.hid (show 0 < m → ∀ a, q = some a → w0.heap.size + 1 + 1 + 1 + 1 ≤ a.block from fun h0 a ha => by have := hnew h0 a ha; have := HSz.out; omega)
    have HM := Lib.hid (And.intro hm (And.intro hmd (And.intro hdd hq)))
    have HY := Lib.hid hy
    clear hk hcur hD1 HG hat hnew hm hmd hdd hq hy
    go_wp2_with fail
    refine (end_whole (w0.heap.size + 1 + 1) p N c 0 _ (by have h := HB1.out.cur; rwa [HEnd.out HY.out] at h) hN63).mono ?_
    rintro e w2 ⟨rfl, hcur, hk⟩
    have HB2 := Lib.hid (HB1.out.keep (hk.wider (fun _ _ h => h.elim)) (show CurB w2 (w0.heap.size + 1 + 1) p N c t.m true 0 by rw [HEnd.out HY.out]; exact hcur))
    have HR2 := Lib.hid (HR.out.trans (hk.wider (fun _ _ h => h.elim)))
    have HD3 := Lib.hid (HD2.out.keep hk (fun h => h))
    have HE2 := Lib.hid (RowN.keep HE.out hk (fun _ _ h => h))
    clear hk hcur
    go_wp2_with fail
    go_returns
    exact ⟨.inl rfl, by rw [HY.out]; exact HB2.out, HR2.out, fun _ => ⟨q, m, d, HD3.out, HM.out.1, HM.out.2.1, HM.out.2.2.1, HM.out.2.2.2, HE2.out, HNew.out⟩⟩
  · rw [Nat.zero_add] at hcur
    exact ⟨rfl, .inr (gave_given _), HB.out.keep hk hcur, (HK.out.wider (S' := Just D) (fun _ _ h => h.elim)).then hk (fun i hi h => by unfold Just at h; omega), fun h => absurd h hy⟩

/-- Run, with the reading of fences into block D. -/
theorem run_fb2 (H : FenByOk) (w0 : World) (A D : Nat) (z : Int) (p : Option Addr) (xs : List Int) (N c : Nat) (hx : N = xs.length) (hN9 : N ≤ 1000000) (hA : Whole w0 A 3 #[.int .i64 z]) (hD : Whole w0 D 26 #[.slice none 0 0]) (hb : Bytes8 w0 p xs) (ho : Octets xs) (hc : N ≤ c) (hc' : c ≤ 9223372036854775807) :
    Calls Try.prog 18 #[.slice p N c, .func (.func 24) #[] #[.pointer (some ⟨A, 0, none⟩), .pointer (some ⟨D, 0, none⟩)]] w0 fun e w' => e = .returned (.tuple #[.int .i64 ((getF z xs).m : Int), .int .i64 (getF z xs).y]) ∧ LeftF w0 D (getF z xs) w' := by
  refine (run_any _ _ p N c (getF z xs).m (getF z xs).y _ w0 enter_fb2 (fun W hB hK hsz => fb2In H w0 W A D z p xs N c hx hN9 hB hK hsz (hA.keep hK (fun h => h)) (hD.keep hK (fun h => h)) hD.lt (hb.keep hK (fun _ _ h => h)) ho (fun h0 q hq => by
    obtain ⟨a, ha, hcell⟩ := hb h0
    obtain rfl := Option.some.inj (hq.symm.trans ha)
    have := ltOfCell (hcell 0 h0)
    rwa [addBlock] at this) hc hc')).mono ?_
  rintro e w' ⟨rfl, w2, ⟨hR1, hR2⟩, hT⟩
  have hDl := hD.lt
  refine ⟨rfl, hR1.then hT.2.2.2.2 (fun i hi h => by unfold Just; omega), fun h => ?_⟩
  obtain ⟨q, m, d, h1, h2, h3, h4, h5, h6, h7⟩ := hR2 h
  exact ⟨q, m, d, h1.keep hT.2.2.2.2 (by omega), h2, h3, h4, h5, RowN.keepAt h6 hT.2.2.2.2 (fun h0 a ha => by have := h7 (by omega) a ha; omega), h7⟩

/-- Run, with the reading of fences into block D. -/
theorem run_fb1 (H : FenByOk) (w0 : World) (A D : Nat) (pa : Option Addr) (z ca : Nat) (p : Option Addr) (xs : List Int) (N c : Nat) (hx : N = xs.length) (hN9 : N ≤ 1000000) (hA : Whole w0 A 26 #[.slice pa z ca]) (hD : Whole w0 D 26 #[.slice none 0 0]) (hb : Bytes8 w0 p xs) (ho : Octets xs) (hc : N ≤ c) (hc' : c ≤ 9223372036854775807) (hend : (getF (z : Int) xs).y = 0 → (getF (z : Int) xs).m = N) :
    Calls Try.prog 18 #[.slice p N c, .func (.func 20) #[] #[.pointer (some ⟨A, 0, none⟩), .pointer (some ⟨D, 0, none⟩)]] w0 fun e w' => e = .returned (.tuple #[.int .i64 ((getF (z : Int) xs).m : Int), .int .i64 (getF (z : Int) xs).y]) ∧ LeftF w0 D (getF (z : Int) xs) w' := by
  refine (run_any _ _ p N c (getF (z : Int) xs).m (getF (z : Int) xs).y _ w0 enter_fb1 (fun W hB hK hsz => fb1In H w0 W A D pa z ca p xs N c hx hN9 hB hK hsz (hA.keep hK (fun h => h)) (hD.keep hK (fun h => h)) hD.lt (hb.keep hK (fun _ _ h => h)) ho (fun h0 q hq => by
    obtain ⟨a, ha, hcell⟩ := hb h0
    obtain rfl := Option.some.inj (hq.symm.trans ha)
    have := ltOfCell (hcell 0 h0)
    rwa [addBlock] at this) hc hc' hend)).mono ?_
  rintro e w' ⟨rfl, w2, ⟨hR1, hR2⟩, hT⟩
  have hDl := hD.lt
  refine ⟨rfl, hR1.then hT.2.2.2.2 (fun i hi h => by unfold Just; omega), fun h => ?_⟩
  obtain ⟨q, m, d, h1, h2, h3, h4, h5, h6, h7⟩ := hR2 h
  exact ⟨q, m, d, h1.keep hT.2.2.2.2 (by omega), h2, h3, h4, h5, RowN.keepAt h6 hT.2.2.2.2 (fun h0 a ha => by have := h7 (by omega) a ha; omega), h7⟩
end Go.Proofs.Ytidhcmamfdipiaa

namespace Go.Proofs.Ytidhcmamfdipiaa
open Go.RowKit

def InLoopK (base g : Nat) (xs : List Int) (x : Int) (w : World) (k : Nat) (wr : World) : Prop := BufAt wr base g (xs ++ digits x k) ∧ Keeps (OnBuf base g) w wr

set_option maxHeartbeats 800000 in
theorem bufNumberK (base g : Nat) (xs : List Int) (x : Int) (n : Nat) (z : Int) (hz : z = n) (w : World) (h : BufAt w base g xs) (hs : base ≤ w.heap.size) (hx : xs.length + n ≤ 140737488355328) (hn : n ≤ 8) (_x0 : 0 ≤ x) (x1 : x < 18446744073709551616) :
    Calls Try.prog 55 #[.pointer (some ⟨g, 0, none⟩), .int .u64 x, .int .i64 z] w (BufOkK base g (xs ++ digits x n) w) := by
  subst hz
  have H := Lib.hid h; have HX := Lib.hid hx; have HX1 := Lib.hid x1
  clear h hx x1
  go_enter Try.func55, Try.ntmps55
  go_wp2_with fail
  go_loopw [9] (fun i wr => ∃ k : Nat, k ≤ n ∧ i = .int .i64 k ∧ InLoopK base g xs x w k wr) (fun i _ => n - (intOf i).toNat)
  case atStart => exact ⟨0, Nat.zero_le _, rfl, by simpa [digits] using H.out, Keeps.refl _ _⟩
  case round =>
    obtain ⟨k, hk, rfl, hin⟩ := hrel
    have HI := Lib.hid hin
    clear hin
    by_cases hlt : k < n
    · go_wp2_with fail
      refine (bufByteK base g (xs ++ digits x k) _ _ HI.out.1 (by have := HI.out.2.size; omega) (by have := HX.out; simp [digits_length]; omega)).mono ?_
      rintro e w2 ⟨rfl, hbuf, hbel⟩
      have HB := Lib.hid hbuf; have HL := Lib.hid (HI.out.2.trans hbel)
      clear hbuf hbel
      go_wp2_with fail
      go_roundw
      case rel =>
        refine ⟨k + 1, by omega, by go_num, ?_, HL.out⟩
        have := HB.out
        rw [List.append_assoc] at this
        exact this
      case measure => simp [intOf]; omega
    · go_wp2_with fail
      go_ret
      obtain rfl : k = n := by omega
      exact ⟨rfl, HI.out.1, HI.out.2⟩

theorem bufEightK (base g : Nat) (xs : List Int) (x : Int) (w : World) (h : BufAt w base g xs) (hs : base ≤ w.heap.size) (hx : xs.length + 8 ≤ 140737488355328) (x0 : 0 ≤ x) (x1 : x < 18446744073709551616) :
    Calls Try.prog 39 #[.pointer (some ⟨g, 0, none⟩), .int .u64 x] w (BufOkK base g (xs ++ digits x 8) w) := by
  have H := Lib.hid h; have HX1 := Lib.hid x1
  clear h x1
  go_enter Try.func39, Try.ntmps39
  go_wp2_with fail
  refine (bufNumberK base g xs _ 8 _ (by rfl) _ H.out hs hx (by omega) x0 HX1.out).mono ?_
  rintro e w2 ⟨rfl, hbuf, hbel⟩
  have HB := Lib.hid hbuf; have HL := Lib.hid hbel
  clear hbuf hbel
  go_wp2_with fail
  go_ret
  exact ⟨rfl, HB.out, HL.out⟩
end Go.Proofs.Ytidhcmamfdipiaa

namespace Go.Proofs.Ytidhcmamfdipiaa
open Go.RowKit

set_option maxHeartbeats 1000000 in
theorem fcount_own (n : Int) (w : World) (h0 : -1000000000 ≤ n) (h1 : n ≤ 1000000000) :
    Calls Try.prog 13 #[.int .i64 n] w fun e w' => e = .returned (.int .i64 (countF n : Int)) ∧ Keeps NoBlock w w' := by
  by_cases hz : n ≤ 0
  · have hd : decide (n ≤ 0) = true := decide_eq_true hz
    have e : countF n = 0 := by unfold countF; omega
    rw [e]
    clear e
    go_enter Try.func13, Try.ntmps13
    go_wp2_with fail
    go_ret
    exact ⟨rfl, Keeps.refl _ _⟩
  · obtain ⟨m, rfl⟩ : ∃ m : Nat, n = (m : Int) + 1 := ⟨n.toNat - 1, by omega⟩
    have hd : decide ((m : Int) + 1 ≤ 0) = false := decide_eq_false hz
    have e : countF ((m : Int) + 1) = m / 16 + 1 := by unfold countF; omega
    have hq : ((m : Int)).tdiv 16 = ((m / 16 : Nat) : Int) := by rw [Int.tdiv_eq_ediv_of_nonneg (by omega)]; omega
    have hq2 : (m : Int) / 16 = ((m / 16 : Nat) : Int) := by omega
    obtain ⟨k, hk⟩ : ∃ k, k = m / 16 := ⟨_, rfl⟩
    rw [← hk] at hq hq2 e
    have hk9 : k ≤ 1000000000 := by omega
    rw [e]
    have hs : (m : Int) + 1 - 1 = (m : Int) := by omega
    clear hk e
    go_enter Try.func13, Try.ntmps13
    go_wp2_with fail
    go_ret
    exact ⟨by go_num, Keeps.refl _ _⟩

theorem textF_takeO {l : List Nat} {j : Nat} (hj : j < l.length) : textF (l.take (j + 1)) = textF (l.take j) ++ digits ((l.getD j 0 : Nat) : Int) 8 := by
  have e : l.take (j + 1) = l.take j ++ [l.getD j 0] := by rw [List.take_succ_eq_append_getElem hj]; simp [hj]
  rw [e, textF_snoc]

set_option maxHeartbeats 4000000 in
set_option maxRecDepth 10000 in
theorem fput_own (base g : Nat) (xs : List Int) (p : Option Addr) (n c : Nat) (l : List Nat) (w : World) (h : BufAt w base g xs) (hs : base ≤ w.heap.size) (hi : InN w p n c l) (hn9 : n ≤ 100000) (hfar : 0 < n → ∀ a, p = some a → ¬ OnBuf base g a.block) (hx : xs.length ≤ 100000000) :
    Calls Try.prog 17 #[.pointer (some ⟨g, 0, none⟩), .slice p n c] w fun e w' => e = .returned (.tuple #[]) ∧ BufAt w' base g (xs ++ textF l) ∧ Keeps (OnBuf base g) w w' := by
  have H := Lib.hid h
  have HI := Lib.hid hi
  have HF := Lib.hid hfar
  have HX := Lib.hid hx
  clear h hi hfar hx
  go_enter Try.func17, Try.ntmps17
  go_wp2_with fail
  go_loopw [10] (fun i wr => ∃ j : Nat, j ≤ n ∧ i = .int .i64 (j : Int) ∧ Hid (BufAt wr base g (xs ++ textF (l.take j))) ∧ Hid (Keeps (OnBuf base g) w wr)) (fun i _ => n - (intOf i).toNat)
  case atStart => exact ⟨0, Nat.zero_le _, rfl, Lib.hid (by simpa [textF] using H.out), Lib.hid (Keeps.refl _ _)⟩
  case round =>
    obtain ⟨j, hj, rfl, HB, HK⟩ := hrel
    by_cases hlt : j < n
    · have hdj : decide ((j : Int) < (n : Int)) = true := decide_eq_true (by omega)
      have hjl : j < l.length := by rw [← HI.out.len]; exact hlt
      obtain ⟨a, rfl, c0⟩ := (RowN.keepAt HI.out.at_ HK.out (fun h0 a ha => HF.out (by omega) a ha)) j hjl
      have hfn := HI.out.fine (l.getD j 0) (by simp [hjl])
      have HT := Lib.hid (textF_takeO hjl)
      obtain ⟨r, hr⟩ : ∃ r, r = l.getD j 0 := ⟨_, rfl⟩
      rw [← hr] at c0 hfn HT
      clear hr
      have HL : Hid ((xs ++ textF (l.take j)).length ≤ 110000000) := Lib.hid (by
        have := HX.out
        rw [List.length_append, textF_length, List.length_take]
        omega)
      have HE := Lib.hid (bufEightK base g (xs ++ textF (l.take j)) (r : Int) wr HB.out (by have := HK.out.size; omega) (by have := HL.out; omega) (by omega) (by omega))
      clear hfn hjl HB
      go_wp2_with fail
      refine HE.out.mono ?_
      rintro e w2 ⟨rfl, hb, hk⟩
      have HB2 := Lib.hid hb
      have HK2 := Lib.hid (HK.out.trans hk)
      clear hb hk HE
      go_wp2_with fail
      go_roundw
      case rel =>
        refine ⟨j + 1, by omega, by go_num, Lib.hid ?_, Lib.hid HK2.out⟩
        rw [HT.out, ← List.append_assoc]
        exact HB2.out
      case measure => simp [intOf]; omega
    · have hdj : decide ((j : Int) < (n : Int)) = false := decide_eq_false (by omega)
      have HE : Hid (l.take j = l) := Lib.hid (List.take_of_length_le (by have := HI.out.len; omega))
      rw [HE.out] at HB
      go_wp2_with fail
      go_returns
      exact ⟨rfl, HB.out, HK.out⟩
end Go.Proofs.Ytidhcmamfdipiaa

namespace Go.Proofs.Ytidhcmamfdipiaa
open Go.RowKit Go.Shelf
attribute [local go_sem] Oper.semAt_some

/-- A block of entries, as far as its first one's Hash: where that lies in the world w. -/
structure Blk (w : World) where
  q : Option Addr
  n : Nat
  d : Nat
  h : Nat
  hn : 0 < n
  hd : n ≤ d
  hd' : d ≤ 9223372036854775807
  hq : ∃ a : Addr, q = some a ∧ w.cell? a = some (.int .u64 (h : Int))

/-- The first Hashes of the first j blocks. -/
def headsF (l : List En) (j : Nat) : List Nat := (List.range j).map fun i => (l.getD (16 * i) En.none).hash
theorem headsF_snoc (l : List En) (j : Nat) : headsF l (j + 1) = headsF l j ++ [(l.getD (16 * j) En.none).hash] := by
  unfold headsF
  rw [List.range_succ, List.map_append, List.map_singleton]
theorem headsF_more (l : List En) (e : En) (j : Nat) (hj : 16 * j < l.length + 16) : headsF (l ++ [e]) j = headsF l j := by
  unfold headsF
  apply List.map_congr_left
  intro i hi
  have := List.mem_range.1 hi
  rw [List.getD_eq_getElem?_getD, List.getD_eq_getElem?_getD, List.getElem?_append_left (by omega)]
theorem ofF_heads_rev : ∀ l : List En, ofF l.reverse = headsF l.reverse ((l.length + 15) / 16)
  | [] => rfl
  | e :: l => by
    have ih := ofF_heads_rev l
    have hl : l.reverse.length = l.length := List.length_reverse
    rw [List.reverse_cons, ofF_snoc, ih, hl, List.length_cons]
    by_cases h : l.length % 16 = 0
    · rw [if_pos h, show (l.length + 1 + 15) / 16 = (l.length + 15) / 16 + 1 by omega, headsF_snoc, headsF_more _ e _ (by omega)]
      have e1 : 16 * ((l.length + 15) / 16) = l.reverse.length := by omega
      rw [e1]
      simp
    · rw [if_neg h, show (l.length + 1 + 15) / 16 = (l.length + 15) / 16 by omega, headsF_more _ e _ (by omega)]
theorem ofF_heads (l : List En) : ofF l = headsF l ((l.length + 15) / 16) := by
  have := ofF_heads_rev l.reverse
  rwa [List.reverse_reverse, List.length_reverse] at this

/-- What a round of the caller's body leaves: the blocks below n₀, and block B. -/
def KeepB (n₀ B : Nat) (W W' : World) : Prop := Below n₀ W W' ∧ W'.heap[B]? = W.heap[B]?
theorem KeepB.refl (n₀ B : Nat) (W : World) : KeepB n₀ B W W := ⟨Below.refl _ _, rfl⟩
theorem keepB_t {n₀ B : Nat} {A C D : World} (h : KeepB n₀ B A C) (k : KeepB n₀ B C D) : KeepB n₀ B A D := ⟨h.1.trans k.1, k.2.trans h.2⟩
theorem keepB_b {n₀ B : Nat} {w : World} (hn : n₀ ≤ w.heap.size) (hB : B < w.heap.size) (W : World) (l : Nat) (o o' : Obj) (hl : w.heap.size ≤ l) (h : W.heap[l]? = some o) (h1 : o.isCells = false) (h2 : o.isWalk = false) : KeepB n₀ B W (W.putObj l o') :=
  ⟨belowK_b hn W l o o' hl h h1 h2, World.putObj_heap_other (by omega)⟩

set_option maxRecDepth 100000 in
set_option maxHeartbeats 2000000 in
theorem iter_blocks (n : Nat) (hn : 1 ≤ n) (l B : Nat) (w0 : World) (p : Option Addr) (N c : Nat) (xs : List En) (hx : N = xs.length) (hc : N ≤ c) (hc' : c ≤ 9223372036854775807) (hN9 : N ≤ 1000000) (hb : EnsAt w0 p xs)
    (J Jx : List (Blk w0) → World → Prop)
    (hY : ∀ pre x W, J pre W → pre.length < N + 1 → YieldAt Fence.wide (n - 1) Try.prog l #[.slice x.q x.n x.d] W fun e W' =>
      (e = .returned (.bool true) ∧ J (pre ++ [x]) W' ∧ KeepB w0.heap.size B W W') ∨ (e = .returned (.bool false) ∧ Jx (pre ++ [x]) W'))
    (W : World) (hB : W.cell? ⟨B, 0, none⟩ = some (.slice p N c)) (h0 : J [] W) :
    CallsIn Fence.wide n Try.prog 54 #[.func (.yield l) #[] #[], .pointer (some ⟨B, 0, none⟩)] W fun e W' => (∃ v, e = .returned v) ∧
      ((∃ ys, ys.map Blk.h = ofF xs ∧ J ys W') ∨ (∃ pre, Jx pre W')) := by
  have HX := Lib.hid hx
  have HBY := Lib.hid hb
  have HB0 := Lib.hid hB
  clear hx hb
  refine callsIn_of_wp Try.func54 rfl trivial ?_ rfl
  simp only [Try.ntmps54, List.size_toArray, List.length_cons, List.length_nil, Nat.reduceAdd, Nat.reduceSub, Array.replicate_succ, Array.replicate_zero, List.push_toArray, List.append_toArray, List.nil_append, List.cons_append]
  gi_wp2
  gi_loopw [3] (fun v wr => ∃ (pre : List (Blk w0)) (j : Nat), v = .int .i64 ((16 * j : Nat) : Int) ∧ 16 * j < N + 16 ∧ pre.length = j ∧ pre.map Blk.h = headsF xs j ∧ J pre wr ∧ KeepB w0.heap.size B W wr)
    (fun v _ => N + 16 - (intOf v).toNat)
  case atStart =>
    exact ⟨[], 0, rfl, by omega, rfl, rfl, h0, KeepB.refl _ _ _⟩
  case round =>
    obtain ⟨pre, j, rfl, hj, hlen, hg, hJ, hBel⟩ := hrel
    have cB : wr.cell? ⟨B, 0, none⟩ = some (.slice p N c) := (cellOfBlock (a := ⟨B, 0, none⟩) hBel.2).trans hB
    by_cases hlt : 16 * j < N
    · have hdj : decide (((16 * j : Nat) : Int) < (N : Int)) = true := decide_eq_true (by omega)
      obtain ⟨a, rfl, c0, _⟩ := HBY.out.at_ (16 * j) (by have := HX.out; omega)
      have hsn := headsF_snoc xs j
      rw [← hg] at hsn
      obtain ⟨h, hh⟩ : ∃ h, h = (xs.getD (16 * j) En.none).hash := ⟨_, rfl⟩
      rw [← hh] at c0 hsn
      have HSn := Lib.hid hsn
      have hl1 : pre.length < N + 1 := by omega
      obtain ⟨f, hf⟩ : ∃ f, f = 16 * j := ⟨_, rfl⟩
      have HF := Lib.hid hf
      rw [← hf] at hdj hlt hj c0 ⊢
      have HJ := Lib.hid hlen
      clear hf hh hsn hg hlen
      by_cases hm : f + 16 ≤ N
      · obtain ⟨x, hxq, hxn, hxd, hxh⟩ : ∃ x : Blk w0, x.q = some (a.add (f * 2)) ∧ x.n = 16 ∧ x.d = c - f ∧ x.h = h := ⟨{ q := some (a.add (f * 2)), n := 16, d := c - f, h := h, hn := by omega, hd := by omega, hd' := by omega, hq := ⟨_, rfl, c0⟩ }, rfl, rfl, rfl, rfl⟩
        obtain ⟨fn, tmps, assign, body, hy, hR⟩ := hY pre x wr hJ hl1
        rw [hxq, hxn, hxd] at hy
        have HRR := Lib.hid hR
        have HXH := Lib.hid hxh
        have hm1 : (f : Int) + 16 ≤ (N : Int) := by omega
        clear hR hY hxh hJ hxq hxn hxd c0
        gi_wp2
        refine HRR.out.mono ?_
        rintro e W3 (⟨rfl, hJ3, hk3⟩ | ⟨rfl, hJx3⟩)
        · have HJ3 := Lib.hid hJ3
          have HB3 := Lib.hid (keepB_t hBel hk3)
          clear hJ3 hk3 hBel
          gi_wp2
          exact ⟨⟨pre ++ [x], j + 1, by rw [HF.out]; go_num, by have := HF.out; omega, by rw [List.length_append, List.length_singleton, HJ.out], by rw [List.map_append, List.map_singleton, HXH.out, ← HSn.out], HJ3.out, HB3.out⟩, by simp [intOf]; omega⟩
        · gi_wp2
          go_returns
          exact ⟨⟨_, rfl⟩, .inr ⟨pre ++ [x], hJx3⟩⟩
      · obtain ⟨x, hxq, hxn, hxd, hxh⟩ : ∃ x : Blk w0, x.q = some (a.add (f * 2)) ∧ x.n = N - f ∧ x.d = c - f ∧ x.h = h := ⟨{ q := some (a.add (f * 2)), n := N - f, d := c - f, h := h, hn := by omega, hd := by omega, hd' := by omega, hq := ⟨_, rfl, c0⟩ }, rfl, rfl, rfl, rfl⟩
        obtain ⟨fn, tmps, assign, body, hy, hR⟩ := hY pre x wr hJ hl1
        rw [hxq, hxn, hxd] at hy
        have HRR := Lib.hid hR
        have HXH := Lib.hid hxh
        have hm1 : ¬ (f : Int) + 16 ≤ (N : Int) := by omega
        clear hR hY hxh hJ hxq hxn hxd c0
        gi_wp2
        refine HRR.out.mono ?_
        rintro e W3 (⟨rfl, hJ3, hk3⟩ | ⟨rfl, hJx3⟩)
        · have HJ3 := Lib.hid hJ3
          have HB3 := Lib.hid (keepB_t hBel hk3)
          clear hJ3 hk3 hBel
          gi_wp2
          exact ⟨⟨pre ++ [x], j + 1, by rw [HF.out]; go_num, by have := HF.out; omega, by rw [List.length_append, List.length_singleton, HJ.out], by rw [List.map_append, List.map_singleton, HXH.out, ← HSn.out], HJ3.out, HB3.out⟩, by simp [intOf]; omega⟩
        · gi_wp2
          go_returns
          exact ⟨⟨_, rfl⟩, .inr ⟨pre ++ [x], hJx3⟩⟩
    · have hdj : decide (((16 * j : Nat) : Int) < (N : Int)) = false := decide_eq_false (by omega)
      have HE : Hid (pre.map Blk.h = ofF xs) := Lib.hid (by rw [hg, ofF_heads]; congr 1; have := HX.out; omega)
      obtain ⟨f, hf⟩ : ∃ f, f = 16 * j := ⟨_, rfl⟩
      rw [← hf] at hdj hlt hj ⊢
      clear hf hlen hg
      gi_wp2
      go_returns
      exact ⟨⟨_, rfl⟩, .inl ⟨pre, HE.out, hJ⟩⟩
end Go.Proofs.Ytidhcmamfdipiaa

namespace Go.Proofs.Ytidhcmamfdipiaa
open Go.RowKit

/-- What a slice of bytes is. -/
structure In8 (w : World) (p : Option Addr) (N c : Nat) (xs : List Int) : Prop where
  len : N = xs.length
  cap : N ≤ c
  room : c ≤ 9223372036854775807
  bare : p = none → N = 0 ∧ c = 0
  oct : Octets xs
  at_ : Bytes8 w p xs

theorem In8.nil (w : World) : In8 w none 0 0 [] := ⟨rfl, Nat.le_refl _, by decide, fun _ => ⟨rfl, rfl⟩, fun b hb => by simp at hb, Bytes8.nil _ _⟩

theorem Bytes8.left {w : World} {p : Option Addr} {xs ys : List Int} (h : Bytes8 w p (xs ++ ys)) : Bytes8 w p xs := fun h0 => by
  obtain ⟨a, ha, hc⟩ := h (by rw [List.length_append]; omega)
  refine ⟨a, ha, fun i hi => ?_⟩
  rw [hc i (by rw [List.length_append]; omega), List.getD_eq_getElem?_getD, List.getD_eq_getElem?_getD, List.getElem?_append_left hi]

theorem cell_new (w : World) (cs : Array Value) (t : TypeId) (f : Nat × Nat) (i : Nat) {v : Value} (h : cs[i]? = some v) : (w.alloc (.cells cs t f)).cell? ⟨w.heap.size, i, none⟩ = some v := by
  have e : (w.alloc (.cells cs t f)).heap[w.heap.size]? = some (.cells cs t f) := by
    show (w.heap.push _)[w.heap.size]? = _
    simp
  unfold World.cell?
  simp only [e]
  simpa using h
end Go.Proofs.Ytidhcmamfdipiaa

namespace Go.Proofs.Ytidhcmamfdipiaa
open Go.RowKit

/-- Where the document's loop stands behind k bytes: what is written, what stands open. -/
def StuffAt (xs : List Int) (k : Nat) (O N : List Int) : Prop :=
  (k ≤ xs.length → ∃ F : Bool, O ++ stuffGo N F (xs.drop k) = stuff xs ∧ N.length < 254 ∧ (F = true ↔ (N = [] ∧ 0 < k ∧ xs.getD (k - 1) 0 ≠ 0))) ∧ (k = xs.length + 1 → O = stuff xs ∧ N = [])

theorem StuffAt.start (xs : List Int) : StuffAt xs 0 [] [] :=
  ⟨fun _ => ⟨false, rfl, by decide, by simp⟩, fun h => by omega⟩
theorem drop_cons_getD (xs : List Int) (k : Nat) (h : k < xs.length) : xs.drop k = xs.getD k 0 :: xs.drop (k + 1) := by
  rw [List.drop_eq_getElem_cons h]
  simp [h]
theorem StuffAt.nought {xs : List Int} {k : Nat} {O N : List Int} (h : StuffAt xs k O N) (hk : k < xs.length) (h0 : xs.getD k 0 = 0) : StuffAt xs (k + 1) (O ++ ((N.length + 1 : Nat) : Int) :: N) [] := by
  obtain ⟨F, h1, h2, h3⟩ := h.1 (by omega)
  refine ⟨fun _ => ⟨false, ?_, by decide, ?_⟩, fun h => by omega⟩
  · rw [← h1, drop_cons_getD xs k hk, stuffGo, if_pos h0, List.append_assoc]
  · rw [Nat.add_sub_cancel, h0]; simp
theorem StuffAt.other {xs : List Int} {k : Nat} {O N : List Int} (h : StuffAt xs k O N) (hk : k < xs.length) (h0 : xs.getD k 0 ≠ 0) (hl : N.length + 1 ≠ 254) : StuffAt xs (k + 1) O (N ++ [xs.getD k 0]) := by
  obtain ⟨F, h1, h2, h3⟩ := h.1 (by omega)
  refine ⟨fun _ => ⟨false, ?_, by simp; omega, by simp⟩, fun h => by omega⟩
  rw [← h1, drop_cons_getD xs k hk, stuffGo, if_neg h0, if_neg hl]
theorem StuffAt.whole {xs : List Int} {k : Nat} {O N : List Int} (h : StuffAt xs k O N) (hk : k < xs.length) (h0 : xs.getD k 0 ≠ 0) (hl : N.length + 1 = 254) : StuffAt xs (k + 1) (O ++ 255 :: (N ++ [xs.getD k 0])) [] := by
  obtain ⟨F, h1, h2, h3⟩ := h.1 (by omega)
  refine ⟨fun _ => ⟨true, ?_, by decide, ?_⟩, fun h => by omega⟩
  · rw [← h1, drop_cons_getD xs k hk, stuffGo, if_neg h0, if_pos hl, List.append_assoc]
  · rw [Nat.add_sub_cancel]; simpa using h0
theorem StuffAt.atEnd {xs : List Int} {O N : List Int} (h : StuffAt xs xs.length O N) (he : ¬ (N = [] ∧ 0 < xs.length ∧ xs.getD (xs.length - 1) 0 ≠ 0)) : StuffAt xs (xs.length + 1) (O ++ ((N.length + 1 : Nat) : Int) :: N) [] := by
  obtain ⟨F, h1, h2, h3⟩ := h.1 (Nat.le_refl _)
  refine ⟨fun h => by omega, fun _ => ⟨?_, rfl⟩⟩
  have hF : F = false := by
    cases F with
    | false => rfl
    | true => exact absurd (h3.1 rfl) he
  rw [← h1, List.drop_length, hF, stuffGo, if_neg (by simp)]
theorem StuffAt.atBreak {xs : List Int} {O : List Int} (h : StuffAt xs xs.length O []) (he : 0 < xs.length ∧ xs.getD (xs.length - 1) 0 ≠ 0) : O = stuff xs := by
  obtain ⟨F, h1, h2, h3⟩ := h.1 (Nat.le_refl _)
  rw [List.drop_length, h3.2 ⟨rfl, he⟩, stuffGo, if_pos rfl, List.append_nil] at h1
  exact h1
theorem StuffAt.bound {xs : List Int} {k : Nat} {O N : List Int} (h : StuffAt xs k O N) (hk : k ≤ xs.length + 1) : O.length ≤ mostOf xs.length ∧ N.length < 254 := by
  have hm := stuff_most xs
  by_cases hke : k = xs.length + 1
  · obtain ⟨h1, h2⟩ := h.2 hke
    rw [h1, h2]
    exact ⟨hm, by decide⟩
  · obtain ⟨F, h1, h2, _⟩ := h.1 (by omega)
    rw [← h1, List.length_append] at hm
    exact ⟨by omega, h2⟩

theorem StuffAt.atEnd' {xs : List Int} {O N : List Int} {k : Nat} (h : StuffAt xs k O N) (hk : k = xs.length) (he : ¬ (N = [] ∧ 0 < k ∧ xs.getD (k - 1) 0 ≠ 0)) : StuffAt xs (k + 1) (O ++ ((N.length + 1 : Nat) : Int) :: N) [] := by
  subst hk; exact h.atEnd he
theorem StuffAt.atBreak' {xs : List Int} {O : List Int} {k : Nat} (h : StuffAt xs k O []) (hk : k = xs.length) (he : 0 < k ∧ xs.getD (k - 1) 0 ≠ 0) : O = stuff xs := by
  subst hk; exact h.atBreak he

theorem str_empty (xs : List Int) : (strOfNums xs).toList.isEmpty = xs.isEmpty := by
  have h : (strOfNums xs).toList = (strOfNums xs).data.toList := ByteArray.toList_eq _
  rw [h]
  unfold strOfNums
  cases xs <;> simp

theorem mostOf_le (n : Nat) : mostOf n ≤ 2 * n + 1 := by
  unfold mostOf
  split <;> omega

end Go.Proofs.Ytidhcmamfdipiaa

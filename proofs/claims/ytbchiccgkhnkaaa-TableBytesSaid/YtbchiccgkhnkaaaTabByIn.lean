/-
  The readings of the law TableBytes.
-/
import Derived.Test.YtbchiccgkhnkaaaTabLaws
import Derived.Test.YtbchiccgkhnkaaaCurE
import Derived.Test.YtbchiccgkhnkaaaFrNum
import Derived.Test.YtbchiccgkhnkaaaCurF
namespace Go.Proofs.Ytbchiccgkhnkaaa
open Go.RowKit

/-- The entries that were put are got, if they rise. -/
theorem takeE_text : ∀ {l : List En}, (∀ e ∈ l, e.Fine) → ∀ xs, takeE l.length (textE l ++ xs) = l
  | [], _, xs => rfl
  | e :: l, hf, xs => by
    have he := hf e List.mem_cons_self
    have h8 : (digits (e.hash : Int) 8).length = 8 := digits_length _ 8
    have h4 : (digits (e.at_ : Int) 4).length = 4 := digits_length _ 4
    have e1 : (textE (e :: l) ++ xs).take 8 = digits (e.hash : Int) 8 := by
      rw [textE, List.append_assoc, List.append_assoc]
      exact List.take_left' h8
    have e2 : ((textE (e :: l) ++ xs).drop 8).take 4 = digits (e.at_ : Int) 4 := by
      rw [textE, List.append_assoc, List.append_assoc, List.drop_left' h8, List.take_left' h4]
    have e3 : (textE (e :: l) ++ xs).drop 12 = textE l ++ xs := by
      rw [textE, List.append_assoc]
      exact List.drop_left' (by rw [List.length_append, h8, h4])
    rw [List.length_cons, takeE, e1, e2, e3, takeE_text (fun x hx => hf x (List.mem_cons_of_mem _ hx)) xs, le_digits9, le_digits9]
    have a1 := he.hash
    have a2 := he.at_
    have b1 : (((e.hash % 2 ^ (8 * 8) : Nat) : Int)).toNat = e.hash := by rw [Int.toNat_natCast]; omega
    have b2 : (((e.at_ % 2 ^ (8 * 4) : Nat) : Int)).toNat = e.at_ := by rw [Int.toNat_natCast]; omega
    rw [b1, b2]
theorem getE_text {l : List En} (hf : ∀ e ∈ l, e.Fine) : getE (l.length : Int) (textE l) = if risesE l = true then ⟨12 * l.length, 0, l⟩ else ⟨12 * l.length, 8, []⟩ := by
  have ht := takeE_text hf []
  rw [List.append_nil] at ht
  unfold getE
  by_cases h0 : (l.length : Int) ≤ 0
  · obtain rfl : l = [] := List.length_eq_zero_iff.1 (by omega)
    rfl
  · rw [if_neg h0, Int.toNat_natCast, if_neg (by rw [textE_length]; omega), ht]

/-- What a reading of entries leaves in block D. -/
def LeftE (w0 : World) (D : Nat) (t : GE) (w2 : World) : Prop :=
  Keeps (Just D) w0 w2 ∧ (t.y = 0 → ∃ (q : Option Addr) (m d : Nat), Whole w2 D 22 #[.slice q m d] ∧ m = t.l.length ∧ m ≤ d ∧ d ≤ 9223372036854775807 ∧ (q = none → m = 0 ∧ d = 0) ∧ EnsAt w2 q t.l ∧ (0 < m → ∀ a, q = some a → w0.heap.size + 1 + 1 + 1 + 1 ≤ a.block))

theorem Begun.storeAt {w0 : World} {p : Option Addr} {N c a : Nat} {y : Int} {W : World} (h : Begun w0 p N c a y W) {D : Nat} (hD : D < w0.heap.size) (v : Value) : Begun w0 p N c a y (W.setCell ⟨D, 0, none⟩ v) :=
  ⟨h.at_.setOther (by simp; omega) v, h.why.setOther (by simp; omega) v, Whole.setOther h.cur (by simp; omega) v, h.var.setOther (by simp; omega) v⟩
theorem enter_tb1 (args : Array Value) (w : World) : (callFunc 19 args).run Try.prog w = .ok (.enter 19 args) w := by kernel_rfl
theorem enter_tb2 (args : Array Value) (w : World) : (callFunc 23 args).run Try.prog w = .ok (.enter 23 args) w := by kernel_rfl

set_option maxHeartbeats 2000000 in
set_option maxRecDepth 10000 in
theorem tb2In (H : BytesOk) (w0 W : World) (A D : Nat) (z : Int) (p : Option Addr) (xs : List Int) (N c : Nat) (hx : N = xs.length) (hN9 : N ≤ 1000000) (hB : Begun w0 p N c 0 0 W) (hK : Keeps NoBlock w0 W) (hsz : W.heap.size = w0.heap.size + 1 + 1 + 1 + 1) (hA : Whole W A 3 #[.int .i64 z]) (hD : Whole W D 22 #[.slice none 0 0]) (hDlt : D < w0.heap.size) (hb : Bytes8 W p xs) (ho : Octets xs)
    (hp : 0 < xs.length → ∀ q, p = some q → q.block < w0.heap.size) (hc : N ≤ c) (hc' : c ≤ 9223372036854775807) :
    Calls Try.prog 23 (#[.pointer (some ⟨w0.heap.size + 1 + 1, 0, none⟩)] ++ #[.pointer (some ⟨A, 0, none⟩), .pointer (some ⟨D, 0, none⟩)]) W (ReadEnds w0 p N c (getE z xs).m (getE z xs).y (LeftE w0 D (getE z xs))) := by
  have hg := H.get (w0.heap.size + 1 + 1) p xs N c 0 z W hx hB.cur hb ho (fun h0 q hq => by have := hp h0 q hq; omega) (Nat.zero_le _) hc hc' hN9
  rw [List.drop_zero] at hg
  obtain ⟨t, ht⟩ : ∃ t, t = getE z xs := ⟨_, rfl⟩
  rw [← ht] at hg ⊢
  have a0 := hA.cell 0 rfl
  simp only [List.getElem_toArray, List.getElem_cons_zero] at a0
  have HG := Lib.hid hg; have HB := Lib.hid hB; have HK := Lib.hid hK; have HD := Lib.hid hD; have HSz := Lib.hid hsz
  clear hg hB hK hD hA hb ho hp hx hc hc' ht hsz hN9
  simp only [List.append_toArray, List.nil_append, List.cons_append]
  go_enter Try.func23, Try.ntmps23
  go_wp2_with fail
  refine HG.out.mono ?_
  rintro e w1 ⟨hk, ⟨hy, ⟨v, rfl, q, m, d, rfl, hm, hmd, hdd, hq, hat, hnew⟩, hcur⟩ | ⟨hy, rfl, hcur⟩⟩
  · rw [Nat.zero_add] at hcur
    have hD1 := HD.out.keep hk (by unfold Just; omega)
    have d0 := hD1.cell 0 rfl
    have f0 := hD1.free 0
    simp only [List.getElem_toArray, List.getElem_cons_zero] at d0
    have HB1 := Lib.hid ((HB.out.keep hk hcur).storeAt hDlt (.slice q m d))
    have HR := Lib.hid (show Keeps (Just D) w0 (w1.setCell ⟨D, 0, none⟩ (.slice q m d)) from ((HK.out.wider (S' := Just D) (fun _ _ h => h.elim)).then hk (fun i hi h => by unfold Just at h; omega)).setIn (Just.self D) 0 _)
    have HD2 := Lib.hid (hD1.set 0 (.slice q m d))
    have HE := Lib.hid (EnsAt.keepFar hat ((Keeps.refl (Just D) w1).setIn (Just.self D) 0 (.slice q m d)) (fun h0 a ha => by have := hnew (by omega) a ha; have := HSz.out; unfold Just; omega))
    have HNew := Lib.hid (show 0 < m → ∀ a, q = some a → w0.heap.size + 1 + 1 + 1 + 1 ≤ a.block from fun h0 a ha => by have := hnew h0 a ha; have := HSz.out; omega)
    have HM := Lib.hid (And.intro hm (And.intro hmd (And.intro hdd hq)))
    have HY := Lib.hid hy
    clear hk hcur hD1 HG hat hnew hm hmd hdd hq hy
    go_wp2_with fail
    go_returns
    exact ⟨.inl rfl, by rw [HY.out]; exact HB1.out, HR.out, fun _ => ⟨q, m, d, HD2.out, HM.out.1, HM.out.2.1, HM.out.2.2.1, HM.out.2.2.2, HE.out, HNew.out⟩⟩
  · rw [Nat.zero_add] at hcur
    exact ⟨rfl, .inr (gave_given _), HB.out.keep hk hcur, (HK.out.wider (S' := Just D) (fun _ _ h => h.elim)).then hk (fun i hi h => by unfold Just at h; omega), fun h => absurd h hy⟩

set_option maxHeartbeats 2000000 in
set_option maxRecDepth 10000 in
theorem tb1In (H : BytesOk) (w0 W : World) (A D : Nat) (pa : Option Addr) (z ca : Nat) (p : Option Addr) (xs : List Int) (N c : Nat) (hx : N = xs.length) (hN9 : N ≤ 1000000) (hB : Begun w0 p N c 0 0 W) (hK : Keeps NoBlock w0 W) (hsz : W.heap.size = w0.heap.size + 1 + 1 + 1 + 1) (hA : Whole W A 22 #[.slice pa z ca]) (hD : Whole W D 22 #[.slice none 0 0]) (hDlt : D < w0.heap.size) (hb : Bytes8 W p xs) (ho : Octets xs)
    (hp : 0 < xs.length → ∀ q, p = some q → q.block < w0.heap.size) (hc : N ≤ c) (hc' : c ≤ 9223372036854775807) (hend : (getE (z : Int) xs).y = 0 → (getE (z : Int) xs).m = N) :
    Calls Try.prog 19 (#[.pointer (some ⟨w0.heap.size + 1 + 1, 0, none⟩)] ++ #[.pointer (some ⟨A, 0, none⟩), .pointer (some ⟨D, 0, none⟩)]) W (ReadEnds w0 p N c (getE (z : Int) xs).m (getE (z : Int) xs).y (LeftE w0 D (getE (z : Int) xs))) := by
  have hg := H.get (w0.heap.size + 1 + 1) p xs N c 0 (z : Int) W hx hB.cur hb ho (fun h0 q hq => by have := hp h0 q hq; omega) (Nat.zero_le _) hc hc' hN9
  rw [List.drop_zero] at hg
  obtain ⟨t, ht⟩ : ∃ t, t = getE (z : Int) xs := ⟨_, rfl⟩
  rw [← ht] at hg hend ⊢
  have hN63 : (N : Int) ≤ 9223372036854775807 := by omega
  have HEnd := Lib.hid hend
  have a0 := hA.cell 0 rfl
  simp only [List.getElem_toArray, List.getElem_cons_zero] at a0
  have HG := Lib.hid hg; have HB := Lib.hid hB; have HK := Lib.hid hK; have HD := Lib.hid hD; have HSz := Lib.hid hsz
  clear hg hB hK hD hA hb ho hp hx hc hc' ht hsz hN9 hend
  simp only [List.append_toArray, List.nil_append, List.cons_append]
  go_enter Try.func19, Try.ntmps19
  go_wp2_with fail
  refine HG.out.mono ?_
  rintro e w1 ⟨hk, ⟨hy, ⟨v, rfl, q, m, d, rfl, hm, hmd, hdd, hq, hat, hnew⟩, hcur⟩ | ⟨hy, rfl, hcur⟩⟩
  · rw [Nat.zero_add] at hcur
    have hD1 := HD.out.keep hk (by unfold Just; omega)
    have d0 := hD1.cell 0 rfl
    have f0 := hD1.free 0
    simp only [List.getElem_toArray, List.getElem_cons_zero] at d0
    have HB1 := Lib.hid ((HB.out.keep hk hcur).storeAt hDlt (.slice q m d))
    have HR := Lib.hid (show Keeps (Just D) w0 (w1.setCell ⟨D, 0, none⟩ (.slice q m d)) from ((HK.out.wider (S' := Just D) (fun _ _ h => h.elim)).then hk (fun i hi h => by unfold Just at h; omega)).setIn (Just.self D) 0 _)
    have HD2 := Lib.hid (hD1.set 0 (.slice q m d))
    have HE := Lib.hid (EnsAt.keepFar hat ((Keeps.refl (Just D) w1).setIn (Just.self D) 0 (.slice q m d)) (fun h0 a ha => by have := hnew (by omega) a ha; have := HSz.out; unfold Just; omega))
    have HNew := Lib.hid (show 0 < m → ∀ a, q = some a → w0.heap.size + 1 + 1 + 1 + 1 ≤ a.block from fun h0 a ha => by have := hnew h0 a ha; have := HSz.out; omega)
    have HM := Lib.hid (And.intro hm (And.intro hmd (And.intro hdd hq)))
    have HY := Lib.hid hy
    clear hk hcur hD1 HG hat hnew hm hmd hdd hq hy
    go_wp2_with fail
    refine (end_whole (w0.heap.size + 1 + 1) p N c 0 _ (by have h := HB1.out.cur; rwa [HEnd.out HY.out] at h) hN63).mono ?_
    rintro e w2 ⟨rfl, hcur, hk⟩
    have HB2 := Lib.hid (HB1.out.keep (hk.wider (fun _ _ h => h.elim)) (show CurB w2 (w0.heap.size + 1 + 1) p N c t.m true 0 by rw [HEnd.out HY.out]; exact hcur))
    have HR2 := Lib.hid (HR.out.trans (hk.wider (fun _ _ h => h.elim)))
    have HD3 := Lib.hid (HD2.out.keep hk (fun h => h))
    have HE2 := Lib.hid (EnsAt.keep HE.out hk)
    clear hk hcur
    go_wp2_with fail
    go_returns
    exact ⟨.inl rfl, by rw [HY.out]; exact HB2.out, HR2.out, fun _ => ⟨q, m, d, HD3.out, HM.out.1, HM.out.2.1, HM.out.2.2.1, HM.out.2.2.2, HE2.out, HNew.out⟩⟩
  · rw [Nat.zero_add] at hcur
    exact ⟨rfl, .inr (gave_given _), HB.out.keep hk hcur, (HK.out.wider (S' := Just D) (fun _ _ h => h.elim)).then hk (fun i hi h => by unfold Just at h; omega), fun h => absurd h hy⟩

/-- Run, with the reading of entries into block D. -/
theorem run_tb2 (H : BytesOk) (w0 : World) (A D : Nat) (z : Int) (p : Option Addr) (xs : List Int) (N c : Nat) (hx : N = xs.length) (hN9 : N ≤ 1000000) (hA : Whole w0 A 3 #[.int .i64 z]) (hD : Whole w0 D 22 #[.slice none 0 0]) (hb : Bytes8 w0 p xs) (ho : Octets xs) (hc : N ≤ c) (hc' : c ≤ 9223372036854775807) :
    Calls Try.prog 17 #[.slice p N c, .func (.func 23) #[] #[.pointer (some ⟨A, 0, none⟩), .pointer (some ⟨D, 0, none⟩)]] w0 fun e w' => e = .returned (.tuple #[.int .i64 ((getE z xs).m : Int), .int .i64 (getE z xs).y]) ∧ LeftE w0 D (getE z xs) w' := by
  refine (run_any _ _ p N c (getE z xs).m (getE z xs).y _ w0 enter_tb2 (fun W hB hK hsz => tb2In H w0 W A D z p xs N c hx hN9 hB hK hsz (hA.keep hK (fun h => h)) (hD.keep hK (fun h => h)) hD.lt (hb.keep hK (fun _ _ h => h)) ho (fun h0 q hq => by
    obtain ⟨a, ha, hcell⟩ := hb h0
    obtain rfl := Option.some.inj (hq.symm.trans ha)
    have := ltOfCell (hcell 0 h0)
    rwa [addBlock] at this) hc hc')).mono ?_
  rintro e w' ⟨rfl, w2, ⟨hR1, hR2⟩, hT⟩
  have hDl := hD.lt
  refine ⟨rfl, hR1.then hT.2.2.2.2 (fun i hi h => by unfold Just; omega), fun h => ?_⟩
  obtain ⟨q, m, d, h1, h2, h3, h4, h5, h6, h7⟩ := hR2 h
  exact ⟨q, m, d, h1.keep hT.2.2.2.2 (by omega), h2, h3, h4, h5, EnsAt.keepFar h6 hT.2.2.2.2 (fun h0 a ha => by have := h7 (by omega) a ha; omega), h7⟩

/-- Run, with the reading of entries into block D. -/
theorem run_tb1 (H : BytesOk) (w0 : World) (A D : Nat) (pa : Option Addr) (z ca : Nat) (p : Option Addr) (xs : List Int) (N c : Nat) (hx : N = xs.length) (hN9 : N ≤ 1000000) (hA : Whole w0 A 22 #[.slice pa z ca]) (hD : Whole w0 D 22 #[.slice none 0 0]) (hb : Bytes8 w0 p xs) (ho : Octets xs) (hc : N ≤ c) (hc' : c ≤ 9223372036854775807) (hend : (getE (z : Int) xs).y = 0 → (getE (z : Int) xs).m = N) :
    Calls Try.prog 17 #[.slice p N c, .func (.func 19) #[] #[.pointer (some ⟨A, 0, none⟩), .pointer (some ⟨D, 0, none⟩)]] w0 fun e w' => e = .returned (.tuple #[.int .i64 ((getE (z : Int) xs).m : Int), .int .i64 (getE (z : Int) xs).y]) ∧ LeftE w0 D (getE (z : Int) xs) w' := by
  refine (run_any _ _ p N c (getE (z : Int) xs).m (getE (z : Int) xs).y _ w0 enter_tb1 (fun W hB hK hsz => tb1In H w0 W A D pa z ca p xs N c hx hN9 hB hK hsz (hA.keep hK (fun h => h)) (hD.keep hK (fun h => h)) hD.lt (hb.keep hK (fun _ _ h => h)) ho (fun h0 q hq => by
    obtain ⟨a, ha, hcell⟩ := hb h0
    obtain rfl := Option.some.inj (hq.symm.trans ha)
    have := ltOfCell (hcell 0 h0)
    rwa [addBlock] at this) hc hc' hend)).mono ?_
  rintro e w' ⟨rfl, w2, ⟨hR1, hR2⟩, hT⟩
  have hDl := hD.lt
  refine ⟨rfl, hR1.then hT.2.2.2.2 (fun i hi h => by unfold Just; omega), fun h => ?_⟩
  obtain ⟨q, m, d, h1, h2, h3, h4, h5, h6, h7⟩ := hR2 h
  exact ⟨q, m, d, h1.keep hT.2.2.2.2 (by omega), h2, h3, h4, h5, EnsAt.keepFar h6 hT.2.2.2.2 (fun h0 a ha => by have := h7 (by omega) a ha; omega), h7⟩
end Go.Proofs.Ytbchiccgkhnkaaa

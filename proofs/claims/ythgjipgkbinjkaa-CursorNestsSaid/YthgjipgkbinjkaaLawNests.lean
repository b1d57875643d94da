/-
  The law CursorNests: a reading within a reading, in its four cases.
-/
import Derived.Test.YthgjipgkbinjkaaLawLives
namespace Go.Proofs.Ythgjipgkbinjkaa
open Go.RowKit

theorem enterNestOut (args : Array Value) (w : World) : (callFunc 11 args).run Try.prog w = .ok (.enter 11 args) w := by kernel_rfl
theorem enterNestIn (args : Array Value) (w : World) : (callFunc 12 args).run Try.prog w = .ok (.enter 12 args) w := by kernel_rfl

/-- What the inner reading captures: whose bytes are asked for, how many, the outer cursor. -/
structure Caps (w : World) (b3 b2 bc kO : Nat) (inner : Bool) (n : Int) : Prop where
  inn : Whole w b3 4 #[.bool inner]
  num : Whole w b2 3 #[.int .i64 n]
  cur : Whole w bc 25 #[.pointer (some ⟨kO, 0, none⟩)]

theorem Caps.keep {w w' : World} {b3 b2 bc kO : Nat} {inner : Bool} {n : Int} (h : Caps w b3 b2 bc kO inner n) (hk : Keeps NoBlock w w') : Caps w' b3 b2 bc kO inner n :=
  ⟨h.inn.keep hk (fun h => h), h.num.keep hk (fun h => h), h.cur.keep hk (fun h => h)⟩

/-- The inner cursor is asked. -/
theorem nestIn_own (w0 W : World) (b3 b2 bc kO : Nat) (n : Int) (m : Nat) (p : Option Addr) (xs : List Int) (N c : Nat) (hm : (m : Int) = max n 0) (hx : N = xs.length) (hmN : m ≤ N) (hN : N ≤ c) (hN' : N ≤ 140737488355328) (hc : c ≤ 9223372036854775807)
    (hcap : Caps w0 b3 b2 bc kO true n) (hB : Begun w0 p N c 0 0 W) (hK : Keeps NoBlock w0 W) (hb : Bytes8 w0 p xs) :
    Calls Try.prog 12 (#[.pointer (some ⟨w0.heap.size + 1 + 1, 0, none⟩)] ++ #[.pointer (some ⟨b3, 0, none⟩), .pointer (some ⟨b2, 0, none⟩), .pointer (some ⟨bc, 0, none⟩)]) W (ReadEnds w0 p N c m 0 (Keeps NoBlock w0)) := by
  have hcw := hcap.keep hK
  have d3 := hcw.inn.cell 0 rfl
  have d2 := hcw.num.cell 0 rfl
  simp only [List.getElem_toArray, List.getElem_cons_zero] at d3 d2
  have hp : 0 < xs.length → ∀ q, p = some q → q.block ≠ w0.heap.size + 1 + 1 := fun h0 q hq => by
    obtain ⟨a, ha, hcell⟩ := hb h0
    obtain rfl := Option.some.inj (hq.symm.trans ha)
    have := ltOfCell (hcell 0 h0)
    rw [addBlock] at this
    omega
  have HB := Lib.hid hB; have HK := Lib.hid hK; have Hb := Lib.hid (hb.keep hK (fun _ _ h => h)); have HP := Lib.hid hp; have HM := Lib.hid hm; have HX := Lib.hid hx
  clear hcap hcw hB hK hb hp hm hx
  simp only [List.append_toArray, List.nil_append, List.cons_append]
  go_enter Try.func12, Try.ntmps12
  go_wp2_with fail
  refine (take_at _ p xs N c 0 m n _ HX.out HM.out HB.out.cur Hb.out HP.out (by omega) hN hN' hc).mono ?_
  rintro e w2 ⟨v, rfl, ⟨q, c', rfl, _, _, _, _, hk⟩, hcur⟩
  have HE := Lib.hid (HB.out.keep hk (by simpa using hcur))
  have HK2 := Lib.hid (keepsNew HK.out hk (by rintro k rfl; omega))
  clear hk hcur
  go_wp2_with fail
  go_returns
  exact ⟨.inl rfl, HE.out, HK2.out⟩

theorem nestIn_short (w0 W : World) (b3 b2 bc kO : Nat) (n : Int) (p : Option Addr) (N c : Nat) (hs : (N : Int) < n) (hN' : N ≤ 9223372036854775807)
    (hcap : Caps w0 b3 b2 bc kO true n) (hB : Begun w0 p N c 0 0 W) (hK : Keeps NoBlock w0 W) :
    Calls Try.prog 12 (#[.pointer (some ⟨w0.heap.size + 1 + 1, 0, none⟩)] ++ #[.pointer (some ⟨b3, 0, none⟩), .pointer (some ⟨b2, 0, none⟩), .pointer (some ⟨bc, 0, none⟩)]) W (ReadEnds w0 p N c 0 2 (Keeps NoBlock w0)) := by
  have hcw := hcap.keep hK
  have d3 := hcw.inn.cell 0 rfl
  have d2 := hcw.num.cell 0 rfl
  simp only [List.getElem_toArray, List.getElem_cons_zero] at d3 d2
  have HB := Lib.hid hB; have HK := Lib.hid hK
  clear hcap hcw hB hK
  simp only [List.append_toArray, List.nil_append, List.cons_append]
  go_enter Try.func12, Try.ntmps12
  go_wp2_with fail
  refine (take_short _ p N c 0 n _ HB.out.cur (by omega) (by omega) (by omega)).mono ?_
  rintro e w2 ⟨rfl, hcur, hk⟩
  exact ⟨rfl, .inr (gave_given _), HB.out.keep hk hcur, keepsNew HK.out hk (by rintro k rfl; omega)⟩

/-- The outer cursor is asked within the inner reading. -/
def OuterAt (w0 : World) (kO : Nat) (p : Option Addr) (N c m : Nat) (y : Int) (w : World) : Prop := CurB w kO p N c m true y ∧ Keeps (Just kO) w0 w

theorem nestIn_outer (w0 W : World) (b3 b2 bc kO : Nat) (n : Int) (m : Nat) (p pb : Option Addr) (xs : List Int) (N c Nb cb : Nat) (hm : (m : Int) = max n 0) (hx : N = xs.length) (hmN : m ≤ N) (hN : N ≤ c) (hN' : N ≤ 140737488355328) (hc : c ≤ 9223372036854775807)
    (hcap : Caps w0 b3 b2 bc kO false n) (hO : CurB w0 kO p N c 0 true 0) (hp : 0 < xs.length → ∀ q, p = some q → q.block ≠ kO) (hB : Begun w0 pb Nb cb 0 0 W) (hK : Keeps NoBlock w0 W) (hb : Bytes8 w0 p xs) :
    Calls Try.prog 12 (#[.pointer (some ⟨w0.heap.size + 1 + 1, 0, none⟩)] ++ #[.pointer (some ⟨b3, 0, none⟩), .pointer (some ⟨b2, 0, none⟩), .pointer (some ⟨bc, 0, none⟩)]) W (ReadEnds w0 pb Nb cb 0 0 (OuterAt w0 kO p N c m 0)) := by
  have hcw := hcap.keep hK
  have d3 := hcw.inn.cell 0 rfl
  have d2 := hcw.num.cell 0 rfl
  have dc := hcw.cur.cell 0 rfl
  simp only [List.getElem_toArray, List.getElem_cons_zero] at d3 d2 dc
  have hlt := Whole.lt hO
  have HO := Lib.hid (Whole.keep hO hK (fun h => h))
  have HB := Lib.hid hB; have HK := Lib.hid hK; have Hb := Lib.hid (hb.keep hK (fun _ _ h => h)); have HP := Lib.hid hp; have HM := Lib.hid hm; have HX := Lib.hid hx
  clear hcap hcw hB hK hb hp hm hx hO
  simp only [List.append_toArray, List.nil_append, List.cons_append]
  go_enter Try.func12, Try.ntmps12
  go_wp2_with fail
  refine (take_at _ p xs N c 0 m n _ HX.out HM.out HO.out Hb.out HP.out (by omega) hN hN' hc).mono ?_
  rintro e w2 ⟨v, rfl, ⟨q, c', rfl, _, _, _, _, hk⟩, hcur⟩
  have HE := Lib.hid (HB.out.stay hk (by unfold Just; omega))
  have HK2 := Lib.hid (show OuterAt w0 kO p N c m 0 w2 from ⟨by simpa using hcur, (HK.out.wider (S' := Just kO) (fun _ _ h => h.elim)).trans hk⟩)
  clear hk hcur
  go_wp2_with fail
  go_returns
  exact ⟨.inl rfl, HE.out, HK2.out⟩

theorem nestIn_gave (w0 W : World) (b3 b2 bc kO : Nat) (n : Int) (p pb : Option Addr) (N c Nb cb : Nat) (hs : (N : Int) < n) (hN' : N ≤ 9223372036854775807)
    (hcap : Caps w0 b3 b2 bc kO false n) (hO : CurB w0 kO p N c 0 true 0) (hB : Begun w0 pb Nb cb 0 0 W) (hK : Keeps NoBlock w0 W) :
    Calls Try.prog 12 (#[.pointer (some ⟨w0.heap.size + 1 + 1, 0, none⟩)] ++ #[.pointer (some ⟨b3, 0, none⟩), .pointer (some ⟨b2, 0, none⟩), .pointer (some ⟨bc, 0, none⟩)]) W (ReadGave kO w0 pb Nb cb 0 0 (OuterAt w0 kO p N c 0 2)) := by
  have hcw := hcap.keep hK
  have d3 := hcw.inn.cell 0 rfl
  have d2 := hcw.num.cell 0 rfl
  have dc := hcw.cur.cell 0 rfl
  simp only [List.getElem_toArray, List.getElem_cons_zero] at d3 d2 dc
  have hlt := Whole.lt hO
  have HO := Lib.hid (Whole.keep hO hK (fun h => h))
  have HB := Lib.hid hB; have HK := Lib.hid hK
  clear hcap hcw hB hK hO
  simp only [List.append_toArray, List.nil_append, List.cons_append]
  go_enter Try.func12, Try.ntmps12
  go_wp2_with fail
  refine (take_short _ p N c 0 n _ HO.out (by omega) (by omega) (by omega)).mono ?_
  rintro e w2 ⟨rfl, hcur, hk⟩
  exact ⟨rfl, gave_given _, HB.out.stay hk (by unfold Just; omega), ⟨_, hcur⟩, hcur, (HK.out.wider (S' := Just kO) (fun _ _ h => h.elim)).trans hk⟩

theorem Told.keeps {S : Nat → Prop} {w w2 w' : World} {a : Nat} {y : Int} (h : Keeps S w w2) (hT : Told (w.heap.size + 1 + 1 + 1) w.heap.size (w.heap.size + 1) (w.heap.size + 1 + 1) a y w2 w') : Keeps S w w' :=
  h.then hT.2.2.2.2 (by intro k hk h; omega)

/-- What the outer reading leaves: why the inner one stopped, and whether anything behind it was done. -/
def NestOut (O : World) (b5 b4 : Nat) (iv : Int) (bh : Bool) (w : World) : Prop :=
  Whole w b5 26 #[.int .i64 iv] ∧ Whole w b4 4 #[.bool bh] ∧ Keeps (fun i => i = b5 ∨ i = b4) O w

/-- What the outer reading finds. -/
structure NestIn (O : World) (b1 b2 b3 b4 b5 : Nat) (inner : Bool) (n : Int) (pb : Option Addr) (Nb cb : Nat) : Prop where
  sl : Whole O b1 22 #[.slice pb Nb cb]
  num : Whole O b2 3 #[.int .i64 n]
  inn : Whole O b3 4 #[.bool inner]
  beh : Whole O b4 4 #[.bool false]
  why : Whole O b5 26 #[.int .i64 0]

theorem NestIn.keep {O w : World} {b1 b2 b3 b4 b5 : Nat} {inner : Bool} {n : Int} {pb : Option Addr} {Nb cb : Nat} (h : NestIn O b1 b2 b3 b4 b5 inner n pb Nb cb) (hk : Keeps NoBlock O w) : NestIn w b1 b2 b3 b4 b5 inner n pb Nb cb :=
  ⟨h.sl.keep hk (fun h => h), h.num.keep hk (fun h => h), h.inn.keep hk (fun h => h), h.beh.keep hk (fun h => h), h.why.keep hk (fun h => h)⟩

/-- The two stores behind the inner reading. -/
theorem nest_stores {O w : World} {S : Nat → Prop} {b4 b5 : Nat} {iv : Int} {vb vw : Value} (hk : Keeps NoBlock O w ∨ Keeps S O w ∧ ∀ i, S i → O.heap.size ≤ i) (h4 : Whole w b4 4 #[vb]) (h5 : Whole w b5 26 #[vw]) :
    NestOut O b5 b4 iv true ((w.setCell ⟨b5, 0, none⟩ (.int .i64 iv)).setCell ⟨b4, 0, none⟩ (.bool true)) := by
  have hne : b5 ≠ b4 := fun e => by subst e; exact absurd (h5.unique h4).1 (by decide)
  have hk' : Keeps (fun i => i = b5 ∨ i = b4) O w := by
    rcases hk with hk | ⟨hk, hs⟩
    · exact hk.wider (fun _ _ h => h.elim)
    · exact hk.wider (fun i hi h => absurd (hs i h) (by omega))
  exact ⟨(h5.set 0 _).setOther hne _, (h4.setOther (Ne.symm hne) _).set 0 _, (hk'.setIn (.inl rfl) _ _).setIn (.inr rfl) _ _⟩

set_option maxHeartbeats 400000 in
theorem nestOut_own (O W : World) (b1 b2 b3 b4 b5 : Nat) (n : Int) (a' : Nat) (y : Int) (p pb : Option Addr) (N c Nb cb : Nat) (xb : List Int)
    (hI : NestIn O b1 b2 b3 b4 b5 true n pb Nb cb) (hB : Begun O p N c 0 0 W) (hK : Keeps NoBlock O W) (hx : Nb = xb.length) (hN : Nb ≤ cb) (hN' : Nb ≤ 140737488355328) (hc : cb ≤ 9223372036854775807) (hb : Bytes8 O pb xb)
    (hcase : ((a' : Int) = max n 0 ∧ a' ≤ Nb ∧ y = 0) ∨ ((Nb : Int) < n ∧ a' = 0 ∧ y = 2)) :
    Calls Try.prog 11 (#[.pointer (some ⟨O.heap.size + 1 + 1, 0, none⟩)] ++ #[.pointer (some ⟨b1, 0, none⟩), .pointer (some ⟨b3, 0, none⟩), .pointer (some ⟨b2, 0, none⟩), .pointer (some ⟨b5, 0, none⟩), .pointer (some ⟨b4, 0, none⟩)]) W (ReadEnds O p N c 0 0 (NestOut O b5 b4 y true)) := by
  have hlt4 := hI.beh.lt
  have hlt5 := hI.why.lt
  have hmf : ∀ (fn : Fn) (first cap : Array Value) (w : World), (Instr.makeFunc fn first cap).run Try.prog w = .ok (.func fn first cap) w := fun _ _ _ _ => rfl
  have hIw := (hI.keep hK).keep ((Keeps.refl NoBlock W).alloc (.cells #[.pointer (some ⟨O.heap.size + 1 + 1, 0, none⟩)] 25))
  have d1 := hIw.sl.cell 0 rfl
  simp only [List.getElem_toArray, List.getElem_cons_zero] at d1
  have hbw := hb.keep (hK.alloc (.cells #[.pointer (some ⟨O.heap.size + 1 + 1, 0, none⟩)] 25)) (fun _ _ h => h)
  have hrun : Calls Try.prog 7 #[.slice pb Nb cb, .func (.func 12) #[] #[.pointer (some ⟨b3, 0, none⟩), .pointer (some ⟨b2, 0, none⟩), .pointer (some ⟨W.heap.size, 0, none⟩)]] (W.alloc (.cells #[.pointer (some ⟨O.heap.size + 1 + 1, 0, none⟩)] 25)) (RunTold (W.alloc (.cells #[.pointer (some ⟨O.heap.size + 1 + 1, 0, none⟩)] 25)) a' y (Keeps NoBlock (W.alloc (.cells #[.pointer (some ⟨O.heap.size + 1 + 1, 0, none⟩)] 25)))) := by
    have hcap : Caps (W.alloc (.cells #[.pointer (some ⟨O.heap.size + 1 + 1, 0, none⟩)] 25)) b3 b2 W.heap.size (O.heap.size + 1 + 1) true n := ⟨hIw.inn, hIw.num, Whole.new _ _ _⟩
    rcases hcase with ⟨hm, hmN, rfl⟩ | ⟨hs, rfl, rfl⟩
    · exact run_any _ _ pb Nb cb a' 0 _ _ enterNestIn (fun W2 hB2 hK2 _ => nestIn_own _ W2 b3 b2 _ _ n a' pb xb Nb cb hm hx hmN hN hN' hc hcap hB2 hK2 hbw)
    · exact run_any _ _ pb Nb cb 0 2 _ _ enterNestIn (fun W2 hB2 hK2 _ => nestIn_short _ W2 b3 b2 _ _ n pb Nb cb hs (by omega) hcap hB2 hK2)
  have HB := Lib.hid hB; have HK := Lib.hid hK; have HI := Lib.hid hIw; have HR := Lib.hid hrun
  clear hIw hb hbw hI hB hK hrun hcase hx
  simp only [List.append_toArray, List.nil_append, List.cons_append]
  go_enter Try.func11, Try.ntmps11
  go_wp2_with fail
  refine HR.out.mono ?_
  rintro e w3 ⟨rfl, w2, hR, hT⟩
  have hk3 := Told.keeps hR hT
  have hI3 := HI.out.keep hk3
  have d4 := hI3.beh.cell 0 rfl
  have d5 := hI3.why.cell 0 rfl
  have f4 := hI3.beh.free 0
  have f5 := hI3.why.free 0
  have hne : b5 ≠ b4 := fun e => by subst e; exact absurd (hI3.why.unique hI3.beh).1 (by decide)
  have hne' : b4 ≠ b5 := Ne.symm hne
  simp only [List.getElem_toArray, List.getElem_cons_zero] at d4 d5
  have hkO : Keeps NoBlock O w3 := (HK.out.alloc _).trans hk3
  have HO := Lib.hid (nest_stores (S := NoBlock) (iv := y) (.inl hkO) hI3.beh hI3.why)
  have HW := Lib.hid (HB.out.stay (((((Keeps.refl NoBlock W).alloc _).trans hk3).wider (S' := fun i => i = b5 ∨ i = b4) (fun _ _ h => h.elim)).setIn (.inl rfl) 0 (.int .i64 y) |>.setIn (.inr rfl) 0 (.bool true)) (by intro i hi h; omega))
  clear hk3 hI3 hkO hT hR HR HI d1
  go_wp2_with fail
  go_returns
  exact ⟨.inl rfl, HW.out, HO.out⟩
theorem NestIn.keepS {O w : World} {b1 b2 b3 b4 b5 : Nat} {inner : Bool} {n : Int} {pb : Option Addr} {Nb cb : Nat} (h : NestIn O b1 b2 b3 b4 b5 inner n pb Nb cb) {S : Nat → Prop} (hk : Keeps S O w) (B : Nat) (hb : b1 < B ∧ b2 < B ∧ b3 < B ∧ b4 < B ∧ b5 < B) (hs : ∀ i, i < B → ¬ S i) : NestIn w b1 b2 b3 b4 b5 inner n pb Nb cb :=
  ⟨h.sl.keep hk (hs _ hb.1), h.num.keep hk (hs _ hb.2.1), h.inn.keep hk (hs _ hb.2.2.1), h.beh.keep hk (hs _ hb.2.2.2.1), h.why.keep hk (hs _ hb.2.2.2.2)⟩

theorem NestIn.lts {O : World} {b1 b2 b3 b4 b5 : Nat} {inner : Bool} {n : Int} {pb : Option Addr} {Nb cb : Nat} (h : NestIn O b1 b2 b3 b4 b5 inner n pb Nb cb) : b1 < O.heap.size ∧ b2 < O.heap.size ∧ b3 < O.heap.size ∧ b4 < O.heap.size ∧ b5 < O.heap.size :=
  ⟨h.sl.lt, h.num.lt, h.inn.lt, h.beh.lt, h.why.lt⟩

set_option maxHeartbeats 400000 in
theorem nestOut_outer (O W : World) (b1 b2 b3 b4 b5 : Nat) (n : Int) (m : Nat) (p pb : Option Addr) (N c Nb cb : Nat) (xs : List Int)
    (hI : NestIn O b1 b2 b3 b4 b5 false n pb Nb cb) (hB : Begun O p N c 0 0 W) (hK : Keeps NoBlock O W) (hx : N = xs.length) (hN : N ≤ c) (hN' : N ≤ 140737488355328) (hc : c ≤ 9223372036854775807) (hb : Bytes8 O p xs)
    (hm : (m : Int) = max n 0) (hmN : m ≤ N) :
    Calls Try.prog 11 (#[.pointer (some ⟨O.heap.size + 1 + 1, 0, none⟩)] ++ #[.pointer (some ⟨b1, 0, none⟩), .pointer (some ⟨b3, 0, none⟩), .pointer (some ⟨b2, 0, none⟩), .pointer (some ⟨b5, 0, none⟩), .pointer (some ⟨b4, 0, none⟩)]) W (ReadEnds O p N c m 0 (NestOut O b5 b4 0 true)) := by
  have hlt4 := hI.beh.lt
  have hlt5 := hI.why.lt
  have hmf : ∀ (fn : Fn) (first cap : Array Value) (w : World), (Instr.makeFunc fn first cap).run Try.prog w = .ok (.func fn first cap) w := fun _ _ _ _ => rfl
  have hIw := (hI.keep hK).keep ((Keeps.refl NoBlock W).alloc (.cells #[.pointer (some ⟨O.heap.size + 1 + 1, 0, none⟩)] 25))
  have d1 := hIw.sl.cell 0 rfl
  simp only [List.getElem_toArray, List.getElem_cons_zero] at d1
  have hbw := hb.keep (hK.alloc (.cells #[.pointer (some ⟨O.heap.size + 1 + 1, 0, none⟩)] 25)) (fun _ _ h => h)
  have hlts := hI.lts
  have hp : 0 < xs.length → ∀ q, p = some q → q.block ≠ O.heap.size + 1 + 1 := fun h0 q hq => by
    obtain ⟨a, ha, hcell⟩ := hb h0
    obtain rfl := Option.some.inj (hq.symm.trans ha)
    have := ltOfCell (hcell 0 h0)
    rw [addBlock] at this
    omega
  have hkO : O.heap.size + 1 + 1 < W.heap.size := Whole.lt hB.cur
  have hrun : Calls Try.prog 7 #[.slice pb Nb cb, .func (.func 12) #[] #[.pointer (some ⟨b3, 0, none⟩), .pointer (some ⟨b2, 0, none⟩), .pointer (some ⟨W.heap.size, 0, none⟩)]] (W.alloc (.cells #[.pointer (some ⟨O.heap.size + 1 + 1, 0, none⟩)] 25)) (RunTold (W.alloc (.cells #[.pointer (some ⟨O.heap.size + 1 + 1, 0, none⟩)] 25)) 0 0 (OuterAt (W.alloc (.cells #[.pointer (some ⟨O.heap.size + 1 + 1, 0, none⟩)] 25)) (O.heap.size + 1 + 1) p N c m 0)) := by
    have hcap : Caps (W.alloc (.cells #[.pointer (some ⟨O.heap.size + 1 + 1, 0, none⟩)] 25)) b3 b2 W.heap.size (O.heap.size + 1 + 1) false n := ⟨hIw.inn, hIw.num, Whole.new _ _ _⟩
    exact run_any _ _ pb Nb cb 0 0 _ _ enterNestIn (fun W2 hB2 hK2 _ => nestIn_outer _ W2 b3 b2 _ _ n m p pb xs N c Nb cb hm hx hmN hN hN' hc hcap (Whole.alloc hB.cur _) hp hB2 hK2 hbw)
  have HB := Lib.hid hB; have HK := Lib.hid hK; have HI := Lib.hid hIw; have HR := Lib.hid hrun
  clear hIw hb hbw hI hB hK hrun hx hm hp
  simp only [List.append_toArray, List.nil_append, List.cons_append]
  go_enter Try.func11, Try.ntmps11
  go_wp2_with fail
  refine HR.out.mono ?_
  rintro e w3 ⟨rfl, w2, ⟨hcO, hR⟩, hT⟩
  have hk3 := Told.keeps hR hT
  have hc3 := Whole.keep hcO hT.2.2.2.2 (by simp only [World.size_alloc]; omega)
  have hI3 := HI.out.keepS hk3 O.heap.size hlts (by unfold Just; omega)
  have d4 := hI3.beh.cell 0 rfl
  have d5 := hI3.why.cell 0 rfl
  have f4 := hI3.beh.free 0
  have f5 := hI3.why.free 0
  have hne : b5 ≠ b4 := fun e => by subst e; exact absurd (hI3.why.unique hI3.beh).1 (by decide)
  have hne' : b4 ≠ b5 := Ne.symm hne
  simp only [List.getElem_toArray, List.getElem_cons_zero] at d4 d5
  have hkO3 : Keeps (Just (O.heap.size + 1 + 1)) O w3 := ((HK.out.alloc _).wider (fun _ _ h => h.elim)).trans hk3
  have hkW3 : Keeps (Just (O.heap.size + 1 + 1)) W w3 := ((Keeps.refl _ W).alloc _).trans hk3
  have HO := Lib.hid (nest_stores (S := Just (O.heap.size + 1 + 1)) (iv := 0) (.inr ⟨hkO3, by unfold Just; omega⟩) hI3.beh hI3.why)
  have HW := Lib.hid (Begun.stay (HB.out.keep hkW3 hc3) (((Keeps.refl (fun i => i = b5 ∨ i = b4) w3).setIn (.inl rfl) 0 (.int .i64 0)).setIn (.inr rfl) 0 (.bool true)) (by intro i hi h; omega))
  clear hkO3 hkW3 hc3 hcO
  clear hk3 hI3 hT hR HR HI d1
  go_wp2_with fail
  go_returns
  exact ⟨.inl rfl, HW.out, HO.out⟩

set_option maxHeartbeats 400000 in
theorem nestOut_gave (O W : World) (b1 b2 b3 b4 b5 : Nat) (n : Int) (p pb : Option Addr) (N c Nb cb : Nat)
    (hI : NestIn O b1 b2 b3 b4 b5 false n pb Nb cb) (hB : Begun O p N c 0 0 W) (hK : Keeps NoBlock O W) (hN' : N ≤ 9223372036854775807)
    (hs : (N : Int) < n) :
    Calls Try.prog 11 (#[.pointer (some ⟨O.heap.size + 1 + 1, 0, none⟩)] ++ #[.pointer (some ⟨b1, 0, none⟩), .pointer (some ⟨b3, 0, none⟩), .pointer (some ⟨b2, 0, none⟩), .pointer (some ⟨b5, 0, none⟩), .pointer (some ⟨b4, 0, none⟩)]) W (ReadEnds O p N c 0 2 (fun w => Whole w b4 4 #[.bool false] ∧ Keeps NoBlock O w)) := by
  have hlt4 := hI.beh.lt
  have hlt5 := hI.why.lt
  have hmf : ∀ (fn : Fn) (first cap : Array Value) (w : World), (Instr.makeFunc fn first cap).run Try.prog w = .ok (.func fn first cap) w := fun _ _ _ _ => rfl
  have hIw := (hI.keep hK).keep ((Keeps.refl NoBlock W).alloc (.cells #[.pointer (some ⟨O.heap.size + 1 + 1, 0, none⟩)] 25))
  have d1 := hIw.sl.cell 0 rfl
  simp only [List.getElem_toArray, List.getElem_cons_zero] at d1
  have hlts := hI.lts
  have hkO : O.heap.size + 1 + 1 < W.heap.size := Whole.lt hB.cur
  have hrun : Calls Try.prog 7 #[.slice pb Nb cb, .func (.func 12) #[] #[.pointer (some ⟨b3, 0, none⟩), .pointer (some ⟨b2, 0, none⟩), .pointer (some ⟨W.heap.size, 0, none⟩)]] (W.alloc (.cells #[.pointer (some ⟨O.heap.size + 1 + 1, 0, none⟩)] 25)) (RunGave (O.heap.size + 1 + 1) (W.alloc (.cells #[.pointer (some ⟨O.heap.size + 1 + 1, 0, none⟩)] 25)) 0 0 (OuterAt (W.alloc (.cells #[.pointer (some ⟨O.heap.size + 1 + 1, 0, none⟩)] 25)) (O.heap.size + 1 + 1) p N c 0 2)) := by
    have hcap : Caps (W.alloc (.cells #[.pointer (some ⟨O.heap.size + 1 + 1, 0, none⟩)] 25)) b3 b2 W.heap.size (O.heap.size + 1 + 1) false n := ⟨hIw.inn, hIw.num, Whole.new _ _ _⟩
    exact run_gave _ _ _ pb Nb cb 0 0 _ _ (by simp only [World.size_alloc]; omega) enterNestIn (fun W2 hB2 hK2 _ => nestIn_gave _ W2 b3 b2 _ _ n p pb N c Nb cb hs hN' hcap (Whole.alloc hB.cur _) hB2 hK2)
  have HB := Lib.hid hB; have HK := Lib.hid hK; have HI := Lib.hid hIw; have HR := Lib.hid hrun
  clear hIw hI hB hK hrun
  simp only [List.append_toArray, List.nil_append, List.cons_append]
  go_enter Try.func11, Try.ntmps11
  go_wp2_with fail
  refine HR.out.mono ?_
  rintro e w3 ⟨⟨older, rfl, hold⟩, w2, ⟨hcO, hR⟩, hT⟩
  have hk3 := Told.keeps hR hT
  have hc3 := Whole.keep hcO hT.2.2.2.2 (by simp only [World.size_alloc]; omega)
  have hI3 := HI.out.keepS hk3 O.heap.size hlts (by unfold Just; omega)
  have hkO3 : Keeps NoBlock O w3 := ((HK.out.alloc _)).then hk3 (fun i hi h => by unfold Just at h; omega)
  have hkW3 : Keeps (Just (O.heap.size + 1 + 1)) W w3 := ((Keeps.refl _ W).alloc _).trans hk3
  exact ⟨rfl, .inr ⟨older, rfl, hold⟩, HB.out.keep hkW3 hc3, hI3.beh, hkO3⟩

end Go.Proofs.Ythgjipgkbinjkaa

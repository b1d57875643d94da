/-
  The law CursorNests: its walk.
-/
import Derived.Test.YthgjipgkbinjkaaLawNests
namespace Go.Proofs.Ythgjipgkbinjkaa
open Go.RowKit

/-- The world in which the outer reading is begun, and what is known of it. -/
structure NestsAt (w O : World) (n : Int) (inner : Bool) (pb : Option Addr) (Nb cb B : Nat) : Prop where
  inn : NestIn O w.heap.size (w.heap.size + 1) (w.heap.size + 1 + 1) B (B + 1) inner n pb Nb cb
  keep : Keeps NoBlock w O
  lo : w.heap.size + 1 + 1 + 1 ≤ B

theorem nests_at (w w1 : World) (n : Int) (inner : Bool) (pb : Option Addr) (Nb cb : Nat) (hk : Keeps NoBlock (((w.alloc (.cells #[.slice pb Nb cb] 22)).alloc (.cells #[.int .i64 n] 3)).alloc (.cells #[.bool inner] 4)) w1) :
    NestsAt w ((w1.alloc (.cells #[.bool false] 4)).alloc (.cells #[.int .i64 0] 26)) n inner pb Nb cb w1.heap.size :=
  ⟨⟨((((Whole.new _ _ _).alloc _).alloc _).keep hk (fun h => h)).alloc _ |>.alloc _, (((Whole.newAt _ _ _ _ (by simp)).alloc _).keep hk (fun h => h)).alloc _ |>.alloc _, ((Whole.newAt _ _ _ _ (by simp)).keep hk (fun h => h)).alloc _ |>.alloc _, (Whole.new _ _ _).alloc _, Whole.newAt _ _ _ _ (by simp)⟩,
    ((((((Keeps.refl _ w).alloc _).alloc _).alloc _).trans hk).alloc _).alloc _, by have := hk.size; simp at this; omega⟩

set_option maxHeartbeats 1000000 in
theorem nests_own (p pb : Option Addr) (N c Nb cb : Nat) (n : Int) (xs xb : List Int) (w : World) (_hx : N = xs.length) (_hN : N ≤ c) (_hc : c ≤ 9223372036854775807) (_hb : Bytes8 w p xs) (hxb : Nb = xb.length) (hNb : Nb ≤ cb) (hcb : cb ≤ 9223372036854775807) (hbb : Bytes8 w pb xb)
    (g1 : N ≤ 500) (g2 : Nb ≤ 500) (hn : n ≤ Nb) :
    Calls Try.prog 4 #[.slice p N c, .slice pb Nb cb, .int .i64 n, .bool true] w fun e w' => e = .returned (.bool true) ∧ Keeps NoBlock w w' := by
  have hmf : ∀ (fn : Fn) (first cap : Array Value) (w : World), (Instr.makeFunc fn first cap).run Try.prog w = .ok (.func fn first cap) w := fun _ _ _ _ => rfl
  have hrun : ∀ O B, NestsAt w O n true pb Nb cb B → Calls Try.prog 7 #[.slice p N c, .func (.func 11) #[] #[.pointer (some ⟨w.heap.size, 0, none⟩), .pointer (some ⟨w.heap.size + 1 + 1, 0, none⟩), .pointer (some ⟨w.heap.size + 1, 0, none⟩), .pointer (some ⟨B + 1, 0, none⟩), .pointer (some ⟨B, 0, none⟩)]] O (RunTold O 0 0 (NestOut O (B + 1) B 0 true)) := fun O B h =>
    (run_any _ _ p N c 0 0 _ _ enterNestOut (fun W hB hK _ => nestOut_own O W _ _ _ _ _ n n.toNat 0 p pb N c Nb cb xb h.inn hB hK hxb hNb (by omega) hcb (hbb.keep h.keep (fun _ _ h => h)) (.inl ⟨by omega, by omega, rfl⟩)))
  have HR := Lib.hid hrun
  clear hrun _hb hbb _hx hxb
  go_enter Try.func4, Try.ntmps4
  go_wp2_with fail
  refine (lives_true _).mono ?_
  rintro e w1 ⟨rfl, hk⟩
  have d1 := ((((Whole.new w 22 #[.slice pb Nb cb]).alloc _).alloc _).keep hk (fun h => h)).cell 0 rfl
  simp only [List.getElem_toArray, List.getElem_cons_zero] at d1
  have HO := Lib.hid (nests_at w w1 n true pb Nb cb hk)
  clear hk
  go_wp2_with fail
  refine (HR.out _ _ HO.out).mono ?_
  clear HR d1
  rintro e w2 ⟨rfl, w3, ⟨h5, h4, hR⟩, hT⟩
  have hlt := HO.out.inn.lts
  have hS : ∀ i, i < w.heap.size + 1 + 1 + 1 ∨ i = w1.heap.size ∨ i = w1.heap.size + 1 → i < ((w1.alloc (.cells #[.bool false] 4)).alloc (.cells #[.int .i64 0] 26)).heap.size := by omega
  have hkw : Keeps NoBlock w w2 := (HO.out.keep.then hR (fun i hi h => by have := HO.out.lo; omega)).then hT.2.2.2.2 (fun i hi h => by omega)
  have e1 := ((HO.out.inn.sl.keep hR (by have := HO.out.lo; omega)).keep hT.2.2.2.2 (by omega)).cell 0 rfl
  have e2 := ((HO.out.inn.num.keep hR (by have := HO.out.lo; omega)).keep hT.2.2.2.2 (by omega)).cell 0 rfl
  have e3 := ((HO.out.inn.inn.keep hR (by have := HO.out.lo; omega)).keep hT.2.2.2.2 (by omega)).cell 0 rfl
  have e4 := (h4.keep hT.2.2.2.2 (by omega)).cell 0 rfl
  have e5 := (h5.keep hT.2.2.2.2 (by omega)).cell 0 rfl
  simp only [List.getElem_toArray, List.getElem_cons_zero] at e1 e2 e3 e4 e5
  have HK := Lib.hid hkw
  clear hT hR h4 h5 hkw hlt hS HO
  go_wp2_with fail
  all_goals
    go_ret
    refine ⟨?_, HK.out⟩
    first | rfl | (simp; done) | (simp; omega)

set_option maxHeartbeats 1000000 in
theorem nests_short (p pb : Option Addr) (N c Nb cb : Nat) (n : Int) (xs xb : List Int) (w : World) (_hx : N = xs.length) (_hN : N ≤ c) (_hc : c ≤ 9223372036854775807) (_hb : Bytes8 w p xs) (hxb : Nb = xb.length) (hNb : Nb ≤ cb) (hcb : cb ≤ 9223372036854775807) (hbb : Bytes8 w pb xb)
    (g1 : N ≤ 500) (g2 : Nb ≤ 500) (hn : (Nb : Int) < n) :
    Calls Try.prog 4 #[.slice p N c, .slice pb Nb cb, .int .i64 n, .bool true] w fun e w' => e = .returned (.bool true) ∧ Keeps NoBlock w w' := by
  have hmf : ∀ (fn : Fn) (first cap : Array Value) (w : World), (Instr.makeFunc fn first cap).run Try.prog w = .ok (.func fn first cap) w := fun _ _ _ _ => rfl
  have hrun : ∀ O B, NestsAt w O n true pb Nb cb B → Calls Try.prog 7 #[.slice p N c, .func (.func 11) #[] #[.pointer (some ⟨w.heap.size, 0, none⟩), .pointer (some ⟨w.heap.size + 1 + 1, 0, none⟩), .pointer (some ⟨w.heap.size + 1, 0, none⟩), .pointer (some ⟨B + 1, 0, none⟩), .pointer (some ⟨B, 0, none⟩)]] O (RunTold O 0 0 (NestOut O (B + 1) B 2 true)) := fun O B h =>
    (run_any _ _ p N c 0 0 _ _ enterNestOut (fun W hB hK _ => nestOut_own O W _ _ _ _ _ n 0 2 p pb N c Nb cb xb h.inn hB hK hxb hNb (by omega) hcb (hbb.keep h.keep (fun _ _ h => h)) (.inr ⟨hn, rfl, rfl⟩)))
  have HR := Lib.hid hrun
  clear hrun _hb hbb _hx hxb
  go_enter Try.func4, Try.ntmps4
  go_wp2_with fail
  refine (lives_true _).mono ?_
  rintro e w1 ⟨rfl, hk⟩
  have d1 := ((((Whole.new w 22 #[.slice pb Nb cb]).alloc _).alloc _).keep hk (fun h => h)).cell 0 rfl
  simp only [List.getElem_toArray, List.getElem_cons_zero] at d1
  have HO := Lib.hid (nests_at w w1 n true pb Nb cb hk)
  clear hk
  go_wp2_with fail
  refine (HR.out _ _ HO.out).mono ?_
  clear HR d1
  rintro e w2 ⟨rfl, w3, ⟨h5, h4, hR⟩, hT⟩
  have hlt := HO.out.inn.lts
  have hS : ∀ i, i < w.heap.size + 1 + 1 + 1 ∨ i = w1.heap.size ∨ i = w1.heap.size + 1 → i < ((w1.alloc (.cells #[.bool false] 4)).alloc (.cells #[.int .i64 0] 26)).heap.size := by omega
  have hkw : Keeps NoBlock w w2 := (HO.out.keep.then hR (fun i hi h => by have := HO.out.lo; omega)).then hT.2.2.2.2 (fun i hi h => by omega)
  have e1 := ((HO.out.inn.sl.keep hR (by have := HO.out.lo; omega)).keep hT.2.2.2.2 (by omega)).cell 0 rfl
  have e2 := ((HO.out.inn.num.keep hR (by have := HO.out.lo; omega)).keep hT.2.2.2.2 (by omega)).cell 0 rfl
  have e3 := ((HO.out.inn.inn.keep hR (by have := HO.out.lo; omega)).keep hT.2.2.2.2 (by omega)).cell 0 rfl
  have e4 := (h4.keep hT.2.2.2.2 (by omega)).cell 0 rfl
  have e5 := (h5.keep hT.2.2.2.2 (by omega)).cell 0 rfl
  simp only [List.getElem_toArray, List.getElem_cons_zero] at e1 e2 e3 e4 e5
  have HK := Lib.hid hkw
  clear hT hR h4 h5 hkw hlt hS HO
  go_wp2_with fail
  all_goals
    go_ret
    refine ⟨?_, HK.out⟩
    first | rfl | (simp; done) | (simp; omega)

set_option maxHeartbeats 1000000 in
theorem nests_outer0 (p pb : Option Addr) (N c Nb cb : Nat) (n : Int) (xs xb : List Int) (w : World) (hx : N = xs.length) (hN : N ≤ c) (hc : c ≤ 9223372036854775807) (hb : Bytes8 w p xs) (_hxb : Nb = xb.length) (_hNb : Nb ≤ cb) (_hcb : cb ≤ 9223372036854775807) (_hbb : Bytes8 w pb xb)
    (g1 : N ≤ 500) (g2 : Nb ≤ 500) (hn : n ≤ 0) :
    Calls Try.prog 4 #[.slice p N c, .slice pb Nb cb, .int .i64 n, .bool false] w fun e w' => e = .returned (.bool true) ∧ Keeps NoBlock w w' := by
  have hmf : ∀ (fn : Fn) (first cap : Array Value) (w : World), (Instr.makeFunc fn first cap).run Try.prog w = .ok (.func fn first cap) w := fun _ _ _ _ => rfl
  have hrun : ∀ O B, NestsAt w O n false pb Nb cb B → Calls Try.prog 7 #[.slice p N c, .func (.func 11) #[] #[.pointer (some ⟨w.heap.size, 0, none⟩), .pointer (some ⟨w.heap.size + 1 + 1, 0, none⟩), .pointer (some ⟨w.heap.size + 1, 0, none⟩), .pointer (some ⟨B + 1, 0, none⟩), .pointer (some ⟨B, 0, none⟩)]] O (RunTold O 0 0 (NestOut O (B + 1) B 0 true)) := fun O B h =>
    (run_any _ _ p N c 0 0 _ _ enterNestOut (fun W hB hK _ => nestOut_outer O W _ _ _ _ _ n 0 p pb N c Nb cb xs h.inn hB hK hx hN (by omega) hc (hb.keep h.keep (fun _ _ h => h)) (by omega) (Nat.zero_le _)))
  have HR := Lib.hid hrun
  clear hrun hb _hbb hx _hxb
  go_enter Try.func4, Try.ntmps4
  go_wp2_with fail
  refine (lives_true _).mono ?_
  rintro e w1 ⟨rfl, hk⟩
  have d1 := ((((Whole.new w 22 #[.slice pb Nb cb]).alloc _).alloc _).keep hk (fun h => h)).cell 0 rfl
  simp only [List.getElem_toArray, List.getElem_cons_zero] at d1
  have HO := Lib.hid (nests_at w w1 n false pb Nb cb hk)
  clear hk
  go_wp2_with fail
  refine (HR.out _ _ HO.out).mono ?_
  clear HR d1
  rintro e w2 ⟨rfl, w3, ⟨h5, h4, hR⟩, hT⟩
  have hlt := HO.out.inn.lts
  have hS : ∀ i, i < w.heap.size + 1 + 1 + 1 ∨ i = w1.heap.size ∨ i = w1.heap.size + 1 → i < ((w1.alloc (.cells #[.bool false] 4)).alloc (.cells #[.int .i64 0] 26)).heap.size := by omega
  have hkw : Keeps NoBlock w w2 := (HO.out.keep.then hR (fun i hi h => by have := HO.out.lo; omega)).then hT.2.2.2.2 (fun i hi h => by omega)
  have e1 := ((HO.out.inn.sl.keep hR (by have := HO.out.lo; omega)).keep hT.2.2.2.2 (by omega)).cell 0 rfl
  have e2 := ((HO.out.inn.num.keep hR (by have := HO.out.lo; omega)).keep hT.2.2.2.2 (by omega)).cell 0 rfl
  have e3 := ((HO.out.inn.inn.keep hR (by have := HO.out.lo; omega)).keep hT.2.2.2.2 (by omega)).cell 0 rfl
  have e4 := (h4.keep hT.2.2.2.2 (by omega)).cell 0 rfl
  have e5 := (h5.keep hT.2.2.2.2 (by omega)).cell 0 rfl
  simp only [List.getElem_toArray, List.getElem_cons_zero] at e1 e2 e3 e4 e5
  have HK := Lib.hid hkw
  clear hT hR h4 h5 hkw hlt hS HO
  go_wp2_with fail
  all_goals
    go_ret
    refine ⟨?_, HK.out⟩
    first | rfl | (simp; done) | (simp; omega)

set_option maxHeartbeats 1000000 in
theorem nests_outer (p pb : Option Addr) (N c Nb cb : Nat) (n : Int) (xs xb : List Int) (w : World) (hx : N = xs.length) (hN : N ≤ c) (hc : c ≤ 9223372036854775807) (hb : Bytes8 w p xs) (_hxb : Nb = xb.length) (_hNb : Nb ≤ cb) (_hcb : cb ≤ 9223372036854775807) (_hbb : Bytes8 w pb xb)
    (g1 : N ≤ 500) (g2 : Nb ≤ 500) (m : Nat) (hm : n = m) (hmN : m ≤ N) :
    Calls Try.prog 4 #[.slice p N c, .slice pb Nb cb, .int .i64 n, .bool false] w fun e w' => e = .returned (.bool true) ∧ Keeps NoBlock w w' := by
  subst hm
  have hmf : ∀ (fn : Fn) (first cap : Array Value) (w : World), (Instr.makeFunc fn first cap).run Try.prog w = .ok (.func fn first cap) w := fun _ _ _ _ => rfl
  have hrun : ∀ O B, NestsAt w O m false pb Nb cb B → Calls Try.prog 7 #[.slice p N c, .func (.func 11) #[] #[.pointer (some ⟨w.heap.size, 0, none⟩), .pointer (some ⟨w.heap.size + 1 + 1, 0, none⟩), .pointer (some ⟨w.heap.size + 1, 0, none⟩), .pointer (some ⟨B + 1, 0, none⟩), .pointer (some ⟨B, 0, none⟩)]] O (RunTold O m 0 (NestOut O (B + 1) B 0 true)) := fun O B h =>
    (run_any _ _ p N c m 0 _ _ enterNestOut (fun W hB hK _ => nestOut_outer O W _ _ _ _ _ m m p pb N c Nb cb xs h.inn hB hK hx hN (by omega) hc (hb.keep h.keep (fun _ _ h => h)) (by omega) hmN))
  have HR := Lib.hid hrun
  clear hrun hb _hbb hx _hxb
  go_enter Try.func4, Try.ntmps4
  go_wp2_with fail
  refine (lives_true _).mono ?_
  rintro e w1 ⟨rfl, hk⟩
  have d1 := ((((Whole.new w 22 #[.slice pb Nb cb]).alloc _).alloc _).keep hk (fun h => h)).cell 0 rfl
  simp only [List.getElem_toArray, List.getElem_cons_zero] at d1
  have HO := Lib.hid (nests_at w w1 m false pb Nb cb hk)
  clear hk
  go_wp2_with fail
  refine (HR.out _ _ HO.out).mono ?_
  clear HR d1
  rintro e w2 ⟨rfl, w3, ⟨h5, h4, hR⟩, hT⟩
  have hlt := HO.out.inn.lts
  have hS : ∀ i, i < w.heap.size + 1 + 1 + 1 ∨ i = w1.heap.size ∨ i = w1.heap.size + 1 → i < ((w1.alloc (.cells #[.bool false] 4)).alloc (.cells #[.int .i64 0] 26)).heap.size := by omega
  have hkw : Keeps NoBlock w w2 := (HO.out.keep.then hR (fun i hi h => by have := HO.out.lo; omega)).then hT.2.2.2.2 (fun i hi h => by omega)
  have e1 := ((HO.out.inn.sl.keep hR (by have := HO.out.lo; omega)).keep hT.2.2.2.2 (by omega)).cell 0 rfl
  have e2 := ((HO.out.inn.num.keep hR (by have := HO.out.lo; omega)).keep hT.2.2.2.2 (by omega)).cell 0 rfl
  have e3 := ((HO.out.inn.inn.keep hR (by have := HO.out.lo; omega)).keep hT.2.2.2.2 (by omega)).cell 0 rfl
  have e4 := (h4.keep hT.2.2.2.2 (by omega)).cell 0 rfl
  have e5 := (h5.keep hT.2.2.2.2 (by omega)).cell 0 rfl
  simp only [List.getElem_toArray, List.getElem_cons_zero] at e1 e2 e3 e4 e5
  have HK := Lib.hid hkw
  clear hT hR h4 h5 hkw hlt hS HO
  go_wp2_with fail
  all_goals
    go_ret
    refine ⟨?_, HK.out⟩
    first | rfl | (simp; done) | (simp; omega)

set_option maxHeartbeats 1000000 in
theorem nests_gave (p pb : Option Addr) (N c Nb cb : Nat) (n : Int) (xs xb : List Int) (w : World) (_hx : N = xs.length) (_hN : N ≤ c) (_hc : c ≤ 9223372036854775807) (_hb : Bytes8 w p xs) (_hxb : Nb = xb.length) (_hNb : Nb ≤ cb) (_hcb : cb ≤ 9223372036854775807) (_hbb : Bytes8 w pb xb)
    (g1 : N ≤ 500) (g2 : Nb ≤ 500) (hn : (N : Int) < n) :
    Calls Try.prog 4 #[.slice p N c, .slice pb Nb cb, .int .i64 n, .bool false] w fun e w' => e = .returned (.bool true) ∧ Keeps NoBlock w w' := by
  have hmf : ∀ (fn : Fn) (first cap : Array Value) (w : World), (Instr.makeFunc fn first cap).run Try.prog w = .ok (.func fn first cap) w := fun _ _ _ _ => rfl
  have hrun : ∀ O B, NestsAt w O n false pb Nb cb B → Calls Try.prog 7 #[.slice p N c, .func (.func 11) #[] #[.pointer (some ⟨w.heap.size, 0, none⟩), .pointer (some ⟨w.heap.size + 1 + 1, 0, none⟩), .pointer (some ⟨w.heap.size + 1, 0, none⟩), .pointer (some ⟨B + 1, 0, none⟩), .pointer (some ⟨B, 0, none⟩)]] O (RunTold O 0 2 (fun v => Whole v B 4 #[.bool false] ∧ Keeps NoBlock O v)) := fun O B h =>
    (run_any _ _ p N c 0 2 _ _ enterNestOut (fun W hB hK _ => nestOut_gave O W _ _ _ _ _ n p pb N c Nb cb h.inn hB hK (by omega) hn))
  have HR := Lib.hid hrun
  clear hrun _hb _hbb _hx _hxb
  go_enter Try.func4, Try.ntmps4
  go_wp2_with fail
  refine (lives_true _).mono ?_
  rintro e w1 ⟨rfl, hk⟩
  have d1 := ((((Whole.new w 22 #[.slice pb Nb cb]).alloc _).alloc _).keep hk (fun h => h)).cell 0 rfl
  simp only [List.getElem_toArray, List.getElem_cons_zero] at d1
  have HO := Lib.hid (nests_at w w1 n false pb Nb cb hk)
  clear hk
  go_wp2_with fail
  refine (HR.out _ _ HO.out).mono ?_
  clear HR d1
  rintro e w2 ⟨rfl, w3, ⟨h4, hR⟩, hT⟩
  have hlt := HO.out.inn.lts
  have hS : ∀ i, i < w.heap.size + 1 + 1 + 1 ∨ i = w1.heap.size ∨ i = w1.heap.size + 1 → i < ((w1.alloc (.cells #[.bool false] 4)).alloc (.cells #[.int .i64 0] 26)).heap.size := by omega
  have h5 := HO.out.inn.why.keep hR (fun h => h)
  have hkw : Keeps NoBlock w w2 := (HO.out.keep.trans hR).then hT.2.2.2.2 (fun i hi h => by omega)
  have e1 := ((HO.out.inn.sl.keep hR (fun h => h)).keep hT.2.2.2.2 (by omega)).cell 0 rfl
  have e2 := ((HO.out.inn.num.keep hR (fun h => h)).keep hT.2.2.2.2 (by omega)).cell 0 rfl
  have e3 := ((HO.out.inn.inn.keep hR (fun h => h)).keep hT.2.2.2.2 (by omega)).cell 0 rfl
  have e4 := (h4.keep hT.2.2.2.2 (by omega)).cell 0 rfl
  have e5 := (h5.keep hT.2.2.2.2 (by omega)).cell 0 rfl
  simp only [List.getElem_toArray, List.getElem_cons_zero] at e1 e2 e3 e4 e5
  have HK := Lib.hid hkw
  clear hT hR h4 h5 hkw hlt hS HO
  go_wp2_with fail
  all_goals
    go_ret
    refine ⟨?_, HK.out⟩
    first | rfl | (simp; done) | (simp; omega)


theorem nests_walk (p pb : Option Addr) (N c Nb cb : Nat) (n : Int) (inner : Bool) (xs xb : List Int) (w : World) (hx : N = xs.length) (hN : N ≤ c) (hc : c ≤ 9223372036854775807) (hb : Bytes8 w p xs) (hxb : Nb = xb.length) (hNb : Nb ≤ cb) (hcb : cb ≤ 9223372036854775807) (hbb : Bytes8 w pb xb) :
    Calls Try.prog 4 #[.slice p N c, .slice pb Nb cb, .int .i64 n, .bool inner] w fun e w' => e = .returned (.bool true) ∧ Keeps NoBlock w w' := by
  by_cases hg : N ≤ 500 ∧ Nb ≤ 500
  · cases inner with
    | true =>
      by_cases hn : n ≤ Nb
      · exact nests_own p pb N c Nb cb n xs xb w hx hN hc hb hxb hNb hcb hbb hg.1 hg.2 hn
      · exact nests_short p pb N c Nb cb n xs xb w hx hN hc hb hxb hNb hcb hbb hg.1 hg.2 (by omega)
    | false =>
      by_cases hn : n ≤ N
      · by_cases h0 : n ≤ 0
        · exact nests_outer0 p pb N c Nb cb n xs xb w hx hN hc hb hxb hNb hcb hbb hg.1 hg.2 h0
        · exact nests_outer p pb N c Nb cb n xs xb w hx hN hc hb hxb hNb hcb hbb hg.1 hg.2 n.toNat (by omega) (by omega)
      · exact nests_gave p pb N c Nb cb n xs xb w hx hN hc hb hxb hNb hcb hbb hg.1 hg.2 (by omega)
  · clear hb hbb hx hxb
    go_enter Try.func4, Try.ntmps4
    go_wp2_with fail
    refine (lives_true _).mono ?_
    rintro e w1 ⟨rfl, hk⟩
    have d1 := ((((Whole.new w 22 #[.slice pb Nb cb]).alloc _).alloc _).keep hk (fun h => h)).cell 0 rfl
    simp only [List.getElem_toArray, List.getElem_cons_zero] at d1
    have HK := Lib.hid ((((((Keeps.refl _ w).alloc _).alloc _).alloc _).trans hk))
    clear hk
    go_wp2_with fail
    all_goals
      refine (lives_true _).mono ?_
      rintro e w2 ⟨rfl, hk2⟩
      have HK2 := Lib.hid (HK.out.trans hk2)
      clear hk2
      go_wp2_with fail
      go_ret
      exact ⟨rfl, HK2.out⟩
end Go.Proofs.Ythgjipgkbinjkaa

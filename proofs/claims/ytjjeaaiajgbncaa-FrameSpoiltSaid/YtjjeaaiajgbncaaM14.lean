/-
  CurD; CurE; VarRead; FrOpen.
-/
import Derived.RegionTactic
import Derived.BigRegion
import Derived.ChangeAlike
import Derived.LaidEqlPtr
import Derived.Lib.Builder
import Derived.Test.YtjjeaaiajgbncaaM02
import Derived.Test.YtjjeaaiajgbncaaM05
import Derived.Test.YtjjeaaiajgbncaaM13
namespace Go.Proofs.Ytjjeaaiajgbncaa
open Go.RowKit

/-- The frame of the deferred call behind its first region, and what stands behind. -/
def doorTmps (V A E k : Nat) (a y : Int) (r : List Value) : Array Value :=
  ⟨[.pointer (some ⟨V, 0, none⟩), .pointer (some ⟨A, 0, none⟩), .pointer (some ⟨E, 0, none⟩), undef, undef, undef, .pointer (some ⟨k, 0, none⟩), .pointer (some ⟨k, 0, none⟩), .pointer (some ⟨k, 1, none⟩), .int .i64 a, .pointer (some ⟨k, 0, none⟩), .pointer (some ⟨k, 0, none⟩), .pointer (some ⟨k, 3, none⟩), .int .i64 y] ++ r⟩

/-- What the deferred call has done to memory: Run's results hold what the cursor told; the cursor is closed. -/
def Told (V A E k : Nat) (a : Nat) (y : Int) (w w' : World) : Prop :=
  Whole w' V 99 #[.pointer (some ⟨k, 0, none⟩)] ∧ Whole w' A 3 #[.int .i64 a] ∧ Whole w' E 27 #[.int .i64 y] ∧ CurB w' k none 0 0 0 false 0 ∧ Keeps (fun i => i = A ∨ i = E ∨ i = k) w w'

def MidPost (V A E k : Nat) (a : Nat) (y : Int) (w : World) : Exit → Act → World → Prop
  | .normal, a', w' => a' = { tmps := doorTmps V A E k a y (List.replicate 15 undef), defers := [] } ∧ ∃ m, w' = (((w.setCell ⟨A, 0, none⟩ (.int .i64 a)).setCell ⟨E, 0, none⟩ (.int .i64 y)).drewN m)
  | _, _, _ => False

theorem MidPost.told {V A E k a : Nat} {y : Int} {w w' : World} {e : Exit} {a' : Act} (h : MidPost V A E k a y w e a' w') :
    e = .normal ∧ a' = { tmps := doorTmps V A E k a y (List.replicate 15 undef), defers := [] } ∧ ∃ m, w' = (((w.setCell ⟨A, 0, none⟩ (.int .i64 a)).setCell ⟨E, 0, none⟩ (.int .i64 y)).drewN m) := by
  cases e with
  | normal => exact ⟨rfl, h⟩
  | _ => exact h.elim

theorem Told.alloc {V A E k a : Nat} {y : Int} {w w' : World} (h : Told V A E k a y w w') (o : Obj) : Told V A E k a y w (w'.alloc o) :=
  ⟨h.1.alloc o, h.2.1.alloc o, h.2.2.1.alloc o, Whole.alloc h.2.2.2.1 o, h.2.2.2.2.alloc o⟩

theorem infoCursor : (Try.prog.info? 124).map (fun i => i.size) = some 4 := by kernel_rfl

theorem neqSame (a : Addr) (w : World) : (binOp .neq 99 (.pointer (some a)) (.pointer (some a))).run Try.prog w = .ok (.bool false) w := by
  obtain ⟨i, hi, hs⟩ := Option.map_eq_some_iff.1 infoCursor
  first | exact run_neq_ptr_same w a Try.underlying99 hi | exact Lib.run_neq_ptr_same w a Try.underlying99 hi

theorem neqOther {a b : Addr} {w : World} {ta tb : TypeId} {ca cb : Array Value} (hne : a ≠ b) (ha : Whole w a.block ta ca) (hb : Whole w b.block tb cb) :
    (binOp .neq 99 (.pointer (some a)) (.pointer (some b))).run Try.prog w = .ok (.bool true) w := by
  obtain ⟨i, hi, hs⟩ := Option.map_eq_some_iff.1 infoCursor
  have h : ∀ d : Nat, (Op.equalIn (d + 1) 99 (.pointer (some a)) (.pointer (some b))).run Try.prog w = .ok false w := fun d => by
    simp [Op.equalIn, run_underlying Try.underlying99, sizeOf, typeInfo, hi, hs, run_sameAddr_other w hne ha hb]
  simp only [binOp]
  simp [Op.equal, Op.maxDepth, h 9999]

theorem assertStopped (q : Option Addr) (w : World) : (Instr.typeAssert (.iface 126 (.agg #[.pointer q])) 20 126 true).run Try.prog w = .ok (.tuple #[.agg #[.pointer q], .bool true]) w := by kernel_rfl

set_option maxHeartbeats 1000000 in
theorem door_idle (V A E k : Nat) (p : Option Addr) (N c a : Nat) (o : Bool) (y x0 x1 : Int) (w : World) (hV : Whole w V 99 #[.pointer (some ⟨k, 0, none⟩)]) (hA : Whole w A 3 #[.int .i64 x0]) (hE : Whole w E 27 #[.int .i64 x1]) (hC : CurB w k p N c a o y) :
    CallsD Try.prog 91 #[.pointer (some ⟨V, 0, none⟩), .pointer (some ⟨A, 0, none⟩), .pointer (some ⟨E, 0, none⟩)] .returning w fun e u' w' => e = .returned (.tuple #[]) ∧ u' = .returning ∧ Told V A E k a y w w' := by
  have hVA : V ≠ A := fun e => by subst e; exact absurd (hV.unique hA).1 (by decide)
  have hVE : V ≠ E := fun e => by subst e; exact absurd (hV.unique hE).1 (by decide)
  have hVk : V ≠ k := fun e => by subst e; exact absurd (hV.unique hC).1 (by decide)
  have hAE : A ≠ E := fun e => by subst e; exact absurd (hA.unique hE).1 (by decide)
  have hAk : A ≠ k := fun e => by subst e; exact absurd (hA.unique hC).1 (by decide)
  have hEk : E ≠ k := fun e => by subst e; exact absurd (hE.unique hC).1 (by decide)
  have cV := hV.cell 0 rfl
  have cA := hA.cell 0 rfl
  have cE := hE.cell 0 rfl
  have c1 := Whole.cell hC 1 rfl
  have c3 := Whole.cell hC 3 rfl
  have fA := hA.free 0
  have fE := hE.free 0
  simp only [List.getElem_toArray, List.getElem_cons_zero, List.getElem_cons_succ] at cV cA cE c1 c3
  refine callsD_of_wpS Try.func91 rfl fun c₀ cs hu => ?_
  simp only [Try.ntmps91, List.size_toArray, List.length_cons, List.length_nil, Nat.reduceAdd, Nat.reduceSub, Array.replicate_succ,
     Array.replicate_zero, List.push_toArray, List.append_toArray, List.nil_append, List.cons_append]
  apply wpS_seq
  refine wpS_of_wp (Code.wp_mono (Q := MidPost V A E k a y w) ?_ ?_)
  case refine_2 =>
    go_region
    all_goals (exact ⟨rfl, _, rfl⟩)
  intro e a' w' hmid
  obtain ⟨rfl, rfl, m, rfl⟩ := hmid.told
  clear hmid
  simp only [Exit.thenS]
  apply wpS_seq
  have dV : (((w.setCell ⟨A, 0, none⟩ (.int .i64 a)).setCell ⟨E, 0, none⟩ (.int .i64 y)).drewN m).cell? ⟨V, 0, none⟩ = some (.pointer (some ⟨k, 0, none⟩)) := Whole.cell ((((hV.setOther hVA _).setOther hVE _).drewN m)) 0 rfl
  obtain ⟨W, hW⟩ : ∃ W, W = (((w.setCell ⟨A, 0, none⟩ (.int .i64 a)).setCell ⟨E, 0, none⟩ (.int .i64 y)).drewN m) := ⟨_, rfl⟩
  rw [← hW] at dV ⊢
  have dC : CurB W k p N c a o y := by rw [hW]; exact ((Whole.setOther hC (Ne.symm hAk) _).setOther (Ne.symm hEk) _).drewN m
  have d0 := Whole.cell dC 0 rfl
  have d1 := Whole.cell dC 1 rfl
  have d2 := Whole.cell dC 2 rfl
  have d3 := Whole.cell dC 3 rfl
  have f0 := Whole.free dC 0
  have f1 := Whole.free dC 1
  have f2 := Whole.free dC 2
  have f3 := Whole.free dC 3
  have HW := Lib.hid hW
  clear hW cV cA cE c1 c3 fA fE
  unfold doorTmps
  refine wpS_of_wp ?_
  go_wp2
  simp only [Exit.thenS]
  have hT : Told V A E k a y w ((((W.setCell ⟨k, 0, none⟩ (.slice none 0 0)).setCell ⟨k, 1, none⟩ (.int .i64 0)).setCell ⟨k, 2, none⟩ (.bool false)).setCell ⟨k, 3, none⟩ (.int .i64 0)) := by
    have HW := HW.out
    refine ⟨?_, ?_, ?_, Whole.set (Whole.set (Whole.set (Whole.set dC 0 _) 1 _) 2 _) 3 _, ?_⟩
    · refine Whole.setOther (Whole.setOther (Whole.setOther (Whole.setOther ?_ hVk _) hVk _) hVk _) hVk _
      rw [HW]; exact ((hV.setOther hVA _).setOther hVE _).drewN m
    · refine Whole.setOther (Whole.setOther (Whole.setOther (Whole.setOther ?_ hAk _) hAk _) hAk _) hAk _
      rw [HW]; exact ((hA.set 0 _).setOther hAE _).drewN m
    · refine Whole.setOther (Whole.setOther (Whole.setOther (Whole.setOther ?_ hEk _) hEk _) hEk _) hEk _
      rw [HW]; exact ((hE.setOther (Ne.symm hAE) _).set 0 _).drewN m
    · refine Keeps.setIn (Keeps.setIn (Keeps.setIn (Keeps.setIn ?_ (.inr (.inr rfl)) _ _) (.inr (.inr rfl)) _ _) (.inr (.inr rfl)) _ _) (.inr (.inr rfl)) _ _
      rw [HW]
      exact (((Keeps.refl _ _).setIn (.inl rfl) _ _).setIn (.inr (.inl rfl)) _ _).drewN m
  obtain ⟨W2, hW2⟩ : ∃ W2, W2 = ((((W.setCell ⟨k, 0, none⟩ (.slice none 0 0)).setCell ⟨k, 1, none⟩ (.int .i64 0)).setCell ⟨k, 2, none⟩ (.bool false)).setCell ⟨k, 3, none⟩ (.int .i64 0)) := ⟨_, rfl⟩
  rw [← hW2] at hT ⊢
  clear hW2 HW dV d0 d1 d2 d3 f0 f1 f2 f3 dC hC hV hA hE
  have eV := Whole.cell hT.1 0 rfl
  simp only [List.getElem_toArray, List.getElem_cons_zero] at eV
  have HT := Lib.hid hT
  clear hT
  apply wpS_seq
  apply wpS_region
  simp [wpOpsS, go_sem, recoverD, hu, Exit.thenS]
  refine wpS_of_wp ?_
  go_wp2
  refine ⟨rfl, .returning, ?_, .tuple #[], by simp [results, Try.results91], rfl, rfl, HT.out⟩
  rw [← hu]

set_option maxHeartbeats 1000000 in
theorem door_own (older : List PanicEntry) (V A E k : Nat) (p : Option Addr) (N c a : Nat) (o : Bool) (y x0 x1 : Int) (w : World) (hV : Whole w V 99 #[.pointer (some ⟨k, 0, none⟩)]) (hA : Whole w A 3 #[.int .i64 x0]) (hE : Whole w E 27 #[.int .i64 x1]) (hC : CurB w k p N c a o y) :
    CallsD Try.prog 91 #[.pointer (some ⟨V, 0, none⟩), .pointer (some ⟨A, 0, none⟩), .pointer (some ⟨E, 0, none⟩)] (.panicking ({ v := .iface 126 (.agg #[.pointer (some ⟨k, 0, none⟩)]), recovered := false } :: older)) w fun e u' w' => e = .returned (.tuple #[]) ∧ u' = .panicking ({ v := .iface 126 (.agg #[.pointer (some ⟨k, 0, none⟩)]), recovered := true } :: older) ∧ Told V A E k a y w w' := by
  have hta := assertStopped
  have hns := neqSame
  have hVA : V ≠ A := fun e => by subst e; exact absurd (hV.unique hA).1 (by decide)
  have hVE : V ≠ E := fun e => by subst e; exact absurd (hV.unique hE).1 (by decide)
  have hVk : V ≠ k := fun e => by subst e; exact absurd (hV.unique hC).1 (by decide)
  have hAE : A ≠ E := fun e => by subst e; exact absurd (hA.unique hE).1 (by decide)
  have hAk : A ≠ k := fun e => by subst e; exact absurd (hA.unique hC).1 (by decide)
  have hEk : E ≠ k := fun e => by subst e; exact absurd (hE.unique hC).1 (by decide)
  have cV := hV.cell 0 rfl
  have cA := hA.cell 0 rfl
  have cE := hE.cell 0 rfl
  have c1 := Whole.cell hC 1 rfl
  have c3 := Whole.cell hC 3 rfl
  have fA := hA.free 0
  have fE := hE.free 0
  simp only [List.getElem_toArray, List.getElem_cons_zero, List.getElem_cons_succ] at cV cA cE c1 c3
  refine callsD_of_wpS Try.func91 rfl fun c₀ cs hu => ?_
  simp only [Try.ntmps91, List.size_toArray, List.length_cons, List.length_nil, Nat.reduceAdd, Nat.reduceSub, Array.replicate_succ,
     Array.replicate_zero, List.push_toArray, List.append_toArray, List.nil_append, List.cons_append]
  apply wpS_seq
  refine wpS_of_wp (Code.wp_mono (Q := MidPost V A E k a y w) ?_ ?_)
  case refine_2 =>
    go_region
    all_goals (exact ⟨rfl, _, rfl⟩)
  intro e a' w' hmid
  obtain ⟨rfl, rfl, m, rfl⟩ := hmid.told
  clear hmid
  simp only [Exit.thenS]
  apply wpS_seq
  have dV : (((w.setCell ⟨A, 0, none⟩ (.int .i64 a)).setCell ⟨E, 0, none⟩ (.int .i64 y)).drewN m).cell? ⟨V, 0, none⟩ = some (.pointer (some ⟨k, 0, none⟩)) := Whole.cell ((((hV.setOther hVA _).setOther hVE _).drewN m)) 0 rfl
  obtain ⟨W, hW⟩ : ∃ W, W = (((w.setCell ⟨A, 0, none⟩ (.int .i64 a)).setCell ⟨E, 0, none⟩ (.int .i64 y)).drewN m) := ⟨_, rfl⟩
  rw [← hW] at dV ⊢
  have dC : CurB W k p N c a o y := by rw [hW]; exact ((Whole.setOther hC (Ne.symm hAk) _).setOther (Ne.symm hEk) _).drewN m
  have d0 := Whole.cell dC 0 rfl
  have d1 := Whole.cell dC 1 rfl
  have d2 := Whole.cell dC 2 rfl
  have d3 := Whole.cell dC 3 rfl
  have f0 := Whole.free dC 0
  have f1 := Whole.free dC 1
  have f2 := Whole.free dC 2
  have f3 := Whole.free dC 3
  have HW := Lib.hid hW
  clear hW cV cA cE c1 c3 fA fE
  unfold doorTmps
  refine wpS_of_wp ?_
  go_wp2
  simp only [Exit.thenS]
  have hT : Told V A E k a y w ((((W.setCell ⟨k, 0, none⟩ (.slice none 0 0)).setCell ⟨k, 1, none⟩ (.int .i64 0)).setCell ⟨k, 2, none⟩ (.bool false)).setCell ⟨k, 3, none⟩ (.int .i64 0)) := by
    have HW := HW.out
    refine ⟨?_, ?_, ?_, Whole.set (Whole.set (Whole.set (Whole.set dC 0 _) 1 _) 2 _) 3 _, ?_⟩
    · refine Whole.setOther (Whole.setOther (Whole.setOther (Whole.setOther ?_ hVk _) hVk _) hVk _) hVk _
      rw [HW]; exact ((hV.setOther hVA _).setOther hVE _).drewN m
    · refine Whole.setOther (Whole.setOther (Whole.setOther (Whole.setOther ?_ hAk _) hAk _) hAk _) hAk _
      rw [HW]; exact ((hA.set 0 _).setOther hAE _).drewN m
    · refine Whole.setOther (Whole.setOther (Whole.setOther (Whole.setOther ?_ hEk _) hEk _) hEk _) hEk _
      rw [HW]; exact ((hE.setOther (Ne.symm hAE) _).set 0 _).drewN m
    · refine Keeps.setIn (Keeps.setIn (Keeps.setIn (Keeps.setIn ?_ (.inr (.inr rfl)) _ _) (.inr (.inr rfl)) _ _) (.inr (.inr rfl)) _ _) (.inr (.inr rfl)) _ _
      rw [HW]
      exact (((Keeps.refl _ _).setIn (.inl rfl) _ _).setIn (.inr (.inl rfl)) _ _).drewN m
  obtain ⟨W2, hW2⟩ : ∃ W2, W2 = ((((W.setCell ⟨k, 0, none⟩ (.slice none 0 0)).setCell ⟨k, 1, none⟩ (.int .i64 0)).setCell ⟨k, 2, none⟩ (.bool false)).setCell ⟨k, 3, none⟩ (.int .i64 0)) := ⟨_, rfl⟩
  rw [← hW2] at hT ⊢
  clear hW2 HW dV d0 d1 d2 d3 f0 f1 f2 f3 dC hC hV hA hE
  have eV := Whole.cell hT.1 0 rfl
  simp only [List.getElem_toArray, List.getElem_cons_zero] at eV
  have eV2 : ∀ o, (W2.alloc o).cell? ⟨V, 0, none⟩ = some (.pointer (some ⟨k, 0, none⟩)) := fun o => Whole.cell (hT.1.alloc o) 0 rfl
  have HT := Lib.hid hT
  clear hT
  apply wpS_seq
  apply wpS_region
  simp [wpOpsS, go_sem, recoverD, hu, Exit.thenS]
  refine wpS_of_wp ?_
  go_wp2
  refine ⟨rfl, .panicking ({ v := .iface 126 (.agg #[.pointer (some ⟨k, 0, none⟩)]), recovered := true } :: older), rfl, .tuple #[], by simp [results, Try.results91], rfl, rfl, HT.out.alloc _⟩

set_option maxHeartbeats 1000000 in
theorem door_other (older : List PanicEntry) (q : Nat) (V A E k : Nat) (p : Option Addr) (N c a : Nat) (o : Bool) (y x0 x1 : Int) (w : World) (hq : q ≠ k) (cq : Array Value) (hQ : Whole w q 124 cq) (hV : Whole w V 99 #[.pointer (some ⟨k, 0, none⟩)]) (hA : Whole w A 3 #[.int .i64 x0]) (hE : Whole w E 27 #[.int .i64 x1]) (hC : CurB w k p N c a o y) :
    CallsD Try.prog 91 #[.pointer (some ⟨V, 0, none⟩), .pointer (some ⟨A, 0, none⟩), .pointer (some ⟨E, 0, none⟩)] (.panicking ({ v := .iface 126 (.agg #[.pointer (some ⟨q, 0, none⟩)]), recovered := false } :: older)) w fun e u' w' => e = .panicked (given q) ∧ u' = .panicking ({ v := .iface 126 (.agg #[.pointer (some ⟨q, 0, none⟩)]), recovered := true } :: older) ∧ Told V A E k a y w w' := by
  have hta := assertStopped
  have hVA : V ≠ A := fun e => by subst e; exact absurd (hV.unique hA).1 (by decide)
  have hVE : V ≠ E := fun e => by subst e; exact absurd (hV.unique hE).1 (by decide)
  have hVk : V ≠ k := fun e => by subst e; exact absurd (hV.unique hC).1 (by decide)
  have hAE : A ≠ E := fun e => by subst e; exact absurd (hA.unique hE).1 (by decide)
  have hAk : A ≠ k := fun e => by subst e; exact absurd (hA.unique hC).1 (by decide)
  have hEk : E ≠ k := fun e => by subst e; exact absurd (hE.unique hC).1 (by decide)
  have hAq : q ≠ A := fun e => by subst e; exact absurd (hA.unique hQ).1 (by decide)
  have hEq : q ≠ E := fun e => by subst e; exact absurd (hE.unique hQ).1 (by decide)
  have cV := hV.cell 0 rfl
  have cA := hA.cell 0 rfl
  have cE := hE.cell 0 rfl
  have c1 := Whole.cell hC 1 rfl
  have c3 := Whole.cell hC 3 rfl
  have fA := hA.free 0
  have fE := hE.free 0
  simp only [List.getElem_toArray, List.getElem_cons_zero, List.getElem_cons_succ] at cV cA cE c1 c3
  refine callsD_of_wpS Try.func91 rfl fun c₀ cs hu => ?_
  simp only [Try.ntmps91, List.size_toArray, List.length_cons, List.length_nil, Nat.reduceAdd, Nat.reduceSub, Array.replicate_succ,
     Array.replicate_zero, List.push_toArray, List.append_toArray, List.nil_append, List.cons_append]
  apply wpS_seq
  refine wpS_of_wp (Code.wp_mono (Q := MidPost V A E k a y w) ?_ ?_)
  case refine_2 =>
    go_region
    all_goals (exact ⟨rfl, _, rfl⟩)
  intro e a' w' hmid
  obtain ⟨rfl, rfl, m, rfl⟩ := hmid.told
  clear hmid
  simp only [Exit.thenS]
  apply wpS_seq
  have dV : (((w.setCell ⟨A, 0, none⟩ (.int .i64 a)).setCell ⟨E, 0, none⟩ (.int .i64 y)).drewN m).cell? ⟨V, 0, none⟩ = some (.pointer (some ⟨k, 0, none⟩)) := Whole.cell ((((hV.setOther hVA _).setOther hVE _).drewN m)) 0 rfl
  obtain ⟨W, hW⟩ : ∃ W, W = (((w.setCell ⟨A, 0, none⟩ (.int .i64 a)).setCell ⟨E, 0, none⟩ (.int .i64 y)).drewN m) := ⟨_, rfl⟩
  rw [← hW] at dV ⊢
  have dC : CurB W k p N c a o y := by rw [hW]; exact ((Whole.setOther hC (Ne.symm hAk) _).setOther (Ne.symm hEk) _).drewN m
  have d0 := Whole.cell dC 0 rfl
  have d1 := Whole.cell dC 1 rfl
  have d2 := Whole.cell dC 2 rfl
  have d3 := Whole.cell dC 3 rfl
  have f0 := Whole.free dC 0
  have f1 := Whole.free dC 1
  have f2 := Whole.free dC 2
  have f3 := Whole.free dC 3
  have HW := Lib.hid hW
  clear hW cV cA cE c1 c3 fA fE
  unfold doorTmps
  refine wpS_of_wp ?_
  go_wp2
  simp only [Exit.thenS]
  have hT : Told V A E k a y w ((((W.setCell ⟨k, 0, none⟩ (.slice none 0 0)).setCell ⟨k, 1, none⟩ (.int .i64 0)).setCell ⟨k, 2, none⟩ (.bool false)).setCell ⟨k, 3, none⟩ (.int .i64 0)) := by
    have HW := HW.out
    refine ⟨?_, ?_, ?_, Whole.set (Whole.set (Whole.set (Whole.set dC 0 _) 1 _) 2 _) 3 _, ?_⟩
    · refine Whole.setOther (Whole.setOther (Whole.setOther (Whole.setOther ?_ hVk _) hVk _) hVk _) hVk _
      rw [HW]; exact ((hV.setOther hVA _).setOther hVE _).drewN m
    · refine Whole.setOther (Whole.setOther (Whole.setOther (Whole.setOther ?_ hAk _) hAk _) hAk _) hAk _
      rw [HW]; exact ((hA.set 0 _).setOther hAE _).drewN m
    · refine Whole.setOther (Whole.setOther (Whole.setOther (Whole.setOther ?_ hEk _) hEk _) hEk _) hEk _
      rw [HW]; exact ((hE.setOther (Ne.symm hAE) _).set 0 _).drewN m
    · refine Keeps.setIn (Keeps.setIn (Keeps.setIn (Keeps.setIn ?_ (.inr (.inr rfl)) _ _) (.inr (.inr rfl)) _ _) (.inr (.inr rfl)) _ _) (.inr (.inr rfl)) _ _
      rw [HW]
      exact (((Keeps.refl _ _).setIn (.inl rfl) _ _).setIn (.inr (.inl rfl)) _ _).drewN m
  obtain ⟨W2, hW2⟩ : ∃ W2, W2 = ((((W.setCell ⟨k, 0, none⟩ (.slice none 0 0)).setCell ⟨k, 1, none⟩ (.int .i64 0)).setCell ⟨k, 2, none⟩ (.bool false)).setCell ⟨k, 3, none⟩ (.int .i64 0)) := ⟨_, rfl⟩
  rw [← hW2] at hT ⊢
  clear hW2 HW dV d0 d1 d2 d3 f0 f1 f2 f3 dC hC hV hA hE
  have eV := Whole.cell hT.1 0 rfl
  simp only [List.getElem_toArray, List.getElem_cons_zero] at eV
  have eV2 : ∀ o, (W2.alloc o).cell? ⟨V, 0, none⟩ = some (.pointer (some ⟨k, 0, none⟩)) := fun o => Whole.cell (hT.1.alloc o) 0 rfl
  have hQ2 : Whole W2 q 124 cq := hQ.keep hT.2.2.2.2 (by
    rintro (e | e | e)
    · exact hAq e
    · exact hEq e
    · exact hq e)
  have hno : ∀ o, (binOp .neq 99 (.pointer (some ⟨q, 0, none⟩)) (.pointer (some ⟨k, 0, none⟩))).run Try.prog (W2.alloc o) = .ok (.bool true) (W2.alloc o) := fun o =>
    neqOther (by intro e; exact hq (congrArg Addr.block e)) (hQ2.alloc o) (Whole.alloc hT.2.2.2.1 o)
  have HT := Lib.hid hT
  clear hT hQ2 hAq hEq hQ
  apply wpS_seq
  apply wpS_region
  simp [wpOpsS, go_sem, recoverD, hu, Exit.thenS]
  refine wpS_of_wp ?_
  go_wp2
  exact ⟨rfl, .panicking ({ v := .iface 126 (.agg #[.pointer (some ⟨q, 0, none⟩)]), recovered := true } :: older), rfl, rfl, rfl, HT.out.alloc _⟩
end Go.Proofs.Ytjjeaaiajgbncaa

namespace Go.Proofs.Ytjjeaaiajgbncaa
open Go.RowKit

/-- The world in which the reading begins: Run's two results, the cursor, the variable that holds it, each in a block of its own behind all that there was. -/
structure Begun (w : World) (p : Option Addr) (N c : Nat) (a : Nat) (y : Int) (W : World) : Prop where
  at_ : Whole W w.heap.size 3 #[.int .i64 0]
  why : Whole W (w.heap.size + 1) 27 #[.int .i64 0]
  cur : CurB W (w.heap.size + 1 + 1) p N c a true y
  var : Whole W (w.heap.size + 1 + 1 + 1) 99 #[.pointer (some ⟨w.heap.size + 1 + 1, 0, none⟩)]

/-- The panic by which the reading of the cursor in block k is given up; what was recovered on its way here stands behind it. -/
def Gave (k : Nat) (e : Ending) : Prop :=
  ∃ older : List PanicEntry, e = .panicked ({ v := .iface 126 (.agg #[.pointer (some ⟨k, 0, none⟩)]), recovered := false } :: older) ∧ older.dropWhile (fun x => !x.goexit) = []

theorem gave_given (k : Nat) : Gave k (.panicked (given k)) := ⟨[], rfl, rfl⟩

theorem funcNotNil (f : Fn) (a b : Array Value) (w : World) : (binOp .eql 100 (.func f a b) .nilFunc).run Try.prog w = .ok (.bool false) w := by kernel_rfl
theorem funcNil (w : World) : (binOp .eql 100 .nilFunc .nilFunc).run Try.prog w = .ok (.bool true) w := by kernel_rfl

theorem Begun.keep {w : World} {p : Option Addr} {N c a : Nat} {y : Int} {W W' : World} (h : Begun w p N c a y W) {b : Nat} {z : Int} (hk : Keeps (Just (w.heap.size + 1 + 1)) W W') (hc : CurB W' (w.heap.size + 1 + 1) p N c b true z) : Begun w p N c b z W' :=
  ⟨h.at_.keep hk (by unfold Just; omega), h.why.keep hk (by unfold Just; omega), hc, h.var.keep hk (by unfold Just; omega)⟩

theorem Begun.stay {w : World} {p : Option Addr} {N c a : Nat} {y : Int} {W W' : World} (h : Begun w p N c a y W) {S : Nat → Prop} (hk : Keeps S W W') (hs : ∀ i, w.heap.size ≤ i → ¬ S i) : Begun w p N c a y W' :=
  ⟨h.at_.keep hk (hs _ (by omega)), h.why.keep hk (hs _ (by omega)), Whole.keep h.cur hk (hs _ (by omega)), h.var.keep hk (hs _ (by omega))⟩

theorem begun (w : World) (p : Option Addr) (N c : Nat) : Begun w p N c 0 0 ((((w.alloc (.cells #[.int .i64 0] 3)).alloc (.cells #[.int .i64 0] 27)).alloc (.cells #[.slice p N c, .int .i64 0, .bool true, .int .i64 0] 124)).alloc (.cells #[.pointer (some ⟨w.heap.size + 1 + 1, 0, none⟩)] 99)) :=
  ⟨(((Whole.new _ _ _).alloc _).alloc _).alloc _, ((Whole.newAt _ _ _ _ (by simp)).alloc _).alloc _, Whole.alloc (Whole.newAt _ _ _ _ (by simp)) _, Whole.newAt _ _ _ _ (by simp)⟩

theorem begun_keeps (S : Nat → Prop) (w : World) (p : Option Addr) (N c : Nat) : Keeps S w ((((w.alloc (.cells #[.int .i64 0] 3)).alloc (.cells #[.int .i64 0] 27)).alloc (.cells #[.slice p N c, .int .i64 0, .bool true, .int .i64 0] 124)).alloc (.cells #[.pointer (some ⟨w.heap.size + 1 + 1, 0, none⟩)] 99)) :=
  ((((Keeps.refl _ _).alloc _).alloc _).alloc _).alloc _

/-- Run's answer: how many bytes were read, and why the reading stopped; the cursor is closed. -/
def RunTold (w : World) (a : Nat) (y : Int) (R : World → Prop) (e : Ending) (w' : World) : Prop :=
  e = .returned (.tuple #[.int .i64 a, .int .i64 y]) ∧ ∃ w2, R w2 ∧ Told (w.heap.size + 1 + 1 + 1) w.heap.size (w.heap.size + 1) (w.heap.size + 1 + 1) a y w2 w'

/-- How a reading ends that isn't given up by another one's cursor. -/
def ReadEnds (w : World) (p : Option Addr) (N c a : Nat) (y : Int) (R : World → Prop) (e : Ending) (w2 : World) : Prop :=
  (e = .returned (.tuple #[]) ∨ Gave (w.heap.size + 1 + 1) e) ∧ Begun w p N c a y w2 ∧ R w2

set_option maxHeartbeats 1000000 in
theorem run_any (K : Nat) (cap : Array Value) (p : Option Addr) (N c a : Nat) (y : Int) (R : World → Prop) (w : World) (hK : ∀ (args : Array Value) (w : World), (callFunc K args).run Try.prog w = .ok (.enter K args) w)
    (hread : ∀ W, Begun w p N c 0 0 W → Keeps NoBlock w W → W.heap.size = w.heap.size + 1 + 1 + 1 + 1 → Calls Try.prog K (#[.pointer (some ⟨w.heap.size + 1 + 1, 0, none⟩)] ++ cap) W (ReadEnds w p N c a y R)) :
    Calls Try.prog 62 #[.slice p N c, .func (.func K) #[] cap] w (RunTold w a y R) := by
  have hmf : ∀ (fn : Fn) (first cap : Array Value) (w : World), (Instr.makeFunc fn first cap).run Try.prog w = .ok (.func fn first cap) w := fun _ _ _ _ => rfl
  have hfn := funcNotNil
  have HR := Lib.hid (hread _ (begun w p N c) (begun_keeps _ w p N c) (by simp))
  clear hread
  go_enter_defers Try.func62, Try.ntmps62
  go_wp2_with fail
  refine HR.out.mono ?_
  rintro e w2 ⟨he, hB, hR⟩
  clear HR
  have HB := Lib.hid hB; have HR := Lib.hid hR
  clear hB hR
  rcases he with rfl | ⟨older, rfl, hold⟩
  · go_wp2_with fail
    refine leaves_cons (f := 91) (args := #[.pointer (some ⟨w.heap.size + 1 + 1 + 1, 0, none⟩), .pointer (some ⟨w.heap.size, 0, none⟩), .pointer (some ⟨w.heap.size + 1, 0, none⟩)]) (by simp) (by simp [go_sem]) ?_
    refine (door_idle _ _ _ _ p N c a true y 0 0 w2 HB.out.var HB.out.at_ HB.out.why HB.out.cur).mono ?_
    rintro e u' w3 ⟨rfl, rfl, hT⟩
    have HT := Lib.hid hT
    have r1 := hT.2.1.cell 0 rfl
    have r2 := hT.2.2.1.cell 0 rfl
    clear hT
    simp only [List.getElem_toArray, List.getElem_cons_zero] at r1 r2
    simp [Leaves, settle, results, Try.results62, go_sem, r1, r2]
    exact ⟨rfl, w2, HR.out, HT.out⟩
  · simp only [bodyPostD]
    refine leaves_cons (f := 91) (args := #[.pointer (some ⟨w.heap.size + 1 + 1 + 1, 0, none⟩), .pointer (some ⟨w.heap.size, 0, none⟩), .pointer (some ⟨w.heap.size + 1, 0, none⟩)]) (by simp) (by simp [go_sem]) ?_
    refine (door_own older _ _ _ _ p N c a true y 0 0 w2 HB.out.var HB.out.at_ HB.out.why HB.out.cur).mono ?_
    rintro e u' w3 ⟨rfl, rfl, hT⟩
    have HT := Lib.hid hT
    have r1 := hT.2.1.cell 0 rfl
    have r2 := hT.2.2.1.cell 0 rfl
    clear hT
    simp only [List.getElem_toArray, List.getElem_cons_zero] at r1 r2
    simp [Leaves, settle, hold, results, Try.results62, go_sem, r1, r2]
    exact ⟨rfl, w2, HR.out, HT.out⟩

/-- Where an outer cursor, that of block q, gives the reading up: Run goes on with the panic. -/
def RunGave (q : Nat) (w : World) (a : Nat) (y : Int) (R : World → Prop) (e : Ending) (w' : World) : Prop :=
  Gave q e ∧ ∃ w2, R w2 ∧ Told (w.heap.size + 1 + 1 + 1) w.heap.size (w.heap.size + 1) (w.heap.size + 1 + 1) a y w2 w'

def ReadGave (q : Nat) (w : World) (p : Option Addr) (N c a : Nat) (y : Int) (R : World → Prop) (e : Ending) (w2 : World) : Prop :=
  Gave q e ∧ Begun w p N c a y w2 ∧ (∃ cq, Whole w2 q 124 cq) ∧ R w2

set_option maxHeartbeats 1000000 in
theorem run_gave (q : Nat) (K : Nat) (cap : Array Value) (p : Option Addr) (N c a : Nat) (y : Int) (R : World → Prop) (w : World) (hq : q ≠ w.heap.size + 1 + 1) (hK : ∀ (args : Array Value) (w : World), (callFunc K args).run Try.prog w = .ok (.enter K args) w)
    (hread : ∀ W, Begun w p N c 0 0 W → Keeps NoBlock w W → W.heap.size = w.heap.size + 1 + 1 + 1 + 1 → Calls Try.prog K (#[.pointer (some ⟨w.heap.size + 1 + 1, 0, none⟩)] ++ cap) W (ReadGave q w p N c a y R)) :
    Calls Try.prog 62 #[.slice p N c, .func (.func K) #[] cap] w (RunGave q w a y R) := by
  have hmf : ∀ (fn : Fn) (first cap : Array Value) (w : World), (Instr.makeFunc fn first cap).run Try.prog w = .ok (.func fn first cap) w := fun _ _ _ _ => rfl
  have hfn := funcNotNil
  have HR := Lib.hid (hread _ (begun w p N c) (begun_keeps _ w p N c) (by simp))
  have HQ := Lib.hid hq
  clear hread hq
  go_enter_defers Try.func62, Try.ntmps62
  go_wp2_with fail
  refine HR.out.mono ?_
  rintro e w2 ⟨⟨older, rfl, hold⟩, hB, ⟨cq, hC⟩, hR⟩
  clear HR
  have HB := Lib.hid hB; have HR := Lib.hid hR
  clear hB hR
  simp only [bodyPostD]
  refine leaves_cons (f := 91) (args := #[.pointer (some ⟨w.heap.size + 1 + 1 + 1, 0, none⟩), .pointer (some ⟨w.heap.size, 0, none⟩), .pointer (some ⟨w.heap.size + 1, 0, none⟩)]) (by simp) (by simp [go_sem]) ?_
  refine (door_other older q _ _ _ _ p N c a true y 0 0 w2 HQ.out cq hC HB.out.var HB.out.at_ HB.out.why HB.out.cur).mono ?_
  rintro e u' w3 ⟨rfl, rfl, hT⟩
  have HT := Lib.hid hT
  clear hT
  simp [Leaves, raised]
  exact ⟨⟨_, rfl, by simpa using hold⟩, w2, HR.out, HT.out⟩

theorem run_nil (p : Option Addr) (N c : Nat) (w : World) :
    Calls Try.prog 62 #[.slice p N c, .nilFunc] w fun e w' => e = .returned (.tuple #[.int .i64 0, .int .i64 0]) ∧ Keeps NoBlock w w' := by
  have hfn := funcNil
  go_enter_defers Try.func62, Try.ntmps62
  go_wp2_with fail
  simp [bodyPostD, Leaves, results, Try.results62, go_sem]
  exact ((Keeps.refl _ _).alloc _).alloc _
end Go.Proofs.Ytjjeaaiajgbncaa

namespace Go.Proofs.Ytjjeaaiajgbncaa
open Go.RowKit

/-- What a reading of one number leaves: the number, if there is one. -/
def gotVal (t : VR) : Value := .int .u64 (if t.e = 0 then t.x else 0)

theorem Begun.store {w0 : World} {p : Option Addr} {N c a : Nat} {y : Int} {W : World} (h : Begun w0 p N c a y W) {D : Nat} (hD : D < w0.heap.size) (v : Value) : Begun w0 p N c a y (W.setCell ⟨D, 0, none⟩ v) :=
  ⟨h.at_.setOther (by simp; omega) v, h.why.setOther (by simp; omega) v, Whole.setOther h.cur (by simp; omega) v, h.var.setOther (by simp; omega) v⟩

/-- Run's answer to a reading of one number: how many bytes, why it stopped; the number in block D. -/
def GotIn (D : Nat) (t : VR) (w0 : World) (e : Ending) (w' : World) : Prop :=
  e = .returned (.tuple #[.int .i64 t.n, .int .i64 t.e]) ∧ Whole w' D 33 #[gotVal t] ∧ Keeps (Just D) w0 w'

/-- Read's answer. -/
def readOut (t : VR) : Value := .tuple #[gotVal t, .int .i64 (if t.e = 0 then (t.n : Int) else 0), .int .i64 t.e]

theorem getFnOk : ∀ (fn : Fn) (first cap : Array Value) (w : World), (Instr.makeFunc fn first cap).run Try.prog w = .ok (.func fn first cap) w := fun _ _ _ _ => rfl

end Go.Proofs.Ytjjeaaiajgbncaa

namespace Go.Proofs.Ytjjeaaiajgbncaa
open Go.RowKit

/-- Why the reading of a sum stops, where, and the sum. -/
def sumE (N : Nat) : Int := if N < 8 then 2 else 0
def sumA (N : Nat) : Nat := if N < 8 then 0 else 8
def sumX (xs : List Int) : Int := if xs.length < 8 then 0 else le xs

theorem enter_partIn (args : Array Value) (w : World) : (callFunc 63 args).run Try.prog w = .ok (.enter 63 args) w := by kernel_rfl

set_option maxHeartbeats 1000000 in
theorem partIn (w0 W : World) (D : Nat) (p : Option Addr) (xs : List Int) (N c : Nat) (hx : N = xs.length) (h8 : N ≤ 8) (hB : Begun w0 p N c 0 0 W) (hK : Keeps NoBlock w0 W) (hD : Whole W D 33 #[.int .u64 0]) (hDlt : D < w0.heap.size) (hb : Bytes8 W p xs) (ho : Octets xs)
    (hp : 0 < xs.length → ∀ q, p = some q → q.block < w0.heap.size) (hc : N ≤ c) (hc' : c ≤ 9223372036854775807) :
    Calls Try.prog 63 (#[.pointer (some ⟨w0.heap.size + 1 + 1, 0, none⟩)] ++ #[.pointer (some ⟨D, 0, none⟩)]) W (ReadEnds w0 p N c (sumA N) (sumE N) (fun w2 => Keeps (Just D) w0 w2 ∧ Whole w2 D 33 #[.int .u64 (sumX xs)])) := by
  by_cases hs : N < 8
  · have e1 : sumA N = 0 := if_pos hs
    have e2 : sumE N = 2 := if_pos hs
    have e3 : sumX xs = 0 := if_pos (by omega)
    rw [e1, e2, e3]
    have HG := Lib.hid (eight_short (w0.heap.size + 1 + 1) p N c 0 W hB.cur (Nat.zero_le _) (by omega) (by omega))
    have HB := Lib.hid hB; have HK := Lib.hid hK; have HD := Lib.hid hD
    clear hB hK hD hb ho hp hx hc hc' e1 e2 e3
    simp only [List.append_toArray, List.nil_append, List.cons_append]
    go_enter Try.func63, Try.ntmps63
    go_wp2_with fail
    refine HG.out.mono ?_
    rintro e w1 ⟨rfl, hcur, hk⟩
    exact ⟨rfl, .inr (gave_given _), HB.out.keep hk hcur, (HK.out.wider (S' := Just D) (fun _ _ h => h.elim)).then hk (fun i hi h => by unfold Just at h; omega), HD.out.keep hk (by unfold Just; omega)⟩
  · have hN8 : N = 8 := by omega
    have e1 : sumA N = 8 := if_neg hs
    have e2 : sumE N = 0 := if_neg hs
    have e3 : sumX xs = le xs := if_neg (by omega)
    have HG := eight_at (w0.heap.size + 1 + 1) p xs N c 0 W hx hB.cur hb ho (fun h0 q hq => by have := hp h0 q hq; omega) (by omega) hc hc'
    rw [List.drop_zero, List.take_of_length_le (by omega)] at HG
    rw [e1, e2, e3]
    obtain ⟨z, hz⟩ : ∃ z, z = le xs := ⟨_, rfl⟩
    rw [← hz] at HG ⊢
    have HG := Lib.hid HG
    have HB := Lib.hid hB; have HK := Lib.hid hK; have HD := Lib.hid hD
    clear hB hK hD hb ho hp hx hc hc' e1 e2 e3 hz hN8
    simp only [List.append_toArray, List.nil_append, List.cons_append]
    go_enter Try.func63, Try.ntmps63
    go_wp2_with fail
    refine HG.out.mono ?_
    rintro e w1 ⟨rfl, hcur, hk⟩
    have hD1 := HD.out.keep hk (by unfold Just; omega)
    have d0 := hD1.cell 0 rfl
    have f0 := hD1.free 0
    simp only [List.getElem_toArray, List.getElem_cons_zero] at d0
    have HB1 := Lib.hid ((HB.out.keep hk hcur).store hDlt (.int .u64 z))
    have HR := Lib.hid (show Keeps (Just D) w0 (w1.setCell ⟨D, 0, none⟩ (.int .u64 z)) from ((HK.out.wider (S' := Just D) (fun _ _ h => h.elim)).then hk (fun i hi h => by unfold Just at h; omega)).setIn (Just.self D) 0 _)
    have HD2 := Lib.hid (hD1.set 0 (.int .u64 z))
    clear hk hcur hD1 HG
    go_wp2_with fail
    go_returns
    exact ⟨.inl rfl, HB1.out, HR.out, HD2.out⟩

/-- A reading of a sum, into block D. -/
theorem run_partIn (D : Nat) (p : Option Addr) (xs : List Int) (N c : Nat) (hx : N = xs.length) (h8 : N ≤ 8) (w0 : World) (hD : Whole w0 D 33 #[.int .u64 0]) (hb : Bytes8 w0 p xs) (ho : Octets xs) (hc : N ≤ c) (hc' : c ≤ 9223372036854775807) :
    Calls Try.prog 62 #[.slice p N c, .func (.func 63) #[] #[.pointer (some ⟨D, 0, none⟩)]] w0 fun e w' => e = .returned (.tuple #[.int .i64 (sumA N : Int), .int .i64 (sumE N)]) ∧ Whole w' D 33 #[.int .u64 (sumX xs)] ∧ Keeps (Just D) w0 w' := by
  have hDlt := hD.lt
  refine (run_any _ _ p N c (sumA N) (sumE N) _ w0 enter_partIn (fun W hB hK _ => partIn w0 W D p xs N c hx h8 hB hK (hD.keep hK (fun h => h)) hDlt (hb.keep hK (fun _ _ h => h)) ho (fun h0 q hq => by
    obtain ⟨a, ha, hcell⟩ := hb h0
    obtain rfl := Option.some.inj (hq.symm.trans ha)
    have := ltOfCell (hcell 0 h0)
    rwa [addBlock] at this) hc hc')).mono ?_
  rintro e w' ⟨rfl, w2, ⟨hR1, hR2⟩, hT⟩
  exact ⟨rfl, hR2.keep hT.2.2.2.2 (by omega), hR1.then hT.2.2.2.2 (fun i hi h => by unfold Just; omega)⟩

set_option maxHeartbeats 1000000 in
set_option maxRecDepth 10000 in
theorem part_own (p : Option Addr) (N c : Nat) (xs : List Int) (w : World) (h : In8 w p N c xs) (hN : N ≤ 1000000) :
    Calls Try.prog 35 #[.slice p N c] w fun e w' => e = .returned (.tuple #[.slice p (N - 8) (N - 8), .int .u64 (sumX (xs.drop (N - 8))), .int .i64 (sumE N)]) ∧ Keeps NoBlock w w' := by
  have hmf := getFnOk
  have hl := h.len
  have hcap := h.cap
  have hroom := h.room
  have hdl : (xs.drop (N - 8)).length = N - (N - 8) := by rw [List.length_drop, ← hl]
  have hk0 : Keeps NoBlock w (w.alloc (.cells #[.int .u64 0] 33)) := (Keeps.refl NoBlock w).alloc _
  have HRn := Lib.hid (fun q d (hq : 0 < N - (N - 8) → q = p.map (·.add (N - 8))) (hd : N - (N - 8) ≤ d) (hd' : d ≤ 9223372036854775807) =>
    run_partIn w.heap.size q (xs.drop (N - 8)) (N - (N - 8)) d hdl.symm (by omega) (w.alloc (.cells #[.int .u64 0] 33)) (Whole.new _ _ _) (by
      have h1 := (h.at_.keep hk0 (fun _ _ h => h)).piece (q := q) (N - 8) (N - (N - 8)) (by omega) hq
      rwa [List.take_of_length_le (by rw [hdl]; exact Nat.le_refl _)] at h1) (h.oct.drop _) hd hd')
  obtain ⟨z, hz⟩ : ∃ z, z = sumX (xs.drop (N - 8)) := ⟨_, rfl⟩
  rw [← hz] at HRn ⊢
  have hse : sumE (N - (N - 8)) = sumE N := by unfold sumE; split <;> split <;> omega
  rw [hse] at HRn
  obtain ⟨y, hy⟩ : ∃ y, y = sumE N := ⟨_, rfl⟩
  rw [← hy] at HRn ⊢
  obtain ⟨a, ha⟩ : ∃ a, a = sumA (N - (N - 8)) := ⟨_, rfl⟩
  rw [← ha] at HRn
  clear h hl hdl hz hse hy ha
  by_cases hs : N < 8
  · obtain ⟨k, hk⟩ : ∃ k, k = N - 8 := ⟨_, rfl⟩
    obtain rfl : k = 0 := by omega
    rw [← hk] at HRn ⊢
    rw [Nat.sub_zero] at HRn
    have hz0 : ((0 : Nat) : Int) = 0 := rfl
    have hm1 : (N : Int) - 8 ≤ 0 := by omega
    have hw1 : IntKind.i64.wrap ((N : Int) - 8) = (N : Int) - 8 := by rw [IntKind.wrap_i64]; omega
    clear hk
    have hm : max ((N : Int) - 8) 0 = 0 := by omega
    by_cases hc0 : c = 0
    · have hN0 : N = 0 := by omega
      subst hc0
      subst hN0
      have hm8 : max (-8 : Int) 0 = 0 := by decide
      go_enter Try.func35, Try.ntmps35
      go_wp2_with fail
      refine (HRn.out _ _ (fun h => by simp at h) (by simp) (by omega)).mono ?_
      rintro e w1 ⟨rfl, hD, hk⟩
      have d0 := hD.cell 0 rfl
      have f0 := hD.free 0
      have d0' : w1.drew.cell? ⟨w.heap.size, 0, none⟩ = some (.int .u64 z) := d0
      have hk2 : Keeps NoBlock w w1 := hk0.then hk (fun i hi h => by unfold Just at h; omega)
      have HK := Lib.hid hk2
      have HD := Lib.hid hD
      clear hk hk2 hD HRn
      go_wp2_with fail
      go_region
      all_goals go_wp2_with fail
      all_goals exact bodyPost_ret (v := .tuple #[.slice p 0 0, .int .u64 z, .int .i64 y]) (by simp [results, Try.results35, go_sem, d0]) rfl ⟨rfl, by first | exact (HK.out.setNew (Nat.le_refl _) 0 _).drew | exact HK.out.setNew (Nat.le_refl _) 0 _⟩
    · go_enter Try.func35, Try.ntmps35
      go_wp2_with fail
      refine (HRn.out p c (fun _ => by cases p <;> simp [Addr.add]) (by omega) (by omega)).mono ?_
      rintro e w1 ⟨rfl, hD, hk⟩
      have d0 := hD.cell 0 rfl
      have f0 := hD.free 0
      have d0' : w1.drew.cell? ⟨w.heap.size, 0, none⟩ = some (.int .u64 z) := d0
      have hk2 : Keeps NoBlock w w1 := hk0.then hk (fun i hi h => by unfold Just at h; omega)
      have HK := Lib.hid hk2
      have HD := Lib.hid hD
      clear hk hk2 hD HRn
      go_wp2_with fail
      go_region
      all_goals go_wp2_with fail
      all_goals exact bodyPost_ret (v := .tuple #[.slice p 0 0, .int .u64 z, .int .i64 y]) (by simp [results, Try.results35, go_sem, d0]) rfl ⟨rfl, by first | exact (HK.out.setNew (Nat.le_refl _) 0 _).drew | exact HK.out.setNew (Nat.le_refl _) 0 _⟩
  · obtain ⟨k, rfl⟩ : ∃ k, N = k + 8 := ⟨N - 8, by omega⟩
    rw [show k + 8 - 8 = k by omega] at HRn ⊢
    rw [show k + 8 - k = 8 by omega] at HRn
    have hw1 : IntKind.i64.wrap (((k + 8 : Nat) : Int) - 8) = (k : Int) := by rw [IntKind.wrap_i64]; omega
    have hck : ¬ c = k := by omega
    go_enter Try.func35, Try.ntmps35
    go_wp2_with fail
    refine (HRn.out _ _ (fun _ => rfl) (by omega) (by omega)).mono ?_
    rintro e w1 ⟨rfl, hD, hk⟩
    have d0 := hD.cell 0 rfl
    have f0 := hD.free 0
    have d0' : w1.drew.cell? ⟨w.heap.size, 0, none⟩ = some (.int .u64 z) := d0
    have hk2 : Keeps NoBlock w w1 := hk0.then hk (fun i hi h => by unfold Just at h; omega)
    have HK := Lib.hid hk2
    have HD := Lib.hid hD
    clear hk hk2 hD HRn
    go_wp2_with fail
    go_region
    all_goals go_wp2_with fail
    all_goals exact bodyPost_ret (v := .tuple #[.slice p k k, .int .u64 z, .int .i64 y]) (by simp [results, Try.results35, go_sem, d0]) rfl ⟨rfl, by first | exact (HK.out.setNew (Nat.le_refl _) 0 _).drew | exact HK.out.setNew (Nat.le_refl _) 0 _⟩

set_option maxHeartbeats 2000000 in
set_option maxRecDepth 10000 in
theorem open_own (p : Option Addr) (N c : Nat) (ys : List Int) (w : World) (h : In8 w p N c ys) (hN : N ≤ 1000000) :
    Calls Try.prog 12 #[.slice p N c] w fun e w' => ∃ v, e = .returned (.tuple #[v, .int .i64 (openN ys).1]) ∧ NewBytes w (openN ys).2 v w' := by
  have HU := Lib.hid (unstuff_cobs p N c ys w h.len h.cap h.room h.bare h.oct hN h.at_)
  have hu := unst_octets h.oct
  have hlen := h.len
  unfold openN
  obtain ⟨y, hy⟩ : ∃ y, y = (unst ys).1 := ⟨_, rfl⟩
  obtain ⟨T, hT⟩ : ∃ T, T = (unst ys).2 := ⟨_, rfl⟩
  rw [← hy] at HU ⊢
  rw [← hT] at HU hu ⊢
  obtain ⟨hto, htl⟩ := hu
  by_cases h0 : y = 0
  · subst h0
    clear hy hT h
    rw [if_neg (by simp)]
    obtain ⟨L, hL⟩ : ∃ L, L = T.length := ⟨_, rfl⟩
    have HP := Lib.hid (fun q d W (hd : L ≤ d) (hd' : d ≤ 9223372036854775807) (hq : q = none → L = 0 ∧ d = 0) (h8 : Bytes8 W q T) => part_own q L d T W ⟨hL, hd, hd', hq, hto, h8⟩ (by omega))
    obtain ⟨k, hk⟩ : ∃ k, k = L - 8 := ⟨_, rfl⟩
    rw [← hk] at HP
    have hdef : openEnd T = if L < 8 then (2, []) else if le (T.drop k) = wxxh 0 (T.take k) then (0, T.take k) else (5, []) := by
      unfold openEnd
      rw [hk, hL]
    rw [hdef]
    by_cases h8 : L < 8
    · rw [if_pos h8]
      have e2 : sumE L = 2 := if_pos h8
      rw [e2] at HP
      obtain ⟨x, hx⟩ : ∃ x, x = sumX (T.drop k) := ⟨_, rfl⟩
      rw [← hx] at HP
      have HL := Lib.hid hL
      clear hx hL hto htl hk hdef e2 hlen
      go_enter Try.func12, Try.ntmps12
      go_wp2_with fail
      refine HU.out.mono ?_
      rintro e w1 ⟨v, rfl, q, m, d, rfl, hm, hmd, hd, hq, hb, hk1⟩
      have hmL : m = L := by rw [hm, HL.out]
      subst hmL
      have HK := Lib.hid hk1
      have HQ := Lib.hid hq
      have HB := Lib.hid hb
      clear hk1 hm hq hb HU
      go_wp2_with fail
      refine (HP.out q d _ hmd hd HQ.out HB.out).mono ?_
      rintro e w2 ⟨rfl, hk2⟩
      have HB2 := Lib.hid (HB.out.keep hk2 (fun _ _ h => h))
      have HK2 := Lib.hid (HK.out.trans hk2)
      clear hk2
      go_wp2_with fail
      refine bodyPost_ret (results_tmp2 rfl _ _ _) rfl ?_
      exact ⟨_, rfl, .ofNil _ _ HK2.out⟩
    · rw [if_neg h8]
      have e2 : sumE L = 0 := if_neg h8
      have e3 : sumX (T.drop k) = le (T.drop k) := if_neg (by rw [List.length_drop]; omega)
      rw [e2, e3] at HP
      have hkl : (T.take k).length = k := by rw [List.length_take]; omega
      have HSum := Lib.hid (fun q W (hq : q = none → k = 0) (hb : Bytes8 W q (T.take k)) => sum_wide 0 u64_zero q k k (T.take k) hkl.symm (Nat.le_refl _) (by omega) (fun h => ⟨hq h, hq h⟩) (hto.take k) (by omega) W hb)
      have HNew := Lib.hid (fun q W (hq : q = none → k = 0) (hb : Bytes8 W q (T.take k)) (hk : Keeps NoBlock w W) => (show NewBytes w (T.take k) (.slice q k k) W from ⟨q, k, k, rfl, hkl.symm, Nat.le_refl _, by omega, fun h => ⟨hq h, hq h⟩, hb, hk⟩))
      have HPc := Lib.hid (fun q W (hb : Bytes8 W q T) => (show Bytes8 W q (T.take k) from by
        have h1 := hb.piece (q := q) 0 k (by omega) (fun h => by cases q <;> simp [Addr.add])
        rwa [List.drop_zero] at h1))
      have HL := Lib.hid hL
      have hkL : k ≤ L := by omega
      have hk9 : k ≤ 1000000 := by omega
      obtain ⟨B, hB⟩ : ∃ B, B = T.take k := ⟨_, rfl⟩
      rw [← hB] at HSum HNew HPc ⊢
      by_cases hv : le (T.drop k) = wxxh 0 B
      · rw [if_pos hv]
        have hne : (le (T.drop k) != wxxh 0 B) = false := by rw [hv]; simp
        obtain ⟨x, hx⟩ : ∃ x, x = le (T.drop k) := ⟨_, rfl⟩
        obtain ⟨z, hz⟩ : ∃ z, z = wxxh 0 B := ⟨_, rfl⟩
        rw [← hx] at HP hne
        rw [← hz] at HSum hne
        clear hx hz hv hB hkl hL hto htl hk hdef e2 e3 hlen
        go_enter Try.func12, Try.ntmps12
        go_wp2_with fail
        refine HU.out.mono ?_
        rintro e w1 ⟨v, rfl, q, m, d, rfl, hm, hmd, hd, hq, hb, hk1⟩
        have hmL : m = L := by rw [hm, HL.out]
        subst hmL
        have HK := Lib.hid hk1
        have HQ := Lib.hid hq
        have HB := Lib.hid hb
        clear hk1 hm hq hb HU
        go_wp2_with fail
        refine (HP.out q d _ hmd hd HQ.out HB.out).mono ?_
        rintro e w2 ⟨rfl, hk2⟩
        have HB2 := Lib.hid (HB.out.keep hk2 (fun _ _ h => h))
        have HK2 := Lib.hid (HK.out.trans hk2)
        clear hk2
        go_wp2_with fail
        have HQ2 : Hid (q = none → k = 0) := Lib.hid (fun h => by have := (HQ.out h).1; omega)
        refine (HSum.out q _ HQ2.out (HPc.out q _ HB2.out)).mono ?_
        rintro e w3 ⟨rfl, hk3⟩
        have HN := Lib.hid (HNew.out q _ HQ2.out (HPc.out q _ (HB2.out.keep hk3 (fun _ _ h => h))) (HK2.out.trans hk3))
        clear hk3
        go_wp2_with fail
        refine bodyPost_ret (results_tmp2 rfl _ _ _) rfl ?_
        exact ⟨_, rfl, HN.out⟩
      · rw [if_neg hv]
        have hne : (le (T.drop k) != wxxh 0 B) = true := by rw [bne_iff_ne]; exact hv
        obtain ⟨x, hx⟩ : ∃ x, x = le (T.drop k) := ⟨_, rfl⟩
        obtain ⟨z, hz⟩ : ∃ z, z = wxxh 0 B := ⟨_, rfl⟩
        rw [← hx] at HP hne
        rw [← hz] at HSum hne
        clear hx hz hv hB hkl hL hto htl hk hdef e2 e3 hlen HNew
        go_enter Try.func12, Try.ntmps12
        go_wp2_with fail
        refine HU.out.mono ?_
        rintro e w1 ⟨v, rfl, q, m, d, rfl, hm, hmd, hd, hq, hb, hk1⟩
        have hmL : m = L := by rw [hm, HL.out]
        subst hmL
        have HK := Lib.hid hk1
        have HQ := Lib.hid hq
        have HB := Lib.hid hb
        clear hk1 hm hq hb HU
        go_wp2_with fail
        refine (HP.out q d _ hmd hd HQ.out HB.out).mono ?_
        rintro e w2 ⟨rfl, hk2⟩
        have HB2 := Lib.hid (HB.out.keep hk2 (fun _ _ h => h))
        have HK2 := Lib.hid (HK.out.trans hk2)
        clear hk2
        go_wp2_with fail
        have HQ2 : Hid (q = none → k = 0) := Lib.hid (fun h => by have := (HQ.out h).1; omega)
        refine (HSum.out q _ HQ2.out (HPc.out q _ HB2.out)).mono ?_
        rintro e w3 ⟨rfl, hk3⟩
        have HK3 := Lib.hid (HK2.out.trans hk3)
        clear hk3
        go_wp2_with fail
        refine bodyPost_ret (results_tmp2 rfl _ _ _) rfl ?_
        exact ⟨_, rfl, .ofNil _ _ HK3.out⟩
  · rw [if_pos h0]
    have hne : (y != 0) = true := by rw [bne_iff_ne]; exact h0
    clear hT hto htl hy h0 h hlen
    go_enter Try.func12, Try.ntmps12
    go_wp2_with fail
    refine HU.out.mono ?_
    rintro e w1 ⟨v, rfl, q, m, d, rfl, hm, hmd, hd, hq, hb, hk⟩
    have HK := Lib.hid hk
    clear hk hm hmd hd hq hb
    go_wp2_with fail
    refine bodyPost_ret (results_tmp2 rfl _ _ _) rfl ?_
    exact ⟨_, rfl, .ofNil _ _ HK.out⟩
end Go.Proofs.Ytjjeaaiajgbncaa

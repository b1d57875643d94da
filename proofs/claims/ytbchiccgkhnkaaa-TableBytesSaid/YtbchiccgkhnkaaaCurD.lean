/-
  Contracts of the call that Run defers: what it does where the reading went on to its end, and where it was given up.
-/
import Derived.Test.YtbchiccgkhnkaaaCurC
import Derived.RegionTactic
import Derived.BigRegion
import Derived.ChangeAlike
import Derived.LaidEqlPtr
import Derived.Lib.Builder
namespace Go.Proofs.Ytbchiccgkhnkaaa
open Go.RowKit

/-- The frame of the deferred call behind its first region, and what stands behind. -/
def doorTmps (V A E k : Nat) (a y : Int) (r : List Value) : Array Value :=
  ⟨[.pointer (some ⟨V, 0, none⟩), .pointer (some ⟨A, 0, none⟩), .pointer (some ⟨E, 0, none⟩), undef, undef, undef, .pointer (some ⟨k, 0, none⟩), .pointer (some ⟨k, 0, none⟩), .pointer (some ⟨k, 1, none⟩), .int .i64 a, .pointer (some ⟨k, 0, none⟩), .pointer (some ⟨k, 0, none⟩), .pointer (some ⟨k, 3, none⟩), .int .i64 y] ++ r⟩

/-- What the deferred call has done to memory: Run's results hold what the cursor told; the cursor is closed. -/
def Told (V A E k : Nat) (a : Nat) (y : Int) (w w' : World) : Prop :=
  Whole w' V 47 #[.pointer (some ⟨k, 0, none⟩)] ∧ Whole w' A 3 #[.int .i64 a] ∧ Whole w' E 43 #[.int .i64 y] ∧ CurB w' k none 0 0 0 false 0 ∧ Keeps (fun i => i = A ∨ i = E ∨ i = k) w w'

def MidPost (V A E k : Nat) (a : Nat) (y : Int) (w : World) : Exit → Act → World → Prop
  | .normal, a', w' => a' = { tmps := doorTmps V A E k a y (List.replicate 15 undef), defers := [] } ∧ ∃ m, w' = (((w.setCell ⟨A, 0, none⟩ (.int .i64 a)).setCell ⟨E, 0, none⟩ (.int .i64 y)).drewN m)
  | _, _, _ => False

theorem MidPost.told {V A E k a : Nat} {y : Int} {w w' : World} {e : Exit} {a' : Act} (h : MidPost V A E k a y w e a' w') :
    e = .normal ∧ a' = { tmps := doorTmps V A E k a y (List.replicate 15 undef), defers := [] } ∧ ∃ m, w' = (((w.setCell ⟨A, 0, none⟩ (.int .i64 a)).setCell ⟨E, 0, none⟩ (.int .i64 y)).drewN m) := by
  cases e with
  | normal => exact ⟨rfl, h⟩
  | _ => exact h.elim

theorem Told.alloc {V A E k a : Nat} {y : Int} {w w' : World} (h : Told V A E k a y w w') (o : Obj) : Told V A E k a y w (w'.alloc o) :=
  ⟨h.1.alloc o, h.2.1.alloc o, h.2.2.1.alloc o, Whole.alloc h.2.2.2.1 o, h.2.2.2.2.alloc o⟩

theorem infoCursor : (Try.prog.info? 75).map (fun i => i.size) = some 4 := by kernel_rfl

theorem neqSame (a : Addr) (w : World) : (binOp .neq 47 (.pointer (some a)) (.pointer (some a))).run Try.prog w = .ok (.bool false) w := by
  obtain ⟨i, hi, hs⟩ := Option.map_eq_some_iff.1 infoCursor
  first | exact run_neq_ptr_same w a Try.underlying47 hi | exact Lib.run_neq_ptr_same w a Try.underlying47 hi

theorem neqOther {a b : Addr} {w : World} {ta tb : TypeId} {ca cb : Array Value} (hne : a ≠ b) (ha : Whole w a.block ta ca) (hb : Whole w b.block tb cb) :
    (binOp .neq 47 (.pointer (some a)) (.pointer (some b))).run Try.prog w = .ok (.bool true) w := by
  obtain ⟨i, hi, hs⟩ := Option.map_eq_some_iff.1 infoCursor
  have h : ∀ d : Nat, (Op.equalIn (d + 1) 47 (.pointer (some a)) (.pointer (some b))).run Try.prog w = .ok false w := fun d => by
    simp [Op.equalIn, run_underlying Try.underlying47, sizeOf, typeInfo, hi, hs, run_sameAddr_other w hne ha hb]
  simp only [binOp]
  simp [Op.equal, Op.maxDepth, h 9999]

theorem assertStopped (q : Option Addr) (w : World) : (Instr.typeAssert (.iface 77 (.agg #[.pointer q])) 20 77 true).run Try.prog w = .ok (.tuple #[.agg #[.pointer q], .bool true]) w := by kernel_rfl

set_option maxHeartbeats 1000000 in
theorem door_idle (V A E k : Nat) (p : Option Addr) (N c a : Nat) (o : Bool) (y x0 x1 : Int) (w : World) (hV : Whole w V 47 #[.pointer (some ⟨k, 0, none⟩)]) (hA : Whole w A 3 #[.int .i64 x0]) (hE : Whole w E 43 #[.int .i64 x1]) (hC : CurB w k p N c a o y) :
    CallsD Try.prog 40 #[.pointer (some ⟨V, 0, none⟩), .pointer (some ⟨A, 0, none⟩), .pointer (some ⟨E, 0, none⟩)] .returning w fun e u' w' => e = .returned (.tuple #[]) ∧ u' = .returning ∧ Told V A E k a y w w' := by
  have hVA : V ≠ A := fun e => by subst e; exact absurd (hV.unique hA).1 (by decide)
  have hVE : V ≠ E := fun e => by subst e; exact absurd (hV.unique hE).1 (by decide)
  have hVk : V ≠ k := fun e => by subst e; exact absurd (hV.unique hC).1 (by decide)
  have hAE : A ≠ E := fun e => by subst e; exact absurd (hA.unique hE).1 (by decide)
  have hAk : A ≠ k := fun e => by subst e; exact absurd (hA.unique hC).1 (by decide)
  have hEk : E ≠ k := fun e => by subst e; exact absurd (hE.unique hC).1 (by decide)
  have cV := hV.cell 0 rfl
  have cA := hA.cell 0 rfl
  have cE := hE.cell 0 rfl
  have c1 := Whole.cell hC 1 rfl
  have c3 := Whole.cell hC 3 rfl
  have fA := hA.free 0
  have fE := hE.free 0
  simp only [List.getElem_toArray, List.getElem_cons_zero, List.getElem_cons_succ] at cV cA cE c1 c3
  refine callsD_of_wpS Try.func40 rfl fun c₀ cs hu => ?_
  simp only [Try.ntmps40, List.size_toArray, List.length_cons, List.length_nil, Nat.reduceAdd, Nat.reduceSub, Array.replicate_succ,
     Array.replicate_zero, List.push_toArray, List.append_toArray, List.nil_append, List.cons_append]
  apply wpS_seq
  refine wpS_of_wp (Code.wp_mono (Q := MidPost V A E k a y w) ?_ ?_)
  case refine_2 =>
    go_region
    all_goals (exact ⟨rfl, _, rfl⟩)
  intro e a' w' hmid
  obtain ⟨rfl, rfl, m, rfl⟩ := hmid.told
  clear hmid
  simp only [Exit.thenS]
  apply wpS_seq
  have dV : (((w.setCell ⟨A, 0, none⟩ (.int .i64 a)).setCell ⟨E, 0, none⟩ (.int .i64 y)).drewN m).cell? ⟨V, 0, none⟩ = some (.pointer (some ⟨k, 0, none⟩)) := Whole.cell ((((hV.setOther hVA _).setOther hVE _).drewN m)) 0 rfl
  obtain ⟨W, hW⟩ : ∃ W, W = (((w.setCell ⟨A, 0, none⟩ (.int .i64 a)).setCell ⟨E, 0, none⟩ (.int .i64 y)).drewN m) := ⟨_, rfl⟩
  rw [← hW] at dV ⊢
  have dC : CurB W k p N c a o y := by rw [hW]; exact ((Whole.setOther hC (Ne.symm hAk) _).setOther (Ne.symm hEk) _).drewN m
  have d0 := Whole.cell dC 0 rfl
  have d1 := Whole.cell dC 1 rfl
  have d2 := Whole.cell dC 2 rfl
  have d3 := Whole.cell dC 3 rfl
  have f0 := Whole.free dC 0
  have f1 := Whole.free dC 1
  have f2 := Whole.free dC 2
  have f3 := Whole.free dC 3
  have HW := Lib.hid hW
  clear hW cV cA cE c1 c3 fA fE
  unfold doorTmps
  refine wpS_of_wp ?_
  go_wp2
  simp only [Exit.thenS]
  have hT : Told V A E k a y w ((((W.setCell ⟨k, 0, none⟩ (.slice none 0 0)).setCell ⟨k, 1, none⟩ (.int .i64 0)).setCell ⟨k, 2, none⟩ (.bool false)).setCell ⟨k, 3, none⟩ (.int .i64 0)) := by
    have HW := HW.out
    refine ⟨?_, ?_, ?_, Whole.set (Whole.set (Whole.set (Whole.set dC 0 _) 1 _) 2 _) 3 _, ?_⟩
    · refine Whole.setOther (Whole.setOther (Whole.setOther (Whole.setOther ?_ hVk _) hVk _) hVk _) hVk _
      rw [HW]; exact ((hV.setOther hVA _).setOther hVE _).drewN m
    · refine Whole.setOther (Whole.setOther (Whole.setOther (Whole.setOther ?_ hAk _) hAk _) hAk _) hAk _
      rw [HW]; exact ((hA.set 0 _).setOther hAE _).drewN m
    · refine Whole.setOther (Whole.setOther (Whole.setOther (Whole.setOther ?_ hEk _) hEk _) hEk _) hEk _
      rw [HW]; exact ((hE.setOther (Ne.symm hAE) _).set 0 _).drewN m
    · refine Keeps.setIn (Keeps.setIn (Keeps.setIn (Keeps.setIn ?_ (.inr (.inr rfl)) _ _) (.inr (.inr rfl)) _ _) (.inr (.inr rfl)) _ _) (.inr (.inr rfl)) _ _
      rw [HW]
      exact (((Keeps.refl _ _).setIn (.inl rfl) _ _).setIn (.inr (.inl rfl)) _ _).drewN m
  obtain ⟨W2, hW2⟩ : ∃ W2, W2 = ((((W.setCell ⟨k, 0, none⟩ (.slice none 0 0)).setCell ⟨k, 1, none⟩ (.int .i64 0)).setCell ⟨k, 2, none⟩ (.bool false)).setCell ⟨k, 3, none⟩ (.int .i64 0)) := ⟨_, rfl⟩
  rw [← hW2] at hT ⊢
  clear hW2 HW dV d0 d1 d2 d3 f0 f1 f2 f3 dC hC hV hA hE
  have eV := Whole.cell hT.1 0 rfl
  simp only [List.getElem_toArray, List.getElem_cons_zero] at eV
  have HT := Lib.hid hT
  clear hT
  apply wpS_seq
  apply wpS_region
  simp [wpOpsS, go_sem, recoverD, hu, Exit.thenS]
  refine wpS_of_wp ?_
  go_wp2
  refine ⟨rfl, .returning, ?_, .tuple #[], by simp [results, Try.results40], rfl, rfl, HT.out⟩
  rw [← hu]

set_option maxHeartbeats 1000000 in
theorem door_own (older : List PanicEntry) (V A E k : Nat) (p : Option Addr) (N c a : Nat) (o : Bool) (y x0 x1 : Int) (w : World) (hV : Whole w V 47 #[.pointer (some ⟨k, 0, none⟩)]) (hA : Whole w A 3 #[.int .i64 x0]) (hE : Whole w E 43 #[.int .i64 x1]) (hC : CurB w k p N c a o y) :
    CallsD Try.prog 40 #[.pointer (some ⟨V, 0, none⟩), .pointer (some ⟨A, 0, none⟩), .pointer (some ⟨E, 0, none⟩)] (.panicking ({ v := .iface 77 (.agg #[.pointer (some ⟨k, 0, none⟩)]), recovered := false } :: older)) w fun e u' w' => e = .returned (.tuple #[]) ∧ u' = .panicking ({ v := .iface 77 (.agg #[.pointer (some ⟨k, 0, none⟩)]), recovered := true } :: older) ∧ Told V A E k a y w w' := by
  have hta := assertStopped
  have hns := neqSame
  have hVA : V ≠ A := fun e => by subst e; exact absurd (hV.unique hA).1 (by decide)
  have hVE : V ≠ E := fun e => by subst e; exact absurd (hV.unique hE).1 (by decide)
  have hVk : V ≠ k := fun e => by subst e; exact absurd (hV.unique hC).1 (by decide)
  have hAE : A ≠ E := fun e => by subst e; exact absurd (hA.unique hE).1 (by decide)
  have hAk : A ≠ k := fun e => by subst e; exact absurd (hA.unique hC).1 (by decide)
  have hEk : E ≠ k := fun e => by subst e; exact absurd (hE.unique hC).1 (by decide)
  have cV := hV.cell 0 rfl
  have cA := hA.cell 0 rfl
  have cE := hE.cell 0 rfl
  have c1 := Whole.cell hC 1 rfl
  have c3 := Whole.cell hC 3 rfl
  have fA := hA.free 0
  have fE := hE.free 0
  simp only [List.getElem_toArray, List.getElem_cons_zero, List.getElem_cons_succ] at cV cA cE c1 c3
  refine callsD_of_wpS Try.func40 rfl fun c₀ cs hu => ?_
  simp only [Try.ntmps40, List.size_toArray, List.length_cons, List.length_nil, Nat.reduceAdd, Nat.reduceSub, Array.replicate_succ,
     Array.replicate_zero, List.push_toArray, List.append_toArray, List.nil_append, List.cons_append]
  apply wpS_seq
  refine wpS_of_wp (Code.wp_mono (Q := MidPost V A E k a y w) ?_ ?_)
  case refine_2 =>
    go_region
    all_goals (exact ⟨rfl, _, rfl⟩)
  intro e a' w' hmid
  obtain ⟨rfl, rfl, m, rfl⟩ := hmid.told
  clear hmid
  simp only [Exit.thenS]
  apply wpS_seq
  have dV : (((w.setCell ⟨A, 0, none⟩ (.int .i64 a)).setCell ⟨E, 0, none⟩ (.int .i64 y)).drewN m).cell? ⟨V, 0, none⟩ = some (.pointer (some ⟨k, 0, none⟩)) := Whole.cell ((((hV.setOther hVA _).setOther hVE _).drewN m)) 0 rfl
  obtain ⟨W, hW⟩ : ∃ W, W = (((w.setCell ⟨A, 0, none⟩ (.int .i64 a)).setCell ⟨E, 0, none⟩ (.int .i64 y)).drewN m) := ⟨_, rfl⟩
  rw [← hW] at dV ⊢
  have dC : CurB W k p N c a o y := by rw [hW]; exact ((Whole.setOther hC (Ne.symm hAk) _).setOther (Ne.symm hEk) _).drewN m
  have d0 := Whole.cell dC 0 rfl
  have d1 := Whole.cell dC 1 rfl
  have d2 := Whole.cell dC 2 rfl
  have d3 := Whole.cell dC 3 rfl
  have f0 := Whole.free dC 0
  have f1 := Whole.free dC 1
  have f2 := Whole.free dC 2
  have f3 := Whole.free dC 3
  have HW := Lib.hid hW
  clear hW cV cA cE c1 c3 fA fE
  unfold doorTmps
  refine wpS_of_wp ?_
  go_wp2
  simp only [Exit.thenS]
  have hT : Told V A E k a y w ((((W.setCell ⟨k, 0, none⟩ (.slice none 0 0)).setCell ⟨k, 1, none⟩ (.int .i64 0)).setCell ⟨k, 2, none⟩ (.bool false)).setCell ⟨k, 3, none⟩ (.int .i64 0)) := by
    have HW := HW.out
    refine ⟨?_, ?_, ?_, Whole.set (Whole.set (Whole.set (Whole.set dC 0 _) 1 _) 2 _) 3 _, ?_⟩
    · refine Whole.setOther (Whole.setOther (Whole.setOther (Whole.setOther ?_ hVk _) hVk _) hVk _) hVk _
      rw [HW]; exact ((hV.setOther hVA _).setOther hVE _).drewN m
    · refine Whole.setOther (Whole.setOther (Whole.setOther (Whole.setOther ?_ hAk _) hAk _) hAk _) hAk _
      rw [HW]; exact ((hA.set 0 _).setOther hAE _).drewN m
    · refine Whole.setOther (Whole.setOther (Whole.setOther (Whole.setOther ?_ hEk _) hEk _) hEk _) hEk _
      rw [HW]; exact ((hE.setOther (Ne.symm hAE) _).set 0 _).drewN m
    · refine Keeps.setIn (Keeps.setIn (Keeps.setIn (Keeps.setIn ?_ (.inr (.inr rfl)) _ _) (.inr (.inr rfl)) _ _) (.inr (.inr rfl)) _ _) (.inr (.inr rfl)) _ _
      rw [HW]
      exact (((Keeps.refl _ _).setIn (.inl rfl) _ _).setIn (.inr (.inl rfl)) _ _).drewN m
  obtain ⟨W2, hW2⟩ : ∃ W2, W2 = ((((W.setCell ⟨k, 0, none⟩ (.slice none 0 0)).setCell ⟨k, 1, none⟩ (.int .i64 0)).setCell ⟨k, 2, none⟩ (.bool false)).setCell ⟨k, 3, none⟩ (.int .i64 0)) := ⟨_, rfl⟩
  rw [← hW2] at hT ⊢
  clear hW2 HW dV d0 d1 d2 d3 f0 f1 f2 f3 dC hC hV hA hE
  have eV := Whole.cell hT.1 0 rfl
  simp only [List.getElem_toArray, List.getElem_cons_zero] at eV
  have eV2 : ∀ o, (W2.alloc o).cell? ⟨V, 0, none⟩ = some (.pointer (some ⟨k, 0, none⟩)) := fun o => Whole.cell (hT.1.alloc o) 0 rfl
  have HT := Lib.hid hT
  clear hT
  apply wpS_seq
  apply wpS_region
  simp [wpOpsS, go_sem, recoverD, hu, Exit.thenS]
  refine wpS_of_wp ?_
  go_wp2
  refine ⟨rfl, .panicking ({ v := .iface 77 (.agg #[.pointer (some ⟨k, 0, none⟩)]), recovered := true } :: older), rfl, .tuple #[], by simp [results, Try.results40], rfl, rfl, HT.out.alloc _⟩

set_option maxHeartbeats 1000000 in
theorem door_other (older : List PanicEntry) (q : Nat) (V A E k : Nat) (p : Option Addr) (N c a : Nat) (o : Bool) (y x0 x1 : Int) (w : World) (hq : q ≠ k) (cq : Array Value) (hQ : Whole w q 75 cq) (hV : Whole w V 47 #[.pointer (some ⟨k, 0, none⟩)]) (hA : Whole w A 3 #[.int .i64 x0]) (hE : Whole w E 43 #[.int .i64 x1]) (hC : CurB w k p N c a o y) :
    CallsD Try.prog 40 #[.pointer (some ⟨V, 0, none⟩), .pointer (some ⟨A, 0, none⟩), .pointer (some ⟨E, 0, none⟩)] (.panicking ({ v := .iface 77 (.agg #[.pointer (some ⟨q, 0, none⟩)]), recovered := false } :: older)) w fun e u' w' => e = .panicked (given q) ∧ u' = .panicking ({ v := .iface 77 (.agg #[.pointer (some ⟨q, 0, none⟩)]), recovered := true } :: older) ∧ Told V A E k a y w w' := by
  have hta := assertStopped
  have hVA : V ≠ A := fun e => by subst e; exact absurd (hV.unique hA).1 (by decide)
  have hVE : V ≠ E := fun e => by subst e; exact absurd (hV.unique hE).1 (by decide)
  have hVk : V ≠ k := fun e => by subst e; exact absurd (hV.unique hC).1 (by decide)
  have hAE : A ≠ E := fun e => by subst e; exact absurd (hA.unique hE).1 (by decide)
  have hAk : A ≠ k := fun e => by subst e; exact absurd (hA.unique hC).1 (by decide)
  have hEk : E ≠ k := fun e => by subst e; exact absurd (hE.unique hC).1 (by decide)
  have hAq : q ≠ A := fun e => by subst e; exact absurd (hA.unique hQ).1 (by decide)
  have hEq : q ≠ E := fun e => by subst e; exact absurd (hE.unique hQ).1 (by decide)
  have cV := hV.cell 0 rfl
  have cA := hA.cell 0 rfl
  have cE := hE.cell 0 rfl
  have c1 := Whole.cell hC 1 rfl
  have c3 := Whole.cell hC 3 rfl
  have fA := hA.free 0
  have fE := hE.free 0
  simp only [List.getElem_toArray, List.getElem_cons_zero, List.getElem_cons_succ] at cV cA cE c1 c3
  refine callsD_of_wpS Try.func40 rfl fun c₀ cs hu => ?_
  simp only [Try.ntmps40, List.size_toArray, List.length_cons, List.length_nil, Nat.reduceAdd, Nat.reduceSub, Array.replicate_succ,
     Array.replicate_zero, List.push_toArray, List.append_toArray, List.nil_append, List.cons_append]
  apply wpS_seq
  refine wpS_of_wp (Code.wp_mono (Q := MidPost V A E k a y w) ?_ ?_)
  case refine_2 =>
    go_region
    all_goals (exact ⟨rfl, _, rfl⟩)
  intro e a' w' hmid
  obtain ⟨rfl, rfl, m, rfl⟩ := hmid.told
  clear hmid
  simp only [Exit.thenS]
  apply wpS_seq
  have dV : (((w.setCell ⟨A, 0, none⟩ (.int .i64 a)).setCell ⟨E, 0, none⟩ (.int .i64 y)).drewN m).cell? ⟨V, 0, none⟩ = some (.pointer (some ⟨k, 0, none⟩)) := Whole.cell ((((hV.setOther hVA _).setOther hVE _).drewN m)) 0 rfl
  obtain ⟨W, hW⟩ : ∃ W, W = (((w.setCell ⟨A, 0, none⟩ (.int .i64 a)).setCell ⟨E, 0, none⟩ (.int .i64 y)).drewN m) := ⟨_, rfl⟩
  rw [← hW] at dV ⊢
  have dC : CurB W k p N c a o y := by rw [hW]; exact ((Whole.setOther hC (Ne.symm hAk) _).setOther (Ne.symm hEk) _).drewN m
  have d0 := Whole.cell dC 0 rfl
  have d1 := Whole.cell dC 1 rfl
  have d2 := Whole.cell dC 2 rfl
  have d3 := Whole.cell dC 3 rfl
  have f0 := Whole.free dC 0
  have f1 := Whole.free dC 1
  have f2 := Whole.free dC 2
  have f3 := Whole.free dC 3
  have HW := Lib.hid hW
  clear hW cV cA cE c1 c3 fA fE
  unfold doorTmps
  refine wpS_of_wp ?_
  go_wp2
  simp only [Exit.thenS]
  have hT : Told V A E k a y w ((((W.setCell ⟨k, 0, none⟩ (.slice none 0 0)).setCell ⟨k, 1, none⟩ (.int .i64 0)).setCell ⟨k, 2, none⟩ (.bool false)).setCell ⟨k, 3, none⟩ (.int .i64 0)) := by
    have HW := HW.out
    refine ⟨?_, ?_, ?_, Whole.set (Whole.set (Whole.set (Whole.set dC 0 _) 1 _) 2 _) 3 _, ?_⟩
    · refine Whole.setOther (Whole.setOther (Whole.setOther (Whole.setOther ?_ hVk _) hVk _) hVk _) hVk _
      rw [HW]; exact ((hV.setOther hVA _).setOther hVE _).drewN m
    · refine Whole.setOther (Whole.setOther (Whole.setOther (Whole.setOther ?_ hAk _) hAk _) hAk _) hAk _
      rw [HW]; exact ((hA.set 0 _).setOther hAE _).drewN m
    · refine Whole.setOther (Whole.setOther (Whole.setOther (Whole.setOther ?_ hEk _) hEk _) hEk _) hEk _
      rw [HW]; exact ((hE.setOther (Ne.symm hAE) _).set 0 _).drewN m
    · refine Keeps.setIn (Keeps.setIn (Keeps.setIn (Keeps.setIn ?_ (.inr (.inr rfl)) _ _) (.inr (.inr rfl)) _ _) (.inr (.inr rfl)) _ _) (.inr (.inr rfl)) _ _
      rw [HW]
      exact (((Keeps.refl _ _).setIn (.inl rfl) _ _).setIn (.inr (.inl rfl)) _ _).drewN m
  obtain ⟨W2, hW2⟩ : ∃ W2, W2 = ((((W.setCell ⟨k, 0, none⟩ (.slice none 0 0)).setCell ⟨k, 1, none⟩ (.int .i64 0)).setCell ⟨k, 2, none⟩ (.bool false)).setCell ⟨k, 3, none⟩ (.int .i64 0)) := ⟨_, rfl⟩
  rw [← hW2] at hT ⊢
  clear hW2 HW dV d0 d1 d2 d3 f0 f1 f2 f3 dC hC hV hA hE
  have eV := Whole.cell hT.1 0 rfl
  simp only [List.getElem_toArray, List.getElem_cons_zero] at eV
  have eV2 : ∀ o, (W2.alloc o).cell? ⟨V, 0, none⟩ = some (.pointer (some ⟨k, 0, none⟩)) := fun o => Whole.cell (hT.1.alloc o) 0 rfl
  have hQ2 : Whole W2 q 75 cq := hQ.keep hT.2.2.2.2 (by
    rintro (e | e | e)
    · exact hAq e
    · exact hEq e
    · exact hq e)
  have hno : ∀ o, (binOp .neq 47 (.pointer (some ⟨q, 0, none⟩)) (.pointer (some ⟨k, 0, none⟩))).run Try.prog (W2.alloc o) = .ok (.bool true) (W2.alloc o) := fun o =>
    neqOther (by intro e; exact hq (congrArg Addr.block e)) (hQ2.alloc o) (Whole.alloc hT.2.2.2.1 o)
  have HT := Lib.hid hT
  clear hT hQ2 hAq hEq hQ
  apply wpS_seq
  apply wpS_region
  simp [wpOpsS, go_sem, recoverD, hu, Exit.thenS]
  refine wpS_of_wp ?_
  go_wp2
  exact ⟨rfl, .panicking ({ v := .iface 77 (.agg #[.pointer (some ⟨q, 0, none⟩)]), recovered := true } :: older), rfl, rfl, rfl, HT.out.alloc _⟩
end Go.Proofs.Ytbchiccgkhnkaaa

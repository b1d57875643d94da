/-
  The contract of Run: a reading that goes on to its end, one that its own cursor gives up, one that an outer cursor gives up; and no reading at all.
-/
import Derived.Test.YtbchiccgkhnkaaaCurD
namespace Go.Proofs.Ytbchiccgkhnkaaa
open Go.RowKit

/-- The world in which the reading begins: Run's two results, the cursor, the variable that holds it, each in a block of its own behind all that there was. -/
structure Begun (w : World) (p : Option Addr) (N c : Nat) (a : Nat) (y : Int) (W : World) : Prop where
  at_ : Whole W w.heap.size 3 #[.int .i64 0]
  why : Whole W (w.heap.size + 1) 43 #[.int .i64 0]
  cur : CurB W (w.heap.size + 1 + 1) p N c a true y
  var : Whole W (w.heap.size + 1 + 1 + 1) 47 #[.pointer (some ⟨w.heap.size + 1 + 1, 0, none⟩)]

/-- The panic by which the reading of the cursor in block k is given up; what was recovered on its way here stands behind it. -/
def Gave (k : Nat) (e : Ending) : Prop :=
  ∃ older : List PanicEntry, e = .panicked ({ v := .iface 77 (.agg #[.pointer (some ⟨k, 0, none⟩)]), recovered := false } :: older) ∧ older.dropWhile (fun x => !x.goexit) = []

theorem gave_given (k : Nat) : Gave k (.panicked (given k)) := ⟨[], rfl, rfl⟩

theorem funcNotNil (f : Fn) (a b : Array Value) (w : World) : (binOp .eql 49 (.func f a b) .nilFunc).run Try.prog w = .ok (.bool false) w := by kernel_rfl
theorem funcNil (w : World) : (binOp .eql 49 .nilFunc .nilFunc).run Try.prog w = .ok (.bool true) w := by kernel_rfl

theorem Begun.keep {w : World} {p : Option Addr} {N c a : Nat} {y : Int} {W W' : World} (h : Begun w p N c a y W) {b : Nat} {z : Int} (hk : Keeps (Just (w.heap.size + 1 + 1)) W W') (hc : CurB W' (w.heap.size + 1 + 1) p N c b true z) : Begun w p N c b z W' :=
  ⟨h.at_.keep hk (by unfold Just; omega), h.why.keep hk (by unfold Just; omega), hc, h.var.keep hk (by unfold Just; omega)⟩

theorem Begun.stay {w : World} {p : Option Addr} {N c a : Nat} {y : Int} {W W' : World} (h : Begun w p N c a y W) {S : Nat → Prop} (hk : Keeps S W W') (hs : ∀ i, w.heap.size ≤ i → ¬ S i) : Begun w p N c a y W' :=
  ⟨h.at_.keep hk (hs _ (by omega)), h.why.keep hk (hs _ (by omega)), Whole.keep h.cur hk (hs _ (by omega)), h.var.keep hk (hs _ (by omega))⟩

theorem begun (w : World) (p : Option Addr) (N c : Nat) : Begun w p N c 0 0 ((((w.alloc (.cells #[.int .i64 0] 3)).alloc (.cells #[.int .i64 0] 43)).alloc (.cells #[.slice p N c, .int .i64 0, .bool true, .int .i64 0] 75)).alloc (.cells #[.pointer (some ⟨w.heap.size + 1 + 1, 0, none⟩)] 47)) :=
  ⟨(((Whole.new _ _ _).alloc _).alloc _).alloc _, ((Whole.newAt _ _ _ _ (by simp)).alloc _).alloc _, Whole.alloc (Whole.newAt _ _ _ _ (by simp)) _, Whole.newAt _ _ _ _ (by simp)⟩

theorem begun_keeps (S : Nat → Prop) (w : World) (p : Option Addr) (N c : Nat) : Keeps S w ((((w.alloc (.cells #[.int .i64 0] 3)).alloc (.cells #[.int .i64 0] 43)).alloc (.cells #[.slice p N c, .int .i64 0, .bool true, .int .i64 0] 75)).alloc (.cells #[.pointer (some ⟨w.heap.size + 1 + 1, 0, none⟩)] 47)) :=
  ((((Keeps.refl _ _).alloc _).alloc _).alloc _).alloc _

/-- Run's answer: how many bytes were read, and why the reading stopped; the cursor is closed. -/
def RunTold (w : World) (a : Nat) (y : Int) (R : World → Prop) (e : Ending) (w' : World) : Prop :=
  e = .returned (.tuple #[.int .i64 a, .int .i64 y]) ∧ ∃ w2, R w2 ∧ Told (w.heap.size + 1 + 1 + 1) w.heap.size (w.heap.size + 1) (w.heap.size + 1 + 1) a y w2 w'

/-- How a reading ends that isn't given up by another one's cursor. -/
def ReadEnds (w : World) (p : Option Addr) (N c a : Nat) (y : Int) (R : World → Prop) (e : Ending) (w2 : World) : Prop :=
  (e = .returned (.tuple #[]) ∨ Gave (w.heap.size + 1 + 1) e) ∧ Begun w p N c a y w2 ∧ R w2

set_option maxHeartbeats 1000000 in
theorem run_any (K : Nat) (cap : Array Value) (p : Option Addr) (N c a : Nat) (y : Int) (R : World → Prop) (w : World) (hK : ∀ (args : Array Value) (w : World), (callFunc K args).run Try.prog w = .ok (.enter K args) w)
    (hread : ∀ W, Begun w p N c 0 0 W → Keeps NoBlock w W → W.heap.size = w.heap.size + 1 + 1 + 1 + 1 → Calls Try.prog K (#[.pointer (some ⟨w.heap.size + 1 + 1, 0, none⟩)] ++ cap) W (ReadEnds w p N c a y R)) :
    Calls Try.prog 17 #[.slice p N c, .func (.func K) #[] cap] w (RunTold w a y R) := by
  have hmf : ∀ (fn : Fn) (first cap : Array Value) (w : World), (Instr.makeFunc fn first cap).run Try.prog w = .ok (.func fn first cap) w := fun _ _ _ _ => rfl
  have hfn := funcNotNil
  have HR := Lib.hid (hread _ (begun w p N c) (begun_keeps _ w p N c) (by simp))
  clear hread
  go_enter_defers Try.func17, Try.ntmps17
  go_wp2_with fail
  refine HR.out.mono ?_
  rintro e w2 ⟨he, hB, hR⟩
  clear HR
  have HB := Lib.hid hB; have HR := Lib.hid hR
  clear hB hR
  rcases he with rfl | ⟨older, rfl, hold⟩
  · go_wp2_with fail
    refine leaves_cons (f := 40) (args := #[.pointer (some ⟨w.heap.size + 1 + 1 + 1, 0, none⟩), .pointer (some ⟨w.heap.size, 0, none⟩), .pointer (some ⟨w.heap.size + 1, 0, none⟩)]) (by simp) (by simp [go_sem]) ?_
    refine (door_idle _ _ _ _ p N c a true y 0 0 w2 HB.out.var HB.out.at_ HB.out.why HB.out.cur).mono ?_
    rintro e u' w3 ⟨rfl, rfl, hT⟩
    have HT := Lib.hid hT
    have r1 := hT.2.1.cell 0 rfl
    have r2 := hT.2.2.1.cell 0 rfl
    clear hT
    simp only [List.getElem_toArray, List.getElem_cons_zero] at r1 r2
    simp [Leaves, settle, results, Try.results17, go_sem, r1, r2]
    exact ⟨rfl, w2, HR.out, HT.out⟩
  · simp only [bodyPostD]
    refine leaves_cons (f := 40) (args := #[.pointer (some ⟨w.heap.size + 1 + 1 + 1, 0, none⟩), .pointer (some ⟨w.heap.size, 0, none⟩), .pointer (some ⟨w.heap.size + 1, 0, none⟩)]) (by simp) (by simp [go_sem]) ?_
    refine (door_own older _ _ _ _ p N c a true y 0 0 w2 HB.out.var HB.out.at_ HB.out.why HB.out.cur).mono ?_
    rintro e u' w3 ⟨rfl, rfl, hT⟩
    have HT := Lib.hid hT
    have r1 := hT.2.1.cell 0 rfl
    have r2 := hT.2.2.1.cell 0 rfl
    clear hT
    simp only [List.getElem_toArray, List.getElem_cons_zero] at r1 r2
    simp [Leaves, settle, hold, results, Try.results17, go_sem, r1, r2]
    exact ⟨rfl, w2, HR.out, HT.out⟩

/-- Where an outer cursor, that of block q, gives the reading up: Run goes on with the panic. -/
def RunGave (q : Nat) (w : World) (a : Nat) (y : Int) (R : World → Prop) (e : Ending) (w' : World) : Prop :=
  Gave q e ∧ ∃ w2, R w2 ∧ Told (w.heap.size + 1 + 1 + 1) w.heap.size (w.heap.size + 1) (w.heap.size + 1 + 1) a y w2 w'

def ReadGave (q : Nat) (w : World) (p : Option Addr) (N c a : Nat) (y : Int) (R : World → Prop) (e : Ending) (w2 : World) : Prop :=
  Gave q e ∧ Begun w p N c a y w2 ∧ (∃ cq, Whole w2 q 75 cq) ∧ R w2

set_option maxHeartbeats 1000000 in
theorem run_gave (q : Nat) (K : Nat) (cap : Array Value) (p : Option Addr) (N c a : Nat) (y : Int) (R : World → Prop) (w : World) (hq : q ≠ w.heap.size + 1 + 1) (hK : ∀ (args : Array Value) (w : World), (callFunc K args).run Try.prog w = .ok (.enter K args) w)
    (hread : ∀ W, Begun w p N c 0 0 W → Keeps NoBlock w W → W.heap.size = w.heap.size + 1 + 1 + 1 + 1 → Calls Try.prog K (#[.pointer (some ⟨w.heap.size + 1 + 1, 0, none⟩)] ++ cap) W (ReadGave q w p N c a y R)) :
    Calls Try.prog 17 #[.slice p N c, .func (.func K) #[] cap] w (RunGave q w a y R) := by
  have hmf : ∀ (fn : Fn) (first cap : Array Value) (w : World), (Instr.makeFunc fn first cap).run Try.prog w = .ok (.func fn first cap) w := fun _ _ _ _ => rfl
  have hfn := funcNotNil
  have HR := Lib.hid (hread _ (begun w p N c) (begun_keeps _ w p N c) (by simp))
  have HQ := Lib.hid hq
  clear hread hq
  go_enter_defers Try.func17, Try.ntmps17
  go_wp2_with fail
  refine HR.out.mono ?_
  rintro e w2 ⟨⟨older, rfl, hold⟩, hB, ⟨cq, hC⟩, hR⟩
  clear HR
  have HB := Lib.hid hB; have HR := Lib.hid hR
  clear hB hR
  simp only [bodyPostD]
  refine leaves_cons (f := 40) (args := #[.pointer (some ⟨w.heap.size + 1 + 1 + 1, 0, none⟩), .pointer (some ⟨w.heap.size, 0, none⟩), .pointer (some ⟨w.heap.size + 1, 0, none⟩)]) (by simp) (by simp [go_sem]) ?_
  refine (door_other older q _ _ _ _ p N c a true y 0 0 w2 HQ.out cq hC HB.out.var HB.out.at_ HB.out.why HB.out.cur).mono ?_
  rintro e u' w3 ⟨rfl, rfl, hT⟩
  have HT := Lib.hid hT
  clear hT
  simp [Leaves, raised]
  exact ⟨⟨_, rfl, by simpa using hold⟩, w2, HR.out, HT.out⟩

theorem run_nil (p : Option Addr) (N c : Nat) (w : World) :
    Calls Try.prog 17 #[.slice p N c, .nilFunc] w fun e w' => e = .returned (.tuple #[.int .i64 0, .int .i64 0]) ∧ Keeps NoBlock w w' := by
  have hfn := funcNil
  go_enter_defers Try.func17, Try.ntmps17
  go_wp2_with fail
  simp [bodyPostD, Leaves, results, Try.results17, go_sem]
  exact ((Keeps.refl _ _).alloc _).alloc _
end Go.Proofs.Ytbchiccgkhnkaaa

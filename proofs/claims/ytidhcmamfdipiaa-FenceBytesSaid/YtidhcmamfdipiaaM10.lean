/-
  CurE; VarRead; Lives2; ApartWalk; VBackRead; CurF.
-/
import Derived.Test.YtidhcmamfdipiaaM05
import Derived.Test.YtidhcmamfdipiaaM06
import Derived.Test.YtidhcmamfdipiaaM07
import Derived.Test.YtidhcmamfdipiaaM08
import Derived.Test.YtidhcmamfdipiaaM09
namespace Go.Proofs.Ytidhcmamfdipiaa
open Go.RowKit

/-- The world in which the reading begins: Run's two results, the cursor, the variable that holds it, each in a block of its own behind all that there was. -/
structure Begun (w : World) (p : Option Addr) (N c : Nat) (a : Nat) (y : Int) (W : World) : Prop where
  at_ : Whole W w.heap.size 3 #[.int .i64 0]
  why : Whole W (w.heap.size + 1) 45 #[.int .i64 0]
  cur : CurB W (w.heap.size + 1 + 1) p N c a true y
  var : Whole W (w.heap.size + 1 + 1 + 1) 49 #[.pointer (some ⟨w.heap.size + 1 + 1, 0, none⟩)]

/-- The panic by which the reading of the cursor in block k is given up; what was recovered on its way here stands behind it. -/
def Gave (k : Nat) (e : Ending) : Prop :=
  ∃ older : List PanicEntry, e = .panicked ({ v := .iface 75 (.agg #[.pointer (some ⟨k, 0, none⟩)]), recovered := false } :: older) ∧ older.dropWhile (fun x => !x.goexit) = []

theorem gave_given (k : Nat) : Gave k (.panicked (given k)) := ⟨[], rfl, rfl⟩

theorem funcNotNil (f : Fn) (a b : Array Value) (w : World) : (binOp .eql 51 (.func f a b) .nilFunc).run Try.prog w = .ok (.bool false) w := by kernel_rfl
theorem funcNil (w : World) : (binOp .eql 51 .nilFunc .nilFunc).run Try.prog w = .ok (.bool true) w := by kernel_rfl

theorem Begun.keep {w : World} {p : Option Addr} {N c a : Nat} {y : Int} {W W' : World} (h : Begun w p N c a y W) {b : Nat} {z : Int} (hk : Keeps (Just (w.heap.size + 1 + 1)) W W') (hc : CurB W' (w.heap.size + 1 + 1) p N c b true z) : Begun w p N c b z W' :=
  ⟨h.at_.keep hk (by unfold Just; omega), h.why.keep hk (by unfold Just; omega), hc, h.var.keep hk (by unfold Just; omega)⟩

theorem Begun.stay {w : World} {p : Option Addr} {N c a : Nat} {y : Int} {W W' : World} (h : Begun w p N c a y W) {S : Nat → Prop} (hk : Keeps S W W') (hs : ∀ i, w.heap.size ≤ i → ¬ S i) : Begun w p N c a y W' :=
  ⟨h.at_.keep hk (hs _ (by omega)), h.why.keep hk (hs _ (by omega)), Whole.keep h.cur hk (hs _ (by omega)), h.var.keep hk (hs _ (by omega))⟩

theorem begun (w : World) (p : Option Addr) (N c : Nat) : Begun w p N c 0 0 ((((w.alloc (.cells #[.int .i64 0] 3)).alloc (.cells #[.int .i64 0] 45)).alloc (.cells #[.slice p N c, .int .i64 0, .bool true, .int .i64 0] 73)).alloc (.cells #[.pointer (some ⟨w.heap.size + 1 + 1, 0, none⟩)] 49)) :=
  ⟨(((Whole.new _ _ _).alloc _).alloc _).alloc _, ((Whole.newAt _ _ _ _ (by simp)).alloc _).alloc _, Whole.alloc (Whole.newAt _ _ _ _ (by simp)) _, Whole.newAt _ _ _ _ (by simp)⟩

theorem begun_keeps (S : Nat → Prop) (w : World) (p : Option Addr) (N c : Nat) : Keeps S w ((((w.alloc (.cells #[.int .i64 0] 3)).alloc (.cells #[.int .i64 0] 45)).alloc (.cells #[.slice p N c, .int .i64 0, .bool true, .int .i64 0] 73)).alloc (.cells #[.pointer (some ⟨w.heap.size + 1 + 1, 0, none⟩)] 49)) :=
  ((((Keeps.refl _ _).alloc _).alloc _).alloc _).alloc _

/-- Run's answer: how many bytes were read, and why the reading stopped; the cursor is closed. -/
def RunTold (w : World) (a : Nat) (y : Int) (R : World → Prop) (e : Ending) (w' : World) : Prop :=
  e = .returned (.tuple #[.int .i64 a, .int .i64 y]) ∧ ∃ w2, R w2 ∧ Told (w.heap.size + 1 + 1 + 1) w.heap.size (w.heap.size + 1) (w.heap.size + 1 + 1) a y w2 w'

/-- How a reading ends that isn't given up by another one's cursor. -/
def ReadEnds (w : World) (p : Option Addr) (N c a : Nat) (y : Int) (R : World → Prop) (e : Ending) (w2 : World) : Prop :=
  (e = .returned (.tuple #[]) ∨ Gave (w.heap.size + 1 + 1) e) ∧ Begun w p N c a y w2 ∧ R w2

set_option maxHeartbeats 1000000 in
theorem run_any (K : Nat) (cap : Array Value) (p : Option Addr) (N c a : Nat) (y : Int) (R : World → Prop) (w : World) (hK : ∀ (args : Array Value) (w : World), (callFunc K args).run Try.prog w = .ok (.enter K args) w)
    (hread : ∀ W, Begun w p N c 0 0 W → Keeps NoBlock w W → W.heap.size = w.heap.size + 1 + 1 + 1 + 1 → Calls Try.prog K (#[.pointer (some ⟨w.heap.size + 1 + 1, 0, none⟩)] ++ cap) W (ReadEnds w p N c a y R)) :
    Calls Try.prog 18 #[.slice p N c, .func (.func K) #[] cap] w (RunTold w a y R) := by
  have hmf : ∀ (fn : Fn) (first cap : Array Value) (w : World), (Instr.makeFunc fn first cap).run Try.prog w = .ok (.func fn first cap) w := fun _ _ _ _ => rfl
  have hfn := funcNotNil
  have HR := Lib.hid (hread _ (begun w p N c) (begun_keeps _ w p N c) (by simp))
  clear hread
  go_enter_defers Try.func18, Try.ntmps18
  go_wp2_with fail
  refine HR.out.mono ?_
  rintro e w2 ⟨he, hB, hR⟩
  clear HR
  have HB := Lib.hid hB; have HR := Lib.hid hR
  clear hB hR
  rcases he with rfl | ⟨older, rfl, hold⟩
  · go_wp2_with fail
    refine leaves_cons (f := 40) (args := #[.pointer (some ⟨w.heap.size + 1 + 1 + 1, 0, none⟩), .pointer (some ⟨w.heap.size, 0, none⟩), .pointer (some ⟨w.heap.size + 1, 0, none⟩)]) (by simp) (by simp [go_sem]) ?_
    refine (door_idle _ _ _ _ p N c a true y 0 0 w2 HB.out.var HB.out.at_ HB.out.why HB.out.cur).mono ?_
    rintro e u' w3 ⟨rfl, rfl, hT⟩
    have HT := Lib.hid hT
    have r1 := hT.2.1.cell 0 rfl
    have r2 := hT.2.2.1.cell 0 rfl
    clear hT
    simp only [List.getElem_toArray, List.getElem_cons_zero] at r1 r2
    simp [Leaves, settle, results, Try.results18, go_sem, r1, r2]
    exact ⟨rfl, w2, HR.out, HT.out⟩
  · simp only [bodyPostD]
    refine leaves_cons (f := 40) (args := #[.pointer (some ⟨w.heap.size + 1 + 1 + 1, 0, none⟩), .pointer (some ⟨w.heap.size, 0, none⟩), .pointer (some ⟨w.heap.size + 1, 0, none⟩)]) (by simp) (by simp [go_sem]) ?_
    refine (door_own older _ _ _ _ p N c a true y 0 0 w2 HB.out.var HB.out.at_ HB.out.why HB.out.cur).mono ?_
    rintro e u' w3 ⟨rfl, rfl, hT⟩
    have HT := Lib.hid hT
    have r1 := hT.2.1.cell 0 rfl
    have r2 := hT.2.2.1.cell 0 rfl
    clear hT
    simp only [List.getElem_toArray, List.getElem_cons_zero] at r1 r2
    simp [Leaves, settle, hold, results, Try.results18, go_sem, r1, r2]
    exact ⟨rfl, w2, HR.out, HT.out⟩

/-- Where an outer cursor, that of block q, gives the reading up: Run goes on with the panic. -/
def RunGave (q : Nat) (w : World) (a : Nat) (y : Int) (R : World → Prop) (e : Ending) (w' : World) : Prop :=
  Gave q e ∧ ∃ w2, R w2 ∧ Told (w.heap.size + 1 + 1 + 1) w.heap.size (w.heap.size + 1) (w.heap.size + 1 + 1) a y w2 w'

def ReadGave (q : Nat) (w : World) (p : Option Addr) (N c a : Nat) (y : Int) (R : World → Prop) (e : Ending) (w2 : World) : Prop :=
  Gave q e ∧ Begun w p N c a y w2 ∧ (∃ cq, Whole w2 q 73 cq) ∧ R w2

set_option maxHeartbeats 1000000 in
theorem run_gave (q : Nat) (K : Nat) (cap : Array Value) (p : Option Addr) (N c a : Nat) (y : Int) (R : World → Prop) (w : World) (hq : q ≠ w.heap.size + 1 + 1) (hK : ∀ (args : Array Value) (w : World), (callFunc K args).run Try.prog w = .ok (.enter K args) w)
    (hread : ∀ W, Begun w p N c 0 0 W → Keeps NoBlock w W → W.heap.size = w.heap.size + 1 + 1 + 1 + 1 → Calls Try.prog K (#[.pointer (some ⟨w.heap.size + 1 + 1, 0, none⟩)] ++ cap) W (ReadGave q w p N c a y R)) :
    Calls Try.prog 18 #[.slice p N c, .func (.func K) #[] cap] w (RunGave q w a y R) := by
  have hmf : ∀ (fn : Fn) (first cap : Array Value) (w : World), (Instr.makeFunc fn first cap).run Try.prog w = .ok (.func fn first cap) w := fun _ _ _ _ => rfl
  have hfn := funcNotNil
  have HR := Lib.hid (hread _ (begun w p N c) (begun_keeps _ w p N c) (by simp))
  have HQ := Lib.hid hq
  clear hread hq
  go_enter_defers Try.func18, Try.ntmps18
  go_wp2_with fail
  refine HR.out.mono ?_
  rintro e w2 ⟨⟨older, rfl, hold⟩, hB, ⟨cq, hC⟩, hR⟩
  clear HR
  have HB := Lib.hid hB; have HR := Lib.hid hR
  clear hB hR
  simp only [bodyPostD]
  refine leaves_cons (f := 40) (args := #[.pointer (some ⟨w.heap.size + 1 + 1 + 1, 0, none⟩), .pointer (some ⟨w.heap.size, 0, none⟩), .pointer (some ⟨w.heap.size + 1, 0, none⟩)]) (by simp) (by simp [go_sem]) ?_
  refine (door_other older q _ _ _ _ p N c a true y 0 0 w2 HQ.out cq hC HB.out.var HB.out.at_ HB.out.why HB.out.cur).mono ?_
  rintro e u' w3 ⟨rfl, rfl, hT⟩
  have HT := Lib.hid hT
  clear hT
  simp [Leaves, raised]
  exact ⟨⟨_, rfl, by simpa using hold⟩, w2, HR.out, HT.out⟩

theorem run_nil (p : Option Addr) (N c : Nat) (w : World) :
    Calls Try.prog 18 #[.slice p N c, .nilFunc] w fun e w' => e = .returned (.tuple #[.int .i64 0, .int .i64 0]) ∧ Keeps NoBlock w w' := by
  have hfn := funcNil
  go_enter_defers Try.func18, Try.ntmps18
  go_wp2_with fail
  simp [bodyPostD, Leaves, results, Try.results18, go_sem]
  exact ((Keeps.refl _ _).alloc _).alloc _
end Go.Proofs.Ytidhcmamfdipiaa

namespace Go.Proofs.Ytidhcmamfdipiaa
open Go.RowKit

/-- What a reading of one number leaves: the number, if there is one. -/
def gotVal (t : VR) : Value := .int .u64 (if t.e = 0 then t.x else 0)

theorem Begun.store {w0 : World} {p : Option Addr} {N c a : Nat} {y : Int} {W : World} (h : Begun w0 p N c a y W) {D : Nat} (hD : D < w0.heap.size) (v : Value) : Begun w0 p N c a y (W.setCell ⟨D, 0, none⟩ v) :=
  ⟨h.at_.setOther (by simp; omega) v, h.why.setOther (by simp; omega) v, Whole.setOther h.cur (by simp; omega) v, h.var.setOther (by simp; omega) v⟩

/-- Run's answer to a reading of one number: how many bytes, why it stopped; the number in block D. -/
def GotIn (D : Nat) (t : VR) (w0 : World) (e : Ending) (w' : World) : Prop :=
  e = .returned (.tuple #[.int .i64 t.n, .int .i64 t.e]) ∧ Whole w' D 23 #[gotVal t] ∧ Keeps (Just D) w0 w'

/-- Read's answer. -/
def readOut (t : VR) : Value := .tuple #[gotVal t, .int .i64 (if t.e = 0 then (t.n : Int) else 0), .int .i64 t.e]

theorem getFnOk : ∀ (fn : Fn) (first cap : Array Value) (w : World), (Instr.makeFunc fn first cap).run Try.prog w = .ok (.func fn first cap) w := fun _ _ _ _ => rfl

end Go.Proofs.Ytidhcmamfdipiaa

namespace Go.Proofs.Ytidhcmamfdipiaa
open Go.RowKit

theorem ret_true {b : Bool} (h : b = true) : Ending.returned (.bool b) = .returned (.bool true) := by rw [h]

/-- A Buffer that wasn't there ahead of all: what is written into it turns nothing that was. -/
theorem keepsNewBuf {w w1 w2 : World} {base g : Nat} (h : Keeps NoBlock w w1) (k : Keeps (OnBuf base g) w1 w2) (hg : w.heap.size ≤ g) (hb : w.heap.size ≤ base) : Keeps NoBlock w w2 :=
  h.then k fun i hi hS => by
    rcases hS with rfl | h1
    · omega
    · omega

theorem bufNew (w : World) : BufAt (w.alloc (.cells #[.slice none 0 0] 42)) w.heap.size w.heap.size [] :=
  ⟨.slice none 0 0, Whole.new _ _ _, by simp, .inl ⟨rfl, by simp⟩⟩

end Go.Proofs.Ytidhcmamfdipiaa

namespace Go.Proofs.Ytidhcmamfdipiaa
open Go.RowKit

/-- Whether two rows are alike so far. -/
def alike (l m : List Nat) (k : Nat) : Bool := decide (l.length = m.length ∧ l.take k = m.take k)

theorem alike_zero (l m : List Nat) : alike l m 0 = decide (l.length = m.length) := by simp [alike]
theorem alike_len {l m : List Nat} {k : Nat} (h : alike l m k = true) : l.length = m.length := (of_decide_eq_true h).1
theorem take_succ_nat (xs : List Nat) (k : Nat) (h : k < xs.length) : xs.take (k + 1) = xs.take k ++ [xs.getD k 0] := by
  rw [List.take_succ_eq_append_getElem h]
  simp [h]
theorem alike_succ {l m : List Nat} {k : Nat} (hk : k < l.length) (h : alike l m k = true) : alike l m (k + 1) = decide (l.getD k 0 = m.getD k 0) := by
  obtain ⟨h1, h2⟩ := of_decide_eq_true h
  unfold alike
  rw [take_succ_nat l k hk, take_succ_nat m k (by omega), h2]
  simp [h1]
theorem alike_not {l m : List Nat} {k : Nat} (h : alike l m k = false) : alike l m (k + 1) = false := by
  have h1 := of_decide_eq_false h
  refine decide_eq_false fun hh => h1 ⟨hh.1, ?_⟩
  have := congrArg (List.take k) hh.2
  simpa [List.take_take] using this
theorem alike_all (l m : List Nat) : alike l m l.length = decide (strOfNums (vnums l) = strOfNums (vnums m)) := by
  unfold alike
  congr 1
  apply propext
  constructor
  · rintro ⟨h1, h2⟩
    rw [List.take_of_length_le (Nat.le_refl _), h1, List.take_of_length_le (Nat.le_refl _)] at h2
    rw [h2]
  · intro h
    have e := vnums_inj l m (strOf_inj (vnums_octets l) (vnums_octets m) h)
    rw [e]
    exact ⟨rfl, rfl⟩

theorem vnums_take_len {l : List Nat} (h : ∀ x ∈ l, x < 18446744073709551616) (k : Nat) : (vnums (l.take k)).length ≤ 10 * l.length := by
  have h1 := vnums_length (l.take k) (fun x hx => h x (List.mem_of_mem_take hx))
  have h2 : (l.take k).length ≤ l.length := by simp; omega
  omega

/-- A text of bytes, also behind a draw. -/
theorem textBoth {q : Option Addr} {n c : Nat} {xs : List Int} {w : World} (hx : n = xs.length) (h : Bytes8 w q xs) : (convert 40 9 (.slice q n c)).run Try.prog w = .ok (.string (strOfNums xs)) w ∧ (convert 40 9 (.slice q n c)).run Try.prog w.drew = .ok (.string (strOfNums xs)) w.drew :=
  ⟨textOf q n c xs w hx h, textOf q n c xs w.drew hx h⟩

theorem bufBytesD (base g : Nat) (xs : List Int) (w : World) (h : BufAt w base g xs) (hx : xs.length ≤ 140737488355328) :
    Calls Try.prog 19 #[.pointer (some ⟨g, 0, none⟩)] w.drew fun e w' => ∃ v, e = .returned v ∧ Fresh8 NoBlock xs.length xs w.drew v w' :=
  bufBytes base g xs w.drew h hx

theorem Keeps.fromDrew {S : Nat → Prop} {a b : World} (h : Keeps S a.drew b) : Keeps S a b := ⟨h.os, h.tape, h.output, h.size, h.block⟩

end Go.Proofs.Ytidhcmamfdipiaa


namespace Go.Proofs.Ytidhcmamfdipiaa
open Go.RowKit

theorem end_here {p : Option Addr} {Nb cb : Nat} {w : World} (k : Nat) (y : Int) (h : CurB w k p Nb cb Nb true y) (hc : (Nb : Int) ≤ 9223372036854775807) :
    Calls Try.prog 22 #[.pointer (some ⟨k, 0, none⟩)] w fun e w' => e = .returned (.tuple #[]) ∧ ∃ m, w' = w.drewN m := by
  have H := Lib.hid h; clear h
  go_enter Try.func22, Try.ntmps22
  go_wp2_with fail
  refine (left_at k p Nb cb Nb y _ H.out (Nat.le_refl _) hc).mono ?_
  rintro e w' ⟨rfl, m, rfl⟩
  go_wp2_with fail
  go_returns
  exact ⟨rfl, m, rfl⟩

theorem RowN.keepAt {w w' : World} {p : Option Addr} {l : List Nat} (h : RowN w p l) {S : Nat → Prop} (hk : Keeps S w w') (hs : 0 < l.length → ∀ q, p = some q → ¬ S q.block) : RowN w' p l := fun i hi => by
  obtain ⟨a, rfl, hc⟩ := h i hi
  exact ⟨a, rfl, hk.cell hc (by rw [addBlock]; exact hs (by omega) a rfl)⟩

theorem vnums_append : ∀ (l m : List Nat), vnums (l ++ m) = vnums l ++ vnums m
  | [], m => by simp [vnums]
  | x :: r, m => by simp [vnums, vnums_append r m]

theorem vnums_split (l : List Nat) (k : Nat) (hk : k < l.length) : (vnums l).drop (vnums (l.take k)).length = vnum (l.getD k 0) ++ vnums (l.drop (k + 1)) := by
  have e : l = l.take k ++ (l.getD k 0 :: l.drop (k + 1)) := by
    conv => lhs; rw [← List.take_append_drop k l, List.drop_eq_getElem_cons hk]
    simp [hk]
  conv => lhs; arg 2; rw [e]
  rw [vnums_append, List.drop_left]
  rfl

theorem vnums_take_le (l : List Nat) (k : Nat) : (vnums (l.take k)).length ≤ (vnums l).length := by
  conv => rhs; rw [← List.take_append_drop k l]
  rw [vnums_append, List.length_append]
  omega

/-- What the reading's loop carries. -/
structure VLoop (w0 W : World) (RB : Nat) (p : Option Addr) (Nb cb a : Nat) (wr : World) : Prop where
  cur : CurB wr (w0.heap.size + 1 + 1) p Nb cb a true 0
  keep : Keeps (fun i => i = w0.heap.size + 1 + 1 ∨ i = RB) W wr
  right : Whole wr RB 4 #[.bool true]

end Go.Proofs.Ytidhcmamfdipiaa

namespace Go.Proofs.Ytidhcmamfdipiaa
open Go.RowKit

theorem end_whole (k : Nat) (p : Option Addr) (N c : Nat) (y : Int) (w : World) (h : CurB w k p N c N true y) (hc : (N : Int) ≤ 9223372036854775807) :
    Calls Try.prog 22 #[.pointer (some ⟨k, 0, none⟩)] w fun e w' => e = .returned (.tuple #[]) ∧ CurB w' k p N c N true y ∧ Keeps NoBlock w w' := by
  have H := Lib.hid h; clear h
  go_enter Try.func22, Try.ntmps22
  go_wp2_with fail
  refine (left_at k p N c N y _ H.out (Nat.le_refl _) hc).mono ?_
  rintro e w' ⟨rfl, m, rfl⟩
  go_wp2_with fail
  go_returns
  exact ⟨rfl, Whole.drewN H.out m, (Keeps.refl _ _).drewN m⟩

theorem end_more (k : Nat) (p : Option Addr) (N c a : Nat) (w : World) (h : CurB w k p N c a true 0) (ha : a < N) (hc : (N : Int) ≤ 9223372036854775807) :
    Calls Try.prog 22 #[.pointer (some ⟨k, 0, none⟩)] w fun e w' => e = .panicked (given k) ∧ CurB w' k p N c a true 3 ∧ Keeps (Just k) w w' := by
  have H := Lib.hid h; clear h
  have hlt : (0 : Int) < (N : Int) - (a : Int) := by omega
  go_enter Try.func22, Try.ntmps22
  go_wp2_with fail
  refine (left_at k p N c a 0 _ H.out (by omega) hc).mono ?_
  rintro e w' ⟨rfl, m, rfl⟩
  go_wp2_with fail
  refine (fail_at k p N c a 3 _ (Whole.drewN H.out m) (by decide)).mono ?_
  rintro e w2 ⟨rfl, hcur, hk⟩
  exact ⟨rfl, rfl, hcur, ((Keeps.refl (Just k) w).drewN m).trans hk⟩
end Go.Proofs.Ytidhcmamfdipiaa

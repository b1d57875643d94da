/-
  FenGet; Rows1; PkPlan; FtGetN; VarRead; Lives2.
-/
import Derived.Deep.Cut
import Derived.Test.YtibojgoeaoinpaaM03
import Derived.Test.YtibojgoeaoinpaaM05
import Derived.Test.YtibojgoeaoinpaaM07
import Derived.Test.YtibojgoeaoinpaaM08
import Derived.Test.YtibojgoeaoinpaaM09
import Derived.Test.YtibojgoeaoinpaaM10
import Derived.Test.YtibojgoeaoinpaaM13
namespace Go.Proofs.Ytibojgoeaoinpaa
open Go.RowKit

theorem NumsSoFar.cell {w0 wr : World} {l : List Nat} {ad : Addr} {m d : Nat} (h : NumsSoFar w0 l (.slice (some ad) m d) wr) {j : Nat} (hj : j < l.length) : wr.cell? (ad.add j) = some (.int .u64 ((l.getD j 0 : Nat) : Int)) := by
  obtain ⟨q', m', d', e, _, _, hc⟩ := own_nums h.1
  injection e with e1 e2 e3
  rw [hc ad e1.symm j (numV (l.getD j 0)) (by simp [hj])]
  rfl
theorem NumsSoFar.nil {w0 wr : World} (h : Below w0.heap.size w0 wr) : NumsSoFar w0 [] (.slice none 0 0) wr := ⟨World.ownsRow_nil _ _ _ _, h⟩
def GotF (w : World) (xs : List Int) (a : Int) (t : GF) (e : Ending) (w' : World) : Prop := ∃ v, e = .returned (.tuple #[rdr (xs.drop t.m) (a + t.m) t.y, v]) ∧ NumsSoFar w t.l v w'

end Go.Proofs.Ytibojgoeaoinpaa

namespace Go.Proofs.Ytibojgoeaoinpaa
open Go.RowKit

section
variable {α : Type} {v0 : α → Value} {dd : α}

/-- A row that can be read. -/
def OnesAt (v0 : α → Value) (dd : α) (w : World) (p : Option Addr) (l : List α) : Prop :=
  ∀ i, i < l.length → ∃ a : Addr, p = some a ∧ w.cell? (a.add i) = some (v0 (l.getD i dd))
theorem OnesAt.keep {w w' : World} {p : Option Addr} {l : List α} (h : OnesAt v0 dd w p l) {S : Nat → Prop} (hk : Keeps S w w') (hs : ∀ k, k < w.heap.size → ¬ S k) : OnesAt v0 dd w' p l := fun i hi => by
  obtain ⟨a, rfl, hc⟩ := h i hi
  exact ⟨a, rfl, hk.cell hc (hs _ (ltOfCell hc))⟩
theorem OnesAt.nil (w : World) (p : Option Addr) : OnesAt v0 dd w p [] := fun i hi => by simp at hi
/-- The cells of a row that can be read, as an append asks for them. -/
theorem OnesAt.cells {w : World} {ad : Addr} {l : List α} (h : OnesAt v0 dd w (some ad) l) {j : Nat} {u : Value} (hj : (l.map v0)[j]? = some u) : w.cell? (ad.add j) = some u := by
  have hlt : j < l.length := by
    have := (List.getElem?_eq_some_iff.1 hj).1
    rwa [List.length_map] at this
  obtain ⟨a, ha, hc⟩ := h j hlt
  obtain rfl := Option.some.inj ha
  rw [hc, ← hj]
  simp [List.getElem?_eq_getElem hlt]
/-- A row of one's own so far. -/
def OnesSoFar (v0 : α → Value) (t : TypeId) (w0 : World) (l : List α) (v : Value) (wr : World) : Prop := wr.ownsRow w0.heap.size t 1 v l.length (l.map v0) ∧ Below w0.heap.size w0 wr
theorem OnesSoFar.start {t : TypeId} (w0 : World) : OnesSoFar v0 t w0 ([] : List α) (.slice none 0 0) w0 := ⟨World.ownsRow_nil _ _ _ _, Below.refl _ _⟩
theorem OnesSoFar.startAt {t : TypeId} {w0 wr : World} (h : Below w0.heap.size w0 wr) : OnesSoFar v0 t w0 ([] : List α) (.slice none 0 0) wr := ⟨World.ownsRow_nil _ _ _ _, h⟩
theorem OnesSoFar.alloc {t : TypeId} {w0 wr : World} {l : List α} {v : Value} (h : OnesSoFar v0 t w0 l v wr) (o : Obj) : OnesSoFar v0 t w0 l v (wr.alloc o) := ⟨World.ownsRow.alloc h.1 o, h.2.alloc h.2.size o⟩
theorem OnesSoFar.keep {t : TypeId} {w0 wr w' : World} {l : List α} {v : Value} (h : OnesSoFar v0 t w0 l v wr) (hk : Keeps NoBlock wr w') : OnesSoFar v0 t w0 l v w' :=
  ⟨own_keep h.1 hk (fun _ _ h => h), h.2.trans (hk.below h.2.size (fun _ _ h => h))⟩
theorem OnesSoFar.keeps {t : TypeId} {w0 wr : World} {l : List α} {v : Value} (h : OnesSoFar v0 t w0 l v wr) : Keeps NoBlock w0 wr := .ofBelow h.2
theorem OnesSoFar.new {t : TypeId} {w0 wr : World} {l : List α} {v : Value} (h : OnesSoFar v0 t w0 l v wr) : ∃ (q : Option Addr) (m d : Nat), v = .slice q m d ∧ m = l.length ∧ m ≤ d ∧ d ≤ 9223372036854775807 ∧ (q = none → m = 0 ∧ d = 0) ∧ OnesAt v0 dd wr q l ∧ Keeps NoBlock w0 wr := by
  obtain ⟨h', hb⟩ := h
  have h9 := h'
  rcases h' with ⟨_, ⟨rfl, e⟩ | ⟨g, cap, cur, rfl, hg, hh, hc1, hc2, hc3, hc4⟩⟩
  · exact ⟨none, 0, 0, rfl, e.symm, Nat.le_refl _, by decide, fun _ => ⟨rfl, rfl⟩, fun i hi => by rw [e] at hi; omega, Keeps.ofBelow hb⟩
  · refine ⟨_, _, cap, rfl, rfl, hc1, by unfold maxLen at hc2; omega, fun h => by simp at h, fun i hi => ⟨_, rfl, ?_⟩, Keeps.ofBelow hb⟩
    exact h9.cells (g := g) rfl i _ (by simp [List.getElem?_eq_getElem hi])
theorem OnesSoFar.setOther {t : TypeId} {w0 wr : World} {l : List α} {v : Value} (h : OnesSoFar v0 t w0 l v wr) {p : Addr} (hp : v.ownBlock ≠ some p.block) (hb : w0.heap.size ≤ p.block) (x : Value) : OnesSoFar v0 t w0 l v (wr.setCell p x) :=
  ⟨ownsRow_setCell_other h.1 hp _, h.2.setCell hb _⟩
theorem OnesSoFar.apart {t : TypeId} {w0 wr : World} {l : List α} {v : Value} (h : OnesSoFar v0 t w0 l v wr) {k : Nat} (hk : wr.heap.size ≤ k) : v.ownBlock ≠ some k := fun e => by
  have := (h.1.lt k e).2
  omega
theorem OnesSoFar.made {t : TypeId} (w : World) (l : List α) (cs : Array Value) (hcs : cs.toList = l.map v0) (hl : l.length ≤ 1000000000) : OnesSoFar v0 t w l (.slice (some ⟨w.heap.size, 0, none⟩) l.length l.length) (w.alloc (.cells cs t)) := by
  have hs : cs.size = l.length := by rw [← Array.length_toList, hcs, List.length_map]
  exact ⟨⟨by simp, .inr ⟨w.heap.size, l.length, cs, rfl, Nat.le_refl _, heap_alloc_new w _, Nat.le_refl _, by unfold maxLen; omega, by rw [hs, Nat.mul_one], by rw [hcs, Nat.mul_one, ← List.length_map (f := v0), List.take_length]⟩⟩, (Below.refl _ w).alloc (Nat.le_refl _) _⟩

/-- One more is appended to a row of one's own: of what was there the row's block alone turns. -/
theorem wpList_append_oneG {w w0 : World} {ops : Array Oper} {rest : List Oper} {o : Oper} {a : Act} {Q : Exit → Act → World → Prop} (hgd : o.guard = none) (s x : Operand) (t : TypeId)
    (ho : o.op = .call { callee := .builtin .append, args := #[s, x], argTypes := #[t, t] })
    (e : TypeId) (i : TypeInfo) (z : Value) (bytes : Nat) (ht : Try.prog.underlying t = some (.slice e)) (hi : Try.prog.info? e = some i) (hz : i.zero = some z)
    (hsize : i.size = 1) (hby : i.bytes = bytes) (hzs : z.cells.size = 1)
    (v : Value) (l : List α) (hs : a.eval s = v) (hown : OnesSoFar v0 e w0 l v w) (g : Nat) (r : α) (hx : a.eval x = .slice (some ⟨g, 0, none⟩) 1 1)
    (h0 : w.cell? ⟨g, 0, none⟩ = some (v0 r)) (o0 : (v0 r).oneCell' = true)
    (hbytes : (l.length + 1) * bytes ≤ 140737488355328) (hroom : l.length ≤ 140737488355327)
    (h : ∀ v' w', OnesSoFar v0 e w0 (l ++ [r]) v' w' → w.grownBy w' v.ownBlock → wpList Try.prog ops Q rest (a.put o.dst v') w') : wpList Try.prog ops Q (o :: rest) a w := by
  refine wpList_append_own w hgd s x t ho w0.heap.size e i z 1 bytes ht hi hz hsize hby hzs (by decide) v l.length (l.map v0) hs hown.1 ⟨g, 0, none⟩ 1 1 [v0 r] hx rfl ?_ ?_ (by unfold maxLen; omega) hbytes hown.2.size ?_
  · intro j u hj
    rw [Addr.add_lit, Nat.zero_add]
    match j, hj with
    | 0, hj => obtain rfl := Option.some.inj hj; exact h0
    | k + 1, hj => simp at hj
  · intro u hu
    simp at hu
    subst hu
    exact o0
  · intro v' w' h2 h3 _
    refine h v' w' ⟨?_, hown.2.trans ((Below.refl _ w).grown h3 hown.2.size (fun k hk => own_from hown.1 hk))⟩ h3
    rw [List.map_append, List.length_append]
    exact h2
end
end Go.Proofs.Ytibojgoeaoinpaa

namespace Go.Proofs.Ytibojgoeaoinpaa
open Go.RowKit

def intV (z : Int) : Value := .int .i64 z
/-- A row of ints that comes in. -/
structure InZ (w : World) (p : Option Addr) (n c : Nat) (zs : List Int) : Prop where
  len : n = zs.length
  cap : n ≤ c
  room : c ≤ 9223372036854775807
  bare : p = none → n = 0 ∧ c = 0
  fine : ∀ z ∈ zs, -9223372036854775808 ≤ z ∧ z ≤ 9223372036854775807
  at_ : OnesAt intV 0 w p zs
theorem getI_mem {zs : List Int} {j : Nat} (h : j < zs.length) : zs.getD j 0 ∈ zs := by simp [h]
def PlanPost (w : World) (t : Int × List Nat) (e : Ending) (w' : World) : Prop :=
  ∃ (q : Option Addr) (m d : Nat), e = .returned (.tuple #[.slice q m d, .int .i64 t.1]) ∧ m = t.2.length ∧ RowN w' q t.2 ∧ Keeps NoBlock w w'
theorem PlanPost.gone {w w' : World} {t : Int × List Nat} {y : Int} (h : t = (y, [])) (hk : Keeps NoBlock w w') : PlanPost w t (.returned (.tuple #[.slice none 0 0, .int .i64 y])) w' := by
  subst h
  exact ⟨none, 0, 0, rfl, rfl, fun i hi => by simp at hi, hk⟩
theorem NumsSoFar.apartT {w0 wr : World} {l : List Nat} {v : Value} {g : Nat} {t : TypeId} {cs : Array Value} (h : NumsSoFar w0 l v wr) (hw : Whole wr g t cs) (ht : t ≠ 33) : v.ownBlock ≠ some g := fun e => by
  rcases h.1.2 with ⟨rfl, _⟩ | ⟨g', cap, cur, rfl, _, hg, _⟩
  · simp [Value.ownBlock] at e
  · simp only [Value.ownBlock, Option.some.injEq] at e
    subst e
    have := (show wr.heap[g']? = _ from hw).symm.trans hg
    simp at this
    exact ht this.2
theorem NumsSoFar.set5 {w0 wr : World} {l : List Nat} {v : Value} (h : NumsSoFar w0 l v wr) {g : Nat} (hp : v.ownBlock ≠ some g) (hb : w0.heap.size ≤ g) (a b c d e : Value) :
    NumsSoFar w0 l v (((((wr.setCell ⟨g, 0, none⟩ a).setCell ⟨g, 1, none⟩ b).setCell ⟨g, 2, none⟩ c).setCell ⟨g, 3, none⟩ d).setCell ⟨g, 4, none⟩ e) :=
  ((((h.setOther (p := ⟨g, 0, none⟩) hp hb a).setOther (p := ⟨g, 1, none⟩) hp hb b).setOther (p := ⟨g, 2, none⟩) hp hb c).setOther (p := ⟨g, 3, none⟩) hp hb d).setOther (p := ⟨g, 4, none⟩) hp hb e
theorem runP_zero (e s : Nat) (zs : List Int) : runP e s (zs.take 0) = ⟨0, emptyP e s 0, []⟩ := rfl
theorem planP_gone {e s : Nat} {zs : List Int} (hm : mayC e s = true) {j : Nat} {y : Int} (hy : y ≠ 0) (h : runP e s (zs.take j) = ⟨y, Rm.none, []⟩) : planP e s zs = (y, []) := by
  have h1 := runP_gone (e := e) (s := s) (zs := zs) (j := j) (by rw [h]; exact hy)
  unfold planP
  rw [if_pos hm, h1, h]

set_option maxHeartbeats 2000000 in
set_option maxRecDepth 10000 in
theorem plan14_not (e s : Nat) (p : Option Addr) (n c : Nat) (zs : List Int) (hm : mayC e s = false) (w : World) :
    Calls Try.prog 17 #[confV e s, .slice p n c] w (PlanPost w (planP e s zs)) := by
  have HM := Lib.hid (fun w => may_ref e s w)
  rw [hm] at HM
  have hp : planP e s zs = (1, []) := by unfold planP; rw [hm]; rfl
  have HK := Lib.hid ((Keeps.refl NoBlock w).alloc (.cells (confCells e s) 24))
  have HP := Lib.hid hp
  clear hm hp
  unfold confV at HM ⊢
  go_enter Try.func17, Try.ntmps17
  go_wp2_with fail
  refine (HM.out _).mono ?_
  rintro e9 w1 ⟨rfl, hk⟩
  have HK := Lib.hid (HK.out.trans hk)
  clear hk
  go_wp2_with fail
  exact bodyPost_ret (v := .tuple #[.slice none 0 0, .int .i64 1]) (by simp [results, Try.results17, go_sem]) rfl (PlanPost.gone HP.out HK.out)

set_option maxHeartbeats 16000000 in
set_option maxRecDepth 10000 in
theorem plan14_may (e s : Nat) (p : Option Addr) (n c : Nat) (zs : List Int) (hm : mayC e s = true) (hn9 : n ≤ 10000) (w : World) (hz : InZ w p n c zs) :
    Calls Try.prog 17 #[confV e s, .slice p n c] w (PlanPost w (planP e s zs)) := by
  have HM := Lib.hid (fun w => may_ref e s w)
  rw [hm] at HM
  obtain ⟨m1, m2, m3, m4⟩ := mayC_true.1 hm
  obtain ⟨S1, hS1⟩ : ∃ S1, s = S1 + 1 := ⟨s - 1, by omega⟩
  have hmost : mayHead e s S1 = true := mayHead_true.2 ⟨m1, m2, m3, m4, by omega⟩
  have hzero : mayHead e s 0 = true := mayHead_true.2 ⟨m1, m2, m3, m4, by omega⟩
  have HRm := Lib.hid (real_empty hmost)
  have hs1 : s - 1 = S1 := by omega
  have HStep := Lib.hid (fun j (h : j < zs.length) => runP_step (e := e) (s := s) h)
  have HReal := Lib.hid (fun j (hj : j ≤ 10000) => runP_real hm (zs.take j) (by rw [List.length_take]; omega))
  have HGone := Lib.hid (fun j y (hy : (y : Int) ≠ 0) h => planP_gone (e := e) (s := s) (zs := zs) (j := j) hm hy h)
  have hall : planP e s zs = ((runP e s zs).y, (runP e s zs).out) := by unfold planP; rw [if_pos hm]
  have HAll := Lib.hid hall
  clear hall
  have hz0 := runP_zero e s zs
  have HRz := Lib.hid (real_empty hzero)
  have HE := Lib.hid (fun k (hk : k < 65536) w => empty14_ref e s k (by omega) (by omega) (by omega) w)
  have HF := Lib.hid (fun r z w (hr : r.Real) (h1 : -9223372036854775808 ≤ z ∧ z ≤ 9223372036854775807) => fits14_ref r z hr h1.1 h1.2 w)
  have HT := Lib.hid (fun r z w (hr : r.Real) (h1 : 1 ≤ z) (h2 : z ≤ 16777216) => take14_ref r z hr h1 h2 w)
  have ws1 : IntKind.u64.wrap ((s : Int) - 1) = (S1 : Int) := by rw [IntKind.wrap_u64]; omega
  have ws2 : (s : Int) - 1 = (S1 : Int) := by omega
  have ws3 : IntKind.u64.wrap (s : Int) = (s : Int) := by rw [IntKind.wrap_u64]; omega
  have HLn := Lib.hid hz.len
  have HFi := Lib.hid hz.fine
  have HAt := Lib.hid hz.at_
  have HMy := Lib.hid hm
  have hS9 : S1 < 65536 := by omega
  have HS1 := Lib.hid hS1
  have HC0 := Lib.hid (Whole.new w 24 (confCells e s))
  have HK0 := Lib.hid ((Keeps.refl NoBlock w).alloc (.cells (confCells e s) 24))
  clear hm hz hmost hzero hS1
  obtain ⟨PL, hPL⟩ : ∃ P, P = planP e s zs := ⟨_, rfl⟩
  rw [← hPL] at HGone HAll ⊢
  obtain ⟨RM, hRM⟩ : ∃ R, R = emptyP e s S1 := ⟨_, rfl⟩
  obtain ⟨R0, hR0⟩ : ∃ R, R = emptyP e s 0 := ⟨_, rfl⟩
  have HEm := Lib.hid (HE.out S1 hS9)
  have HEz := Lib.hid (HE.out 0 (by decide))
  rw [← hRM] at HEm HRm
  rw [← hR0] at HEz HRz hz0
  have HRM := Lib.hid hRM
  have HZ0 := Lib.hid hz0
  have HS1b := Lib.hid hs1
  clear hPL hRM hR0 hz0 hs1
  unfold confV at HM HE HEm HEz ⊢
  unfold room14V at HE HEm HEz HF HT
  go_enter Try.func17, Try.ntmps17
  go_wp2_with fail
  refine (HM.out _).mono ?_
  rintro e9 w1 ⟨rfl, hk⟩
  have HK := Lib.hid (HK0.out.trans hk)
  have HC := Lib.hid (HC0.out.keep hk (fun h => h))
  have c0 := HC.out.cell 0 rfl
  have c1 := HC.out.cell 1 rfl
  simp only [confCells, List.getElem_toArray, List.getElem_cons_zero, List.getElem_cons_succ] at c0 c1
  clear hk HM HC0 HK0
  go_wp2_with fail
  refine (HEz.out _).mono ?_
  rintro e9 w2 ⟨rfl, hk⟩
  have hka : Keeps NoBlock w2 (w2.alloc (.cells (room14Cells R0) 35)) := (Keeps.refl NoBlock w2).alloc _
  have HB3 := Lib.hid (show w.heap.size < w2.heap.size from (HC.out.keep hk (fun h => h)).lt)
  have HK := Lib.hid ((HK.out.trans hk).trans hka)
  have HC := Lib.hid ((HC.out.keep hk (fun h => h)).keep hka (fun h => h))
  have HR := Lib.hid (Whole.new w2 35 (room14Cells R0))
  clear hk hka c0 c1 HEz
  have c0 := HC.out.cell 0 rfl
  have c1 := HC.out.cell 1 rfl
  simp only [confCells, List.getElem_toArray, List.getElem_cons_zero, List.getElem_cons_succ] at c0 c1
  unfold room14Cells at c0 c1
  go_wp2_with fail
  refine (HEm.out _).mono ?_
  rintro e9 w3 ⟨rfl, hk⟩
  have hka : Keeps NoBlock w3 (w3.alloc (.cells (room14Cells RM) 35)) := (Keeps.refl NoBlock w3).alloc _
  have HG7 := Lib.hid (show w2.heap.size < w3.heap.size by have := hk.size; simp at this; omega)
  have HK := Lib.hid ((HK.out.trans hk).trans hka)
  have HC := Lib.hid ((HC.out.keep hk (fun h => h)).keep hka (fun h => h))
  have HR := Lib.hid ((HR.out.keep hk (fun h => h)).keep hka (fun h => h))
  have HX := Lib.hid (Whole.new w3 35 (room14Cells RM))
  clear hk hka c0 c1 HEm
  obtain ⟨W0, hW0⟩ : ∃ W, W = w3.alloc (.cells (room14Cells RM) 35) := ⟨_, rfl⟩
  rw [← hW0] at HK HC HR HX
  unfold room14Cells at hW0
  go_wp2_with fail
  rw [← hW0]
  clear hW0
  go_loopw [8, 24] (fun v i wr => ∃ j : Nat, j ≤ n ∧ i = .int .i64 (j : Int) ∧ Hid ((runP e s (zs.take j)).y = 0) ∧ Hid (NumsSoFar w (runP e s (zs.take j)).out v wr) ∧ Hid (Whole wr w2.heap.size 35 (room14Cells (runP e s (zs.take j)).r)) ∧ Hid (Whole wr w3.heap.size 35 (room14Cells RM)) ∧ Hid (Whole wr w.heap.size 24 (confCells e s)) ∧ Hid (Keeps NoBlock w wr)) (fun _ i _ => n - (intOf i).toNat)
  case atStart =>
    refine ⟨0, Nat.zero_le _, rfl, Lib.hid (by rw [HZ0.out]), Lib.hid ?_, ?_, HX, HC, HK⟩
    · rw [HZ0.out]
      exact NumsSoFar.nil (HK.out.below (Nat.le_refl _) (fun _ _ h => h))
    · rw [HZ0.out]
      exact HR
  case round =>
    clear HK HC HR HX HZ0
    obtain ⟨j, hj, rfl, HY, HS, HR, HX, HC, HK⟩ := hrel
    by_cases hlt : j < n
    rotate_left
    · have hdj : decide ((j : Int) < (n : Int)) = false := decide_eq_false (by omega)
      have hdj2 : decide (j < n) = false := decide_eq_false hlt
      have hT : zs.take j = zs := List.take_of_length_le (by have := HLn.out; omega)
      rw [hT] at HY HS
      obtain ⟨q, m, d, rfl, hbare, hm, hcell⟩ := own_nums HS.out.1
      go_wp2_with fail
      exact bodyPost_ret (v := .tuple #[.slice q m d, .int .i64 0]) (by simp [results, Try.results17, go_sem]) rfl ⟨q, m, d, by rw [HAll.out, HY.out], by rw [HAll.out]; exact hm, by rw [HAll.out]; exact cells_rowN hm hbare hcell, HK.out⟩
    have hdj : decide ((j : Int) < (n : Int)) = true := decide_eq_true (by omega)
    have hdj2 : decide (j < n) = true := decide_eq_true hlt
    have hjl : j < zs.length := by rw [← HLn.out]; exact hlt
    obtain ⟨a, rfl, a0⟩ := (HAt.out.keep HK.out (fun _ _ h => h)) j hjl
    have hzr := HFi.out _ (getI_mem hjl)
    have hstep := HStep.out j hjl
    obtain ⟨hreal, hre, hrs, hrc⟩ := HReal.out j (by omega) HY.out
    have hol := runP_out (e := e) (s := s) (zs.take j) HY.out
    obtain ⟨z, hz⟩ : ∃ z, z = zs.getD j 0 := ⟨_, rfl⟩
    rw [← hz] at a0 hzr hstep
    obtain ⟨st, hst⟩ : ∃ st, st = runP e s (zs.take j) := ⟨_, rfl⟩
    rw [← hst] at hstep hreal hre hrs hrc HY HS HR hol
    obtain ⟨y, r, O⟩ := st
    obtain rfl : y = 0 := HY.out
    simp only at hreal hre hrs hrc HS HR hol
    unfold intV at a0
    have hO9 : O.length ≤ 1000000 := by rw [hol, List.length_take]; omega
    have hrc9 : r.count < 10000 := by rw [List.length_take] at hrc; omega
    have hstep : runP e s (zs.take (j + 1)) = if fitsP RM z = true then (if fitsP r z = true then ⟨0, takeP r z, O ++ [r.num]⟩ else if s ≤ r.num + 1 then ⟨7, Rm.none, []⟩ else ⟨0, takeP (emptyP e s (r.num + 1)) z, O ++ [r.num + 1]⟩) else ⟨6, Rm.none, []⟩ := by
      rw [hstep, HRM.out]
      unfold stepP
      rw [if_neg (by simp), HS1b.out]
    obtain ⟨c0, c1, c2, c3, c4⟩ := room14_at HX.out
    clear hz hst hjl hol hrc hre hrs
    have HJ := Lib.hid (And.intro hj hlt)
    by_cases hfm : fitsP RM z = true
    rotate_left
    · have HG6 := Lib.hid (HGone.out (j + 1) 6 (by decide) (by rw [hstep, if_neg hfm]))
      have hfm0 : fitsP RM z = false := by simpa using hfm
      have HFm := Lib.hid (fun w => HF.out RM z w HRm.out hzr)
      rw [hfm0] at HFm
      clear hstep hfm hfm0 hreal HY
      go_wp2_with fail
      refine (HFm.out _).mono ?_
      rintro e9 w5 ⟨rfl, hk⟩
      have HK := Lib.hid (HK.out.trans hk)
      clear hk
      go_wp2_with fail
      exact bodyPost_ret (v := .tuple #[.slice none 0 0, .int .i64 6]) (by simp [results, Try.results17, go_sem]) rfl (PlanPost.gone HG6.out HK.out)
    rw [if_pos hfm] at hstep
    obtain ⟨hz1, hz2⟩ := fitsP_true.1 hfm
    have hz9 : z ≤ 16777216 := by
      have := (two_e HRm.out.small.1).2
      obtain ⟨pp, hpp⟩ : ∃ pp, pp = 2 ^ RM.e := ⟨_, rfl⟩
      rw [← hpp] at hz2 this
      omega
    have HFm := Lib.hid (fun w => HF.out RM z w HRm.out hzr)
    rw [hfm] at HFm
    have HFr := Lib.hid (fun w => HF.out r z w hreal hzr)
    by_cases hfr : fitsP r z = true
    · rw [if_pos hfr] at hstep
      rw [hfr] at HFr
      have HTk := Lib.hid (fun w => HT.out r z w hreal hz1 hz9)
      have hnum : (takeP r z).num = r.num := rfl
      obtain ⟨R2, hR2⟩ : ∃ R2, R2 = takeP r z := ⟨_, rfl⟩
      rw [← hR2] at HTk hstep hnum
      rw [← hnum] at hstep
      have HSt := Lib.hid hstep
      clear hstep hfm hfr hreal HY hz1 hz2 hR2 hnum hzr hz9
      go_wp2_with fail
      refine (HFm.out _).mono ?_
      rintro e9 w5 ⟨rfl, hk⟩
      have HK := Lib.hid (HK.out.trans hk)
      have HR := Lib.hid (HR.out.keep hk (fun h => h))
      have HX := Lib.hid (HX.out.keep hk (fun h => h))
      have HC := Lib.hid (HC.out.keep hk (fun h => h))
      have HS := Lib.hid (HS.out.keep hk)
      obtain ⟨d0, d1, d2, d3, d4⟩ := room14_at HR.out
      clear hk c0 c1 c2 c3 c4
      go_wp2_with fail
      refine (HFr.out _).mono ?_
      rintro e9 w6 ⟨rfl, hk⟩
      have HK := Lib.hid (HK.out.trans hk)
      have HR := Lib.hid (HR.out.keep hk (fun h => h))
      have HX := Lib.hid (HX.out.keep hk (fun h => h))
      have HC := Lib.hid (HC.out.keep hk (fun h => h))
      have HS := Lib.hid (HS.out.keep hk)
      clear d0 d1 d2 d3 d4
      obtain ⟨d0, d1, d2, d3, d4⟩ := room14_at HR.out
      clear hk
      go_wp2_with fail
      refine (HTk.out _).mono ?_
      rintro e9 wq ⟨rfl, hk⟩
      have HK := Lib.hid (HK.out.trans hk)
      have HR := Lib.hid (HR.out.keep hk (fun h => h))
      have HX := Lib.hid (HX.out.keep hk (fun h => h))
      have HC := Lib.hid (HC.out.keep hk (fun h => h))
      have HS := Lib.hid (HS.out.keep hk)
      clear d0 d1 d2 d3 d4 hk
      obtain ⟨d0, d1, d2, d3, d4⟩ := room14_at HR.out
      obtain ⟨q0, q1, q2, q3, q4⟩ := room_free HR.out
      have hap := HS.out.apartT HR.out (show 35 ≠ 33 by decide)
      have HS := Lib.hid (HS.out.set5 hap (Nat.le_of_lt HB3.out) (.int .u8 (R2.e : Int)) (.int .u32 (R2.s : Int)) (.int .u64 (R2.num : Int)) (.int .i64 (R2.used : Int)) (.int .i64 (R2.count : Int)))
      have HK := Lib.hid (HK.out.new5 (Nat.le_of_lt HB3.out) (.int .u8 (R2.e : Int)) (.int .u32 (R2.s : Int)) (.int .u64 (R2.num : Int)) (.int .i64 (R2.used : Int)) (.int .i64 (R2.count : Int)))
      have HX := Lib.hid (HX.out.far5 (k := w2.heap.size) (by have := HG7.out; omega) (.int .u8 (R2.e : Int)) (.int .u32 (R2.s : Int)) (.int .u64 (R2.num : Int)) (.int .i64 (R2.used : Int)) (.int .i64 (R2.count : Int)))
      have HC := Lib.hid (HC.out.far5 (k := w2.heap.size) (by have := HB3.out; omega) (.int .u8 (R2.e : Int)) (.int .u32 (R2.s : Int)) (.int .u64 (R2.num : Int)) (.int .i64 (R2.used : Int)) (.int .i64 (R2.count : Int)))
      have HR := Lib.hid (show Whole _ w2.heap.size 35 (room14Cells R2) from Whole.set5 HR.out (.int .u8 (R2.e : Int)) (.int .u32 (R2.s : Int)) (.int .u64 (R2.num : Int)) (.int .i64 (R2.used : Int)) (.int .i64 (R2.count : Int)))
      obtain ⟨k0, k1, k2, k3, k4⟩ := room14_at HR.out
      obtain ⟨W9, hW9⟩ : ∃ W, W = ((((wq.setCell ⟨w2.heap.size, 0, none⟩ (.int .u8 (R2.e : Int))).setCell ⟨w2.heap.size, 1, none⟩ (.int .u32 (R2.s : Int))).setCell ⟨w2.heap.size, 2, none⟩ (.int .u64 (R2.num : Int))).setCell ⟨w2.heap.size, 3, none⟩ (.int .i64 (R2.used : Int))).setCell ⟨w2.heap.size, 4, none⟩ (.int .i64 (R2.count : Int)) := ⟨_, rfl⟩
      rw [← hW9] at HS HK HX HC HR k0 k1 k2 k3 k4
      have HS2 := Lib.hid (HS.out.alloc (.cells #[.int .u64 (R2.num : Int)] 33))
      have HNw : Hid (Whole (W9.alloc (.cells #[.int .u64 (R2.num : Int)] 33)) W9.heap.size 33 #[.int .u64 (R2.num : Int)]) := Lib.hid (Whole.new _ _ _)
      have hka : Keeps NoBlock W9 (W9.alloc (.cells #[.int .u64 (R2.num : Int)] 33)) := (Keeps.refl _ _).alloc _
      have HX := Lib.hid (HX.out.keep hka (fun h => h))
      have HC := Lib.hid (HC.out.keep hka (fun h => h))
      have HR := Lib.hid (HR.out.keep hka (fun h => h))
      have HK := Lib.hid (HK.out.trans hka)
      have hp1 := HS2.out.apartT HR.out (show 35 ≠ 33 by decide)
      have hp2 := HS2.out.apartT HX.out (show 35 ≠ 33 by decide)
      have hp3 := HS2.out.apartT HC.out (show 24 ≠ 33 by decide)
      clear hka hap
      go_upto_region 16 with (fail)
      rw [← hW9]
      clear hW9
      go_wp2_with (at_builtin; refine wpList_append_numG rfl _ _ rfl _ O rfl HS2.out W9.heap.size R2.num rfl (HNw.out.cell 0 rfl) hO9 ?_)
      intro v' w10 h10 hg10
      have HR := Lib.hid (HR.out.grown hg10 hp1)
      have HX := Lib.hid (HX.out.grown hg10 hp2)
      have HC := Lib.hid (HC.out.grown hg10 hp3)
      have HK : Hid (Keeps NoBlock w w10) := Lib.hid (Keeps.ofBelow h10.2)
      have HS := Lib.hid h10
      clear h10 hg10 hp1 hp2 hp3 k0 k1 k2 k3 k4
      have hJ := HJ.out
      go_wp2_with fail
      exact ⟨⟨j + 1, by omega, by go_num, Lib.hid (by rw [HSt.out]), Lib.hid (by rw [HSt.out]; exact HS.out), by rw [HSt.out]; exact HR, HX, HC, HK⟩, by simp [intOf]; omega⟩
    · rw [if_neg hfr] at hstep
      have hfr0 : fitsP r z = false := by simpa using hfr
      rw [hfr0] at HFr
      have wn1 : IntKind.u64.wrap ((r.num : Int) + 1) = (r.num : Int) + 1 := by rw [IntKind.wrap_u64]; have := hreal.small; omega
      have hn65 : r.num < 65536 := by have := hreal.small; omega
      by_cases hsn : s ≤ r.num + 1
      · have HG7b := Lib.hid (HGone.out (j + 1) 7 (by decide) (by rw [hstep, if_pos hsn]))
        have g1 : decide ((s : Int) ≤ (r.num : Int) + 1) = true := decide_eq_true (by omega)
        have g2 : decide (s ≤ r.num + 1) = true := decide_eq_true hsn
        clear hstep hfm hfr hfr0 hreal HY hz1 hz2 hzr hz9 hsn
        go_wp2_with fail
        refine (HFm.out _).mono ?_
        rintro e9 w5 ⟨rfl, hk⟩
        have HK := Lib.hid (HK.out.trans hk)
        have HR := Lib.hid (HR.out.keep hk (fun h => h))
        have HC := Lib.hid (HC.out.keep hk (fun h => h))
        obtain ⟨d0, d1, d2, d3, d4⟩ := room14_at HR.out
        clear hk c0 c1 c2 c3 c4
        go_wp2_with fail
        refine (HFr.out _).mono ?_
        rintro e9 w6 ⟨rfl, hk⟩
        have HK := Lib.hid (HK.out.trans hk)
        have HR := Lib.hid (HR.out.keep hk (fun h => h))
        have HC := Lib.hid (HC.out.keep hk (fun h => h))
        clear d0 d1 d2 d3 d4
        obtain ⟨d0, d1, d2, d3, d4⟩ := room14_at HR.out
        have b0 := HC.out.cell 0 rfl
        have b1 := HC.out.cell 1 rfl
        simp only [confCells, List.getElem_toArray, List.getElem_cons_zero, List.getElem_cons_succ] at b0 b1
        clear hk
        go_wp2_with fail
        exact bodyPost_ret (v := .tuple #[.slice none 0 0, .int .i64 7]) (by simp [results, Try.results17, go_sem]) rfl (PlanPost.gone HG7b.out HK.out)
      · rw [if_neg hsn] at hstep
        have g1 : decide ((s : Int) ≤ (r.num : Int) + 1) = false := decide_eq_false (by omega)
        have g2 : decide (s ≤ r.num + 1) = false := decide_eq_false hsn
        have hm2 : mayHead e s (r.num + 1) = true := mayHead_true.2 ⟨m1, m2, m3, m4, by omega⟩
        have hre2 := real_empty hm2
        have HEn := Lib.hid (HE.out (r.num + 1) (by omega))
        rw [show ((r.num + 1 : Nat) : Int) = (r.num : Int) + 1 by omega] at HEn
        have hnum : (takeP (emptyP e s (r.num + 1)) z).num = r.num + 1 := rfl
        obtain ⟨R1, hR1⟩ : ∃ R1, R1 = emptyP e s (r.num + 1) := ⟨_, rfl⟩
        rw [← hR1] at HEn hre2 hstep hnum
        have HTk := Lib.hid (fun w => HT.out R1 z w hre2 hz1 hz9)
        obtain ⟨R2, hR2⟩ : ∃ R2, R2 = takeP R1 z := ⟨_, rfl⟩
        rw [← hR2] at HTk hstep hnum
        rw [← hnum] at hstep
        have HSt := Lib.hid hstep
        clear hstep hfm hfr hfr0 hreal HY hz1 hz2 hR1 hR2 hnum hzr hz9 hsn hm2 hre2
        go_wp2_with fail
        refine (HFm.out _).mono ?_
        rintro e9 w5 ⟨rfl, hk⟩
        have HK := Lib.hid (HK.out.trans hk)
        have HR := Lib.hid (HR.out.keep hk (fun h => h))
        have HX := Lib.hid (HX.out.keep hk (fun h => h))
        have HC := Lib.hid (HC.out.keep hk (fun h => h))
        have HS := Lib.hid (HS.out.keep hk)
        obtain ⟨d0, d1, d2, d3, d4⟩ := room14_at HR.out
        clear hk c0 c1 c2 c3 c4
        go_wp2_with fail
        refine (HFr.out _).mono ?_
        rintro e9 w6 ⟨rfl, hk⟩
        have HK := Lib.hid (HK.out.trans hk)
        have HR := Lib.hid (HR.out.keep hk (fun h => h))
        have HX := Lib.hid (HX.out.keep hk (fun h => h))
        have HC := Lib.hid (HC.out.keep hk (fun h => h))
        have HS := Lib.hid (HS.out.keep hk)
        clear d0 d1 d2 d3 d4
        obtain ⟨d0, d1, d2, d3, d4⟩ := room14_at HR.out
        have b0 := HC.out.cell 0 rfl
        have b1 := HC.out.cell 1 rfl
        simp only [confCells, List.getElem_toArray, List.getElem_cons_zero, List.getElem_cons_succ] at b0 b1
        clear hk
        go_wp2_with fail
        refine (HEn.out _).mono ?_
        rintro e9 w7 ⟨rfl, hk⟩
        have HK := Lib.hid (HK.out.trans hk)
        have HR := Lib.hid (HR.out.keep hk (fun h => h))
        have HX := Lib.hid (HX.out.keep hk (fun h => h))
        have HC := Lib.hid (HC.out.keep hk (fun h => h))
        have HS := Lib.hid (HS.out.keep hk)
        clear d0 d1 d2 d3 d4 b0 b1 hk
        obtain ⟨d0, d1, d2, d3, d4⟩ := room14_at HR.out
        obtain ⟨q0, q1, q2, q3, q4⟩ := room_free HR.out
        have hap := HS.out.apartT HR.out (show 35 ≠ 33 by decide)
        have HS := Lib.hid (HS.out.set5 hap (Nat.le_of_lt HB3.out) (.int .u8 (R1.e : Int)) (.int .u32 (R1.s : Int)) (.int .u64 (R1.num : Int)) (.int .i64 (R1.used : Int)) (.int .i64 (R1.count : Int)))
        have HK := Lib.hid (HK.out.new5 (Nat.le_of_lt HB3.out) (.int .u8 (R1.e : Int)) (.int .u32 (R1.s : Int)) (.int .u64 (R1.num : Int)) (.int .i64 (R1.used : Int)) (.int .i64 (R1.count : Int)))
        have HX := Lib.hid (HX.out.far5 (k := w2.heap.size) (by have := HG7.out; omega) (.int .u8 (R1.e : Int)) (.int .u32 (R1.s : Int)) (.int .u64 (R1.num : Int)) (.int .i64 (R1.used : Int)) (.int .i64 (R1.count : Int)))
        have HC := Lib.hid (HC.out.far5 (k := w2.heap.size) (by have := HB3.out; omega) (.int .u8 (R1.e : Int)) (.int .u32 (R1.s : Int)) (.int .u64 (R1.num : Int)) (.int .i64 (R1.used : Int)) (.int .i64 (R1.count : Int)))
        have HR := Lib.hid (show Whole _ w2.heap.size 35 (room14Cells R1) from Whole.set5 HR.out (.int .u8 (R1.e : Int)) (.int .u32 (R1.s : Int)) (.int .u64 (R1.num : Int)) (.int .i64 (R1.used : Int)) (.int .i64 (R1.count : Int)))
        obtain ⟨k0, k1, k2, k3, k4⟩ := room14_at HR.out
        clear hap
        go_wp2_with fail
        refine (HTk.out _).mono ?_
        rintro e9 wq ⟨rfl, hk⟩
        have HK := Lib.hid (HK.out.trans hk)
        have HR := Lib.hid (HR.out.keep hk (fun h => h))
        have HX := Lib.hid (HX.out.keep hk (fun h => h))
        have HC := Lib.hid (HC.out.keep hk (fun h => h))
        have HS := Lib.hid (HS.out.keep hk)
        clear d0 d1 d2 d3 d4 q0 q1 q2 q3 q4 k0 k1 k2 k3 k4 hk
        obtain ⟨d0, d1, d2, d3, d4⟩ := room14_at HR.out
        obtain ⟨q0, q1, q2, q3, q4⟩ := room_free HR.out
        have hap := HS.out.apartT HR.out (show 35 ≠ 33 by decide)
        have HS := Lib.hid (HS.out.set5 hap (Nat.le_of_lt HB3.out) (.int .u8 (R2.e : Int)) (.int .u32 (R2.s : Int)) (.int .u64 (R2.num : Int)) (.int .i64 (R2.used : Int)) (.int .i64 (R2.count : Int)))
        have HK := Lib.hid (HK.out.new5 (Nat.le_of_lt HB3.out) (.int .u8 (R2.e : Int)) (.int .u32 (R2.s : Int)) (.int .u64 (R2.num : Int)) (.int .i64 (R2.used : Int)) (.int .i64 (R2.count : Int)))
        have HX := Lib.hid (HX.out.far5 (k := w2.heap.size) (by have := HG7.out; omega) (.int .u8 (R2.e : Int)) (.int .u32 (R2.s : Int)) (.int .u64 (R2.num : Int)) (.int .i64 (R2.used : Int)) (.int .i64 (R2.count : Int)))
        have HC := Lib.hid (HC.out.far5 (k := w2.heap.size) (by have := HB3.out; omega) (.int .u8 (R2.e : Int)) (.int .u32 (R2.s : Int)) (.int .u64 (R2.num : Int)) (.int .i64 (R2.used : Int)) (.int .i64 (R2.count : Int)))
        have HR := Lib.hid (show Whole _ w2.heap.size 35 (room14Cells R2) from Whole.set5 HR.out (.int .u8 (R2.e : Int)) (.int .u32 (R2.s : Int)) (.int .u64 (R2.num : Int)) (.int .i64 (R2.used : Int)) (.int .i64 (R2.count : Int)))
        obtain ⟨k0, k1, k2, k3, k4⟩ := room14_at HR.out
        obtain ⟨W9, hW9⟩ : ∃ W, W = ((((wq.setCell ⟨w2.heap.size, 0, none⟩ (.int .u8 (R2.e : Int))).setCell ⟨w2.heap.size, 1, none⟩ (.int .u32 (R2.s : Int))).setCell ⟨w2.heap.size, 2, none⟩ (.int .u64 (R2.num : Int))).setCell ⟨w2.heap.size, 3, none⟩ (.int .i64 (R2.used : Int))).setCell ⟨w2.heap.size, 4, none⟩ (.int .i64 (R2.count : Int)) := ⟨_, rfl⟩
        rw [← hW9] at HS HK HX HC HR k0 k1 k2 k3 k4
        have HS2 := Lib.hid (HS.out.alloc (.cells #[.int .u64 (R2.num : Int)] 33))
        have HNw : Hid (Whole (W9.alloc (.cells #[.int .u64 (R2.num : Int)] 33)) W9.heap.size 33 #[.int .u64 (R2.num : Int)]) := Lib.hid (Whole.new _ _ _)
        have hka : Keeps NoBlock W9 (W9.alloc (.cells #[.int .u64 (R2.num : Int)] 33)) := (Keeps.refl _ _).alloc _
        have HX := Lib.hid (HX.out.keep hka (fun h => h))
        have HC := Lib.hid (HC.out.keep hka (fun h => h))
        have HR := Lib.hid (HR.out.keep hka (fun h => h))
        have HK := Lib.hid (HK.out.trans hka)
        have hp1 := HS2.out.apartT HR.out (show 35 ≠ 33 by decide)
        have hp2 := HS2.out.apartT HX.out (show 35 ≠ 33 by decide)
        have hp3 := HS2.out.apartT HC.out (show 24 ≠ 33 by decide)
        clear hka hap
        go_upto_region 16 with (fail)
        rw [← hW9]
        clear hW9
        go_wp2_with (at_builtin; refine wpList_append_numG rfl _ _ rfl _ O rfl HS2.out W9.heap.size R2.num rfl (HNw.out.cell 0 rfl) hO9 ?_)
        intro v' w10 h10 hg10
        have HR := Lib.hid (HR.out.grown hg10 hp1)
        have HX := Lib.hid (HX.out.grown hg10 hp2)
        have HC := Lib.hid (HC.out.grown hg10 hp3)
        have HK : Hid (Keeps NoBlock w w10) := Lib.hid (Keeps.ofBelow h10.2)
        have HS := Lib.hid h10
        clear h10 hg10 hp1 hp2 hp3 k0 k1 k2 k3 k4
        have hJ := HJ.out
        go_wp2_with fail
        exact ⟨⟨j + 1, by omega, by go_num, Lib.hid (by rw [HSt.out]), Lib.hid (by rw [HSt.out]; exact HS.out), by rw [HSt.out]; exact HR, HX, HC, HK⟩, by simp [intOf]; omega⟩
end Go.Proofs.Ytibojgoeaoinpaa

namespace Go.Proofs.Ytibojgoeaoinpaa
open Go.RowKit

/-- A number of 4 bytes: why it stopped, the number, how many bytes. -/
structure G4 where
  y : Int
  x : Nat
  m : Nat
def get4S (y : Int) (r : List Int) : G4 := if y ≠ 0 then ⟨y, 0, 0⟩ else if r.length < 4 then ⟨2, 0, 0⟩ else ⟨0, (le (r.take 4)).toNat, 4⟩
def getES (y n : Int) (r : List Int) : GE := if y ≠ 0 then ⟨0, y, []⟩ else getE n r
def getFS (y n : Int) (r : List Int) : GF := if y ≠ 0 then ⟨0, y, []⟩ else getF n r
theorem get4S_bound (y : Int) {r : List Int} (ho : Octets r) : (get4S y r).x < 4294967296 ∧ (get4S y r).m ≤ r.length := by
  unfold get4S
  split
  · exact ⟨(show (0 : Nat) < 4294967296 by decide), Nat.zero_le _⟩
  · split
    · exact ⟨(show (0 : Nat) < 4294967296 by decide), Nat.zero_le _⟩
    · have hb := le_bound (r.take 4) (ho.take 4)
      rw [show (r.take 4).length = 4 by rw [List.length_take]; omega] at hb
      have e : (2 : Int) ^ (8 * 4) = 4294967296 := rfl
      exact ⟨by show (le (r.take 4)).toNat < _; omega, by show 4 ≤ _; omega⟩
theorem getES_gone (y n : Int) (r : List Int) (h : y ≠ 0) : getES y n r = ⟨0, y, []⟩ := if_pos h
theorem getFS_gone (y n : Int) (r : List Int) (h : y ≠ 0) : getFS y n r = ⟨0, y, []⟩ := if_pos h

def ftLastS (f : Ft) (fs : List Nat) (y : Int) : GFt := if y ≠ 0 then ⟨y, Ft.none⟩ else if checkFt f ≠ 0 then ⟨checkFt f, Ft.none⟩ else if fs ≠ ofF f.tab then ⟨4, Ft.none⟩ else ⟨0, f⟩
def ftS4 (n used : Nat) (l : List En) (y : Int) (r : List Int) : GFt :=
  ftLastS ⟨used, l⟩ (getFS y (countF (n : Int) : Nat) r).l (endE (r.drop (getFS y (countF (n : Int) : Nat) r).m) (getFS y (countF (n : Int) : Nat) r).y)
def ftS3 (n used : Nat) (y : Int) (r : List Int) : GFt := ftS4 n used (getES y n r).l (getES y n r).y (r.drop (getES y n r).m)
def ftS2 (n : Nat) (y : Int) (r : List Int) : GFt := ftS3 n (get4S y r).x (get4S y r).y (r.drop (get4S y r).m)
def ftS1 (r : List Int) : GFt :=
  if (get4S 0 r).y = 0 ∧ 1048576 < (get4S 0 r).x then ⟨3, Ft.none⟩ else ftS2 (get4S 0 r).x (get4S 0 r).y (r.drop (get4S 0 r).m)
theorem ftS4_gone (n used : Nat) (l : List En) (y : Int) (r : List Int) (h : y ≠ 0) : ftS4 n used l y r = ⟨y, Ft.none⟩ := by
  unfold ftS4
  rw [getFS_gone _ _ _ h]
  unfold ftLastS endE
  rw [if_neg h, if_pos h]
theorem ftS3_gone (n used : Nat) (y : Int) (r : List Int) (h : y ≠ 0) : ftS3 n used y r = ⟨y, Ft.none⟩ := by
  unfold ftS3
  rw [getES_gone _ _ _ h]
  exact ftS4_gone _ _ _ _ _ h
theorem ftS2_gone (n : Nat) (y : Int) (r : List Int) (h : y ≠ 0) : ftS2 n y r = ⟨y, Ft.none⟩ := by
  have e : get4S y r = ⟨y, 0, 0⟩ := if_pos h
  unfold ftS2
  rw [e]
  exact ftS3_gone _ _ _ _ h
theorem ftS4_fences (n used : Nat) (l : List En) (r : List Int) : ftS4 n used l 0 r = ftFences n used l r := by
  have e : getFS 0 (countF (n : Int) : Nat) r = getF (countF (n : Int) : Nat) r := if_neg (by simp)
  unfold ftS4 ftFences
  rw [e]
  obtain ⟨t, ht⟩ : ∃ t, t = getF (countF (n : Int) : Nat) r := ⟨_, rfl⟩
  rw [← ht]
  by_cases h : t.y = 0
  · rw [if_neg (by rw [h]; simp)]
    unfold ftLastS endE ftEnd
    rw [if_pos h]
    by_cases hr : r.drop t.m = []
    · have hr0 : ¬ 0 < (r.drop t.m).length := by rw [hr]; simp
      rw [if_pos hr, if_neg hr0]
      simp only [ne_eq, not_true_eq_false, if_false]
    · rw [if_neg hr, if_pos (by decide), if_pos (List.length_pos_iff.2 hr)]
  · rw [if_pos h]
    unfold ftLastS endE
    rw [if_neg h, if_pos h]
theorem ftS3_rows (n used : Nat) (r : List Int) : ftS3 n used 0 r = ftRows n used r := by
  have e : getES 0 (n : Int) r = getE (n : Int) r := if_neg (by simp)
  unfold ftS3 ftRows
  rw [e]
  by_cases h : (getE (n : Int) r).y = 0
  · rw [if_neg (by rw [h]; simp), h, ftS4_fences]
  · rw [if_pos h, ftS4_gone _ _ _ _ _ h]
theorem ftS1_count (r : List Int) : ftS1 r = ftCount r := by
  unfold ftS1 ftCount
  by_cases h4 : r.length < 4
  · have e : get4S 0 r = ⟨2, 0, 0⟩ := by unfold get4S; rw [if_neg (by simp), if_pos h4]
    rw [e, if_neg (by simp), if_pos h4]
    exact ftS2_gone _ _ _ (show (2 : Int) ≠ 0 by decide)
  · have e : get4S 0 r = ⟨0, (le (r.take 4)).toNat, 4⟩ := by unfold get4S; rw [if_neg (by simp), if_neg h4]
    rw [e, if_neg h4]
    simp only
    obtain ⟨n, hn⟩ : ∃ n, n = (le (r.take 4)).toNat := ⟨_, rfl⟩
    rw [← hn]
    unfold ftUsed
    by_cases hb : 1048576 < n
    · rw [if_pos ⟨by trivial, hb⟩, if_pos hb]
    · rw [if_neg (fun h => hb h.2), if_neg hb]
      unfold ftS2
      by_cases h5 : (r.drop 4).length < 4
      · have e : get4S 0 (r.drop 4) = ⟨2, 0, 0⟩ := by unfold get4S; rw [if_neg (by simp), if_pos h5]
        rw [e, if_pos h5]
        exact ftS3_gone _ _ _ _ (show (2 : Int) ≠ 0 by decide)
      · have e : get4S 0 (r.drop 4) = ⟨0, (le ((r.drop 4).take 4)).toNat, 4⟩ := by unfold get4S; rw [if_neg (by simp), if_neg h5]
        rw [e, if_neg h5]
        exact ftS3_rows _ _ _
end Go.Proofs.Ytibojgoeaoinpaa

namespace Go.Proofs.Ytibojgoeaoinpaa
open Go.RowKit

/-- What a reading of one number leaves: the number, if there is one. -/
def gotVal (t : VR) : Value := .int .u64 (if t.e = 0 then t.x else 0)

/-- Run's answer to a reading of one number: how many bytes, why it stopped; the number in block D. -/
def GotIn (D : Nat) (t : VR) (w0 : World) (e : Ending) (w' : World) : Prop :=
  e = .returned (.tuple #[.int .i64 t.n, .int .i64 t.e]) ∧ Whole w' D 33 #[gotVal t] ∧ Keeps (Just D) w0 w'

/-- Read's answer. -/
def readOut (t : VR) : Value := .tuple #[gotVal t, .int .i64 (if t.e = 0 then (t.n : Int) else 0), .int .i64 t.e]

theorem getFnOk : ∀ (fn : Fn) (first cap : Array Value) (w : World), (Instr.makeFunc fn first cap).run Try.prog w = .ok (.func fn first cap) w := fun _ _ _ _ => rfl

end Go.Proofs.Ytibojgoeaoinpaa

namespace Go.Proofs.Ytibojgoeaoinpaa
open Go.RowKit

theorem ret_true {b : Bool} (h : b = true) : Ending.returned (.bool b) = .returned (.bool true) := by rw [h]

/-- A Buffer that wasn't there ahead of all: what is written into it turns nothing that was. -/
theorem keepsNewBuf {w w1 w2 : World} {base g : Nat} (h : Keeps NoBlock w w1) (k : Keeps (OnBuf base g) w1 w2) (hg : w.heap.size ≤ g) (hb : w.heap.size ≤ base) : Keeps NoBlock w w2 :=
  h.then k fun i hi hS => by
    rcases hS with rfl | h1
    · omega
    · omega

theorem bufNew (w : World) : BufAt (w.alloc (.cells #[.slice none 0 0] 67)) w.heap.size w.heap.size [] :=
  ⟨.slice none 0 0, Whole.new _ _ _, by simp, .inl ⟨rfl, by simp⟩⟩

end Go.Proofs.Ytibojgoeaoinpaa

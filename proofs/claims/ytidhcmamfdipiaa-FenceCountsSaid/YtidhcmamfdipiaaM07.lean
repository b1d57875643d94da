/-
  VarPut; RecRef; ElRef; ElRow; TabFiWalk; FenNum.
-/
import Derived.Deep.RegionHeld3
import Derived.Lib.Bytes
import Derived.Test.YtidhcmamfdipiaaM01
import Derived.Test.YtidhcmamfdipiaaM02
import Derived.Test.YtidhcmamfdipiaaM03
import Derived.Test.YtidhcmamfdipiaaM05
import Derived.Test.YtidhcmamfdipiaaM06
namespace Go.Proofs.Ytidhcmamfdipiaa
open Go.RowKit

/-- What Put leaves. -/
def PutOk (base g : Nat) (xs : List Int) (w : World) (e : Ending) (w' : World) : Prop :=
  e = .returned (.tuple #[]) ∧ BufAt w' base g xs ∧ Keeps (OnBuf base g) w w'

theorem one_conv {v : Int} {W : World} {g : Nat} {t : TypeId} (h : Whole W g t #[.int .u8 v]) : (convert 40 9 (.slice (some ⟨g, 0, none⟩) 1 1)).run Try.prog W = .ok (.string (strOfNums [v])) W :=
  textOf _ 1 1 [v] _ rfl (h.bytes [v] (fun i hi => by
    match i, hi with
    | 0, _ => rfl))

theorem vnum_conv (v : Int) (w : World) : (convert 40 9 (.slice (some ⟨w.heap.size, 0, none⟩) 1 1)).run Try.prog (w.alloc (.cells #[.int .u8 v] 5)) = .ok (.string (strOfNums [v])) (w.alloc (.cells #[.int .u8 v] 5)) :=
  one_conv (Whole.new w _ _)
theorem vnum_convD (v : Int) (w : World) : (convert 40 9 (.slice (some ⟨w.heap.size, 0, none⟩) 1 1)).run Try.prog (w.alloc (.cells #[.int .u8 v] 5)).drew = .ok (.string (strOfNums [v])) (w.alloc (.cells #[.int .u8 v] 5)).drew :=
  one_conv (W := (w.alloc (.cells #[.int .u8 v] 5)).drew) (show Whole _ _ 5 _ from Whole.new w _ _)
theorem vnum_conv_keep {v : Int} {w w1 : World} (h : Keeps NoBlock (w.alloc (.cells #[.int .u8 v] 5)).drew w1) :
    (convert 40 9 (.slice (some ⟨w.heap.size, 0, none⟩) 1 1)).run Try.prog w1 = .ok (.string (strOfNums [v])) w1 ∧ (convert 40 9 (.slice (some ⟨w.heap.size, 0, none⟩) 1 1)).run Try.prog w1.drew = .ok (.string (strOfNums [v])) w1.drew := by
  have hw : Whole w1 w.heap.size 5 #[.int .u8 v] := (show Whole (w.alloc (.cells #[.int .u8 v] 5)).drew _ _ _ from Whole.new w _ _).keep h (fun h => h)
  exact ⟨one_conv hw, one_conv (show Whole w1.drew _ 5 _ from hw)⟩

end Go.Proofs.Ytidhcmamfdipiaa

namespace Go.Proofs.Ytidhcmamfdipiaa
open Go.RowKit

/-- A record, as a value. -/
def recV (r : Rec) : Value := .agg #[.bool r.del, .int .u64 (r.seq : Int), .string (strOfNums r.key), .string (strOfNums r.val)]
def recCells (r : Rec) : Array Value := #[.bool r.del, .int .u64 (r.seq : Int), .string (strOfNums r.key), .string (strOfNums r.val)]

set_option maxHeartbeats 800000 in
theorem fail_gone (xs : List Int) (a y z : Int) (hy : ¬ y = 0) (w : World) :
    Calls Try.prog 47 #[rdr xs a y, .int .i64 z] w fun e w' => e = .returned (rdr xs a y) ∧ Keeps NoBlock w w' := by
  unfold rdr
  go_enter Try.func47, Try.ntmps47
  go_wp2_with fail
  exact bodyPost_ret (v := rdr xs a y) (by simp [results, Try.results47, go_sem, rdr]) rfl ⟨rfl, ((Keeps.refl _ _).alloc _).alloc _⟩

theorem str_isnone (xs : List Int) : (strOfNums xs).toList.isEmpty = xs.isEmpty := by
  rw [Lib.strOfNums_toList]
  cases xs <;> rfl

def endE (xs : List Int) (y : Int) : Int := if y = 0 then (if xs = [] then 0 else 3) else y
set_option maxHeartbeats 2000000 in
set_option maxRecDepth 10000 in
/-- A number, where it stopped. -/
theorem get1_gone (xs : List Int) (a y z : Int) (hy : ¬ y = 0) (w : World) :
    Calls Try.prog 48 #[rdr xs a y, .int .i64 z] w fun e w' => e = .returned (.tuple #[rdr xs a y, .int .u64 0]) ∧ Keeps NoBlock w w' := by
  have HT := Lib.hid (take_ref_gone xs a y z hy)
  have HV := Lib.hid (value_ref [] (fun b hb => by simp at hb) (by simp))
  clear hy
  unfold rdr at *
  go_enter Try.func48, Try.ntmps48
  go_wp2_with fail
  refine (HT.out _).mono ?_
  rintro e w1 ⟨rfl, hk⟩
  have hb : Whole w1 (w.heap.size + 1) 54 #[.string { data := #[] }, .int .i64 0, .int .i64 0] := (Whole.newAt _ _ _ _ (by simp)).keep hk (fun h => h)
  obtain ⟨W, hW⟩ : ∃ W, W = w1.alloc (.cells #[.string (strOfNums xs), .int .i64 a, .int .i64 y] 54) := ⟨_, rfl⟩
  have hbW : Whole W (w.heap.size + 1) 54 #[.string { data := #[] }, .int .i64 0, .int .i64 0] := by rw [hW]; exact hb.alloc _
  have hsW : Whole W w1.heap.size 54 #[.string (strOfNums xs), .int .i64 a, .int .i64 y] := by rw [hW]; exact Whole.new _ _ _
  have hkW : Keeps NoBlock w W := by rw [hW]; exact ((((Keeps.refl _ w).alloc _).alloc _).trans hk).alloc _
  have c0 := hbW.cell 0 rfl
  have c1 := hbW.cell 1 rfl
  have c2 := hbW.cell 2 rfl
  have f0 := hbW.free 0
  have f1 := hbW.free 1
  have f2 := hbW.free 2
  have d0 := hsW.cell 0 rfl
  have d1 := hsW.cell 1 rfl
  have d2 := hsW.cell 2 rfl
  simp only [List.getElem_toArray, List.getElem_cons_zero, List.getElem_cons_succ] at c0 c1 c2 d0 d1 d2
  have HK := Lib.hid hkW
  clear hk HT hb hbW hsW hkW
  go_wp2_with fail
  rw [← hW]
  have HW := Lib.hid hW
  clear hW
  go_region_with (go_at_call 62; refine (HV.out _).mono ?_; rintro e w2 ⟨rfl, rfl⟩)
  all_goals
    go_wp2_with fail
    refine bodyPost_ret (v := .tuple #[rdr xs a y, .int .u64 0]) (by simp [results, Try.results48, go_sem, rdr, c0, c1, c2, le]) rfl ⟨rfl, ?_⟩
    have hk3 := (((HK.out.setNew (g := w.heap.size + 1) (by omega) 0 (.string (strOfNums xs))).setNew (g := w.heap.size + 1) (by omega) 1 (.int .i64 a)).setNew (g := w.heap.size + 1) (by omega) 2 (.int .i64 y)).drew
    have hk4 := (((HK.out.drew.setNew (g := w.heap.size + 1) (by omega) 0 (.string (strOfNums xs))).setNew (g := w.heap.size + 1) (by omega) 1 (.int .i64 a)).setNew (g := w.heap.size + 1) (by omega) 2 (.int .i64 y))
    first | exact hk3 | exact hk4 | exact hk4.drew

end Go.Proofs.Ytidhcmamfdipiaa

namespace Go.Proofs.Ytidhcmamfdipiaa
open Go.RowKit

def prV (p : Pr) : Value := .agg #[.string (strOfNums p.key), .string (strOfNums p.val)]
def prCells (p : Pr) : Array Value := #[.string (strOfNums p.key), .string (strOfNums p.val)]
def PrAt (w : World) (g : Nat) (p : Pr) : Prop := w.cell? ⟨g, 0, none⟩ = some (.string (strOfNums p.key)) ∧ w.cell? ⟨g, 1, none⟩ = some (.string (strOfNums p.val))
theorem PrAt.ofWhole {w : World} {g : Nat} {t : TypeId} {p : Pr} (h : Whole w g t (prCells p)) : PrAt w g p := ⟨h.cell 0 rfl, h.cell 1 rfl⟩

end Go.Proofs.Ytidhcmamfdipiaa

namespace Go.Proofs.Ytidhcmamfdipiaa
open Go.RowKit

theorem own_keep {w w' : World} {base size n : Nat} {e : TypeId} {v : Value} {xs : List Value} (h : w.ownsRow base e size v n xs) {S : Nat → Prop} (hk : Keeps S w w') (hs : ∀ k, base ≤ k → ¬ S k) : w'.ownsRow base e size v n xs := by
  refine ⟨h.1, ?_⟩
  rcases h.2 with hn | ⟨g, cap, cur, rfl, hb, hgg, rest⟩
  · exact .inl hn
  · have hlt : g < w.heap.size := (Array.getElem?_eq_some_iff.1 hgg).1
    exact .inr ⟨g, cap, cur, rfl, hb, (hk.block g hlt (hs g hb)).trans hgg, rest⟩

/-- A row of pairs that can be read. -/
def PrsAt (w : World) (p : Option Addr) (l : List Pr) : Prop :=
  ∀ i, i < l.length → ∃ a : Addr, p = some a ∧ w.cell? (a.add (i * 2)) = some (.string (strOfNums (l.getD i Pr.none).key)) ∧ w.cell? ⟨(a.add (i * 2)).block, (a.add (i * 2)).off + 1, none⟩ = some (.string (strOfNums (l.getD i Pr.none).val))
theorem PrsAt.keep {w w' : World} {p : Option Addr} {l : List Pr} (h : PrsAt w p l) {S : Nat → Prop} (hk : Keeps S w w') (hs : ∀ k, k < w.heap.size → ¬ S k) : PrsAt w' p l := fun i hi => by
  obtain ⟨a, rfl, c0, c1⟩ := h i hi
  exact ⟨a, rfl, hk.cell c0 (hs _ (ltOfCell c0)), hk.cell c1 (hs _ (ltOfCell c1))⟩

def prTwo (p : Pr) : List Value := [.string (strOfNums p.key), .string (strOfNums p.val)]
def prFlat (l : List Pr) : List Value := l.flatMap prTwo
theorem prFlat_append (a b : List Pr) : prFlat (a ++ b) = prFlat a ++ prFlat b := List.flatMap_append
theorem prFlat_at : ∀ (l : List Pr) (i j : Nat), i < l.length → j < 2 → (prFlat l)[i * 2 + j]? = (prTwo (l.getD i Pr.none))[j]?
  | [], i, j, h, _ => by simp at h
  | r :: l, 0, j, _, hj => by
    rw [prFlat, List.flatMap_cons, List.getElem?_append_left (by simp [prTwo]; omega)]
    simp
  | r :: l, i + 1, j, h, hj => by
    rw [prFlat, List.flatMap_cons, List.getElem?_append_right (by simp [prTwo]; omega), ← prFlat]
    have e : (i + 1) * 2 + j - (prTwo r).length = i * 2 + j := by simp [prTwo]; omega
    rw [e, prFlat_at l i j (by simpa using h) hj]
    simp
theorem PrsAt.ofOwn {w : World} {base n : Nat} {t : TypeId} {v : Value} {l : List Pr} (h : w.ownsRow base t 2 v n (prFlat l)) (hn : n = l.length) :
    ∃ p c, v = .slice p n c ∧ n ≤ c ∧ c ≤ 9223372036854775807 ∧ (p = none → n = 0 ∧ c = 0) ∧ PrsAt w p l := by
  have h' := h
  rcases h with ⟨_, ⟨rfl, rfl⟩ | ⟨g, cap, cur, rfl, hg, hh, hc1, hc2, hc3, hc4⟩⟩
  · exact ⟨none, 0, rfl, Nat.le_refl _, by decide, fun _ => ⟨rfl, rfl⟩, fun i hi => by omega⟩
  · refine ⟨_, cap, rfl, hc1, by unfold maxLen at hc2; omega, fun h => by simp at h, fun i hi => ?_⟩
    have hc := h'.cells (g := g) rfl
    have ha : ∀ j u, j < 2 → (prTwo (l.getD i Pr.none))[j]? = some u → w.cell? ⟨g, i * 2 + j, none⟩ = some u := fun j u hj hu => by
      have := hc (i * 2 + j) u (by rw [prFlat_at l i j hi hj]; exact hu)
      rw [Addr.add_lit, Nat.zero_add] at this
      exact this
    refine ⟨⟨g, 0, none⟩, rfl, ?_, ?_⟩
    all_goals simp only [Addr.add_lit, Nat.zero_add]
    · exact ha 0 _ (by decide) rfl
    · exact ha 1 _ (by decide) rfl

/-- A new row of pairs. -/
def NewPrs (w : World) (l : List Pr) (v : Value) (w' : World) : Prop :=
  ∃ (q : Option Addr) (m d : Nat), v = .slice q m d ∧ m = l.length ∧ m ≤ d ∧ d ≤ 9223372036854775807 ∧ (q = none → m = 0 ∧ d = 0) ∧ PrsAt w' q l ∧ Keeps NoBlock w w'
/-- The pairs got so far. -/
def PrsSoFar (t : TypeId) (w0 : World) (l : List Pr) (v : Value) (wr : World) : Prop := wr.ownsRow w0.heap.size t 2 v l.length (prFlat l) ∧ Below w0.heap.size w0 wr
theorem PrsSoFar.new {t : TypeId} {w0 wr : World} {l : List Pr} {v : Value} (h : PrsSoFar t w0 l v wr) : NewPrs w0 l v wr := by
  obtain ⟨p, c, hv, h1, h2, h3, h4⟩ := PrsAt.ofOwn h.1 rfl
  exact ⟨p, _, c, hv, rfl, h1, h2, h3, h4, Keeps.ofBelow h.2⟩
end Go.Proofs.Ytidhcmamfdipiaa

namespace Go.Proofs.Ytidhcmamfdipiaa
open Go.RowKit

theorem infoU64 : (Try.prog.info? 23).map (fun i => (i.zero, i.size, i.bytes)) = some (some (.int .u64 0), 1, 8) := by kernel_rfl
def numV (x : Nat) : Value := .int .u64 (x : Int)
/-- A row of numbers of one's own so far. -/
def NumsSoFar (w0 : World) (l : List Nat) (v : Value) (wr : World) : Prop := wr.ownsRow w0.heap.size 23 1 v l.length (l.map numV) ∧ Below w0.heap.size w0 wr
theorem NumsSoFar.keep {w0 wr w' : World} {l : List Nat} {v : Value} (h : NumsSoFar w0 l v wr) (hk : Keeps NoBlock wr w') : NumsSoFar w0 l v w' :=
  ⟨own_keep h.1 hk (fun _ _ h => h), h.2.trans (hk.below h.2.size (fun _ _ h => h))⟩
theorem NumsSoFar.alloc {w0 wr : World} {l : List Nat} {v : Value} (h : NumsSoFar w0 l v wr) (o : Obj) : NumsSoFar w0 l v (wr.alloc o) := ⟨World.ownsRow.alloc h.1 o, h.2.alloc h.2.size o⟩

/-- A row of numbers, as an append asks for it. -/
theorem own_nums {w0 w : World} {l : List Nat} {v : Value} (h : w.ownsRow w0.heap.size 23 1 v l.length (l.map numV)) : ∃ q m d, v = .slice q m d ∧ (q = none → m = 0 ∧ d = 0) ∧ m = l.length ∧ ∀ ad, q = some ad → ∀ j u, (l.map numV)[j]? = some u → w.cell? (ad.add j) = some u := by
  have h' := h
  rcases h with ⟨_, ⟨rfl, e⟩ | ⟨g, cap, cur, rfl, _⟩⟩
  · exact ⟨none, 0, 0, rfl, fun _ => ⟨rfl, rfl⟩, e.symm, fun ad h => by simp at h⟩
  · exact ⟨_, _, cap, rfl, fun h => by simp at h, rfl, fun ad had j u hu => by obtain rfl := Option.some.inj had; exact h'.cells (g := g) rfl j u hu⟩

theorem Keeps.ofBelowAt5 {B : Nat} {a b : World} (h : Below B a b) : Keeps (fun k => B ≤ k) a b := ⟨h.os, h.tape, h.output, h.size, fun k _ hn => h.block k (by omega)⟩
/-- A row that was there ahead of B stays behind what turns blocks from B on alone. -/
theorem TwosAt.keepBlk {α : Type} {v0 v1 : α → Value} {dd : α} {w0 w w' : World} {p : Option Addr} {l : List α} (h : TwosAt v0 v1 dd w p l) (hk : Keeps (fun k => w0.heap.size ≤ k) w w') (h0 : TwosAt v0 v1 dd w0 p l) : TwosAt v0 v1 dd w' p l := fun i hi => by
  obtain ⟨a, rfl, c0, c1⟩ := h i hi
  obtain ⟨a', ha', d0, d1⟩ := h0 i hi
  obtain rfl := Option.some.inj ha'
  have l0 := ltOfCell d0
  have l1 := ltOfCell d1
  exact ⟨a, rfl, hk.cell c0 (by omega), hk.cell c1 (by simp at l1 ⊢; omega)⟩

theorem getD_mem {l : List Nat} {j : Nat} (h : j < l.length) : l.getD j 0 ∈ l := by simp [h]

end Go.Proofs.Ytidhcmamfdipiaa

namespace Go.Proofs.Ytidhcmamfdipiaa

/-- Of entries from the place i on: the Hashes of those at each sixteenth place. -/
def ofFrom : Nat → List En → List Nat
  | _, [] => []
  | i, e :: l => if i % 16 = 0 then e.hash :: ofFrom (i + 1) l else ofFrom (i + 1) l
/-- The fences of entries. -/
def ofF (l : List En) : List Nat := ofFrom 0 l
/-- How many n entries have. -/
def countF (n : Int) : Nat := (n.toNat + 15) / 16
/-- From where to where a Hash can stand. -/
def rangeF (fs : List Nat) (n h : Nat) : Nat × Nat :=
  if (fs.countP fun f => decide (f ≤ h)) = 0 then (0, 0)
  else (16 * ((fs.countP fun f => decide (f < h)) - 1), min n (16 * (fs.countP fun f => decide (f ≤ h))))

theorem ofFrom_none (p : Nat → Bool) : ∀ (i : Nat) (l : List En), (∀ e ∈ l, p e.hash = false) → (ofFrom i l).countP p = 0
  | _, [], _ => rfl
  | i, e :: l, h => by
    have hl := ofFrom_none p (i + 1) l fun x hx => h x (List.mem_cons_of_mem _ hx)
    rw [ofFrom]
    split
    · rw [List.countP_cons_of_neg (by rw [h e List.mem_cons_self]; simp), hl]
    · exact hl
theorem ofFrom_count (p : Nat → Bool) : ∀ (i : Nat) (l : List En), l.Pairwise (fun a b => p b.hash = true → p a.hash = true) →
    (ofFrom i l).countP p + (i + 15) / 16 = (i + l.countP (fun e => p e.hash) + 15) / 16
  | i, [], _ => by simp [ofFrom]
  | i, e :: l, h => by
    obtain ⟨h1, h2⟩ := List.pairwise_cons.1 h
    by_cases hp : p e.hash = true
    · have ih := ofFrom_count p (i + 1) l h2
      rw [List.countP_cons_of_pos (by exact hp), ofFrom]
      split
      · rw [List.countP_cons_of_pos hp]
        omega
      · omega
    · have hp' : p e.hash = false := by simpa using hp
      have hn : ∀ x ∈ l, p x.hash = false := fun x hx => by
        cases hx' : p x.hash
        · rfl
        · exact absurd (h1 x hx hx') hp
      have hn' : ∀ x ∈ e :: l, p x.hash = false := fun x hx => by
        rcases List.mem_cons.1 hx with rfl | hx
        · exact hp'
        · exact hn x hx
      rw [ofFrom_none p i (e :: l) hn', List.countP_eq_zero.2 (fun x hx => by rw [hn' x hx]; simp)]
      omega
theorem ofFrom_length : ∀ (i : Nat) (l : List En), (ofFrom i l).length + (i + 15) / 16 = (i + l.length + 15) / 16
  | i, [] => by simp [ofFrom]
  | i, e :: l => by
    have ih := ofFrom_length (i + 1) l
    rw [List.length_cons, ofFrom]
    split
    · rw [List.length_cons]
      omega
    · omega
theorem ofF_length (l : List En) : (ofF l).length = (l.length + 15) / 16 := by
  have := ofFrom_length 0 l
  unfold ofF
  omega
theorem ofF_count {l : List En} (h : l.Pairwise LessE) (p : Nat → Bool) (hp : ∀ {a b : Nat}, a ≤ b → p b = true → p a = true) : (ofF l).countP p = (l.countP (fun e => p e.hash) + 15) / 16 := by
  have := ofFrom_count p 0 l (h.imp fun {a b} hab hb => hp (by unfold LessE at hab; omega) hb)
  unfold ofF
  rw [Nat.zero_add] at this
  omega
/-- The range by the fences, told by the range itself. -/
theorem ofF_range {l : List En} (h : l.Pairwise LessE) (x : Nat) : rangeF (ofF l) l.length x =
    if (findE l x).2 = 0 then (0, 0) else (16 * (((findE l x).1 + 15) / 16 - 1), min l.length (16 * (((findE l x).2 + 15) / 16))) := by
  have h1 := ofF_count h (fun f => decide (f < x)) (fun {a b} hab hb => by simp at hb ⊢; omega)
  have h2 := ofF_count h (fun f => decide (f ≤ x)) (fun {a b} hab hb => by simp at hb ⊢; omega)
  unfold rangeF findE
  rw [h1, h2]
  by_cases hz : (l.countP fun e => decide (e.hash ≤ x)) = 0
  · simp [hz]
  · rw [if_neg (by omega), if_neg hz]
theorem findE_two (l : List En) (x : Nat) : (findE l x).1 ≤ (findE l x).2 ∧ (findE l x).2 ≤ l.length :=
  ⟨List.countP_mono_left fun e _ he => by simp at he ⊢; omega, List.countP_le_length⟩
/-- What the law asks of a range. -/
theorem range_holds {l : List En} (h : l.Pairwise LessE) (x : Nat) :
    (rangeF (ofF l) l.length x).2 ≤ l.length ∧ (rangeF (ofF l) l.length x).1 ≤ (rangeF (ofF l) l.length x).2 ∧ (rangeF (ofF l) l.length x).1 % 16 = 0
    ∧ ((findE l x).1 < (findE l x).2 → (rangeF (ofF l) l.length x).1 ≤ (findE l x).1 ∧ (findE l x).2 ≤ (rangeF (ofF l) l.length x).2)
    ∧ (rangeF (ofF l) l.length x).2 - (rangeF (ofF l) l.length x).1 ≤ 16 * (((findE l x).2 - (findE l x).1 + 15) / 16 + 2) := by
  obtain ⟨h1, h2⟩ := findE_two l x
  rw [ofF_range h]
  by_cases hz : (findE l x).2 = 0
  · rw [if_pos hz]
    dsimp only
    omega
  · rw [if_neg hz]
    dsimp only
    omega
theorem ofFrom_mem : ∀ (i : Nat) (l : List En) (x : Nat), x ∈ ofFrom i l → ∃ e ∈ l, e.hash = x
  | _, [], _, h => by simp [ofFrom] at h
  | i, e :: l, x, h => by
    rw [ofFrom] at h
    split at h
    · rcases List.mem_cons.1 h with rfl | h
      · exact ⟨e, List.mem_cons_self, rfl⟩
      · obtain ⟨y, hy, rfl⟩ := ofFrom_mem _ l x h
        exact ⟨y, List.mem_cons_of_mem _ hy, rfl⟩
    · obtain ⟨y, hy, rfl⟩ := ofFrom_mem _ l x h
      exact ⟨y, List.mem_cons_of_mem _ hy, rfl⟩
theorem ofF_fine {l : List En} (h : ∀ e ∈ l, e.Fine) : ∀ x ∈ ofF l, x < 18446744073709551616 := fun x hx => by
  obtain ⟨e, he, rfl⟩ := ofFrom_mem 0 l x hx
  exact (h e he).hash
theorem ofFrom_snoc : ∀ (i : Nat) (l : List En) (e : En), ofFrom i (l ++ [e]) = if (i + l.length) % 16 = 0 then ofFrom i l ++ [e.hash] else ofFrom i l
  | i, [], e => by
    rw [List.nil_append, ofFrom]
    simp [ofFrom]
  | i, x :: l, e => by
    rw [List.cons_append, ofFrom, ofFrom, List.length_cons, ofFrom_snoc (i + 1) l e, show i + 1 + l.length = i + (l.length + 1) by omega]
    by_cases h1 : i % 16 = 0 <;> by_cases h2 : (i + (l.length + 1)) % 16 = 0 <;> simp [h1, h2]
theorem ofF_snoc (l : List En) (e : En) : ofF (l ++ [e]) = if l.length % 16 = 0 then ofF l ++ [e.hash] else ofF l := by
  have := ofFrom_snoc 0 l e
  rwa [Nat.zero_add] at this

/-- Does none stand below the one ahead? -/
def risesF : List Nat → Bool
  | [] => true
  | [_] => true
  | x :: y :: l => decide (x ≤ y) && risesF (y :: l)
/-- The bytes of numbers. -/
def textF : List Nat → List Int
  | [] => []
  | x :: l => digits (x : Int) 8 ++ textF l
theorem textF_length : ∀ l : List Nat, (textF l).length = 8 * l.length
  | [] => rfl
  | x :: l => by
    rw [textF, List.length_append, digits_length, textF_length l, List.length_cons]
    omega
theorem textF_octets : ∀ l : List Nat, Octets (textF l)
  | [] => fun b hb => by simp [textF] at hb
  | x :: l => (digits_octets _ 8).app (textF_octets l)
theorem textF_snoc (l : List Nat) (x : Nat) : textF (l ++ [x]) = textF l ++ digits (x : Int) 8 := by
  induction l with
  | nil => simp [textF]
  | cons y l ih => rw [List.cons_append, textF, ih, textF]; simp only [List.append_assoc]
/-- The next n numbers of bytes. -/
def takeF : Nat → List Int → List Nat
  | 0, _ => []
  | n + 1, xs => (le (xs.take 8)).toNat :: takeF n (xs.drop 8)
theorem takeF_length : ∀ (n : Nat) (xs : List Int), (takeF n xs).length = n
  | 0, _ => rfl
  | n + 1, xs => by rw [takeF, List.length_cons, takeF_length n]
theorem takeF_snoc : ∀ (j : Nat) (xs : List Int), takeF (j + 1) xs = takeF j xs ++ [(le ((xs.drop (8 * j)).take 8)).toNat]
  | 0, xs => by simp [takeF]
  | j + 1, xs => by
    rw [takeF, takeF_snoc j (xs.drop 8)]
    conv => rhs; rw [takeF]
    rw [List.drop_drop, show 8 + 8 * j = 8 * (j + 1) by omega]
    rfl
theorem risesF_snoc : ∀ (l : List Nat) (x : Nat), risesF (l ++ [x]) = (risesF l && decide (l = [] ∨ l.getLastD 0 ≤ x))
  | [], x => by simp [risesF]
  | [y], x => by simp [risesF]
  | y :: z :: l, x => by
    rw [List.cons_append, List.cons_append, risesF, ← List.cons_append, risesF_snoc (z :: l) x, risesF, Bool.and_assoc]
    simp
end Go.Proofs.Ytidhcmamfdipiaa

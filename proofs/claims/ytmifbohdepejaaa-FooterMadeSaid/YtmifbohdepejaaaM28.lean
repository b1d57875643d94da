/-
  Rows1; FtPlWalk; SeaLay; FenAsk; TabLay; TabComp.
-/
import Derived.Shelf.SlSorted.Search
import Derived.Shelf.SlSortCmp.NoneTotal
import Derived.Lib.SlicesCompact
import Derived.Lib.SliceRun
import Derived.Sort.Statements
import Derived.Test.YtmifbohdepejaaaM02
import Derived.Test.YtmifbohdepejaaaM03
import Derived.Test.YtmifbohdepejaaaM05
import Derived.Test.YtmifbohdepejaaaM08
import Derived.Test.YtmifbohdepejaaaM09
import Derived.Test.YtmifbohdepejaaaM10
import Derived.Test.YtmifbohdepejaaaM21
import Derived.Test.YtmifbohdepejaaaM25
namespace Go.Proofs.Ytmifbohdepejaaa
open Go.RowKit

section
variable {α : Type} {v0 : α → Value} {dd : α}

/-- A row that can be read. -/
def OnesAt (v0 : α → Value) (dd : α) (w : World) (p : Option Addr) (l : List α) : Prop :=
  ∀ i, i < l.length → ∃ a : Addr, p = some a ∧ w.cell? (a.add i) = some (v0 (l.getD i dd))
theorem OnesAt.keep {w w' : World} {p : Option Addr} {l : List α} (h : OnesAt v0 dd w p l) {S : Nat → Prop} (hk : Keeps S w w') (hs : ∀ k, k < w.heap.size → ¬ S k) : OnesAt v0 dd w' p l := fun i hi => by
  obtain ⟨a, rfl, hc⟩ := h i hi
  exact ⟨a, rfl, hk.cell hc (hs _ (ltOfCell hc))⟩
theorem OnesAt.nil (w : World) (p : Option Addr) : OnesAt v0 dd w p [] := fun i hi => by simp at hi
/-- The cells of a row that can be read, as an append asks for them. -/
theorem OnesAt.cells {w : World} {ad : Addr} {l : List α} (h : OnesAt v0 dd w (some ad) l) {j : Nat} {u : Value} (hj : (l.map v0)[j]? = some u) : w.cell? (ad.add j) = some u := by
  have hlt : j < l.length := by
    have := (List.getElem?_eq_some_iff.1 hj).1
    rwa [List.length_map] at this
  obtain ⟨a, ha, hc⟩ := h j hlt
  obtain rfl := Option.some.inj ha
  rw [hc, ← hj]
  simp [List.getElem?_eq_getElem hlt]
/-- A row of one's own so far. -/
def OnesSoFar (v0 : α → Value) (t : TypeId) (w0 : World) (l : List α) (v : Value) (wr : World) : Prop := wr.ownsRow w0.heap.size t 1 v l.length (l.map v0) ∧ Below w0.heap.size w0 wr
theorem OnesSoFar.start {t : TypeId} (w0 : World) : OnesSoFar v0 t w0 ([] : List α) (.slice none 0 0) w0 := ⟨World.ownsRow_nil _ _ _ _, Below.refl _ _⟩
theorem OnesSoFar.startAt {t : TypeId} {w0 wr : World} (h : Below w0.heap.size w0 wr) : OnesSoFar v0 t w0 ([] : List α) (.slice none 0 0) wr := ⟨World.ownsRow_nil _ _ _ _, h⟩
theorem OnesSoFar.alloc {t : TypeId} {w0 wr : World} {l : List α} {v : Value} (h : OnesSoFar v0 t w0 l v wr) (o : Obj) : OnesSoFar v0 t w0 l v (wr.alloc o) := ⟨World.ownsRow.alloc h.1 o, h.2.alloc h.2.size o⟩
theorem OnesSoFar.keep {t : TypeId} {w0 wr w' : World} {l : List α} {v : Value} (h : OnesSoFar v0 t w0 l v wr) (hk : Keeps NoBlock wr w') : OnesSoFar v0 t w0 l v w' :=
  ⟨own_keep h.1 hk (fun _ _ h => h), h.2.trans (hk.below h.2.size (fun _ _ h => h))⟩
theorem OnesSoFar.keeps {t : TypeId} {w0 wr : World} {l : List α} {v : Value} (h : OnesSoFar v0 t w0 l v wr) : Keeps NoBlock w0 wr := .ofBelow h.2
theorem OnesSoFar.new {t : TypeId} {w0 wr : World} {l : List α} {v : Value} (h : OnesSoFar v0 t w0 l v wr) : ∃ (q : Option Addr) (m d : Nat), v = .slice q m d ∧ m = l.length ∧ m ≤ d ∧ d ≤ 9223372036854775807 ∧ (q = none → m = 0 ∧ d = 0) ∧ OnesAt v0 dd wr q l ∧ Keeps NoBlock w0 wr := by
  obtain ⟨h', hb⟩ := h
  have h9 := h'
  rcases h' with ⟨_, ⟨rfl, e⟩ | ⟨g, cap, cur, rfl, hg, hh, hc1, hc2, hc3, hc4⟩⟩
  · exact ⟨none, 0, 0, rfl, e.symm, Nat.le_refl _, by decide, fun _ => ⟨rfl, rfl⟩, fun i hi => by rw [e] at hi; omega, Keeps.ofBelow hb⟩
  · refine ⟨_, _, cap, rfl, rfl, hc1, by unfold maxLen at hc2; omega, fun h => by simp at h, fun i hi => ⟨_, rfl, ?_⟩, Keeps.ofBelow hb⟩
    exact h9.cells (g := g) rfl i _ (by simp [List.getElem?_eq_getElem hi])
theorem OnesSoFar.setOther {t : TypeId} {w0 wr : World} {l : List α} {v : Value} (h : OnesSoFar v0 t w0 l v wr) {p : Addr} (hp : v.ownBlock ≠ some p.block) (hb : w0.heap.size ≤ p.block) (x : Value) : OnesSoFar v0 t w0 l v (wr.setCell p x) :=
  ⟨ownsRow_setCell_other h.1 hp _, h.2.setCell hb _⟩
theorem OnesSoFar.apart {t : TypeId} {w0 wr : World} {l : List α} {v : Value} (h : OnesSoFar v0 t w0 l v wr) {k : Nat} (hk : wr.heap.size ≤ k) : v.ownBlock ≠ some k := fun e => by
  have := (h.1.lt k e).2
  omega
theorem OnesSoFar.made {t : TypeId} (w : World) (l : List α) (cs : Array Value) (hcs : cs.toList = l.map v0) (hl : l.length ≤ 1000000000) : OnesSoFar v0 t w l (.slice (some ⟨w.heap.size, 0, none⟩) l.length l.length) (w.alloc (.cells cs t)) := by
  have hs : cs.size = l.length := by rw [← Array.length_toList, hcs, List.length_map]
  exact ⟨⟨by simp, .inr ⟨w.heap.size, l.length, cs, rfl, Nat.le_refl _, heap_alloc_new w _, Nat.le_refl _, by unfold maxLen; omega, by rw [hs, Nat.mul_one], by rw [hcs, Nat.mul_one, ← List.length_map (f := v0), List.take_length]⟩⟩, (Below.refl _ w).alloc (Nat.le_refl _) _⟩

/-- One more is appended to a row of one's own: of what was there the row's block alone turns. -/
theorem wpList_append_oneG {w w0 : World} {ops : Array Oper} {rest : List Oper} {o : Oper} {a : Act} {Q : Exit → Act → World → Prop} (hgd : o.guard = none) (s x : Operand) (t : TypeId)
    (ho : o.op = .call { callee := .builtin .append, args := #[s, x], argTypes := #[t, t] })
    (e : TypeId) (i : TypeInfo) (z : Value) (bytes : Nat) (ht : Try.prog.underlying t = some (.slice e)) (hi : Try.prog.info? e = some i) (hz : i.zero = some z)
    (hsize : i.size = 1) (hby : i.bytes = bytes) (hzs : z.cells.size = 1)
    (v : Value) (l : List α) (hs : a.eval s = v) (hown : OnesSoFar v0 e w0 l v w) (g : Nat) (r : α) (hx : a.eval x = .slice (some ⟨g, 0, none⟩) 1 1)
    (h0 : w.cell? ⟨g, 0, none⟩ = some (v0 r)) (o0 : (v0 r).oneCell' = true)
    (hbytes : (l.length + 1) * bytes ≤ 140737488355328) (hroom : l.length ≤ 140737488355327)
    (h : ∀ v' w', OnesSoFar v0 e w0 (l ++ [r]) v' w' → w.grownBy w' v.ownBlock → wpList Try.prog ops Q rest (a.put o.dst v') w') : wpList Try.prog ops Q (o :: rest) a w := by
  refine wpList_append_own w hgd s x t ho w0.heap.size e i z 1 bytes ht hi hz hsize hby hzs (by decide) v l.length (l.map v0) hs hown.1 ⟨g, 0, none⟩ 1 1 [v0 r] hx rfl ?_ ?_ (by unfold maxLen; omega) hbytes hown.2.size ?_
  · intro j u hj
    rw [Addr.add_lit, Nat.zero_add]
    match j, hj with
    | 0, hj => obtain rfl := Option.some.inj hj; exact h0
    | k + 1, hj => simp at hj
  · intro u hu
    simp at hu
    subst hu
    exact o0
  · intro v' w' h2 h3 _
    refine h v' w' ⟨?_, hown.2.trans ((Below.refl _ w).grown h3 hown.2.size (fun k hk => own_from hown.1 hk))⟩ h3
    rw [List.map_append, List.length_append]
    exact h2
end
end Go.Proofs.Ytmifbohdepejaaa

namespace Go.Proofs.Ytmifbohdepejaaa
open Go.RowKit

theorem infoU32 : (Try.prog.info? 22).map (fun i => (i.zero, i.size, i.bytes)) = some (some (.int .u32 0), 1, 4) := by kernel_rfl
def n32V (x : Nat) : Value := .int .u32 (x : Int)
theorem places_rise {l : List En} (hr : l.Pairwise LessE) (h : Nat) : ((l.filter fun e => decide (e.hash = h)).map En.at_).Pairwise (· < ·) := by
  have h1 : (l.filter fun e => decide (e.hash = h)).Pairwise LessE := hr.filter _
  rw [List.pairwise_map]
  have h2 : (l.filter fun e => decide (e.hash = h)).Pairwise (fun a b => a.hash = h ∧ b.hash = h) := List.pairwise_of_forall_mem_list (fun a ha b hb => by
    have := (List.mem_filter.1 ha).2
    have := (List.mem_filter.1 hb).2
    simp_all)
  refine (h1.and h2).imp ?_
  rintro a b ⟨hl, ha, hb⟩
  unfold LessE at hl
  omega
theorem placesFt_rise (f : Ft) (h : Nat) : (placesFt f h).Pairwise (· < ·) := by
  unfold placesFt
  split
  · rename_i hc
    exact places_rise (risesE_pair.1 (checkFt_ok.1 hc).2.2.1) h
  · exact List.Pairwise.nil
theorem pairwise_getD {l : List Nat} (h : l.Pairwise (· < ·)) {i : Nat} (hi : i + 1 < l.length) : l.getD i 0 < l.getD (i + 1) 0 := by
  have := List.pairwise_iff_getElem.1 h i (i + 1) (by omega) hi (by omega)
  simpa [List.getD_eq_getElem?_getD, List.getElem?_eq_getElem hi, List.getElem?_eq_getElem (show i < l.length by omega)] using this
theorem filterN_take {l : List En} {h j : Nat} (hj : j < l.length) : ((l.take (j + 1)).filter fun e => decide (e.hash = h)).map En.at_ = ((l.take j).filter fun e => decide (e.hash = h)).map En.at_ ++ (if (l.getD j En.none).hash = h then [(l.getD j En.none).at_] else []) := by
  rw [take_getD hj, List.filter_append, List.map_append]
  congr 1
  obtain ⟨r, hr⟩ : ∃ r, r = l.getD j En.none := ⟨_, rfl⟩
  rw [← hr]
  by_cases e : r.hash = h
  · simp [e]
  · simp [e]
theorem add_succ (a : Addr) (m : Nat) : a.add (m + 1) = ⟨a.block, a.off + (m + 1), none⟩ := by
  unfold Addr.add
  rw [if_neg (by omega)]
theorem placesFt_len (f : Ft) (h : Nat) : (placesFt f h).length ≤ f.tab.length := by
  unfold placesFt
  split
  · rw [List.length_map]; exact List.length_filter_le _ _
  · exact Nat.zero_le _

set_option maxHeartbeats 4000000 in
set_option maxRecDepth 10000 in
theorem ftplaces_big (HM : FtMostOk) (u : Nat) (q : Option Addr) (n c hash : Nat) (w : World) (hg : 100 < n) :
    Calls Try.prog 5 #[ftV u q n c, .int .u64 (hash : Int)] w fun e w' => e = .returned (.bool true) ∧ Keeps NoBlock w w' := by
  have HLv := Lib.hid (fun w => lives13_true HM w)
  have HF0 := Lib.hid (Whole.new w 25 (ftCells u q n c))
  have HK0 := Lib.hid ((Keeps.refl NoBlock w).alloc (.cells (ftCells u q n c) 25))
  have hgd : decide ((100 : Int) < (n : Int)) = true := decide_eq_true (by omega)
  have hgd2 : decide (100 < n) = true := decide_eq_true hg
  clear HM
  unfold ftV
  go_enter Try.func5, Try.ntmps5
  go_wp2_with fail
  refine (HLv.out _).mono ?_
  rintro e w1 ⟨rfl, hk⟩
  have HK := Lib.hid (HK0.out.trans hk)
  obtain ⟨f0, f1⟩ := ftcells _ _ _ _ _ _ _ (HF0.out.keep hk (fun h => h))
  clear hk
  go_wp2_with fail
  refine (HLv.out _).mono ?_
  rintro e w2 ⟨rfl, hk⟩
  have HK := Lib.hid (HK.out.trans hk)
  clear hk
  go_wp2_with fail
  go_ret
  exact ⟨rfl, HK.out⟩

set_option maxHeartbeats 16000000 in
set_option maxRecDepth 10000 in
theorem ftplaces_small (HM : FtMostOk) (HC : FtCkOk) (HP : FtPlOk) (u : Nat) (q : Option Addr) (n c : Nat) (l : List En) (hash : Nat) (w : World) (hu : u < 4294967296) (h : InE w q n c l) (hh : hash < 18446744073709551616) (hg : n ≤ 100) :
    Calls Try.prog 5 #[ftV u q n c, .int .u64 (hash : Int)] w fun e w' => e = .returned (.bool true) ∧ Keeps NoBlock w w' := by
  have HLv := Lib.hid (fun w => lives13_true HM w)
  obtain ⟨i0, hi, hz0, hz1, hz2⟩ := info_parts infoU64
  obtain ⟨j0, ki, kz0, kz1, kz2⟩ := info_parts infoU32
  have HF0 := Lib.hid (Whole.new w 25 (ftCells u q n c))
  have HK0 := Lib.hid ((Keeps.refl NoBlock w).alloc (.cells (ftCells u q n c) 25))
  have hgd : decide ((100 : Int) < (n : Int)) = false := decide_eq_false (by omega)
  have hgd2 : decide (100 < n) = false := decide_eq_false (by omega)
  have HIn := Lib.hid (fun w2 (hk : Keeps NoBlock w w2) => (show InE w2 q n c l from ⟨h.len, h.cap, h.room, h.bare, h.fine, EnsAt.keep h.at_ hk⟩))
  have HCk := Lib.hid (fun w h => HC.check u q n c l w hu h (by omega))
  have HPl := Lib.hid (fun x w (hx : x < 18446744073709551616) h => HP.places u q n c l x w hu h (by omega) hx)
  have HLn := Lib.hid h.len
  have HNums : Hid (∀ x ∈ [hash] ++ l.map En.hash, x < 18446744073709551616) := Lib.hid (by
    intro x hx
    rcases List.mem_append.1 hx with hx | hx
    · simp only [List.mem_cons, List.not_mem_nil, or_false] at hx
      rw [hx]
      exact hh
    · obtain ⟨e, he, rfl⟩ := List.mem_map.1 hx
      exact (h.fine e he).hash)
  have HNl : Hid (([hash] ++ l.map En.hash).length = n + 1) := Lib.hid (by rw [List.length_append, List.length_map, ← HLn.out]; simp; omega)
  have hDef : ∀ x, placesFt ⟨u, l⟩ x = if checkFt ⟨u, l⟩ = 0 then (l.filter fun e => decide (e.hash = x)).map En.at_ else [] := fun x => rfl
  have HDef := Lib.hid hDef
  clear hDef
  have HRi := Lib.hid (fun x => placesFt_rise ⟨u, l⟩ x)
  have HPn := Lib.hid (fun x => placesFt_len ⟨u, l⟩ x)
  obtain ⟨Z, hZ⟩ : ∃ Z, Z = checkFt ⟨u, l⟩ := ⟨_, rfl⟩
  rw [← hZ] at HCk HDef
  clear HM HC HP h hh hZ
  unfold ftV at HCk HPl ⊢
  go_enter Try.func5, Try.ntmps5
  go_wp2_with fail
  refine (HLv.out _).mono ?_
  rintro e w3 ⟨rfl, hk⟩
  have HK := Lib.hid (HK0.out.trans hk)
  have HF := Lib.hid (HF0.out.keep hk (fun h => h))
  clear hk HLv HF0 HK0
  have HF3 := Lib.hid (HF.out.alloc (.cells #[.int .u64 (hash : Int)] 46))
  obtain ⟨f0, f1⟩ := ftcells _ _ _ _ _ _ _ HF.out
  obtain ⟨f2, f3⟩ := ftcells _ _ _ _ _ _ _ HF3.out
  have HN3 : Hid (NumsSoFar w3 [hash] (.slice (some ⟨w3.heap.size, 0, none⟩) 1 1) (w3.alloc (.cells #[.int .u64 (hash : Int)] 46))) := Lib.hid ⟨⟨by simp, .inr ⟨w3.heap.size, 1, _, rfl, Nat.le_refl _, heap_alloc_new w3 _, Nat.le_refl _, by decide, by simp, by simp [numV]⟩⟩, (Below.refl _ w3).alloc (Nat.le_refl _) _⟩
  go_wp2_with fail
  clear f0 f1 f2 f3
  go_loopw [5, 29] (fun v i wr => ∃ j : Nat, j ≤ n ∧ i = .int .i64 (j : Int) ∧ Hid (NumsSoFar w3 ([hash] ++ (l.take j).map En.hash) v wr)) (fun _ i _ => n - (intOf i).toNat)
  case atStart => exact ⟨0, Nat.zero_le _, rfl, HN3⟩
  case round =>
    obtain ⟨j, hj, rfl, HS⟩ := hrel
    clear HN3 HF3
    by_cases hlt : j < n
    · have hdj : decide ((j : Int) < (n : Int)) = true := decide_eq_true (by omega)
      have hdj2 : decide (j < n) = true := decide_eq_true hlt
      have hjl : j < l.length := by rw [← HLn.out]; exact hlt
      obtain ⟨a, rfl, c0, c1⟩ := ((HIn.out _ (HK.out.trans (Keeps.ofBelow HS.out.2))).at_).at_ j hjl
      have HT : Hid (([hash] ++ (l.take j).map En.hash) ++ [(l.getD j En.none).hash] = [hash] ++ (l.take (j + 1)).map En.hash) := Lib.hid (by rw [take_getD hjl, List.map_append, List.append_assoc]; rfl)
      have hlen : ([hash] ++ (l.take j).map En.hash).length ≤ 1000000 := by rw [List.length_append, List.length_map, List.length_take]; simp; omega
      obtain ⟨r, hr⟩ : ∃ r, r = l.getD j En.none := ⟨_, rfl⟩
      rw [← hr] at c0 c1 HT
      obtain ⟨K, hK⟩ : ∃ K, K = [hash] ++ (l.take j).map En.hash := ⟨_, rfl⟩
      rw [← hK] at HS HT hlen
      have HLe := Lib.hid hlen
      have HS2 := Lib.hid ((HS.out.alloc (.cells #[.int .u64 (r.hash : Int), .int .u32 (r.at_ : Int)] 49)).alloc (.cells #[.int .u64 (r.hash : Int)] 46))
      have HW : Hid (Whole ((wr.alloc (.cells #[.int .u64 (r.hash : Int), .int .u32 (r.at_ : Int)] 49)).alloc (.cells #[.int .u64 (r.hash : Int)] 46)) (wr.heap.size + 1) 46 #[.int .u64 (r.hash : Int)]) := Lib.hid (Whole.newAt _ _ _ _ (by simp))
      clear hr hjl hlen hK
      go_wp2_with (at_builtin; refine wpList_append_numG rfl _ _ rfl _ K rfl HS2.out (wr.heap.size + 1) r.hash rfl (HW.out.cell 0 rfl) HLe.out ?_)
      intro v' w5 h5 _
      have HS5 : Hid (NumsSoFar w3 ([hash] ++ (l.take (j + 1)).map En.hash) v' w5) := Lib.hid (by rw [← HT.out]; exact h5)
      clear h5
      go_wp2_with fail
      exact ⟨⟨j + 1, by omega, by go_num, HS5⟩, by simp [intOf]; omega⟩
    · have hdj : decide ((j : Int) < (n : Int)) = false := decide_eq_false (by omega)
      have hdj2 : decide (j < n) = false := decide_eq_false hlt
      rw [List.take_of_length_le (by have := HLn.out; omega)] at HS
      have hk4 : Keeps NoBlock w3 wr := Keeps.ofBelow HS.out.2
      have HF4 := Lib.hid (HF.out.keep hk4 (fun h => h))
      have HK4 := Lib.hid (HK.out.trans hk4)
      obtain ⟨q5, m5, d5, rfl, hbare5, hm5, hcell5⟩ := own_nums HS.out.1
      have hm5n : m5 = n + 1 := by rw [hm5, HNl.out]
      obtain ⟨ad, rfl⟩ : ∃ ad, q5 = some ad := by
        cases q5 with
        | none => have := (hbare5 rfl).1; omega
        | some ad => exact ⟨ad, rfl⟩
      have HC5 := Lib.hid (hcell5 ad rfl)
      obtain ⟨N, hN⟩ : ∃ N, N = n + 1 := ⟨_, rfl⟩
      rw [← hN] at hm5n HNl
      subst hm5n
      have hm101 : m5 ≤ 101 := by omega
      obtain ⟨L, hL⟩ : ∃ L, L = [hash] ++ l.map En.hash := ⟨_, rfl⟩
      rw [← hL] at HC5 HNums HNl
      clear hbare5 hm5 hcell5 hL hk4 HS hN hlt HF HK hj
      obtain ⟨w9, rfl⟩ : ∃ x, x = wr := ⟨_, rfl⟩
      go_wp2_with fail
      go_loopw [41] (fun i wq => ∃ j : Nat, j ≤ m5 ∧ i = .int .i64 (j : Int) ∧ Hid (Keeps NoBlock w9 wq)) (fun i _ => m5 - (intOf i).toNat)
      case atStart => exact ⟨0, Nat.zero_le _, rfl, Lib.hid (Keeps.refl _ _)⟩
      case round =>
        obtain ⟨j, hj, rfl, HKr⟩ := hrel
        by_cases hlt : j < m5
        rotate_left
        · have hdj : decide (j < m5) = false := decide_eq_false hlt
          have hdj2 : decide ((j : Int) < (m5 : Int)) = false := decide_eq_false (by omega)
          go_wp2_with fail
          go_ret
          exact ⟨by first | rfl | simp, HK4.out.trans HKr.out⟩
        have hdj : decide (j < m5) = true := decide_eq_true hlt
        have hdj2 : decide ((j : Int) < (m5 : Int)) = true := decide_eq_true (by omega)
        have hjl : j < L.length := by rw [HNl.out]; exact hlt
        have hx := HNums.out _ (by simp [hjl] : L.getD j 0 ∈ L)
        have hcell := HKr.out.cell (HC5.out j (numV (L.getD j 0)) (by simp [List.getElem?_map, List.getElem?_eq_getElem hjl])) (fun h => h)
        obtain ⟨x, hxd⟩ : ∃ x, x = L.getD j 0 := ⟨_, rfl⟩
        rw [← hxd] at hx hcell
        unfold numV at hcell
        have HPx := Lib.hid (fun w h => HPl.out x w hx h)
        have HDx := Lib.hid (HDef.out x)
        have HRx := Lib.hid (fun i (h : i + 1 < (placesFt ⟨u, l⟩ x).length) => pairwise_getD (HRi.out x) h)
        have HLx := Lib.hid (HPn.out x)
        obtain ⟨P, hP⟩ : ∃ P, P = placesFt ⟨u, l⟩ x := ⟨_, rfl⟩
        rw [← hP] at HPx HDx HRx HLx
        have HF := Lib.hid (HF4.out.keep HKr.out (fun h => h))
        have HK := Lib.hid (HK4.out.trans HKr.out)
        obtain ⟨f0, f1⟩ := ftcells _ _ _ _ _ _ _ HF.out
        obtain ⟨w8, rfl⟩ : ∃ x, x = wr := ⟨_, rfl⟩
        have HJ := Lib.hid (And.intro hj hlt)
        clear hxd hjl hP
        go_wp2_with fail
        refine (HPx.out _ (HIn.out _ HK.out)).mono ?_
        rintro e w6 ⟨v, rfl, qg, mg, dg, rfl, hmg, hmgd, hdg, hqg, hatg, hk⟩
        have HKr := Lib.hid (HKr.out.trans hk)
        have HK := Lib.hid (HK.out.trans hk)
        have HF := Lib.hid (HF.out.keep hk (fun h => h))
        have HG := Lib.hid hatg
        have HGl := Lib.hid hmg
        have HGq := Lib.hid (And.intro hmgd (And.intro hdg hqg))
        clear f0 f1 hk hatg hmg hqg hcell hj hlt
        obtain ⟨f0, f1⟩ := ftcells _ _ _ _ _ _ _ HF.out
        go_wp2_with fail
        refine (HCk.out _ (HIn.out _ HK.out)).mono ?_
        rintro e w7 ⟨rfl, hk⟩
        have HKr := Lib.hid (HKr.out.trans hk)
        have HK := Lib.hid (HK.out.trans hk)
        have HF := Lib.hid (HF.out.keep hk (fun h => h))
        have HG := Lib.hid (Row32.keep HG.out hk (fun _ _ h => h))
        clear f0 f1 hk
        obtain ⟨f0, f1⟩ := ftcells _ _ _ _ _ _ _ HF.out
        go_upto_if 50 with (fail)
        go_cut [11] (fun s wx => Hid (OnesSoFar n32V 22 w7 P s wx))
        case first =>
          by_cases h0 : Z = 0
          · have hz0 : (Z == 0) = true := by rw [h0]; rfl
            have HDz := Lib.hid (HDx.out.trans (if_pos h0))
            clear h0
            go_wp2_with fail
            clear ‹(Z == 0) = true›
            try clear ‹(Z == 0) = true›
            go_loopw [11, 54] (fun v i wq => ∃ k : Nat, k ≤ n ∧ i = .int .i64 (k : Int) ∧ Hid (OnesSoFar n32V 22 w7 (((l.take k).filter fun e => decide (e.hash = x)).map En.at_) v wq)) (fun _ i _ => n - (intOf i).toNat)
            case atStart => exact ⟨0, Nat.zero_le _, rfl, Lib.hid (OnesSoFar.start w7)⟩
            case round =>
              obtain ⟨k, hk, rfl, HS⟩ := hrel
              by_cases hkn : k < n
              · have hdk : decide ((k : Int) < (n : Int)) = true := decide_eq_true (by omega)
                have hdk2 : decide (k < n) = true := decide_eq_true hkn
                have hkl : k < l.length := by rw [← HLn.out]; exact hkn
                obtain ⟨a, rfl, c0, c1⟩ := ((HIn.out _ (HK.out.trans HS.out.keeps)).at_).at_ k hkl
                have hT := filterN_take (h := x) hkl
                have hlen : ((((l.take k).filter fun e => decide (e.hash = x)).map En.at_)).length ≤ 1000000 := by rw [List.length_map]; have := List.length_filter_le (fun e : En => decide (e.hash = x)) (l.take k); rw [List.length_take] at this; omega
                obtain ⟨r, hr⟩ : ∃ r, r = l.getD k En.none := ⟨_, rfl⟩
                rw [← hr] at c0 c1 hT
                obtain ⟨T, hTT⟩ : ∃ T, T = ((l.take k).filter fun e => decide (e.hash = x)).map En.at_ := ⟨_, rfl⟩
                rw [← hTT] at HS hT hlen
                have HLe := Lib.hid hlen
                by_cases hxr : r.hash = x
                · have hxe : ((r.hash : Int) == (x : Int)) = true := by rw [hxr]; simp
                  have HT := Lib.hid (hT.trans (by rw [if_pos hxr]))
                  have HS2 := Lib.hid ((HS.out.alloc (.cells #[.int .u64 (r.hash : Int), .int .u32 (r.at_ : Int)] 49)).alloc (.cells #[.int .u32 (r.at_ : Int)] 22))
                  have HW : Hid (Whole ((wr.alloc (.cells #[.int .u64 (r.hash : Int), .int .u32 (r.at_ : Int)] 49)).alloc (.cells #[.int .u32 (r.at_ : Int)] 22)) (wr.heap.size + 1) 22 #[.int .u32 (r.at_ : Int)]) := Lib.hid (Whole.newAt _ _ _ _ (by simp))
                  clear hr hkl hlen hTT hT hxr
                  go_wp2_with (at_builtin; refine wpList_append_oneG (v0 := n32V) rfl _ _ 50 rfl 22 j0 (.int .u32 0) 4 Try.underlying50 ki kz0 kz1 kz2 rfl _ T rfl HS2.out (wr.heap.size + 1) r.at_ rfl (HW.out.cell 0 rfl) rfl (by have := HLe.out; omega) (by have := HLe.out; omega) ?_)
                  intro v' w5 h5 _
                  have HS5 : Hid (OnesSoFar n32V 22 w7 (((l.take (k + 1)).filter fun e => decide (e.hash = x)).map En.at_) v' w5) := Lib.hid (by rw [HT.out]; exact h5)
                  clear h5
                  go_wp2_with fail
                  exact ⟨⟨k + 1, by omega, by go_num, HS5⟩, by simp [intOf]; omega⟩
                · have hxe : ((r.hash : Int) == (x : Int)) = false := beq_eq_false_iff_ne.2 (by omega)
                  have hT2 := hT
                  rw [if_neg hxr, List.append_nil] at hT2
                  have HS5 : Hid (OnesSoFar n32V 22 w7 (((l.take (k + 1)).filter fun e => decide (e.hash = x)).map En.at_) _ _) := Lib.hid (by rw [hT2]; exact HS.out.alloc (.cells #[.int .u64 (r.hash : Int), .int .u32 (r.at_ : Int)] 49))
                  clear hr hkl hlen hTT hT hT2 hxr
                  go_wp2_with fail
                  go_roundw
                  case rel => exact ⟨k + 1, by omega, by go_num, HS5⟩
                  case measure => simp [intOf]; omega
              · have hdk : decide ((k : Int) < (n : Int)) = false := decide_eq_false (by omega)
                have hdk2 : decide (k < n) = false := decide_eq_false hkn
                rw [List.take_of_length_le (by have := HLn.out; omega), ← HDz.out] at HS
                go_wp2_with fail
                go_meet
                case rel => exact HS
          · have hz0 : (Z == 0) = false := beq_eq_false_iff_ne.2 h0
            have HDz := Lib.hid (HDx.out.trans (if_neg h0))
            clear h0
            go_wp2_with fail
            go_meet
            case rel => exact Lib.hid (by rw [HDz.out]; exact OnesSoFar.start w7)
        case rest =>
          obtain ⟨qw, mw, dw, rfl, hmw, hmwd, hdw, hqw, hatw, hkw⟩ := hcut.out.new (dd := 0)
          have hmm : mg = mw := by rw [HGl.out, hmw]
          subst hmm
          have hmg9 : mg ≤ 100 := by have h3 : P.length ≤ l.length := HLx.out; have := HGl.out; have := HLn.out; omega
          have HKr := Lib.hid (HKr.out.trans hkw)
          have HG := Lib.hid (Row32.keep HG.out hkw (fun _ _ h => h))
          have HV := Lib.hid hatw
          have hne : ((mg : Int) != (mg : Int)) = false := by simp
          obtain ⟨w10, rfl⟩ : ∃ x, x = wc := ⟨_, rfl⟩
          clear hcut hmw hmwd hdw hqw hatw hkw HF HK f0 f1
          go_wp2_with fail
          go_loopw [75] (fun i wq => ∃ k : Nat, k ≤ mg ∧ i = .int .i64 (k : Int) ∧ Hid (Keeps NoBlock w10 wq)) (fun i _ => mg - (intOf i).toNat)
          case atStart => exact ⟨0, Nat.zero_le _, rfl, Lib.hid (Keeps.refl _ _)⟩
          case round =>
            obtain ⟨k, hk, rfl, HKs⟩ := hrel
            by_cases hkn : k < mg
            · have hdk : decide ((k : Int) < (mg : Int)) = true := decide_eq_true (by omega)
              have hdk2 : decide (k < mg) = true := decide_eq_true hkn
              have hkl : k < P.length := by rw [← HGl.out]; exact hkn
              obtain ⟨a, rfl, a0⟩ := Row32.keep HG.out HKs.out (fun _ _ h => h) k hkl
              obtain ⟨b, rfl, b0⟩ := OnesAt.keep HV.out HKs.out (fun _ _ h => h) k hkl
              unfold n32V at b0
              by_cases hk0 : k = 0
              · have g0 : decide ((0 : Int) < (k : Int)) = false := decide_eq_false (by omega)
                have g1 : decide (0 < k) = false := decide_eq_false (by omega)
                obtain ⟨r, hr⟩ : ∃ r, r = P.getD k 0 := ⟨_, rfl⟩
                rw [← hr] at a0 b0
                have hrr : ((r : Int) != (r : Int)) = false := by simp
                clear hr hkl hk0
                go_wp2_with fail
                go_region
                go_wp2_with fail
                go_roundw
                case rel => exact ⟨k + 1, by omega, by go_num, Lib.hid (by first | exact HKs.out | exact HKs.out.drew | exact HKs.out.drewN _)⟩
                case measure => simp [intOf]; omega
              · obtain ⟨m, rfl⟩ : ∃ m, k = m + 1 := ⟨k - 1, by omega⟩
                obtain ⟨a', ha', d0⟩ := Row32.keep HG.out HKs.out (fun _ _ h => h) m (by omega)
                obtain rfl := Option.some.inj ha'
                have hRm := HRx.out m hkl
                obtain ⟨r, hr⟩ : ∃ r, r = P.getD (m + 1) 0 := ⟨_, rfl⟩
                rw [← hr] at a0 b0 hRm
                obtain ⟨s, hs⟩ : ∃ s, s = P.getD m 0 := ⟨_, rfl⟩
                rw [← hs] at d0 hRm
                have hrr : ((r : Int) != (r : Int)) = false := by simp
                have g0 : decide ((0 : Int) < ((m + 1 : Nat) : Int)) = true := decide_eq_true (by omega)
                have g1 : decide ((0 : Int) < (m : Int) + 1) = true := decide_eq_true (by omega)
                have g2 : decide ((r : Int) ≤ (s : Int)) = false := decide_eq_false (by omega)
                have g3 : decide (r ≤ s) = false := decide_eq_false (by omega)
                have hmn : (m : Int) < (mg : Int) := by omega
                have hmn2 : m < mg := by omega
                have hmn3 : (m : Int) + 1 < (mg : Int) := by omega
                have hdk3 : decide ((m : Int) + 1 < (mg : Int)) = true := decide_eq_true hmn3
                have hm3 : (0 : Int) ≤ (m : Int) + 1 := by omega
                have hm4 : ((m : Int) + 1).toNat = m + 1 := by omega
                have w1 : IntKind.i64.wrap (m : Int) = (m : Int) := by rw [IntKind.wrap_i64]; omega
                have hm0 : (0 : Int) ≤ (m : Int) := by omega
                rw [add_succ] at a0 b0
                clear hr hs hkl hk0 ha' hRm
                go_wp2_with fail
                go_region
                go_wp2_with fail
                go_roundw
                case rel => exact ⟨m + 1 + 1, by omega, by go_num, Lib.hid (by first | exact HKs.out | exact HKs.out.drew | exact HKs.out.drewN _)⟩
                case measure => simp [intOf]; omega
            · have hdk : decide ((k : Int) < (mg : Int)) = false := decide_eq_false (by omega)
              have hdk2 : decide (k < mg) = false := decide_eq_false hkn
              have hJ := HJ.out
              go_wp2_with fail
              exact ⟨⟨j + 1, by omega, by go_num, Lib.hid (HKr.out.trans HKs.out)⟩, by simp [intOf]; omega⟩

theorem ftplaces_walk (HM : FtMostOk) (HC : FtCkOk) (HP : FtPlOk) (u : Nat) (q : Option Addr) (n c : Nat) (l : List En) (hash : Nat) (w : World) (hu : u < 4294967296) (h : InE w q n c l) (hh : hash < 18446744073709551616) :
    Calls Try.prog 5 #[ftV u q n c, .int .u64 (hash : Int)] w fun e w' => e = .returned (.bool true) ∧ Keeps NoBlock w w' := by
  by_cases hg : n ≤ 100
  · exact ftplaces_small HM HC HP u q n c l hash w hu h hh hg
  · exact ftplaces_big HM u q n c hash w (by omega)
end Go.Proofs.Ytmifbohdepejaaa

namespace Go.Proofs.Ytmifbohdepejaaa
open Go.Shelf Go.RowKit Go.Lib Go.Sort

def searchLay_ren : Go.Shelf.Ren := ⟨fun | 16 => 81 | n => n, fun | 3 => 3 | 35 => 124 | 4 => 4 | 38 => 129 | n => n, fun | n => n⟩
theorem searchLay : SlLaysO.n16 Try.prog searchLay_ren := {
  mixed := by kernel_rfl
  f16 := Try.func81.trans (congrArg some (by kernel_rfl))
  t3 := Try.underlying3
  a3 := Try.isAgg3
  z3 := Try.sizeOf3
  v3 := Try.zeroValue3
  t4 := Try.underlying4
  a4 := Try.isAgg4
  z4 := Try.sizeOf4
  v4 := Try.zeroValue4
  t35 := Try.underlying124
  a35 := Try.isAgg124
  z35 := Try.sizeOf124
  v35 := Try.zeroValue124
  t38 := Try.underlying129
  a38 := Try.isAgg129
  z38 := Try.sizeOf129
  v38 := Try.zeroValue129 }
end Go.Proofs.Ytmifbohdepejaaa

namespace Go.Proofs.Ytmifbohdepejaaa
open Go.RowKit Go.Sort Go.Shelf Go.Lib

set_option maxHeartbeats 2000000 in
set_option maxRecDepth 10000 in
theorem rask_from (p : Option Addr) (m c : Nat) (fs : List Nat) (hm : m = fs.length) (bl bh hash i : Nat) (hi : i < m) (_hm9 : m ≤ 1000000) (W : World)
    (hl : W.cell? ⟨bl, 0, none⟩ = some (.slice p m c)) (hb : W.cell? ⟨bh, 0, none⟩ = some (.int .u64 (hash : Int))) (hat : RowN W p fs) :
    Calls Try.prog 82 #[.int .i64 (i : Int), .pointer (some ⟨bl, 0, none⟩), .pointer (some ⟨bh, 0, none⟩)] W fun e w' => e = .returned (.bool (decide (hash ≤ fs.getD i 0))) ∧ ∃ q os, w' = grow (W.drewN q) os := by
  have mixed : Try.prog.follows .mixedOrders = true := by kernel_rfl
  obtain ⟨a, rfl, c0⟩ := hat i (by omega)
  obtain ⟨r, hr⟩ : ∃ r, r = fs.getD i 0 := ⟨_, rfl⟩
  rw [← hr] at c0 ⊢
  have hin : (i : Int) < (m : Int) := by omega
  have L0 : ∀ n os, (grow (W.drewN n) os).cell? _ = _ := fun n os => cellG hl n os
  have B0 : ∀ n os, (grow (W.drewN n) os).cell? _ = _ := fun n os => cellG hb n os
  have C0 : ∀ n os, (grow (W.drewN n) os).cell? _ = _ := fun n os => cellG c0 n os
  clear hat c0 hl hb hr hm
  go_enter Try.func82, Try.ntmps82
  go_wp2_with fail
  go_quiet_grown (fail)
  go_wp2_with fail
  go_ret
  exact ⟨rfl, nq, osq, rfl⟩
set_option maxHeartbeats 2000000 in
set_option maxRecDepth 10000 in
theorem rask_to (p : Option Addr) (m c : Nat) (fs : List Nat) (hm : m = fs.length) (bl bh hash i : Nat) (hi : i < m) (_hm9 : m ≤ 1000000) (W : World)
    (hl : W.cell? ⟨bl, 0, none⟩ = some (.slice p m c)) (hb : W.cell? ⟨bh, 0, none⟩ = some (.int .u64 (hash : Int))) (hat : RowN W p fs) :
    Calls Try.prog 83 #[.int .i64 (i : Int), .pointer (some ⟨bl, 0, none⟩), .pointer (some ⟨bh, 0, none⟩)] W fun e w' => e = .returned (.bool (decide (hash < fs.getD i 0))) ∧ ∃ q os, w' = grow (W.drewN q) os := by
  have mixed : Try.prog.follows .mixedOrders = true := by kernel_rfl
  obtain ⟨a, rfl, c0⟩ := hat i (by omega)
  obtain ⟨r, hr⟩ : ∃ r, r = fs.getD i 0 := ⟨_, rfl⟩
  rw [← hr] at c0 ⊢
  have hin : (i : Int) < (m : Int) := by omega
  have L0 : ∀ n os, (grow (W.drewN n) os).cell? _ = _ := fun n os => cellG hl n os
  have B0 : ∀ n os, (grow (W.drewN n) os).cell? _ = _ := fun n os => cellG hb n os
  have C0 : ∀ n os, (grow (W.drewN n) os).cell? _ = _ := fun n os => cellG c0 n os
  clear hat c0 hl hb hr hm
  go_enter Try.func83, Try.ntmps83
  go_wp2_with fail
  go_quiet_grown (fail)
  go_wp2_with fail
  go_ret
  exact ⟨rfl, nq, osq, rfl⟩
theorem ofFrom_sub : ∀ (i : Nat) (l : List En), List.Sublist (ofFrom i l) (l.map En.hash)
  | _, [] => List.Sublist.refl _
  | i, e :: l => by
    rw [ofFrom, List.map_cons]
    split
    · exact (ofFrom_sub (i + 1) l).cons_cons _
    · exact (ofFrom_sub (i + 1) l).cons _
theorem ofF_rises12 {l : List En} (h : risesE l = true) {i j : Nat} (hij : i ≤ j) (hj : j < (ofF l).length) : (ofF l).getD i 0 ≤ (ofF l).getD j 0 := by
  by_cases e : i = j
  · rw [e]; exact Nat.le_refl _
  · have hp : (l.map En.hash).Pairwise (· ≤ ·) := List.pairwise_map.2 ((risesE_pair.1 h).imp fun {a b} hab => by unfold LessE at hab; omega)
    have hq := List.Pairwise.sublist (ofFrom_sub 0 l) hp
    have := List.pairwise_iff_getElem.1 hq i j (show i < (ofF l).length by omega) hj (by omega)
    have e1 : (ofF l).getD i 0 = (ofF l)[i] := by simp [show i < (ofF l).length by omega]
    have e2 : (ofF l).getD j 0 = (ofF l)[j] := by simp [hj]
    rw [e1, e2]
    exact this
theorem count_nums (l : List Nat) (f : Nat → Bool) : (List.range l.length).countP (fun i => f (l.getD i 0)) = l.countP f := by
  have h := Lib.countP_range l.toArray f
  have e : ∀ i, i < l.length → l.toArray[i]! = l.getD i 0 := fun i hi => by
    rw [getElem!_pos l.toArray i (by simpa using hi)]
    simp [hi]
  have h2 : (List.range l.length).countP (fun i => f (l.getD i 0)) = (List.range l.toArray.size).countP (fun i => f l.toArray[i]!) := by
    rw [show l.toArray.size = l.length by simp]
    apply List.countP_congr
    intro i hi
    rw [e i (by simpa using hi)]
  rw [h2, h]

/-- A question that is asked of a fence, by boxes that hold the fences and a Hash. -/
def RaskAt (G hash : Nat) (Pq : Nat → Bool) : Prop :=
  (∀ args w, (callFunc G args).run Try.prog w = .ok (.enter G args) w) ∧
  ∀ (p : Option Addr) (m c : Nat) (fs : List Nat) (_ : m = fs.length) (bl bh i : Nat) (_ : i < m) (_ : m ≤ 1000000) (W : World), W.cell? ⟨bl, 0, none⟩ = some (.slice p m c) → W.cell? ⟨bh, 0, none⟩ = some (.int .u64 (hash : Int)) → RowN W p fs →
    Calls Try.prog G #[.int .i64 (i : Int), .pointer (some ⟨bl, 0, none⟩), .pointer (some ⟨bh, 0, none⟩)] W fun e w' => e = .returned (.bool (Pq (fs.getD i 0))) ∧ ∃ q os, w' = grow (W.drewN q) os
theorem raskFrom (hash : Nat) : RaskAt 82 hash (fun x => decide (hash ≤ x)) := ⟨enters_of Try.func82 (by kernel_rfl) rfl, fun p m c fs hm bl bh i hi hm9 W h1 h2 h3 => rask_from p m c fs hm bl bh hash i hi hm9 W h1 h2 h3⟩
theorem raskTo (hash : Nat) : RaskAt 83 hash (fun x => decide (hash < x)) := ⟨enters_of Try.func83 (by kernel_rfl) rfl, fun p m c fs hm bl bh i hi hm9 W h1 h2 h3 => rask_to p m c fs hm bl bh hash i hi hm9 W h1 h2 h3⟩

/-- The place that is searched for. -/
theorem search_nums (G hash : Nat) (Pq : Nat → Bool) (hA : RaskAt G hash Pq) (hmono : ∀ x y, x ≤ y → Pq x = true → Pq y = true) (p : Option Addr) (m c : Nat) (l : List En) (hm : m = (ofF l).length) (hr : risesE l = true) (bl bh : Nat) (hm9 : m ≤ 1000000) (V : World)
    (hl : V.cell? ⟨bl, 0, none⟩ = some (.slice p m c)) (hb : V.cell? ⟨bh, 0, none⟩ = some (.int .u64 (hash : Int))) (hat : RowN V p (ofF l)) :
    Calls Try.prog 81 #[.int .i64 (m : Int), .func (.func G) #[] #[.pointer (some ⟨bl, 0, none⟩), .pointer (some ⟨bh, 0, none⟩)]] V fun e w' => e = .returned (.int .i64 (((ofF l).countP fun x => !Pq x : Nat) : Int)) ∧ Grown V w' := by
  have hcon := Any.sort_Search searchLay G #[.pointer (some ⟨bl, 0, none⟩), .pointer (some ⟨bh, 0, none⟩)] m (fun i => Pq ((ofF l).getD i 0)) V hA.1 (by omega)
    (fun k os i hi => hA.2 p m c (ofF l) hm bl bh i hi hm9 _ (cellG hl k os) (cellG hb k os) (RowN.keep hat (show Grown V _ from ⟨k, os, rfl⟩).keeps (fun _ _ h => h)))
    (fun i j hij hj h => hmono _ _ (ofF_rises12 hr hij (by omega)) h)
  change Calls Try.prog 81 _ _ _ at hcon
  have hc2 := count_nums (ofF l) (fun x => !Pq x)
  rw [← hm] at hc2
  rw [hc2] at hcon
  refine hcon.mono ?_
  rintro e w' ⟨rfl, q, os, rfl⟩
  exact ⟨rfl, q, os, rfl⟩

set_option maxHeartbeats 2000000 in
set_option maxRecDepth 10000 in
theorem frange_own (p : Option Addr) (m c : Nat) (l : List En) (n h : Nat) (w : World) (hm : m = (ofF l).length) (hat : RowN w p (ofF l)) (hn : n = l.length) (hn9 : n ≤ 100000) (hr : risesE l = true) :
    Calls Try.prog 48 #[.slice p m c, .int .i64 (n : Int), .int .u64 (h : Int)] w fun e w' => e = .returned (.tuple #[.int .i64 ((rangeF (ofF l) n h).1 : Int), .int .i64 ((rangeF (ofF l) n h).2 : Int)]) ∧ Keeps NoBlock w w' := by
  have hmn : m ≤ 100000 := by rw [hm, ofF_length]; omega
  obtain ⟨V, hV⟩ : ∃ V, V = (w.alloc (.cells #[.slice p m c] 47)).alloc (.cells #[.int .u64 (h : Int)] 46) := ⟨_, rfl⟩
  have HK : Hid (Keeps NoBlock w V) := Lib.hid (by rw [hV]; exact ((Keeps.refl _ w).alloc _).alloc _)
  have hl : V.cell? ⟨w.heap.size, 0, none⟩ = some (.slice p m c) := by rw [hV]; exact Whole.cell ((Whole.new w _ _).alloc _) 0 rfl
  have hb : V.cell? ⟨w.heap.size + 1, 0, none⟩ = some (.int .u64 (h : Int)) := by rw [hV]; exact Whole.cell (Whole.newAt (w.alloc (.cells #[.slice p m c] 47)) _ _ (w.heap.size + 1) (by simp)) 0 rfl
  have hE := RowN.keep hat HK.out (fun _ _ h => h)
  have e1 : ((ofF l).countP fun f => decide (f < h)) = (ofF l).countP (fun x => !decide (h ≤ x)) := by
    apply List.countP_congr
    intro x _
    simp
  have e2 : ((ofF l).countP fun f => decide (f ≤ h)) = (ofF l).countP (fun x => !decide (h < x)) := by
    apply List.countP_congr
    intro x _
    simp
  have hR0 : rangeF (ofF l) n h = if ((ofF l).countP fun x => !decide (h < x)) = 0 then (0, 0) else (16 * (((ofF l).countP fun x => !decide (h ≤ x)) - 1), min n (16 * ((ofF l).countP fun x => !decide (h < x)))) := by
    rw [← e1, ← e2]
    rfl
  have hA9 : ((ofF l).countP fun x => !decide (h ≤ x)) ≤ (ofF l).length := List.countP_le_length
  have hB9 : ((ofF l).countP fun x => !decide (h < x)) ≤ (ofF l).length := List.countP_le_length
  have HF := Lib.hid (search_nums 82 h (fun x => decide (h ≤ x)) (raskFrom h) (fun x y hxy hx => decide_eq_true (by have := of_decide_eq_true hx; omega)) p m c l hm hr w.heap.size (w.heap.size + 1) (by omega) V hl hb hE)
  have HT := Lib.hid (fun W hk => search_nums 83 h (fun x => decide (h < x)) (raskTo h) (fun x y hxy hx => decide_eq_true (by have := of_decide_eq_true hx; omega)) p m c l hm hr w.heap.size (w.heap.size + 1) (by omega) W (Keeps.cell (S := NoBlock) hk hl (fun h => h)) (Keeps.cell (S := NoBlock) hk hb (fun h => h)) (RowN.keep hE hk (fun _ _ h => h)))
  obtain ⟨R, hR⟩ : ∃ R, R = rangeF (ofF l) n h := ⟨_, rfl⟩
  rw [← hR] at hR0 ⊢
  obtain ⟨A, hA⟩ : ∃ A, A = (ofF l).countP (fun x => !decide (h ≤ x)) := ⟨_, rfl⟩
  obtain ⟨B, hB⟩ : ∃ B, B = (ofF l).countP (fun x => !decide (h < x)) := ⟨_, rfl⟩
  rw [← hA] at HF hA9 hR0
  rw [← hB] at HT hB9 hR0
  have hA10 : A ≤ 100000 := by omega
  have hB10 : B ≤ 100000 := by omega
  have HR := Lib.hid hR0
  have HL1 := Lib.hid hl
  have HLV := Lib.hid (fun W (hk : Keeps NoBlock V W) => Keeps.cell hk hl (fun h => h))
  clear hR0 hA hB hR e1 e2 hA9 hB9 hE hat hr hm hl hb hn
  go_enter Try.func48, Try.ntmps48
  rw [hV] at HF HK HT HLV HL1
  have l1 := HL1.out
  clear hV
  go_wp2_with fail
  refine HF.out.mono ?_
  rintro e w1 ⟨rfl, hg⟩
  have HK1 := Lib.hid (HK.out.trans hg.keeps)
  have HT1 := Lib.hid (HT.out _ hg.keeps)
  have l2 := HLV.out _ hg.keeps
  clear hg HF HK HT l1 HL1 HLV
  go_wp2_with fail
  refine HT1.out.mono ?_
  rintro e w2 ⟨rfl, hg⟩
  have HK2 := Lib.hid (HK1.out.trans hg.keeps)
  clear hg HT1 HK1 l2
  by_cases hz : B = 0
  · subst hz
    rw [if_pos rfl] at HR
    go_wp2_with fail
    refine bodyPost_ret (results_tmp2 rfl _ _ _) rfl ?_
    rw [HR.out]
    exact ⟨rfl, HK2.out⟩
  · have hz1 : ((B : Int) == 0) = false := by rw [beq_eq_false_iff_ne]; omega
    have hz2 : (B == 0) = false := by rw [beq_eq_false_iff_ne]; exact hz
    have hz3 : decide (B = 0) = false := decide_eq_false hz
    rw [if_neg hz] at HR
    obtain ⟨C, hC⟩ : ∃ C, C = A - 1 := ⟨_, rfl⟩
    have hmax : max ((A : Int) - 1) 0 = (C : Int) := by omega
    have hmin : 16 * B ≤ n ∨ n < 16 * B := by omega
    rcases hmin with hmin | hmin
    · have hm1 : (16 : Int) * (B : Int) ≤ (n : Int) := by omega
      go_wp2_with fail
      all_goals (
        refine bodyPost_ret (results_tmp2 rfl _ _ _) rfl ?_
        rw [HR.out]
        exact ⟨two_ret (by dsimp only; omega) (by dsimp only; omega), HK2.out⟩)
    · have hm1 : ¬ (16 : Int) * (B : Int) ≤ (n : Int) := by omega
      go_wp2_with fail
      all_goals (
        refine bodyPost_ret (results_tmp2 rfl _ _ _) rfl ?_
        rw [HR.out]
        exact ⟨two_ret (by dsimp only; omega) (by dsimp only; omega), HK2.out⟩)
end Go.Proofs.Ytmifbohdepejaaa

namespace Go.Proofs.Ytmifbohdepejaaa
open Go.Shelf Go.RowKit Go.Lib Go.Sort

def sortLay_ren : Go.Shelf.Ren := ⟨fun | 6 => 51 | 15 => 89 | 14 => 88 | 28 => 121 | 29 => 122 | 20 => 113 | 21 => 114 | 22 => 115 | 23 => 116 | 24 => 117 | 25 => 118 | 26 => 119 | 27 => 120 | 46 => 136 | 47 => 137 | 48 => 138 | 49 => 139 | 50 => 140 | 57 => 141 | n => n, fun | 22 => 23 | 24 => 49 | 25 => 96 | 3 => 3 | 39 => 129 | 0 => 0 | 53 => 22 | 55 => 46 | 4 => 4 | 46 => 156 | 45 => 155 | 50 => 160 | 5 => 5 | 9 => 9 | 66 => 174 | 70 => 177 | 76 => 179 | 77 => 92 | n => n, fun | n => n⟩
theorem sortLay : SlLaysF0.n6 Try.prog sortLay_ren := {
  mixed := by kernel_rfl
  f6 := ⟨Try.f51.name, by decide, Try.func51.trans (congrArg some (by kernel_rfl))⟩
  f14 := ⟨Try.f88.name, by decide, Try.func88.trans (congrArg some (by kernel_rfl))⟩
  f15 := Try.func89.trans (congrArg some (by kernel_rfl))
  f20 := ⟨Try.f113.name, by decide, Try.func113.trans (congrArg some (by kernel_rfl))⟩
  f21 := ⟨Try.f114.name, by decide, Try.func114.trans (congrArg some (by kernel_rfl))⟩
  f22 := ⟨Try.f115.name, by decide, Try.func115.trans (congrArg some (by kernel_rfl))⟩
  f23 := ⟨Try.f116.name, by decide, Try.func116.trans (congrArg some (by kernel_rfl))⟩
  f24 := ⟨Try.f117.name, by decide, Try.func117.trans (congrArg some (by kernel_rfl))⟩
  f25 := ⟨Try.f118.name, by decide, Try.func118.trans (congrArg some (by kernel_rfl))⟩
  f26 := ⟨Try.f119.name, by decide, Try.func119.trans (congrArg some (by kernel_rfl))⟩
  f27 := ⟨Try.f120.name, by decide, Try.func120.trans (congrArg some (by kernel_rfl))⟩
  f28 := Try.func121.trans (congrArg some (by kernel_rfl))
  f29 := Try.func122.trans (congrArg some (by kernel_rfl))
  f46 := ⟨Try.f136.name, by decide, Try.func136.trans (congrArg some (by kernel_rfl))⟩
  f47 := Try.func137.trans (congrArg some (by kernel_rfl))
  f48 := Try.func138.trans (congrArg some (by kernel_rfl))
  f49 := ⟨Try.f139.name, by decide, Try.func139.trans (congrArg some (by kernel_rfl))⟩
  f50 := ⟨Try.f140.name, by decide, Try.func140.trans (congrArg some (by kernel_rfl))⟩
  f57 := ⟨Try.f141.name, by decide, Try.func141.trans (congrArg some (by kernel_rfl))⟩
  t0 := Try.underlying0
  a0 := Try.isAgg0
  z0 := Try.sizeOf0
  v0 := Try.zeroValue0
  t3 := Try.underlying3
  a3 := Try.isAgg3
  z3 := Try.sizeOf3
  v3 := Try.zeroValue3
  t4 := Try.underlying4
  a4 := Try.isAgg4
  z4 := Try.sizeOf4
  v4 := Try.zeroValue4
  t5 := Try.underlying5
  a5 := Try.isAgg5
  z5 := Try.sizeOf5
  v5 := Try.zeroValue5
  t9 := Try.underlying9
  a9 := Try.isAgg9
  z9 := Try.sizeOf9
  v9 := Try.zeroValue9
  t22 := Try.underlying23
  a22 := Try.isAgg23
  z22 := Try.sizeOf23
  v22 := Try.zeroValue23
  t25 := Try.underlying96
  a25 := Try.isAgg96
  z25 := Try.sizeOf96
  v25 := Try.zeroValue96
  t39 := Try.underlying129
  a39 := Try.isAgg129
  z39 := Try.sizeOf129
  v39 := Try.zeroValue129
  t45 := Try.underlying155
  a45 := Try.isAgg155
  z45 := Try.sizeOf155
  v45 := Try.zeroValue155
  t46 := Try.underlying156
  a46 := Try.isAgg156
  z46 := Try.sizeOf156
  v46 := Try.zeroValue156
  t50 := Try.underlying160
  a50 := Try.isAgg160
  z50 := Try.sizeOf160
  v50 := Try.zeroValue160
  t53 := Try.underlying22
  a53 := Try.isAgg22
  z53 := Try.sizeOf22
  v53 := Try.zeroValue22
  t55 := Try.underlying46
  a55 := Try.isAgg46
  z55 := Try.sizeOf46
  v55 := Try.zeroValue46
  t66 := Try.underlying174
  a66 := Try.isAgg174
  z66 := Try.sizeOf174
  v66 := Try.zeroValue174
  t70 := Try.underlying177
  a70 := Try.isAgg177
  z70 := Try.sizeOf177
  v70 := Try.zeroValue177
  t76 := Try.underlying179
  a76 := Try.isAgg179
  z76 := Try.sizeOf179
  v76 := Try.zeroValue179
  t77 := Try.underlying92
  a77 := Try.isAgg92
  z77 := Try.sizeOf92
  v77 := Try.zeroValue92 }
end Go.Proofs.Ytmifbohdepejaaa

namespace Go.Proofs.Ytmifbohdepejaaa
open Go.RowKit Go.Lib

instance : Inhabited En := ⟨En.none⟩

theorem lessE_le {a b : En} (h : ¬ LessE b a) : a = b ∨ LessE a b := by
  by_cases e : a = b
  · exact .inl e
  · exact .inr ((LessE.total e).resolve_right h)
theorem compact_rises (d : Array En) (hs : ∀ i j, i ≤ j → j < d.size → ¬ LessE d[j]! d[i]!) : ∀ m, m ≤ d.size → (compactUpTo d m).Pairwise LessE ∧ ∀ x, x ∈ compactUpTo d m ↔ ∃ i, i < m ∧ x = d[i]!
  | 0, _ => by simp [compactUpTo]
  | m + 1, hm => by
    obtain ⟨h1, h2⟩ := compact_rises d hs m (by omega)
    rw [compactUpTo_succ]
    by_cases hk : keeps d m = true
    · rw [if_pos hk]
      refine ⟨List.pairwise_append.2 ⟨h1, List.pairwise_singleton _ _, fun x hx y hy => ?_⟩, fun x => ?_⟩
      · obtain ⟨i, hi, rfl⟩ := (h2 x).1 hx
        obtain rfl : y = d[m]! := by simpa using hy
        have hne : d[m]! ≠ d[m - 1]! := by
          unfold keeps at hk
          rcases of_decide_eq_true hk with h | h
          · omega
          · exact h
        have a1 := lessE_le (hs i (m - 1) (by omega) (by omega))
        have a2 : LessE d[m - 1]! d[m]! := (lessE_le (hs (m - 1) m (by omega) (by omega))).resolve_left (fun e => hne e.symm)
        rcases a1 with e | h
        · rw [e]; exact a2
        · exact h.trans a2
      · rw [List.mem_append, List.mem_singleton, h2]
        constructor
        · rintro (⟨i, hi, rfl⟩ | rfl)
          · exact ⟨i, by omega, rfl⟩
          · exact ⟨m, by omega, rfl⟩
        · rintro ⟨i, hi, rfl⟩
          by_cases e : i = m
          · rw [e]; exact .inr rfl
          · exact .inl ⟨i, by omega, rfl⟩
    · rw [if_neg hk, List.append_nil]
      refine ⟨h1, fun x => ?_⟩
      have he : m ≠ 0 ∧ d[m]! = d[m - 1]! := by
        have h3 : ¬ (m = 0 ∨ d[m]! ≠ d[m - 1]!) := fun h => hk (by unfold keeps; exact decide_eq_true h)
        exact ⟨fun h => h3 (.inl h), Classical.byContradiction fun h => h3 (.inr h)⟩
      rw [h2]
      constructor
      · rintro ⟨i, hi, rfl⟩
        exact ⟨i, by omega, rfl⟩
      · rintro ⟨i, hi, rfl⟩
        by_cases e : i = m
        · rw [e, he.2]
          exact ⟨m - 1, by omega, rfl⟩
        · exact ⟨i, by omega, rfl⟩
theorem mem_arr (d : Array En) (x : En) : x ∈ d.toList ↔ ∃ i, i < d.size ∧ x = d[i]! := by
  rw [List.mem_iff_getElem]
  constructor
  · rintro ⟨i, hi, rfl⟩
    have hi' : i < d.size := by simpa using hi
    exact ⟨i, hi', by simp [getElem!_pos, hi']⟩
  · rintro ⟨i, hi, rfl⟩
    exact ⟨i, by simpa using hi, by simp [getElem!_pos, hi]⟩
theorem compact_sortE (d : Array En) (hs : ∀ i j, i ≤ j → j < d.size → ¬ LessE d[j]! d[i]!) : compactUpTo d d.size = sortE d.toList := by
  obtain ⟨h1, h2⟩ := compact_rises d hs d.size (Nat.le_refl _)
  exact rises_only h1 (sortE_pair _) fun x => by rw [h2, sortE_mem, mem_arr]

theorem setCells_whole {g : Nat} {t : TypeId} : ∀ (vs : List Value) (o : Nat) (w : World) (cur : Array Value), Whole w g t cur → ∃ cur', Whole (w.setCells g o vs) g t cur' ∧ cur'.size = cur.size ∧ ∀ i, i < o → cur'[i]? = cur[i]?
  | [], _, _, cur, h => ⟨cur, h, rfl, fun _ _ => rfl⟩
  | v :: vs, o, w, cur, h => by
    obtain ⟨cur', h1, h2, h3⟩ := setCells_whole vs (o + 1) _ _ (h.set o v)
    exact ⟨cur', h1, by rw [h2]; simp, fun i hi => by rw [h3 i (by omega), Array.getElem?_setIfInBounds_ne (by omega)]⟩
theorem setCells_keeps {S : Nat → Prop} {a : World} {g : Nat} (hg : S g ∨ a.heap.size ≤ g) : ∀ (vs : List Value) (o : Nat) (b : World), Keeps S a b → Keeps S a (b.setCells g o vs)
  | [], _, _, h => h
  | v :: vs, o, _, h => setCells_keeps hg vs (o + 1) _ (h.set hg v)
theorem RowF.setCells {w : World} {g d n : Nat} {f : Nat → En} (h : RowF w g d n f) (m : Nat) (hm : m ≤ n) (vs : List Value) : RowF (w.setCells g (m * 2) vs) g d m f := by
  obtain ⟨cur, hw, h1, h2, h3⟩ := h
  obtain ⟨cur', c1, c2, c3⟩ := setCells_whole vs (m * 2) w cur hw
  exact ⟨cur', c1, by omega, by omega, fun i hi => by rw [c3 _ (by omega), c3 _ (by omega)]; exact h3 i (by omega)⟩

/-- 'clear' of what is left of a row. -/
theorem run_clear_ens {w : World} {g d n : Nat} {f : Nat → En} (h : RowF w g d n f) (k m c : Nat) (hk : k + m = n) (hm : 0 < m) (ty : TypeId) :
    (Builtin.clear_ #[23] ty #[.slice (some ⟨g, k * 2, none⟩) m c]).run Try.prog w = .ok (.tuple #[]) (w.setCells g (k * 2) (Builtin.zeroCells #[.int .u64 0, .int .u32 0] m).toList) := by
  have hlen : (Builtin.zeroCells #[.int .u64 0, .int .u32 0] m).toList.length = m * 2 := by simp [Builtin.zeroCells]
  have hone : ∀ v ∈ (Builtin.zeroCells #[.int .u64 0, .int .u32 0] m).toList, v.oneCell' = true := fun v hv => by
    simp only [Builtin.zeroCells, Array.mem_toList_iff, Array.mem_map] at hv
    obtain ⟨j, _, rfl⟩ := hv
    have : j % 2 = 0 ∨ j % 2 = 1 := by omega
    rcases this with e | e
    · show ((#[Value.int .u64 0, Value.int .u32 0] : Array Value)[j % 2]!).oneCell' = true
      rw [e]; rfl
    · show ((#[Value.int .u64 0, Value.int .u32 0] : Array Value)[j % 2]!).oneCell' = true
      rw [e]; rfl
  have hst := run_storeCells_cells (P := Try.prog) g (k * 2) (Builtin.zeroCells #[.int .u64 0, .int .u32 0] m).toList 0 w (fun j hj => by
      rw [hlen] at hj
      have hc := h.cell (i := k + j / 2) (by omega)
      by_cases e : j % 2 = 0
      · rw [show k * 2 + 0 + j = (k + j / 2) * 2 by omega, hc.1]; rfl
      · rw [show k * 2 + 0 + j = (k + j / 2) * 2 + 1 by omega, hc.2]; rfl) (fun j _ => h.free _) hone
  simp only [Nat.add_zero] at hst
  obtain ⟨m', rfl⟩ : ∃ m', m = m' + 1 := ⟨m - 1, by omega⟩
  have hz := Try.zeroValue49
  have hu := run_underlying Try.underlying23
  simp [Builtin.clear_, hu, hz]
  rw [show (Value.agg #[Value.int .u64 0, Value.int .u32 0]).cells = #[.int .u64 0, .int .u32 0] from rfl, hst]
  rfl
end Go.Proofs.Ytmifbohdepejaaa

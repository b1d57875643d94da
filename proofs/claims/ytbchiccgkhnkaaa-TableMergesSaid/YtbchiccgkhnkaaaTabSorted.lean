/-
  Package table's own Sorted: a copy, sorted by the library, each once.
-/
import Derived.Test.YtbchiccgkhnkaaaTabComp2
import Derived.Test.YtbchiccgkhnkaaaTabLay
namespace Go.Proofs.Ytbchiccgkhnkaaa
open Go.RowKit Go.Lib Go.Sort Go.Shelf

def encE (e : En) : List Value := [enH e, enA e]
theorem swoE : SWO (ltOf cmpE) where
  irrefl x := by
    unfold ltOf
    exact decide_eq_false (fun h => LessE.irrefl _ (cmpE_less.1 h))
  trans x y z h1 h2 := by
    unfold ltOf at *
    exact decide_eq_true (cmpE_less.2 ((cmpE_less.1 (of_decide_eq_true h1)).trans (cmpE_less.1 (of_decide_eq_true h2))))
  ntrans x y z h1 h2 := by
    unfold ltOf at *
    have a1 : ¬ LessE x y := fun h => of_decide_eq_false h1 (cmpE_less.2 h)
    have a2 : ¬ LessE y z := fun h => of_decide_eq_false h2 (cmpE_less.2 h)
    refine decide_eq_false (fun h => ?_)
    have h3 := cmpE_less.1 h
    unfold LessE at *
    omega
theorem cmpLaysE (blk off size : Nat) (w : World) : CmpLays Try.prog 10 #[] encE 2 cmpE blk off size w :=
  fun _ _ _ _ x y => compare_grown x y _

theorem RowF.holds {w : World} {g d n : Nat} {f : Nat → En} (h : RowF w g d n f) (A : Array En) (hA : A.size = n) (he : ∀ i, i < n → f i = A[i]!) : HoldsK encE 2 w g 0 A := by
  intro j hj
  rw [size_flatK] at hj
  refine ⟨?_, h.free _⟩
  have hc := h.cell (i := j / 2) (by omega)
  rw [he (j / 2) (by omega)] at hc
  show w.cell? ⟨g, 0 + j, none⟩ = some (flatK encE 2 A)[j]!
  rw [get_flatK _ _ _ _ hj]
  by_cases h5 : j % 2 = 0
  · rw [show 0 + j = j / 2 * 2 by omega, hc.1, h5]
    rfl
  · rw [show 0 + j = j / 2 * 2 + 1 by omega, hc.2, show j % 2 = 1 by omega]
    rfl
theorem RowF.sorted {w : World} {g d n : Nat} {f : Nat → En} (h : RowF w g d n f) (A : Array En) (hA : A.size = n) (m : Nat) (os : Array Obj) :
    RowF (sortWorldK encE 2 w g 0 m A os) g d n (fun i => A[i]!) := by
  obtain ⟨cur, hw, h1, h2, h3⟩ := h
  have hlt := hw.lt
  refine ⟨putCells id 0 (flatK encE 2 A) cur, ?_, by simpa [putCells] using h1, h2, fun i hi => ?_⟩
  · show ((w.heap.modify g _) ++ os)[g]? = _
    rw [Array.getElem?_append_left (by simpa using hlt), Array.getElem?_modify, if_pos rfl, show w.heap[g]? = _ from hw]
    rfl
  · obtain ⟨c0, c1⟩ := h3 i hi
    have hsz : (flatK encE 2 A).size = n * 2 := by rw [size_flatK, hA]
    have g0 := get_flatK encE 2 A (i * 2) (by rw [hA]; omega)
    have g1 := get_flatK encE 2 A (i * 2 + 1) (by rw [hA]; omega)
    rw [show i * 2 / 2 = i by omega, show i * 2 % 2 = 0 by omega] at g0
    rw [show (i * 2 + 1) / 2 = i by omega, show (i * 2 + 1) % 2 = 1 by omega] at g1
    constructor
    · unfold putCells
      rw [Array.getElem?_mapIdx, c0]
      simp only [Option.map_some]
      rw [if_pos ⟨Nat.zero_le _, by omega⟩, Nat.sub_zero, g0]
      rfl
    · unfold putCells
      rw [Array.getElem?_mapIdx, c1]
      simp only [Option.map_some]
      rw [if_pos ⟨Nat.zero_le _, by omega⟩, Nat.sub_zero, g1]
      rfl
theorem sortWorld_keeps (w : World) (g m : Nat) (A : Array En) (os : Array Obj) : Keeps (Just g) w (sortWorldK encE 2 w g 0 m A os) := by
  refine ⟨rfl, rfl, rfl, ?_, fun k hk hn => ?_⟩
  · show w.heap.size ≤ ((w.heap.modify g _) ++ os).size
    simp
  · show ((w.heap.modify g _) ++ os)[k]? = _
    rw [Array.getElem?_append_left (by simpa using hk), Array.getElem?_modify, if_neg (fun e => hn e.symm)]

set_option maxHeartbeats 2000000 in
set_option maxRecDepth 10000 in
theorem clone_own (p : Option Addr) (n c : Nat) (l : List En) (w : World) (hn : n = l.length) (hn9 : n ≤ 1000000) (hp : p = none → n = 0 ∧ c = 0) (hat : EnsAt w p l) :
    Calls Try.prog 30 #[.slice p n c] w fun e w' => ∃ v, e = .returned v ∧ TwosSoFar enH enA 29 w l v w' := by
  have q22 : ∀ (w : World) (a : Option Addr) (n c n' c' : Nat), (binOp .eql 22 (.slice a n c) (.slice none n' c')).run Try.prog w = .ok (.bool a.isNone) w := fun w a n c n' c' => Lib.run_eql_slice_nil w _ _ a n c n' c' Try.underlying22
  obtain ⟨i0, hi, hz0, hz1, hz2⟩ := info_parts infoEnL
  have HN := Lib.hid hn
  cases p with
  | none =>
    obtain ⟨rfl, rfl⟩ := hp rfl
    obtain rfl : l = [] := List.length_eq_zero_iff.1 hn.symm
    clear hat hn
    go_enter Try.func30, Try.ntmps30
    go_wp2_with fail
    go_ret
    exact ⟨_, rfl, TwosSoFar.start w⟩
  | some a =>
    have HA := Lib.hid hat
    have HO0 := Lib.hid (show TwosSoFar enH enA 29 w ([] : List En) (.slice (some ⟨w.heap.size, 0, none⟩) 0 0) (w.alloc (.cells #[] 29)) from ⟨World.ownsRow_made w #[] 0 (Nat.le_refl _) (Nat.zero_le _) (by simp), (Below.refl _ w).alloc (Nat.le_refl _) _⟩)
    clear hat hn hp
    go_enter Try.func30, Try.ntmps30
    go_wp2_with (at_builtin; refine wpList_append_twos (dd := En.none) rfl _ _ 22 rfl 29 i0 (.agg #[.int .u64 0, .int .u32 0]) 16 Try.underlying22 hi hz0 hz1 hz2 rfl _ _ rfl HO0.out (some a) n c l rfl (fun h => by simp at h) HN.out (TwosAt.keep HA.out ((Keeps.refl NoBlock w).alloc _) (fun _ _ h => h)) (fun _ => rfl) (fun _ => rfl) (by simp; omega) (by simp; omega) ?_)
    intro v w1 hv
    have HV := Lib.hid hv
    clear hv
    go_wp2_with fail
    go_ret
    exact ⟨_, rfl, HV.out⟩

set_option maxHeartbeats 2000000 in
theorem compact_nil (w : World) : Calls Try.prog 32 #[.slice none 0 0] w fun e w' => e = .returned (.slice none 0 0) ∧ w' = w := by
  go_enter Try.func32, Try.ntmps32
  go_wp2_with fail
  go_ret
  exact ⟨rfl, rfl⟩

/-- What the library's sort makes of a row of one's own. -/
theorem sortfunc_own (g cap n : Nat) (l : List En) (hl : n = l.length) (hn9 : n ≤ 1000000) (w : World) (h : RowF w g cap n (fun i => l.getD i En.none)) :
    Calls Try.prog 31 #[.slice (some ⟨g, 0, none⟩) n cap, .func (.func 10) #[] #[]] w fun e w' =>
      e = .returned (.tuple #[]) ∧ ∃ A : Array En, A.size = n ∧ compactUpTo A A.size = sortE l ∧ RowF w' g cap n (fun i => A[i]!) ∧ Keeps (Just g) w w' := by
  have eg : ∀ args w, (callFunc 10 args).run Try.prog w = .ok (.enter 10 args) w := enters_of Try.func10 (by kernel_rfl) rfl
  have hA : l.toArray.size = n := by simp [hl]
  have hf : ∀ i, i < n → l.getD i En.none = l.toArray[i]! := fun i hi => by
    rw [← getD_arr l.toArray i (by omega)]
  have hcon := AnyQ.slices_SortFunc sortLay 2 Try.isAgg29 Try.sizeOf29 encE (fun _ => rfl) (fun x v hv => by simp [encE] at hv; rcases hv with rfl | rfl <;> rfl) cmpE swoE 10 #[] g 0 cap l.toArray w eg (cmpLaysE g 0 l.toArray.size w) (h.holds l.toArray hA hf) h.lt (by omega)
  rw [hA] at hcon
  refine Calls.mono hcon ?_
  rintro e w' ⟨rfl, A, m, os, hp, hs, rfl⟩
  obtain ⟨p1, _, p3⟩ := hp
  have hAn : A.size = n := by rw [p1, hA]
  refine ⟨rfl, A, hAn, ?_, h.sorted A hAn m os, sortWorld_keeps w g m A os⟩
  rw [compact_sortE A (fun i j hij hj => ?_)]
  · have hmem : ∀ x, x ∈ A.toList ↔ x ∈ l := fun x => by
      have h1 := p3.mem_iff (a := x)
      rw [show A.extract 0 n = A by rw [← hAn]; exact Array.extract_size, show l.toArray.extract 0 n = l.toArray by rw [← hA]; exact Array.extract_size] at h1
      exact h1
    exact sortE_same hmem
  · by_cases e : i = j
    · rw [e]; exact LessE.irrefl _
    · have h2 := hs i j (Nat.zero_le _) (by omega) (by omega)
      unfold ltOf at h2
      exact fun h3 => of_decide_eq_false h2 (cmpE_less.2 h3)

set_option maxHeartbeats 2000000 in
set_option maxRecDepth 10000 in
theorem tsorted_own (p : Option Addr) (n c : Nat) (l : List En) (w : World) (h : InE w p n c l) (hn9 : n ≤ 100000) :
    Calls Try.prog 9 #[.slice p n c] w fun e w' => ∃ v, e = .returned v ∧ TwosSoFar enH enA 29 w (sortE l) v w' := by
  have HCl := Lib.hid (clone_own p n c l w h.len (by omega) h.bare h.at_)
  have HNo := Lib.hid (fun fv w => AnyF.slices_SortFunc_none sortLay none 0 fv w)
  have HLn := Lib.hid h.len
  clear h
  go_enter Try.func9, Try.ntmps9
  go_wp2_with fail
  refine HCl.out.mono ?_
  rintro e w1 ⟨v, rfl, hown, hbel⟩
  have HB := Lib.hid hbel
  rcases id hown with ⟨_, ⟨rfl, h0⟩ | ⟨g, cap, cur, rfl, hb, hg, h1, h2, h3, h4⟩⟩
  · obtain rfl : l = [] := List.length_eq_zero_iff.1 h0
    clear hown hbel HCl
    go_wp2_with fail
    refine (HNo.out _ _).mono ?_
    rintro e w2 ⟨rfl, rfl⟩
    go_wp2_with fail
    refine (compact_nil _).mono ?_
    rintro e w2 ⟨rfl, rfl⟩
    go_wp2_with fail
    go_ret
    exact ⟨_, rfl, ⟨by simp [sortE, twoFlat], .inl ⟨rfl, rfl⟩⟩, HB.out⟩
  · obtain ⟨hR, hbg, hcap⟩ := RowF.ofOwn hown rfl
    have HS := Lib.hid (sortfunc_own g cap l.length l rfl (by rw [← HLn.out]; omega) _ hR)
    have HBg := Lib.hid hbg
    have HCap := Lib.hid hcap
    have HL9 := Lib.hid (show l.length ≤ 100000 by rw [← HLn.out]; exact hn9)
    clear hown hbel HCl hR hbg hcap hb hg h1 h2 h3 h4
    go_wp2_with fail
    refine HS.out.mono ?_
    rintro e w2 ⟨rfl, A, hAn, hAs, hR2, hk2⟩
    have HC := Lib.hid (compact_own g cap A.size A rfl w2 (by rw [hAn]; exact hR2) (by have := HCap.out; unfold maxLen at this; exact this) (by have := HL9.out; omega))
    rw [hAn] at HC
    have HK2 := Lib.hid hk2
    have HAs := Lib.hid hAs
    clear hR2 hk2 hAs HS
    go_wp2_with fail
    refine HC.out.mono ?_
    rintro e w3 ⟨m, hm, rfl, hR3, hk3⟩
    rw [HAs.out] at hm hR3
    have HR3 := Lib.hid hR3
    have HM := Lib.hid hm
    have HK3 := Lib.hid (HK2.out.trans hk3)
    clear hR3 hm hk3 HC
    go_wp2_with fail
    go_ret
    have hm := HM.out
    subst hm
    exact ⟨_, rfl, HR3.out.own (Nat.le_refl _) (fun _ _ => rfl) HBg.out HCap.out, HB.out.trans (HK3.out.below HB.out.size (fun k hk e => by have := HBg.out; have e' : k = g := e; omega))⟩
theorem sort_ok : SortOk := ⟨fun p n c l w h h9 => (tsorted_own p n c l w h h9).mono fun _ _ ⟨v, he, hv⟩ => ⟨v, he, hv.new⟩⟩
theorem merge_ok : MergeOk := ⟨fun p n c l w h h9 => tsorted_own p n c l w h h9⟩
end Go.Proofs.Ytbchiccgkhnkaaa

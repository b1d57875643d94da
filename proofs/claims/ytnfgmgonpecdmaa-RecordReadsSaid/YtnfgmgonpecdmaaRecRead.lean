/-
  Package record's own Read: its reading, all the ends that it has. Written by wip/tools/gen_recread.py.
-/
import Derived.Test.YtnfgmgonpecdmaaRecOwn
import Derived.Test.YtnfgmgonpecdmaaCurE
import Derived.Test.YtnfgmgonpecdmaaVarRead
namespace Go.Proofs.Ytnfgmgonpecdmaa
open Go.RowKit

theorem end_whole (k : Nat) (p : Option Addr) (N c : Nat) (y : Int) (w : World) (h : CurB w k p N c N true y) (hc : (N : Int) ≤ 9223372036854775807) :
    Calls Try.prog 27 #[.pointer (some ⟨k, 0, none⟩)] w fun e w' => e = .returned (.tuple #[]) ∧ CurB w' k p N c N true y ∧ Keeps NoBlock w w' := by
  have H := Lib.hid h; clear h
  go_enter Try.func27, Try.ntmps27
  go_wp2_with fail
  refine (left_at k p N c N y _ H.out (Nat.le_refl _) hc).mono ?_
  rintro e w' ⟨rfl, m, rfl⟩
  go_wp2_with fail
  go_returns
  exact ⟨rfl, Whole.drewN H.out m, (Keeps.refl _ _).drewN m⟩

theorem end_more (k : Nat) (p : Option Addr) (N c a : Nat) (w : World) (h : CurB w k p N c a true 0) (ha : a < N) (hc : (N : Int) ≤ 9223372036854775807) :
    Calls Try.prog 27 #[.pointer (some ⟨k, 0, none⟩)] w fun e w' => e = .panicked (given k) ∧ CurB w' k p N c a true 3 ∧ Keeps (Just k) w w' := by
  have H := Lib.hid h; clear h
  have hlt : (0 : Int) < (N : Int) - (a : Int) := by omega
  go_enter Try.func27, Try.ntmps27
  go_wp2_with fail
  refine (left_at k p N c a 0 _ H.out (by omega) hc).mono ?_
  rintro e w' ⟨rfl, m, rfl⟩
  go_wp2_with fail
  refine (fail_at k p N c a 3 _ (Whole.drewN H.out m) (by decide)).mono ?_
  rintro e w2 ⟨rfl, hcur, hk⟩
  exact ⟨rfl, rfl, hcur, ((Keeps.refl (Just k) w).drewN m).trans hk⟩

/-- What the reading leaves: the record in block D, if there is one. -/
def Left7 (w0 : World) (D : Nat) (t : Int × Rec) (w2 : World) : Prop :=
  Keeps (Just D) w0 w2 ∧ (t.1 = 0 → Whole w2 D 24 (recCells t.2))

/-- Within the reading: the cursor at a, the record's cells in block D, the bytes as they were. -/
structure At7 (w0 : World) (D : Nat) (p : Option Addr) (xs : List Int) (N c a : Nat) (y : Int) (cs : Array Value) (W : World) : Prop where
  beg : Begun w0 p N c a y W
  cells : Whole W D 24 cs
  by8 : Bytes8 W p xs
  kp : Keeps (Just D) w0 W
  lt : D < w0.heap.size
  far : 0 < xs.length → ∀ q, p = some q → q.block < w0.heap.size ∧ q.block ≠ D

theorem At7.cur {w0 : World} {D : Nat} {p : Option Addr} {xs : List Int} {N c a : Nat} {y : Int} {cs : Array Value} {W : World} (h : At7 w0 D p xs N c a y cs W) : CurB W (w0.heap.size + 1 + 1) p N c a true y := h.beg.cur
theorem At7.apart {w0 : World} {D : Nat} {p : Option Addr} {xs : List Int} {N c a : Nat} {y : Int} {cs : Array Value} {W : World} (h : At7 w0 D p xs N c a y cs W) : 0 < xs.length → ∀ q, p = some q → q.block ≠ w0.heap.size + 1 + 1 := fun h0 q hq => by have := (h.far h0 q hq).1; omega
theorem At7.call {w0 : World} {D : Nat} {p : Option Addr} {xs : List Int} {N c a : Nat} {y : Int} {cs : Array Value} {W : World} (h : At7 w0 D p xs N c a y cs W) {W' : World} {b : Nat} {z : Int} (hk : Keeps (Just (w0.heap.size + 1 + 1)) W W') (hc : CurB W' (w0.heap.size + 1 + 1) p N c b true z) : At7 w0 D p xs N c b z cs W' :=
  ⟨h.beg.keep hk hc, h.cells.keep hk (by have := h.lt; unfold Just; omega), h.by8.keepPos hk (fun h0 q hq => by have := (h.far h0 q hq).1; unfold Just; omega), h.kp.then hk (fun i hi hj => by unfold Just at hj; omega), h.lt, h.far⟩
theorem At7.quiet {w0 : World} {D : Nat} {p : Option Addr} {xs : List Int} {N c a : Nat} {y : Int} {cs : Array Value} {W : World} (h : At7 w0 D p xs N c a y cs W) {W' : World} (hk : Keeps NoBlock W W') : At7 w0 D p xs N c a y cs W' :=
  h.call (hk.wider (fun _ _ hj => hj.elim)) (Whole.keep h.cur hk (fun hj => hj))
theorem At7.put {w0 : World} {D : Nat} {p : Option Addr} {xs : List Int} {N c a : Nat} {y : Int} {cs : Array Value} {W : World} (h : At7 w0 D p xs N c a y cs W) (i : Nat) (v : Value) : At7 w0 D p xs N c a y (cs.setIfInBounds i v) (W.setCell ⟨D, i, none⟩ v) :=
  ⟨⟨h.beg.at_.setOther (by have := h.lt; simp; omega) v, h.beg.why.setOther (by have := h.lt; simp; omega) v, Whole.setOther h.beg.cur (by have := h.lt; simp; omega) v, h.beg.var.setOther (by have := h.lt; simp; omega) v⟩,
    h.cells.set i v, h.by8.keepPos ((Keeps.refl (Just D) W).setIn (Just.self D) i v) (fun h0 q hq => (h.far h0 q hq).2), h.kp.setIn (Just.self D) i v, h.lt, h.far⟩
theorem At7.gave {w0 : World} {D : Nat} {p : Option Addr} {xs : List Int} {N c a : Nat} {y : Int} {cs : Array Value} {W : World} (h : At7 w0 D p xs N c a y cs W) (hy : y ≠ 0) {r : Rec} : ReadEnds w0 p N c a y (Left7 w0 D (y, r)) (.panicked (given (w0.heap.size + 1 + 1))) W :=
  ⟨.inr (gave_given _), h.beg, h.kp, fun h0 => absurd h0 hy⟩
theorem At7.done {w0 : World} {D : Nat} {p : Option Addr} {xs : List Int} {N c a : Nat} {W : World} {r : Rec} (h : At7 w0 D p xs N c a 0 (recCells r) W) : ReadEnds w0 p N c a 0 (Left7 w0 D (0, r)) (.returned (.tuple #[])) W :=
  ⟨.inl rfl, h.beg, h.kp, fun _ => h.cells⟩

theorem enter_readIn7 (args : Array Value) (w : World) : (callFunc 23 args).run Try.prog w = .ok (.enter 23 args) w := by kernel_rfl

theorem drop_succ (b : Int) (ys : List Int) (n : Nat) : (b :: ys).drop (1 + n) = ys.drop n := by rw [Nat.add_comm, List.drop_succ_cons]

/-- The reading, from its beginning, ends at a. -/
def Ends7 (w0 : World) (D : Nat) (p : Option Addr) (xs : List Int) (N c a : Nat) : Prop := ∀ W, At7 w0 D p xs N c 0 0 (recCells Rec.none) W →
    Calls Try.prog 23 (#[.pointer (some ⟨w0.heap.size + 1 + 1, 0, none⟩)] ++ #[.pointer (some ⟨D, 0, none⟩)]) W (ReadEnds w0 p N c a (readR xs).1 (Left7 w0 D (readR xs)))

set_option maxHeartbeats 8000000 in
set_option maxRecDepth 10000 in
theorem readIn7 (w0 : World) (D : Nat) (p : Option Addr) (xs : List Int) (N c : Nat) (hx : N = xs.length) (ho : Octets xs) (hc : N ≤ c) (hN9 : N ≤ 140737488355328) (hc' : c ≤ 9223372036854775807) :
    ∃ a, Ends7 w0 D p xs N c a := by
  cases hxs : xs with
  | nil =>
    have hR : readR xs = (2, Rec.none) := by rw [hxs]; rfl
    rw [← hxs]
    refine ⟨0, ?_⟩
    intro W hA
    have HA0 := Lib.hid hA
    rw [hR]
    have H_hx := Lib.hid hx
    have H_hxs := Lib.hid hxs
    clear hA hx hxs
    simp only [List.append_toArray, List.nil_append, List.cons_append]
    go_enter Try.func23, Try.ntmps23
    go_wp2_with fail
    refine (gone_own _ p xs N c _ H_hx.out HA0.out.cur HA0.out.by8 ho HA0.out.apart hc hc').mono ?_
    rw [H_hxs.out]
    rintro e w1 ⟨rfl, hcur, hk⟩
    exact ⟨rfl, (HA0.out.call hk hcur).gave (by decide)⟩
  | cons b ys =>
    have hd1 : xs.drop 1 = ys := by rw [hxs]; rfl
    have hd2 : xs.drop (1 + (vget ys).n) = ys.drop (vget ys).n := by rw [hxs, drop_succ]
    have hd3 : xs.drop (1 + (vget ys).n + (vtext (ys.drop (vget ys).n) 1 4096).n) = ys.drop ((vget ys).n + (vtext (ys.drop (vget ys).n) 1 4096).n) := by rw [hxs, Nat.add_assoc, drop_succ]
    have hlen : N = 1 + ys.length := by rw [hx, hxs, List.length_cons]; omega
    have n1 : (vget ys).n ≤ ys.length := vread_n 10 true ys
    have n2 : (vtext (ys.drop (vget ys).n) 1 4096).n ≤ ys.length - (vget ys).n := by rw [← List.length_drop]; exact vtext_n _ 1 4096
    have n3 : (vtext (ys.drop ((vget ys).n + (vtext (ys.drop (vget ys).n) 1 4096).n)) 0 1048576).n ≤ ys.length - (vget ys).n - (vtext (ys.drop (vget ys).n) 1 4096).n := by rw [Nat.sub_sub, ← List.length_drop]; exact vtext_n _ 0 1048576
    rw [← hxs]
    by_cases hb : b ≠ 2 ∧ b ≠ 3
    · have hR : readR xs = (4, Rec.none) := by
        rw [hxs]
        show readKind b ys = _
        unfold readKind
        rw [if_pos hb]
      refine ⟨1, ?_⟩
      intro W hA
      have HA0 := Lib.hid hA
      rw [hR]
      have H_hx := Lib.hid hx
      have H_hxs := Lib.hid hxs
      have H_hlen := Lib.hid hlen
      have H_hb := Lib.hid hb
      clear hA hx hxs hlen hb
      simp only [List.append_toArray, List.nil_append, List.cons_append]
      go_enter Try.func23, Try.ntmps23
      go_wp2_with fail
      refine (gone_own _ p xs N c _ H_hx.out HA0.out.cur HA0.out.by8 ho HA0.out.apart hc hc').mono ?_
      rw [H_hxs.out]
      rintro e w1 ⟨hk, hcur, rfl⟩
      rw [if_pos H_hb.out] at hcur ⊢
      exact ⟨rfl, (HA0.out.call hk hcur).gave (by decide)⟩
    · have hk2 : (if b ≠ 2 ∧ b ≠ 3 then (4 : Int) else 0) = 0 := if_neg hb
      have hk3 : (if b ≠ 2 ∧ b ≠ 3 then Ending.panicked (given (w0.heap.size + 1 + 1)) else Ending.returned (.bool (b == 3))) = .returned (.bool (b == 3)) := if_neg hb
      have hR0 : readR xs = if (vget ys).e ≠ 0 then ((vget ys).e, Rec.none) else readKey b (vget ys).x.toNat (ys.drop (vget ys).n) := by
        rw [hxs]
        show readKind b ys = _
        unfold readKind
        rw [if_neg hb]
      by_cases h1 : (vget ys).e = 0
      rotate_left
      · have hR : readR xs = ((vget ys).e, Rec.none) := by rw [hR0, if_pos h1]
        refine ⟨1 + (vget ys).n, ?_⟩
        intro W hA
        have HA0 := Lib.hid hA
        rw [hR]
        have H_hx := Lib.hid hx
        have H_hxs := Lib.hid hxs
        have H_hlen := Lib.hid hlen
        have H_hd1 := Lib.hid hd1
        have H_hk2 := Lib.hid hk2
        have H_hk3 := Lib.hid hk3
        clear hA hx hxs hlen hd1 hk2 hk3
        simp only [List.append_toArray, List.nil_append, List.cons_append]
        go_enter Try.func23, Try.ntmps23
        go_wp2_with fail
        refine (gone_own _ p xs N c _ H_hx.out HA0.out.cur HA0.out.by8 ho HA0.out.apart hc hc').mono ?_
        rw [H_hxs.out]
        rintro e w1 ⟨hk, hcur, he⟩
        rw [H_hk2.out] at hcur
        rw [H_hk3.out] at he
        subst he
        have hA1 := HA0.out.call hk hcur
        clear hk hcur
        have HA1 := Lib.hid (hA1.put 0 (.bool (b == 3)))
        have f1 := hA1.cells.free 0
        have g1 : w1.cell? ⟨D, 0, none⟩ = some (.bool false) := hA1.cells.cell 0 rfl
        clear hA1
        go_wp2_with fail
        refine (get_any _ p xs N c 1 _ H_hx.out HA1.out.cur HA1.out.by8 ho HA1.out.apart (by have := H_hx.out; have := H_hlen.out; omega) hc hc').mono ?_
        rw [H_hd1.out]
        rintro e w9 ⟨hk, ⟨he, rfl, hcur⟩ | ⟨he, rfl, hcur⟩⟩
        · exact absurd he h1
        · exact ⟨rfl, (HA1.out.call hk hcur).gave h1⟩
      rw [if_neg (by simpa using h1)] at hR0
      have hxb := vread_bound 9 true ys (fun z hz => ho z (by rw [hxs]; exact List.mem_cons_of_mem _ hz)) h1
      have hxn : (((vget ys).x.toNat : Nat) : Int) = (vget ys).x := Int.toNat_of_nonneg hxb.1
      clear hxb
      unfold readKey at hR0
      simp only [List.drop_drop] at hR0
      by_cases h2 : (vtext (ys.drop (vget ys).n) 1 4096).e = 0
      rotate_left
      · have hR : readR xs = ((vtext (ys.drop (vget ys).n) 1 4096).e, Rec.none) := by rw [hR0, if_pos h2]
        refine ⟨1 + (vget ys).n + (vtext (ys.drop (vget ys).n) 1 4096).n, ?_⟩
        intro W hA
        have HA0 := Lib.hid hA
        rw [hR]
        have H_hx := Lib.hid hx
        have H_hxs := Lib.hid hxs
        have H_hlen := Lib.hid hlen
        have H_hd1 := Lib.hid hd1
        have H_hd2 := Lib.hid hd2
        have H_hk2 := Lib.hid hk2
        have H_hk3 := Lib.hid hk3
        clear hA hx hxs hlen hd1 hd2 hk2 hk3
        simp only [List.append_toArray, List.nil_append, List.cons_append]
        go_enter Try.func23, Try.ntmps23
        go_wp2_with fail
        refine (gone_own _ p xs N c _ H_hx.out HA0.out.cur HA0.out.by8 ho HA0.out.apart hc hc').mono ?_
        rw [H_hxs.out]
        rintro e w1 ⟨hk, hcur, he⟩
        rw [H_hk2.out] at hcur
        rw [H_hk3.out] at he
        subst he
        have hA1 := HA0.out.call hk hcur
        clear hk hcur
        have HA1 := Lib.hid (hA1.put 0 (.bool (b == 3)))
        have f1 := hA1.cells.free 0
        have g1 : w1.cell? ⟨D, 0, none⟩ = some (.bool false) := hA1.cells.cell 0 rfl
        clear hA1
        go_wp2_with fail
        refine (get_any _ p xs N c 1 _ H_hx.out HA1.out.cur HA1.out.by8 ho HA1.out.apart (by have := H_hx.out; have := H_hlen.out; omega) hc hc').mono ?_
        rw [H_hd1.out]
        rintro e w2 ⟨hk, ⟨he, rfl, hcur⟩ | ⟨he, rfl, hcur⟩⟩
        rotate_left
        · exact absurd h1 he
        clear he
        have hA2 := HA1.out.call hk hcur
        clear hk hcur
        have HA2 := Lib.hid (hA2.put 1 (.int .u64 (vget ys).x))
        have f2 := hA2.cells.free 1
        have g2 : w2.cell? ⟨D, 1, none⟩ = some (.int .u64 0) := hA2.cells.cell 1 rfl
        clear hA2
        go_wp2_with fail
        refine (gettext_any _ p xs N c (1 + (vget ys).n) 1 4096 1 4096 rfl rfl (by have := H_hx.out; have := H_hlen.out; omega) (by have := H_hx.out; have := H_hlen.out; omega) _ H_hx.out HA2.out.cur HA2.out.by8 ho HA2.out.apart (by have := H_hx.out; have := H_hlen.out; omega) hc hN9 hc').mono ?_
        rw [H_hd2.out]
        rintro e w9 ⟨hk, ⟨he, rfl, hcur⟩ | ⟨he, rfl, hcur⟩⟩
        · exact absurd he h2
        · exact ⟨rfl, (HA2.out.call hk hcur).gave h2⟩
      rw [if_neg (by simpa using h2)] at hR0
      by_cases h3b : b = 3
      · rw [if_pos h3b] at hR0
        have hbt : (b == 3) = true := by rw [h3b]; rfl
        unfold readEnd at hR0
        have hl3 : (ys.drop ((vget ys).n + (vtext (ys.drop (vget ys).n) 1 4096).n)).length = N - (1 + (vget ys).n + (vtext (ys.drop (vget ys).n) 1 4096).n) := by rw [List.length_drop]; omega
        by_cases hend : 1 + (vget ys).n + (vtext (ys.drop (vget ys).n) 1 4096).n = N
        · have hR : readR xs = (0, ⟨true, (vget ys).x.toNat, (vtext (ys.drop (vget ys).n) 1 4096).t, []⟩) := by rw [hR0, if_pos (List.length_eq_zero_iff.1 (by omega))]
          refine ⟨1 + (vget ys).n + (vtext (ys.drop (vget ys).n) 1 4096).n, ?_⟩
          intro W hA
          have HA0 := Lib.hid hA
          rw [hR]
          have H_hx := Lib.hid hx
          have H_hxs := Lib.hid hxs
          have H_hlen := Lib.hid hlen
          have H_hd1 := Lib.hid hd1
          have H_hd2 := Lib.hid hd2
          have H_hk2 := Lib.hid hk2
          have H_hk3 := Lib.hid hk3
          have H_hbt := Lib.hid hbt
          have H_hend := Lib.hid hend
          have H_hxn := Lib.hid hxn
          clear hA hx hxs hlen hd1 hd2 hk2 hk3 hbt hend hxn
          simp only [List.append_toArray, List.nil_append, List.cons_append]
          go_enter Try.func23, Try.ntmps23
          go_wp2_with fail
          refine (gone_own _ p xs N c _ H_hx.out HA0.out.cur HA0.out.by8 ho HA0.out.apart hc hc').mono ?_
          rw [H_hxs.out]
          rintro e w1 ⟨hk, hcur, he⟩
          rw [H_hk2.out] at hcur
          rw [H_hk3.out, H_hbt.out] at he
          subst he
          have hA1 := HA0.out.call hk hcur
          clear hk hcur
          have HA1 := Lib.hid (hA1.put 0 (.bool true))
          have f1 := hA1.cells.free 0
          have g1 : w1.cell? ⟨D, 0, none⟩ = some (.bool false) := hA1.cells.cell 0 rfl
          clear hA1
          go_wp2_with fail
          refine (get_any _ p xs N c 1 _ H_hx.out HA1.out.cur HA1.out.by8 ho HA1.out.apart (by have := H_hx.out; have := H_hlen.out; omega) hc hc').mono ?_
          rw [H_hd1.out]
          rintro e w2 ⟨hk, ⟨he, rfl, hcur⟩ | ⟨he, rfl, hcur⟩⟩
          rotate_left
          · exact absurd h1 he
          clear he
          have hA2 := HA1.out.call hk hcur
          clear hk hcur
          have HA2 := Lib.hid (hA2.put 1 (.int .u64 (vget ys).x))
          have f2 := hA2.cells.free 1
          have g2 : w2.cell? ⟨D, 1, none⟩ = some (.int .u64 0) := hA2.cells.cell 1 rfl
          clear hA2
          go_wp2_with fail
          refine (gettext_any _ p xs N c (1 + (vget ys).n) 1 4096 1 4096 rfl rfl (by have := H_hx.out; have := H_hlen.out; omega) (by have := H_hx.out; have := H_hlen.out; omega) _ H_hx.out HA2.out.cur HA2.out.by8 ho HA2.out.apart (by have := H_hx.out; have := H_hlen.out; omega) hc hN9 hc').mono ?_
          rw [H_hd2.out]
          rintro e w3 ⟨hk, ⟨he, rfl, hcur⟩ | ⟨he, rfl, hcur⟩⟩
          rotate_left
          · exact absurd h2 he
          clear he
          have hA3 := HA2.out.call hk hcur
          clear hk hcur
          have HA3 := Lib.hid (hA3.put 2 (.string (strOfNums (vtext (ys.drop (vget ys).n) 1 4096).t)))
          have f3 := hA3.cells.free 2
          have g3 : w3.cell? ⟨D, 2, none⟩ = some (.string (strOfNums [])) := hA3.cells.cell 2 rfl
          have c3 : (w3.setCell ⟨D, 2, none⟩ (.string (strOfNums (vtext (ys.drop (vget ys).n) 1 4096).t))).cell? ⟨D, 0, none⟩ = some (.bool true) := HA3.out.cells.cell 0 rfl
          clear hA3
          go_wp2_with fail
          rw [← H_hxn.out] at HA3
          refine (end_whole _ p N c 0 _ (by have := HA3.out.cur; rw [show 1 + (vget ys).n + (vtext (ys.drop (vget ys).n) 1 4096).n = N from H_hend.out] at this; exact this) (by have := H_hx.out; have := H_hlen.out; omega)).mono ?_
          rintro e w9 ⟨rfl, hcur, hk⟩
          have HA9 := Lib.hid (HA3.out.quiet hk)
          clear hk hcur
          go_wp2_with fail
          go_returns
          exact (show At7 w0 D p xs N c _ 0 (recCells ⟨true, (vget ys).x.toNat, (vtext (ys.drop (vget ys).n) 1 4096).t, []⟩) w9 from HA9.out).done
        · have hR : readR xs = (3, Rec.none) := by rw [hR0, if_neg (fun h => by rw [h] at hl3; simp at hl3; omega)]
          refine ⟨1 + (vget ys).n + (vtext (ys.drop (vget ys).n) 1 4096).n, ?_⟩
          intro W hA
          have HA0 := Lib.hid hA
          rw [hR]
          have H_hx := Lib.hid hx
          have H_hxs := Lib.hid hxs
          have H_hlen := Lib.hid hlen
          have H_hd1 := Lib.hid hd1
          have H_hd2 := Lib.hid hd2
          have H_hk2 := Lib.hid hk2
          have H_hk3 := Lib.hid hk3
          have H_hbt := Lib.hid hbt
          clear hA hx hxs hlen hd1 hd2 hk2 hk3 hbt
          simp only [List.append_toArray, List.nil_append, List.cons_append]
          go_enter Try.func23, Try.ntmps23
          go_wp2_with fail
          refine (gone_own _ p xs N c _ H_hx.out HA0.out.cur HA0.out.by8 ho HA0.out.apart hc hc').mono ?_
          rw [H_hxs.out]
          rintro e w1 ⟨hk, hcur, he⟩
          rw [H_hk2.out] at hcur
          rw [H_hk3.out, H_hbt.out] at he
          subst he
          have hA1 := HA0.out.call hk hcur
          clear hk hcur
          have HA1 := Lib.hid (hA1.put 0 (.bool true))
          have f1 := hA1.cells.free 0
          have g1 : w1.cell? ⟨D, 0, none⟩ = some (.bool false) := hA1.cells.cell 0 rfl
          clear hA1
          go_wp2_with fail
          refine (get_any _ p xs N c 1 _ H_hx.out HA1.out.cur HA1.out.by8 ho HA1.out.apart (by have := H_hx.out; have := H_hlen.out; omega) hc hc').mono ?_
          rw [H_hd1.out]
          rintro e w2 ⟨hk, ⟨he, rfl, hcur⟩ | ⟨he, rfl, hcur⟩⟩
          rotate_left
          · exact absurd h1 he
          clear he
          have hA2 := HA1.out.call hk hcur
          clear hk hcur
          have HA2 := Lib.hid (hA2.put 1 (.int .u64 (vget ys).x))
          have f2 := hA2.cells.free 1
          have g2 : w2.cell? ⟨D, 1, none⟩ = some (.int .u64 0) := hA2.cells.cell 1 rfl
          clear hA2
          go_wp2_with fail
          refine (gettext_any _ p xs N c (1 + (vget ys).n) 1 4096 1 4096 rfl rfl (by have := H_hx.out; have := H_hlen.out; omega) (by have := H_hx.out; have := H_hlen.out; omega) _ H_hx.out HA2.out.cur HA2.out.by8 ho HA2.out.apart (by have := H_hx.out; have := H_hlen.out; omega) hc hN9 hc').mono ?_
          rw [H_hd2.out]
          rintro e w3 ⟨hk, ⟨he, rfl, hcur⟩ | ⟨he, rfl, hcur⟩⟩
          rotate_left
          · exact absurd h2 he
          clear he
          have hA3 := HA2.out.call hk hcur
          clear hk hcur
          have HA3 := Lib.hid (hA3.put 2 (.string (strOfNums (vtext (ys.drop (vget ys).n) 1 4096).t)))
          have f3 := hA3.cells.free 2
          have g3 : w3.cell? ⟨D, 2, none⟩ = some (.string (strOfNums [])) := hA3.cells.cell 2 rfl
          have c3 : (w3.setCell ⟨D, 2, none⟩ (.string (strOfNums (vtext (ys.drop (vget ys).n) 1 4096).t))).cell? ⟨D, 0, none⟩ = some (.bool true) := HA3.out.cells.cell 0 rfl
          clear hA3
          go_wp2_with fail
          refine (end_more _ p N c (1 + (vget ys).n + (vtext (ys.drop (vget ys).n) 1 4096).n) _ HA3.out.cur (by have := H_hx.out; have := H_hlen.out; omega) (by have := H_hx.out; have := H_hlen.out; omega)).mono ?_
          rintro e w9 ⟨rfl, hcur, hk⟩
          exact ⟨rfl, (HA3.out.call hk hcur).gave (by decide)⟩
      · rw [if_neg h3b] at hR0
        have hbt : (b == 3) = false := by simpa using h3b
        by_cases h3 : (vtext (ys.drop ((vget ys).n + (vtext (ys.drop (vget ys).n) 1 4096).n)) 0 1048576).e = 0
        rotate_left
        · have hR : readR xs = ((vtext (ys.drop ((vget ys).n + (vtext (ys.drop (vget ys).n) 1 4096).n)) 0 1048576).e, Rec.none) := by rw [hR0, if_pos h3]
          refine ⟨1 + (vget ys).n + (vtext (ys.drop (vget ys).n) 1 4096).n + (vtext (ys.drop ((vget ys).n + (vtext (ys.drop (vget ys).n) 1 4096).n)) 0 1048576).n, ?_⟩
          intro W hA
          have HA0 := Lib.hid hA
          rw [hR]
          have H_hx := Lib.hid hx
          have H_hxs := Lib.hid hxs
          have H_hlen := Lib.hid hlen
          have H_hd1 := Lib.hid hd1
          have H_hd2 := Lib.hid hd2
          have H_hd3 := Lib.hid hd3
          have H_hk2 := Lib.hid hk2
          have H_hk3 := Lib.hid hk3
          have H_hbt := Lib.hid hbt
          clear hA hx hxs hlen hd1 hd2 hd3 hk2 hk3 hbt
          simp only [List.append_toArray, List.nil_append, List.cons_append]
          go_enter Try.func23, Try.ntmps23
          go_wp2_with fail
          refine (gone_own _ p xs N c _ H_hx.out HA0.out.cur HA0.out.by8 ho HA0.out.apart hc hc').mono ?_
          rw [H_hxs.out]
          rintro e w1 ⟨hk, hcur, he⟩
          rw [H_hk2.out] at hcur
          rw [H_hk3.out, H_hbt.out] at he
          subst he
          have hA1 := HA0.out.call hk hcur
          clear hk hcur
          have HA1 := Lib.hid (hA1.put 0 (.bool false))
          have f1 := hA1.cells.free 0
          have g1 : w1.cell? ⟨D, 0, none⟩ = some (.bool false) := hA1.cells.cell 0 rfl
          clear hA1
          go_wp2_with fail
          refine (get_any _ p xs N c 1 _ H_hx.out HA1.out.cur HA1.out.by8 ho HA1.out.apart (by have := H_hx.out; have := H_hlen.out; omega) hc hc').mono ?_
          rw [H_hd1.out]
          rintro e w2 ⟨hk, ⟨he, rfl, hcur⟩ | ⟨he, rfl, hcur⟩⟩
          rotate_left
          · exact absurd h1 he
          clear he
          have hA2 := HA1.out.call hk hcur
          clear hk hcur
          have HA2 := Lib.hid (hA2.put 1 (.int .u64 (vget ys).x))
          have f2 := hA2.cells.free 1
          have g2 : w2.cell? ⟨D, 1, none⟩ = some (.int .u64 0) := hA2.cells.cell 1 rfl
          clear hA2
          go_wp2_with fail
          refine (gettext_any _ p xs N c (1 + (vget ys).n) 1 4096 1 4096 rfl rfl (by have := H_hx.out; have := H_hlen.out; omega) (by have := H_hx.out; have := H_hlen.out; omega) _ H_hx.out HA2.out.cur HA2.out.by8 ho HA2.out.apart (by have := H_hx.out; have := H_hlen.out; omega) hc hN9 hc').mono ?_
          rw [H_hd2.out]
          rintro e w3 ⟨hk, ⟨he, rfl, hcur⟩ | ⟨he, rfl, hcur⟩⟩
          rotate_left
          · exact absurd h2 he
          clear he
          have hA3 := HA2.out.call hk hcur
          clear hk hcur
          have HA3 := Lib.hid (hA3.put 2 (.string (strOfNums (vtext (ys.drop (vget ys).n) 1 4096).t)))
          have f3 := hA3.cells.free 2
          have g3 : w3.cell? ⟨D, 2, none⟩ = some (.string (strOfNums [])) := hA3.cells.cell 2 rfl
          have c3 : (w3.setCell ⟨D, 2, none⟩ (.string (strOfNums (vtext (ys.drop (vget ys).n) 1 4096).t))).cell? ⟨D, 0, none⟩ = some (.bool false) := HA3.out.cells.cell 0 rfl
          clear hA3
          go_wp2_with fail
          refine (gettext_any _ p xs N c (1 + (vget ys).n + (vtext (ys.drop (vget ys).n) 1 4096).n) 0 1048576 0 1048576 rfl rfl (by have := H_hx.out; have := H_hlen.out; omega) (by have := H_hx.out; have := H_hlen.out; omega) _ H_hx.out HA3.out.cur HA3.out.by8 ho HA3.out.apart (by have := H_hx.out; have := H_hlen.out; omega) hc hN9 hc').mono ?_
          rw [H_hd3.out]
          rintro e w9 ⟨hk, ⟨he, rfl, hcur⟩ | ⟨he, rfl, hcur⟩⟩
          · exact absurd he h3
          · exact ⟨rfl, (HA3.out.call hk hcur).gave h3⟩
        rw [if_neg (by simpa using h3)] at hR0
        unfold readEnd at hR0
        have hl3 : (ys.drop ((vget ys).n + (vtext (ys.drop (vget ys).n) 1 4096).n + (vtext (ys.drop ((vget ys).n + (vtext (ys.drop (vget ys).n) 1 4096).n)) 0 1048576).n)).length = N - (1 + (vget ys).n + (vtext (ys.drop (vget ys).n) 1 4096).n + (vtext (ys.drop ((vget ys).n + (vtext (ys.drop (vget ys).n) 1 4096).n)) 0 1048576).n) := by rw [List.length_drop]; omega
        by_cases hend : 1 + (vget ys).n + (vtext (ys.drop (vget ys).n) 1 4096).n + (vtext (ys.drop ((vget ys).n + (vtext (ys.drop (vget ys).n) 1 4096).n)) 0 1048576).n = N
        · have hR : readR xs = (0, ⟨false, (vget ys).x.toNat, (vtext (ys.drop (vget ys).n) 1 4096).t, (vtext (ys.drop ((vget ys).n + (vtext (ys.drop (vget ys).n) 1 4096).n)) 0 1048576).t⟩) := by rw [hR0, if_pos (List.length_eq_zero_iff.1 (by omega))]
          refine ⟨1 + (vget ys).n + (vtext (ys.drop (vget ys).n) 1 4096).n + (vtext (ys.drop ((vget ys).n + (vtext (ys.drop (vget ys).n) 1 4096).n)) 0 1048576).n, ?_⟩
          intro W hA
          have HA0 := Lib.hid hA
          rw [hR]
          have H_hx := Lib.hid hx
          have H_hxs := Lib.hid hxs
          have H_hlen := Lib.hid hlen
          have H_hd1 := Lib.hid hd1
          have H_hd2 := Lib.hid hd2
          have H_hd3 := Lib.hid hd3
          have H_hk2 := Lib.hid hk2
          have H_hk3 := Lib.hid hk3
          have H_hbt := Lib.hid hbt
          have H_hend := Lib.hid hend
          have H_hxn := Lib.hid hxn
          clear hA hx hxs hlen hd1 hd2 hd3 hk2 hk3 hbt hend hxn
          simp only [List.append_toArray, List.nil_append, List.cons_append]
          go_enter Try.func23, Try.ntmps23
          go_wp2_with fail
          refine (gone_own _ p xs N c _ H_hx.out HA0.out.cur HA0.out.by8 ho HA0.out.apart hc hc').mono ?_
          rw [H_hxs.out]
          rintro e w1 ⟨hk, hcur, he⟩
          rw [H_hk2.out] at hcur
          rw [H_hk3.out, H_hbt.out] at he
          subst he
          have hA1 := HA0.out.call hk hcur
          clear hk hcur
          have HA1 := Lib.hid (hA1.put 0 (.bool false))
          have f1 := hA1.cells.free 0
          have g1 : w1.cell? ⟨D, 0, none⟩ = some (.bool false) := hA1.cells.cell 0 rfl
          clear hA1
          go_wp2_with fail
          refine (get_any _ p xs N c 1 _ H_hx.out HA1.out.cur HA1.out.by8 ho HA1.out.apart (by have := H_hx.out; have := H_hlen.out; omega) hc hc').mono ?_
          rw [H_hd1.out]
          rintro e w2 ⟨hk, ⟨he, rfl, hcur⟩ | ⟨he, rfl, hcur⟩⟩
          rotate_left
          · exact absurd h1 he
          clear he
          have hA2 := HA1.out.call hk hcur
          clear hk hcur
          have HA2 := Lib.hid (hA2.put 1 (.int .u64 (vget ys).x))
          have f2 := hA2.cells.free 1
          have g2 : w2.cell? ⟨D, 1, none⟩ = some (.int .u64 0) := hA2.cells.cell 1 rfl
          clear hA2
          go_wp2_with fail
          refine (gettext_any _ p xs N c (1 + (vget ys).n) 1 4096 1 4096 rfl rfl (by have := H_hx.out; have := H_hlen.out; omega) (by have := H_hx.out; have := H_hlen.out; omega) _ H_hx.out HA2.out.cur HA2.out.by8 ho HA2.out.apart (by have := H_hx.out; have := H_hlen.out; omega) hc hN9 hc').mono ?_
          rw [H_hd2.out]
          rintro e w3 ⟨hk, ⟨he, rfl, hcur⟩ | ⟨he, rfl, hcur⟩⟩
          rotate_left
          · exact absurd h2 he
          clear he
          have hA3 := HA2.out.call hk hcur
          clear hk hcur
          have HA3 := Lib.hid (hA3.put 2 (.string (strOfNums (vtext (ys.drop (vget ys).n) 1 4096).t)))
          have f3 := hA3.cells.free 2
          have g3 : w3.cell? ⟨D, 2, none⟩ = some (.string (strOfNums [])) := hA3.cells.cell 2 rfl
          have c3 : (w3.setCell ⟨D, 2, none⟩ (.string (strOfNums (vtext (ys.drop (vget ys).n) 1 4096).t))).cell? ⟨D, 0, none⟩ = some (.bool false) := HA3.out.cells.cell 0 rfl
          clear hA3
          go_wp2_with fail
          refine (gettext_any _ p xs N c (1 + (vget ys).n + (vtext (ys.drop (vget ys).n) 1 4096).n) 0 1048576 0 1048576 rfl rfl (by have := H_hx.out; have := H_hlen.out; omega) (by have := H_hx.out; have := H_hlen.out; omega) _ H_hx.out HA3.out.cur HA3.out.by8 ho HA3.out.apart (by have := H_hx.out; have := H_hlen.out; omega) hc hN9 hc').mono ?_
          rw [H_hd3.out]
          rintro e w4 ⟨hk, ⟨he, rfl, hcur⟩ | ⟨he, rfl, hcur⟩⟩
          rotate_left
          · exact absurd h3 he
          clear he
          have hA4 := HA3.out.call hk hcur
          clear hk hcur
          have HA4 := Lib.hid (hA4.put 3 (.string (strOfNums (vtext (ys.drop ((vget ys).n + (vtext (ys.drop (vget ys).n) 1 4096).n)) 0 1048576).t)))
          have f4 := hA4.cells.free 3
          have g4 : w4.cell? ⟨D, 3, none⟩ = some (.string (strOfNums [])) := hA4.cells.cell 3 rfl
          clear hA4
          go_wp2_with fail
          rw [← H_hxn.out] at HA4
          refine (end_whole _ p N c 0 _ (by have := HA4.out.cur; rw [show 1 + (vget ys).n + (vtext (ys.drop (vget ys).n) 1 4096).n + (vtext (ys.drop ((vget ys).n + (vtext (ys.drop (vget ys).n) 1 4096).n)) 0 1048576).n = N from H_hend.out] at this; exact this) (by have := H_hx.out; have := H_hlen.out; omega)).mono ?_
          rintro e w9 ⟨rfl, hcur, hk⟩
          have HA9 := Lib.hid (HA4.out.quiet hk)
          clear hk hcur
          go_wp2_with fail
          go_returns
          exact (show At7 w0 D p xs N c _ 0 (recCells ⟨false, (vget ys).x.toNat, (vtext (ys.drop (vget ys).n) 1 4096).t, (vtext (ys.drop ((vget ys).n + (vtext (ys.drop (vget ys).n) 1 4096).n)) 0 1048576).t⟩) w9 from HA9.out).done
        · have hR : readR xs = (3, Rec.none) := by rw [hR0, if_neg (fun h => by rw [h] at hl3; simp at hl3; omega)]
          refine ⟨1 + (vget ys).n + (vtext (ys.drop (vget ys).n) 1 4096).n + (vtext (ys.drop ((vget ys).n + (vtext (ys.drop (vget ys).n) 1 4096).n)) 0 1048576).n, ?_⟩
          intro W hA
          have HA0 := Lib.hid hA
          rw [hR]
          have H_hx := Lib.hid hx
          have H_hxs := Lib.hid hxs
          have H_hlen := Lib.hid hlen
          have H_hd1 := Lib.hid hd1
          have H_hd2 := Lib.hid hd2
          have H_hd3 := Lib.hid hd3
          have H_hk2 := Lib.hid hk2
          have H_hk3 := Lib.hid hk3
          have H_hbt := Lib.hid hbt
          clear hA hx hxs hlen hd1 hd2 hd3 hk2 hk3 hbt
          simp only [List.append_toArray, List.nil_append, List.cons_append]
          go_enter Try.func23, Try.ntmps23
          go_wp2_with fail
          refine (gone_own _ p xs N c _ H_hx.out HA0.out.cur HA0.out.by8 ho HA0.out.apart hc hc').mono ?_
          rw [H_hxs.out]
          rintro e w1 ⟨hk, hcur, he⟩
          rw [H_hk2.out] at hcur
          rw [H_hk3.out, H_hbt.out] at he
          subst he
          have hA1 := HA0.out.call hk hcur
          clear hk hcur
          have HA1 := Lib.hid (hA1.put 0 (.bool false))
          have f1 := hA1.cells.free 0
          have g1 : w1.cell? ⟨D, 0, none⟩ = some (.bool false) := hA1.cells.cell 0 rfl
          clear hA1
          go_wp2_with fail
          refine (get_any _ p xs N c 1 _ H_hx.out HA1.out.cur HA1.out.by8 ho HA1.out.apart (by have := H_hx.out; have := H_hlen.out; omega) hc hc').mono ?_
          rw [H_hd1.out]
          rintro e w2 ⟨hk, ⟨he, rfl, hcur⟩ | ⟨he, rfl, hcur⟩⟩
          rotate_left
          · exact absurd h1 he
          clear he
          have hA2 := HA1.out.call hk hcur
          clear hk hcur
          have HA2 := Lib.hid (hA2.put 1 (.int .u64 (vget ys).x))
          have f2 := hA2.cells.free 1
          have g2 : w2.cell? ⟨D, 1, none⟩ = some (.int .u64 0) := hA2.cells.cell 1 rfl
          clear hA2
          go_wp2_with fail
          refine (gettext_any _ p xs N c (1 + (vget ys).n) 1 4096 1 4096 rfl rfl (by have := H_hx.out; have := H_hlen.out; omega) (by have := H_hx.out; have := H_hlen.out; omega) _ H_hx.out HA2.out.cur HA2.out.by8 ho HA2.out.apart (by have := H_hx.out; have := H_hlen.out; omega) hc hN9 hc').mono ?_
          rw [H_hd2.out]
          rintro e w3 ⟨hk, ⟨he, rfl, hcur⟩ | ⟨he, rfl, hcur⟩⟩
          rotate_left
          · exact absurd h2 he
          clear he
          have hA3 := HA2.out.call hk hcur
          clear hk hcur
          have HA3 := Lib.hid (hA3.put 2 (.string (strOfNums (vtext (ys.drop (vget ys).n) 1 4096).t)))
          have f3 := hA3.cells.free 2
          have g3 : w3.cell? ⟨D, 2, none⟩ = some (.string (strOfNums [])) := hA3.cells.cell 2 rfl
          have c3 : (w3.setCell ⟨D, 2, none⟩ (.string (strOfNums (vtext (ys.drop (vget ys).n) 1 4096).t))).cell? ⟨D, 0, none⟩ = some (.bool false) := HA3.out.cells.cell 0 rfl
          clear hA3
          go_wp2_with fail
          refine (gettext_any _ p xs N c (1 + (vget ys).n + (vtext (ys.drop (vget ys).n) 1 4096).n) 0 1048576 0 1048576 rfl rfl (by have := H_hx.out; have := H_hlen.out; omega) (by have := H_hx.out; have := H_hlen.out; omega) _ H_hx.out HA3.out.cur HA3.out.by8 ho HA3.out.apart (by have := H_hx.out; have := H_hlen.out; omega) hc hN9 hc').mono ?_
          rw [H_hd3.out]
          rintro e w4 ⟨hk, ⟨he, rfl, hcur⟩ | ⟨he, rfl, hcur⟩⟩
          rotate_left
          · exact absurd h3 he
          clear he
          have hA4 := HA3.out.call hk hcur
          clear hk hcur
          have HA4 := Lib.hid (hA4.put 3 (.string (strOfNums (vtext (ys.drop ((vget ys).n + (vtext (ys.drop (vget ys).n) 1 4096).n)) 0 1048576).t)))
          have f4 := hA4.cells.free 3
          have g4 : w4.cell? ⟨D, 3, none⟩ = some (.string (strOfNums [])) := hA4.cells.cell 3 rfl
          clear hA4
          go_wp2_with fail
          refine (end_more _ p N c (1 + (vget ys).n + (vtext (ys.drop (vget ys).n) 1 4096).n + (vtext (ys.drop ((vget ys).n + (vtext (ys.drop (vget ys).n) 1 4096).n)) 0 1048576).n) _ HA4.out.cur (by have := H_hx.out; have := H_hlen.out; omega) (by have := H_hx.out; have := H_hlen.out; omega)).mono ?_
          rintro e w9 ⟨rfl, hcur, hk⟩
          exact ⟨rfl, (HA4.out.call hk hcur).gave (by decide)⟩
end Go.Proofs.Ytnfgmgonpecdmaa

/-
  RecRead; FrRead; ConfRef2; ConfRef3; ConfLaws; ConfOwn.
-/
import Derived.Test.YtjjeaaiajgbncaaM03
import Derived.Test.YtjjeaaiajgbncaaM11
import Derived.Test.YtjjeaaiajgbncaaM14
namespace Go.Proofs.Ytjjeaaiajgbncaa
open Go.RowKit

theorem end_whole (k : Nat) (p : Option Addr) (N c : Nat) (y : Int) (w : World) (h : CurB w k p N c N true y) (hc : (N : Int) ≤ 9223372036854775807) :
    Calls Try.prog 72 #[.pointer (some ⟨k, 0, none⟩)] w fun e w' => e = .returned (.tuple #[]) ∧ CurB w' k p N c N true y ∧ Keeps NoBlock w w' := by
  have H := Lib.hid h; clear h
  go_enter Try.func72, Try.ntmps72
  go_wp2_with fail
  refine (left_at k p N c N y _ H.out (Nat.le_refl _) hc).mono ?_
  rintro e w' ⟨rfl, m, rfl⟩
  go_wp2_with fail
  go_returns
  exact ⟨rfl, Whole.drewN H.out m, (Keeps.refl _ _).drewN m⟩

theorem end_more (k : Nat) (p : Option Addr) (N c a : Nat) (w : World) (h : CurB w k p N c a true 0) (ha : a < N) (hc : (N : Int) ≤ 9223372036854775807) :
    Calls Try.prog 72 #[.pointer (some ⟨k, 0, none⟩)] w fun e w' => e = .panicked (given k) ∧ CurB w' k p N c a true 3 ∧ Keeps (Just k) w w' := by
  have H := Lib.hid h; clear h
  have hlt : (0 : Int) < (N : Int) - (a : Int) := by omega
  go_enter Try.func72, Try.ntmps72
  go_wp2_with fail
  refine (left_at k p N c a 0 _ H.out (by omega) hc).mono ?_
  rintro e w' ⟨rfl, m, rfl⟩
  go_wp2_with fail
  refine (fail_at k p N c a 3 _ (Whole.drewN H.out m) (by decide)).mono ?_
  rintro e w2 ⟨rfl, hcur, hk⟩
  exact ⟨rfl, rfl, hcur, ((Keeps.refl (Just k) w).drewN m).trans hk⟩

/-- What the reading leaves: the record in block D, if there is one. -/
def Left7 (w0 : World) (D : Nat) (t : Int × Rec) (w2 : World) : Prop :=
  Keeps (Just D) w0 w2 ∧ (t.1 = 0 → Whole w2 D 35 (recCells t.2))

/-- Within the reading: the cursor at a, the record's cells in block D, the bytes as they were. -/
structure At7 (w0 : World) (D : Nat) (p : Option Addr) (xs : List Int) (N c a : Nat) (y : Int) (cs : Array Value) (W : World) : Prop where
  beg : Begun w0 p N c a y W
  cells : Whole W D 35 cs
  by8 : Bytes8 W p xs
  kp : Keeps (Just D) w0 W
  lt : D < w0.heap.size
  far : 0 < xs.length → ∀ q, p = some q → q.block < w0.heap.size ∧ q.block ≠ D

theorem At7.cur {w0 : World} {D : Nat} {p : Option Addr} {xs : List Int} {N c a : Nat} {y : Int} {cs : Array Value} {W : World} (h : At7 w0 D p xs N c a y cs W) : CurB W (w0.heap.size + 1 + 1) p N c a true y := h.beg.cur
theorem At7.apart {w0 : World} {D : Nat} {p : Option Addr} {xs : List Int} {N c a : Nat} {y : Int} {cs : Array Value} {W : World} (h : At7 w0 D p xs N c a y cs W) : 0 < xs.length → ∀ q, p = some q → q.block ≠ w0.heap.size + 1 + 1 := fun h0 q hq => by have := (h.far h0 q hq).1; omega
theorem At7.call {w0 : World} {D : Nat} {p : Option Addr} {xs : List Int} {N c a : Nat} {y : Int} {cs : Array Value} {W : World} (h : At7 w0 D p xs N c a y cs W) {W' : World} {b : Nat} {z : Int} (hk : Keeps (Just (w0.heap.size + 1 + 1)) W W') (hc : CurB W' (w0.heap.size + 1 + 1) p N c b true z) : At7 w0 D p xs N c b z cs W' :=
  ⟨h.beg.keep hk hc, h.cells.keep hk (by have := h.lt; unfold Just; omega), h.by8.keepPos hk (fun h0 q hq => by have := (h.far h0 q hq).1; unfold Just; omega), h.kp.then hk (fun i hi hj => by unfold Just at hj; omega), h.lt, h.far⟩
theorem At7.quiet {w0 : World} {D : Nat} {p : Option Addr} {xs : List Int} {N c a : Nat} {y : Int} {cs : Array Value} {W : World} (h : At7 w0 D p xs N c a y cs W) {W' : World} (hk : Keeps NoBlock W W') : At7 w0 D p xs N c a y cs W' :=
  h.call (hk.wider (fun _ _ hj => hj.elim)) (Whole.keep h.cur hk (fun hj => hj))
theorem At7.put {w0 : World} {D : Nat} {p : Option Addr} {xs : List Int} {N c a : Nat} {y : Int} {cs : Array Value} {W : World} (h : At7 w0 D p xs N c a y cs W) (i : Nat) (v : Value) : At7 w0 D p xs N c a y (cs.setIfInBounds i v) (W.setCell ⟨D, i, none⟩ v) :=
  ⟨⟨h.beg.at_.setOther (by have := h.lt; simp; omega) v, h.beg.why.setOther (by have := h.lt; simp; omega) v, Whole.setOther h.beg.cur (by have := h.lt; simp; omega) v, h.beg.var.setOther (by have := h.lt; simp; omega) v⟩,
    h.cells.set i v, h.by8.keepPos ((Keeps.refl (Just D) W).setIn (Just.self D) i v) (fun h0 q hq => (h.far h0 q hq).2), h.kp.setIn (Just.self D) i v, h.lt, h.far⟩
theorem At7.gave {w0 : World} {D : Nat} {p : Option Addr} {xs : List Int} {N c a : Nat} {y : Int} {cs : Array Value} {W : World} (h : At7 w0 D p xs N c a y cs W) (hy : y ≠ 0) {r : Rec} : ReadEnds w0 p N c a y (Left7 w0 D (y, r)) (.panicked (given (w0.heap.size + 1 + 1))) W :=
  ⟨.inr (gave_given _), h.beg, h.kp, fun h0 => absurd h0 hy⟩
theorem At7.done {w0 : World} {D : Nat} {p : Option Addr} {xs : List Int} {N c a : Nat} {W : World} {r : Rec} (h : At7 w0 D p xs N c a 0 (recCells r) W) : ReadEnds w0 p N c a 0 (Left7 w0 D (0, r)) (.returned (.tuple #[])) W :=
  ⟨.inl rfl, h.beg, h.kp, fun _ => h.cells⟩

theorem enter_readIn7 (args : Array Value) (w : World) : (callFunc 68 args).run Try.prog w = .ok (.enter 68 args) w := by kernel_rfl

theorem drop_succ (b : Int) (ys : List Int) (n : Nat) : (b :: ys).drop (1 + n) = ys.drop n := by rw [Nat.add_comm, List.drop_succ_cons]

/-- The reading, from its beginning, ends at a. -/
def Ends7 (w0 : World) (D : Nat) (p : Option Addr) (xs : List Int) (N c a : Nat) : Prop := ∀ W, At7 w0 D p xs N c 0 0 (recCells Rec.none) W →
    Calls Try.prog 68 (#[.pointer (some ⟨w0.heap.size + 1 + 1, 0, none⟩)] ++ #[.pointer (some ⟨D, 0, none⟩)]) W (ReadEnds w0 p N c a (readR xs).1 (Left7 w0 D (readR xs)))

set_option maxHeartbeats 8000000 in
set_option maxRecDepth 10000 in
theorem readIn7 (w0 : World) (D : Nat) (p : Option Addr) (xs : List Int) (N c : Nat) (hx : N = xs.length) (ho : Octets xs) (hc : N ≤ c) (hN9 : N ≤ 140737488355328) (hc' : c ≤ 9223372036854775807) :
    ∃ a, Ends7 w0 D p xs N c a := by
  cases hxs : xs with
  | nil =>
    have hR : readR xs = (2, Rec.none) := by rw [hxs]; rfl
    rw [← hxs]
    refine ⟨0, ?_⟩
    intro W hA
    have HA0 := Lib.hid hA
    rw [hR]
    have H_hx := Lib.hid hx
    have H_hxs := Lib.hid hxs
    clear hA hx hxs
    simp only [List.append_toArray, List.nil_append, List.cons_append]
    go_enter Try.func68, Try.ntmps68
    go_wp2_with fail
    refine (gone_own _ p xs N c _ H_hx.out HA0.out.cur HA0.out.by8 ho HA0.out.apart hc hc').mono ?_
    rw [H_hxs.out]
    rintro e w1 ⟨rfl, hcur, hk⟩
    exact ⟨rfl, (HA0.out.call hk hcur).gave (by decide)⟩
  | cons b ys =>
    have hd1 : xs.drop 1 = ys := by rw [hxs]; rfl
    have hd2 : xs.drop (1 + (vget ys).n) = ys.drop (vget ys).n := by rw [hxs, drop_succ]
    have hd3 : xs.drop (1 + (vget ys).n + (vtext (ys.drop (vget ys).n) 1 4096).n) = ys.drop ((vget ys).n + (vtext (ys.drop (vget ys).n) 1 4096).n) := by rw [hxs, Nat.add_assoc, drop_succ]
    have hlen : N = 1 + ys.length := by rw [hx, hxs, List.length_cons]; omega
    have n1 : (vget ys).n ≤ ys.length := vread_n 10 true ys
    have n2 : (vtext (ys.drop (vget ys).n) 1 4096).n ≤ ys.length - (vget ys).n := by rw [← List.length_drop]; exact vtext_n _ 1 4096
    have n3 : (vtext (ys.drop ((vget ys).n + (vtext (ys.drop (vget ys).n) 1 4096).n)) 0 1048576).n ≤ ys.length - (vget ys).n - (vtext (ys.drop (vget ys).n) 1 4096).n := by rw [Nat.sub_sub, ← List.length_drop]; exact vtext_n _ 0 1048576
    rw [← hxs]
    by_cases hb : b ≠ 2 ∧ b ≠ 3
    · have hR : readR xs = (4, Rec.none) := by
        rw [hxs]
        show readKind b ys = _
        unfold readKind
        rw [if_pos hb]
      refine ⟨1, ?_⟩
      intro W hA
      have HA0 := Lib.hid hA
      rw [hR]
      have H_hx := Lib.hid hx
      have H_hxs := Lib.hid hxs
      have H_hlen := Lib.hid hlen
      have H_hb := Lib.hid hb
      clear hA hx hxs hlen hb
      simp only [List.append_toArray, List.nil_append, List.cons_append]
      go_enter Try.func68, Try.ntmps68
      go_wp2_with fail
      refine (gone_own _ p xs N c _ H_hx.out HA0.out.cur HA0.out.by8 ho HA0.out.apart hc hc').mono ?_
      rw [H_hxs.out]
      rintro e w1 ⟨hk, hcur, rfl⟩
      rw [if_pos H_hb.out] at hcur ⊢
      exact ⟨rfl, (HA0.out.call hk hcur).gave (by decide)⟩
    · have hk2 : (if b ≠ 2 ∧ b ≠ 3 then (4 : Int) else 0) = 0 := if_neg hb
      have hk3 : (if b ≠ 2 ∧ b ≠ 3 then Ending.panicked (given (w0.heap.size + 1 + 1)) else Ending.returned (.bool (b == 3))) = .returned (.bool (b == 3)) := if_neg hb
      have hR0 : readR xs = if (vget ys).e ≠ 0 then ((vget ys).e, Rec.none) else readKey b (vget ys).x.toNat (ys.drop (vget ys).n) := by
        rw [hxs]
        show readKind b ys = _
        unfold readKind
        rw [if_neg hb]
      by_cases h1 : (vget ys).e = 0
      rotate_left
      · have hR : readR xs = ((vget ys).e, Rec.none) := by rw [hR0, if_pos h1]
        refine ⟨1 + (vget ys).n, ?_⟩
        intro W hA
        have HA0 := Lib.hid hA
        rw [hR]
        have H_hx := Lib.hid hx
        have H_hxs := Lib.hid hxs
        have H_hlen := Lib.hid hlen
        have H_hd1 := Lib.hid hd1
        have H_hk2 := Lib.hid hk2
        have H_hk3 := Lib.hid hk3
        clear hA hx hxs hlen hd1 hk2 hk3
        simp only [List.append_toArray, List.nil_append, List.cons_append]
        go_enter Try.func68, Try.ntmps68
        go_wp2_with fail
        refine (gone_own _ p xs N c _ H_hx.out HA0.out.cur HA0.out.by8 ho HA0.out.apart hc hc').mono ?_
        rw [H_hxs.out]
        rintro e w1 ⟨hk, hcur, he⟩
        rw [H_hk2.out] at hcur
        rw [H_hk3.out] at he
        subst he
        have hA1 := HA0.out.call hk hcur
        clear hk hcur
        have HA1 := Lib.hid (hA1.put 0 (.bool (b == 3)))
        have f1 := hA1.cells.free 0
        have g1 : w1.cell? ⟨D, 0, none⟩ = some (.bool false) := hA1.cells.cell 0 rfl
        clear hA1
        go_wp2_with fail
        refine (get_any _ p xs N c 1 _ H_hx.out HA1.out.cur HA1.out.by8 ho HA1.out.apart (by have := H_hx.out; have := H_hlen.out; omega) hc hc').mono ?_
        rw [H_hd1.out]
        rintro e w9 ⟨hk, ⟨he, rfl, hcur⟩ | ⟨he, rfl, hcur⟩⟩
        · exact absurd he h1
        · exact ⟨rfl, (HA1.out.call hk hcur).gave h1⟩
      rw [if_neg (by simpa using h1)] at hR0
      have hxb := vread_bound 9 true ys (fun z hz => ho z (by rw [hxs]; exact List.mem_cons_of_mem _ hz)) h1
      have hxn : (((vget ys).x.toNat : Nat) : Int) = (vget ys).x := Int.toNat_of_nonneg hxb.1
      clear hxb
      unfold readKey at hR0
      simp only [List.drop_drop] at hR0
      by_cases h2 : (vtext (ys.drop (vget ys).n) 1 4096).e = 0
      rotate_left
      · have hR : readR xs = ((vtext (ys.drop (vget ys).n) 1 4096).e, Rec.none) := by rw [hR0, if_pos h2]
        refine ⟨1 + (vget ys).n + (vtext (ys.drop (vget ys).n) 1 4096).n, ?_⟩
        intro W hA
        have HA0 := Lib.hid hA
        rw [hR]
        have H_hx := Lib.hid hx
        have H_hxs := Lib.hid hxs
        have H_hlen := Lib.hid hlen
        have H_hd1 := Lib.hid hd1
        have H_hd2 := Lib.hid hd2
        have H_hk2 := Lib.hid hk2
        have H_hk3 := Lib.hid hk3
        clear hA hx hxs hlen hd1 hd2 hk2 hk3
        simp only [List.append_toArray, List.nil_append, List.cons_append]
        go_enter Try.func68, Try.ntmps68
        go_wp2_with fail
        refine (gone_own _ p xs N c _ H_hx.out HA0.out.cur HA0.out.by8 ho HA0.out.apart hc hc').mono ?_
        rw [H_hxs.out]
        rintro e w1 ⟨hk, hcur, he⟩
        rw [H_hk2.out] at hcur
        rw [H_hk3.out] at he
        subst he
        have hA1 := HA0.out.call hk hcur
        clear hk hcur
        have HA1 := Lib.hid (hA1.put 0 (.bool (b == 3)))
        have f1 := hA1.cells.free 0
        have g1 : w1.cell? ⟨D, 0, none⟩ = some (.bool false) := hA1.cells.cell 0 rfl
        clear hA1
        go_wp2_with fail
        refine (get_any _ p xs N c 1 _ H_hx.out HA1.out.cur HA1.out.by8 ho HA1.out.apart (by have := H_hx.out; have := H_hlen.out; omega) hc hc').mono ?_
        rw [H_hd1.out]
        rintro e w2 ⟨hk, ⟨he, rfl, hcur⟩ | ⟨he, rfl, hcur⟩⟩
        rotate_left
        · exact absurd h1 he
        clear he
        have hA2 := HA1.out.call hk hcur
        clear hk hcur
        have HA2 := Lib.hid (hA2.put 1 (.int .u64 (vget ys).x))
        have f2 := hA2.cells.free 1
        have g2 : w2.cell? ⟨D, 1, none⟩ = some (.int .u64 0) := hA2.cells.cell 1 rfl
        clear hA2
        go_wp2_with fail
        refine (gettext_any _ p xs N c (1 + (vget ys).n) 1 4096 1 4096 rfl rfl (by have := H_hx.out; have := H_hlen.out; omega) (by have := H_hx.out; have := H_hlen.out; omega) _ H_hx.out HA2.out.cur HA2.out.by8 ho HA2.out.apart (by have := H_hx.out; have := H_hlen.out; omega) hc hN9 hc').mono ?_
        rw [H_hd2.out]
        rintro e w9 ⟨hk, ⟨he, rfl, hcur⟩ | ⟨he, rfl, hcur⟩⟩
        · exact absurd he h2
        · exact ⟨rfl, (HA2.out.call hk hcur).gave h2⟩
      rw [if_neg (by simpa using h2)] at hR0
      by_cases h3b : b = 3
      · rw [if_pos h3b] at hR0
        have hbt : (b == 3) = true := by rw [h3b]; rfl
        unfold readEnd at hR0
        have hl3 : (ys.drop ((vget ys).n + (vtext (ys.drop (vget ys).n) 1 4096).n)).length = N - (1 + (vget ys).n + (vtext (ys.drop (vget ys).n) 1 4096).n) := by rw [List.length_drop]; omega
        by_cases hend : 1 + (vget ys).n + (vtext (ys.drop (vget ys).n) 1 4096).n = N
        · have hR : readR xs = (0, ⟨true, (vget ys).x.toNat, (vtext (ys.drop (vget ys).n) 1 4096).t, []⟩) := by rw [hR0, if_pos (List.length_eq_zero_iff.1 (by omega))]
          refine ⟨1 + (vget ys).n + (vtext (ys.drop (vget ys).n) 1 4096).n, ?_⟩
          intro W hA
          have HA0 := Lib.hid hA
          rw [hR]
          have H_hx := Lib.hid hx
          have H_hxs := Lib.hid hxs
          have H_hlen := Lib.hid hlen
          have H_hd1 := Lib.hid hd1
          have H_hd2 := Lib.hid hd2
          have H_hk2 := Lib.hid hk2
          have H_hk3 := Lib.hid hk3
          have H_hbt := Lib.hid hbt
          have H_hend := Lib.hid hend
          have H_hxn := Lib.hid hxn
          clear hA hx hxs hlen hd1 hd2 hk2 hk3 hbt hend hxn
          simp only [List.append_toArray, List.nil_append, List.cons_append]
          go_enter Try.func68, Try.ntmps68
          go_wp2_with fail
          refine (gone_own _ p xs N c _ H_hx.out HA0.out.cur HA0.out.by8 ho HA0.out.apart hc hc').mono ?_
          rw [H_hxs.out]
          rintro e w1 ⟨hk, hcur, he⟩
          rw [H_hk2.out] at hcur
          rw [H_hk3.out, H_hbt.out] at he
          subst he
          have hA1 := HA0.out.call hk hcur
          clear hk hcur
          have HA1 := Lib.hid (hA1.put 0 (.bool true))
          have f1 := hA1.cells.free 0
          have g1 : w1.cell? ⟨D, 0, none⟩ = some (.bool false) := hA1.cells.cell 0 rfl
          clear hA1
          go_wp2_with fail
          refine (get_any _ p xs N c 1 _ H_hx.out HA1.out.cur HA1.out.by8 ho HA1.out.apart (by have := H_hx.out; have := H_hlen.out; omega) hc hc').mono ?_
          rw [H_hd1.out]
          rintro e w2 ⟨hk, ⟨he, rfl, hcur⟩ | ⟨he, rfl, hcur⟩⟩
          rotate_left
          · exact absurd h1 he
          clear he
          have hA2 := HA1.out.call hk hcur
          clear hk hcur
          have HA2 := Lib.hid (hA2.put 1 (.int .u64 (vget ys).x))
          have f2 := hA2.cells.free 1
          have g2 : w2.cell? ⟨D, 1, none⟩ = some (.int .u64 0) := hA2.cells.cell 1 rfl
          clear hA2
          go_wp2_with fail
          refine (gettext_any _ p xs N c (1 + (vget ys).n) 1 4096 1 4096 rfl rfl (by have := H_hx.out; have := H_hlen.out; omega) (by have := H_hx.out; have := H_hlen.out; omega) _ H_hx.out HA2.out.cur HA2.out.by8 ho HA2.out.apart (by have := H_hx.out; have := H_hlen.out; omega) hc hN9 hc').mono ?_
          rw [H_hd2.out]
          rintro e w3 ⟨hk, ⟨he, rfl, hcur⟩ | ⟨he, rfl, hcur⟩⟩
          rotate_left
          · exact absurd h2 he
          clear he
          have hA3 := HA2.out.call hk hcur
          clear hk hcur
          have HA3 := Lib.hid (hA3.put 2 (.string (strOfNums (vtext (ys.drop (vget ys).n) 1 4096).t)))
          have f3 := hA3.cells.free 2
          have g3 : w3.cell? ⟨D, 2, none⟩ = some (.string (strOfNums [])) := hA3.cells.cell 2 rfl
          have c3 : (w3.setCell ⟨D, 2, none⟩ (.string (strOfNums (vtext (ys.drop (vget ys).n) 1 4096).t))).cell? ⟨D, 0, none⟩ = some (.bool true) := HA3.out.cells.cell 0 rfl
          clear hA3
          go_wp2_with fail
          rw [← H_hxn.out] at HA3
          refine (end_whole _ p N c 0 _ (by have := HA3.out.cur; rw [show 1 + (vget ys).n + (vtext (ys.drop (vget ys).n) 1 4096).n = N from H_hend.out] at this; exact this) (by have := H_hx.out; have := H_hlen.out; omega)).mono ?_
          rintro e w9 ⟨rfl, hcur, hk⟩
          have HA9 := Lib.hid (HA3.out.quiet hk)
          clear hk hcur
          go_wp2_with fail
          go_returns
          exact (show At7 w0 D p xs N c _ 0 (recCells ⟨true, (vget ys).x.toNat, (vtext (ys.drop (vget ys).n) 1 4096).t, []⟩) w9 from HA9.out).done
        · have hR : readR xs = (3, Rec.none) := by rw [hR0, if_neg (fun h => by rw [h] at hl3; simp at hl3; omega)]
          refine ⟨1 + (vget ys).n + (vtext (ys.drop (vget ys).n) 1 4096).n, ?_⟩
          intro W hA
          have HA0 := Lib.hid hA
          rw [hR]
          have H_hx := Lib.hid hx
          have H_hxs := Lib.hid hxs
          have H_hlen := Lib.hid hlen
          have H_hd1 := Lib.hid hd1
          have H_hd2 := Lib.hid hd2
          have H_hk2 := Lib.hid hk2
          have H_hk3 := Lib.hid hk3
          have H_hbt := Lib.hid hbt
          clear hA hx hxs hlen hd1 hd2 hk2 hk3 hbt
          simp only [List.append_toArray, List.nil_append, List.cons_append]
          go_enter Try.func68, Try.ntmps68
          go_wp2_with fail
          refine (gone_own _ p xs N c _ H_hx.out HA0.out.cur HA0.out.by8 ho HA0.out.apart hc hc').mono ?_
          rw [H_hxs.out]
          rintro e w1 ⟨hk, hcur, he⟩
          rw [H_hk2.out] at hcur
          rw [H_hk3.out, H_hbt.out] at he
          subst he
          have hA1 := HA0.out.call hk hcur
          clear hk hcur
          have HA1 := Lib.hid (hA1.put 0 (.bool true))
          have f1 := hA1.cells.free 0
          have g1 : w1.cell? ⟨D, 0, none⟩ = some (.bool false) := hA1.cells.cell 0 rfl
          clear hA1
          go_wp2_with fail
          refine (get_any _ p xs N c 1 _ H_hx.out HA1.out.cur HA1.out.by8 ho HA1.out.apart (by have := H_hx.out; have := H_hlen.out; omega) hc hc').mono ?_
          rw [H_hd1.out]
          rintro e w2 ⟨hk, ⟨he, rfl, hcur⟩ | ⟨he, rfl, hcur⟩⟩
          rotate_left
          · exact absurd h1 he
          clear he
          have hA2 := HA1.out.call hk hcur
          clear hk hcur
          have HA2 := Lib.hid (hA2.put 1 (.int .u64 (vget ys).x))
          have f2 := hA2.cells.free 1
          have g2 : w2.cell? ⟨D, 1, none⟩ = some (.int .u64 0) := hA2.cells.cell 1 rfl
          clear hA2
          go_wp2_with fail
          refine (gettext_any _ p xs N c (1 + (vget ys).n) 1 4096 1 4096 rfl rfl (by have := H_hx.out; have := H_hlen.out; omega) (by have := H_hx.out; have := H_hlen.out; omega) _ H_hx.out HA2.out.cur HA2.out.by8 ho HA2.out.apart (by have := H_hx.out; have := H_hlen.out; omega) hc hN9 hc').mono ?_
          rw [H_hd2.out]
          rintro e w3 ⟨hk, ⟨he, rfl, hcur⟩ | ⟨he, rfl, hcur⟩⟩
          rotate_left
          · exact absurd h2 he
          clear he
          have hA3 := HA2.out.call hk hcur
          clear hk hcur
          have HA3 := Lib.hid (hA3.put 2 (.string (strOfNums (vtext (ys.drop (vget ys).n) 1 4096).t)))
          have f3 := hA3.cells.free 2
          have g3 : w3.cell? ⟨D, 2, none⟩ = some (.string (strOfNums [])) := hA3.cells.cell 2 rfl
          have c3 : (w3.setCell ⟨D, 2, none⟩ (.string (strOfNums (vtext (ys.drop (vget ys).n) 1 4096).t))).cell? ⟨D, 0, none⟩ = some (.bool true) := HA3.out.cells.cell 0 rfl
          clear hA3
          go_wp2_with fail
          refine (end_more _ p N c (1 + (vget ys).n + (vtext (ys.drop (vget ys).n) 1 4096).n) _ HA3.out.cur (by have := H_hx.out; have := H_hlen.out; omega) (by have := H_hx.out; have := H_hlen.out; omega)).mono ?_
          rintro e w9 ⟨rfl, hcur, hk⟩
          exact ⟨rfl, (HA3.out.call hk hcur).gave (by decide)⟩
      · rw [if_neg h3b] at hR0
        have hbt : (b == 3) = false := by simpa using h3b
        by_cases h3 : (vtext (ys.drop ((vget ys).n + (vtext (ys.drop (vget ys).n) 1 4096).n)) 0 1048576).e = 0
        rotate_left
        · have hR : readR xs = ((vtext (ys.drop ((vget ys).n + (vtext (ys.drop (vget ys).n) 1 4096).n)) 0 1048576).e, Rec.none) := by rw [hR0, if_pos h3]
          refine ⟨1 + (vget ys).n + (vtext (ys.drop (vget ys).n) 1 4096).n + (vtext (ys.drop ((vget ys).n + (vtext (ys.drop (vget ys).n) 1 4096).n)) 0 1048576).n, ?_⟩
          intro W hA
          have HA0 := Lib.hid hA
          rw [hR]
          have H_hx := Lib.hid hx
          have H_hxs := Lib.hid hxs
          have H_hlen := Lib.hid hlen
          have H_hd1 := Lib.hid hd1
          have H_hd2 := Lib.hid hd2
          have H_hd3 := Lib.hid hd3
          have H_hk2 := Lib.hid hk2
          have H_hk3 := Lib.hid hk3
          have H_hbt := Lib.hid hbt
          clear hA hx hxs hlen hd1 hd2 hd3 hk2 hk3 hbt
          simp only [List.append_toArray, List.nil_append, List.cons_append]
          go_enter Try.func68, Try.ntmps68
          go_wp2_with fail
          refine (gone_own _ p xs N c _ H_hx.out HA0.out.cur HA0.out.by8 ho HA0.out.apart hc hc').mono ?_
          rw [H_hxs.out]
          rintro e w1 ⟨hk, hcur, he⟩
          rw [H_hk2.out] at hcur
          rw [H_hk3.out, H_hbt.out] at he
          subst he
          have hA1 := HA0.out.call hk hcur
          clear hk hcur
          have HA1 := Lib.hid (hA1.put 0 (.bool false))
          have f1 := hA1.cells.free 0
          have g1 : w1.cell? ⟨D, 0, none⟩ = some (.bool false) := hA1.cells.cell 0 rfl
          clear hA1
          go_wp2_with fail
          refine (get_any _ p xs N c 1 _ H_hx.out HA1.out.cur HA1.out.by8 ho HA1.out.apart (by have := H_hx.out; have := H_hlen.out; omega) hc hc').mono ?_
          rw [H_hd1.out]
          rintro e w2 ⟨hk, ⟨he, rfl, hcur⟩ | ⟨he, rfl, hcur⟩⟩
          rotate_left
          · exact absurd h1 he
          clear he
          have hA2 := HA1.out.call hk hcur
          clear hk hcur
          have HA2 := Lib.hid (hA2.put 1 (.int .u64 (vget ys).x))
          have f2 := hA2.cells.free 1
          have g2 : w2.cell? ⟨D, 1, none⟩ = some (.int .u64 0) := hA2.cells.cell 1 rfl
          clear hA2
          go_wp2_with fail
          refine (gettext_any _ p xs N c (1 + (vget ys).n) 1 4096 1 4096 rfl rfl (by have := H_hx.out; have := H_hlen.out; omega) (by have := H_hx.out; have := H_hlen.out; omega) _ H_hx.out HA2.out.cur HA2.out.by8 ho HA2.out.apart (by have := H_hx.out; have := H_hlen.out; omega) hc hN9 hc').mono ?_
          rw [H_hd2.out]
          rintro e w3 ⟨hk, ⟨he, rfl, hcur⟩ | ⟨he, rfl, hcur⟩⟩
          rotate_left
          · exact absurd h2 he
          clear he
          have hA3 := HA2.out.call hk hcur
          clear hk hcur
          have HA3 := Lib.hid (hA3.put 2 (.string (strOfNums (vtext (ys.drop (vget ys).n) 1 4096).t)))
          have f3 := hA3.cells.free 2
          have g3 : w3.cell? ⟨D, 2, none⟩ = some (.string (strOfNums [])) := hA3.cells.cell 2 rfl
          have c3 : (w3.setCell ⟨D, 2, none⟩ (.string (strOfNums (vtext (ys.drop (vget ys).n) 1 4096).t))).cell? ⟨D, 0, none⟩ = some (.bool false) := HA3.out.cells.cell 0 rfl
          clear hA3
          go_wp2_with fail
          refine (gettext_any _ p xs N c (1 + (vget ys).n + (vtext (ys.drop (vget ys).n) 1 4096).n) 0 1048576 0 1048576 rfl rfl (by have := H_hx.out; have := H_hlen.out; omega) (by have := H_hx.out; have := H_hlen.out; omega) _ H_hx.out HA3.out.cur HA3.out.by8 ho HA3.out.apart (by have := H_hx.out; have := H_hlen.out; omega) hc hN9 hc').mono ?_
          rw [H_hd3.out]
          rintro e w9 ⟨hk, ⟨he, rfl, hcur⟩ | ⟨he, rfl, hcur⟩⟩
          · exact absurd he h3
          · exact ⟨rfl, (HA3.out.call hk hcur).gave h3⟩
        rw [if_neg (by simpa using h3)] at hR0
        unfold readEnd at hR0
        have hl3 : (ys.drop ((vget ys).n + (vtext (ys.drop (vget ys).n) 1 4096).n + (vtext (ys.drop ((vget ys).n + (vtext (ys.drop (vget ys).n) 1 4096).n)) 0 1048576).n)).length = N - (1 + (vget ys).n + (vtext (ys.drop (vget ys).n) 1 4096).n + (vtext (ys.drop ((vget ys).n + (vtext (ys.drop (vget ys).n) 1 4096).n)) 0 1048576).n) := by rw [List.length_drop]; omega
        by_cases hend : 1 + (vget ys).n + (vtext (ys.drop (vget ys).n) 1 4096).n + (vtext (ys.drop ((vget ys).n + (vtext (ys.drop (vget ys).n) 1 4096).n)) 0 1048576).n = N
        · have hR : readR xs = (0, ⟨false, (vget ys).x.toNat, (vtext (ys.drop (vget ys).n) 1 4096).t, (vtext (ys.drop ((vget ys).n + (vtext (ys.drop (vget ys).n) 1 4096).n)) 0 1048576).t⟩) := by rw [hR0, if_pos (List.length_eq_zero_iff.1 (by omega))]
          refine ⟨1 + (vget ys).n + (vtext (ys.drop (vget ys).n) 1 4096).n + (vtext (ys.drop ((vget ys).n + (vtext (ys.drop (vget ys).n) 1 4096).n)) 0 1048576).n, ?_⟩
          intro W hA
          have HA0 := Lib.hid hA
          rw [hR]
          have H_hx := Lib.hid hx
          have H_hxs := Lib.hid hxs
          have H_hlen := Lib.hid hlen
          have H_hd1 := Lib.hid hd1
          have H_hd2 := Lib.hid hd2
          have H_hd3 := Lib.hid hd3
          have H_hk2 := Lib.hid hk2
          have H_hk3 := Lib.hid hk3
          have H_hbt := Lib.hid hbt
          have H_hend := Lib.hid hend
          have H_hxn := Lib.hid hxn
          clear hA hx hxs hlen hd1 hd2 hd3 hk2 hk3 hbt hend hxn
          simp only [List.append_toArray, List.nil_append, List.cons_append]
          go_enter Try.func68, Try.ntmps68
          go_wp2_with fail
          refine (gone_own _ p xs N c _ H_hx.out HA0.out.cur HA0.out.by8 ho HA0.out.apart hc hc').mono ?_
          rw [H_hxs.out]
          rintro e w1 ⟨hk, hcur, he⟩
          rw [H_hk2.out] at hcur
          rw [H_hk3.out, H_hbt.out] at he
          subst he
          have hA1 := HA0.out.call hk hcur
          clear hk hcur
          have HA1 := Lib.hid (hA1.put 0 (.bool false))
          have f1 := hA1.cells.free 0
          have g1 : w1.cell? ⟨D, 0, none⟩ = some (.bool false) := hA1.cells.cell 0 rfl
          clear hA1
          go_wp2_with fail
          refine (get_any _ p xs N c 1 _ H_hx.out HA1.out.cur HA1.out.by8 ho HA1.out.apart (by have := H_hx.out; have := H_hlen.out; omega) hc hc').mono ?_
          rw [H_hd1.out]
          rintro e w2 ⟨hk, ⟨he, rfl, hcur⟩ | ⟨he, rfl, hcur⟩⟩
          rotate_left
          · exact absurd h1 he
          clear he
          have hA2 := HA1.out.call hk hcur
          clear hk hcur
          have HA2 := Lib.hid (hA2.put 1 (.int .u64 (vget ys).x))
          have f2 := hA2.cells.free 1
          have g2 : w2.cell? ⟨D, 1, none⟩ = some (.int .u64 0) := hA2.cells.cell 1 rfl
          clear hA2
          go_wp2_with fail
          refine (gettext_any _ p xs N c (1 + (vget ys).n) 1 4096 1 4096 rfl rfl (by have := H_hx.out; have := H_hlen.out; omega) (by have := H_hx.out; have := H_hlen.out; omega) _ H_hx.out HA2.out.cur HA2.out.by8 ho HA2.out.apart (by have := H_hx.out; have := H_hlen.out; omega) hc hN9 hc').mono ?_
          rw [H_hd2.out]
          rintro e w3 ⟨hk, ⟨he, rfl, hcur⟩ | ⟨he, rfl, hcur⟩⟩
          rotate_left
          · exact absurd h2 he
          clear he
          have hA3 := HA2.out.call hk hcur
          clear hk hcur
          have HA3 := Lib.hid (hA3.put 2 (.string (strOfNums (vtext (ys.drop (vget ys).n) 1 4096).t)))
          have f3 := hA3.cells.free 2
          have g3 : w3.cell? ⟨D, 2, none⟩ = some (.string (strOfNums [])) := hA3.cells.cell 2 rfl
          have c3 : (w3.setCell ⟨D, 2, none⟩ (.string (strOfNums (vtext (ys.drop (vget ys).n) 1 4096).t))).cell? ⟨D, 0, none⟩ = some (.bool false) := HA3.out.cells.cell 0 rfl
          clear hA3
          go_wp2_with fail
          refine (gettext_any _ p xs N c (1 + (vget ys).n + (vtext (ys.drop (vget ys).n) 1 4096).n) 0 1048576 0 1048576 rfl rfl (by have := H_hx.out; have := H_hlen.out; omega) (by have := H_hx.out; have := H_hlen.out; omega) _ H_hx.out HA3.out.cur HA3.out.by8 ho HA3.out.apart (by have := H_hx.out; have := H_hlen.out; omega) hc hN9 hc').mono ?_
          rw [H_hd3.out]
          rintro e w4 ⟨hk, ⟨he, rfl, hcur⟩ | ⟨he, rfl, hcur⟩⟩
          rotate_left
          · exact absurd h3 he
          clear he
          have hA4 := HA3.out.call hk hcur
          clear hk hcur
          have HA4 := Lib.hid (hA4.put 3 (.string (strOfNums (vtext (ys.drop ((vget ys).n + (vtext (ys.drop (vget ys).n) 1 4096).n)) 0 1048576).t)))
          have f4 := hA4.cells.free 3
          have g4 : w4.cell? ⟨D, 3, none⟩ = some (.string (strOfNums [])) := hA4.cells.cell 3 rfl
          clear hA4
          go_wp2_with fail
          rw [← H_hxn.out] at HA4
          refine (end_whole _ p N c 0 _ (by have := HA4.out.cur; rw [show 1 + (vget ys).n + (vtext (ys.drop (vget ys).n) 1 4096).n + (vtext (ys.drop ((vget ys).n + (vtext (ys.drop (vget ys).n) 1 4096).n)) 0 1048576).n = N from H_hend.out] at this; exact this) (by have := H_hx.out; have := H_hlen.out; omega)).mono ?_
          rintro e w9 ⟨rfl, hcur, hk⟩
          have HA9 := Lib.hid (HA4.out.quiet hk)
          clear hk hcur
          go_wp2_with fail
          go_returns
          exact (show At7 w0 D p xs N c _ 0 (recCells ⟨false, (vget ys).x.toNat, (vtext (ys.drop (vget ys).n) 1 4096).t, (vtext (ys.drop ((vget ys).n + (vtext (ys.drop (vget ys).n) 1 4096).n)) 0 1048576).t⟩) w9 from HA9.out).done
        · have hR : readR xs = (3, Rec.none) := by rw [hR0, if_neg (fun h => by rw [h] at hl3; simp at hl3; omega)]
          refine ⟨1 + (vget ys).n + (vtext (ys.drop (vget ys).n) 1 4096).n + (vtext (ys.drop ((vget ys).n + (vtext (ys.drop (vget ys).n) 1 4096).n)) 0 1048576).n, ?_⟩
          intro W hA
          have HA0 := Lib.hid hA
          rw [hR]
          have H_hx := Lib.hid hx
          have H_hxs := Lib.hid hxs
          have H_hlen := Lib.hid hlen
          have H_hd1 := Lib.hid hd1
          have H_hd2 := Lib.hid hd2
          have H_hd3 := Lib.hid hd3
          have H_hk2 := Lib.hid hk2
          have H_hk3 := Lib.hid hk3
          have H_hbt := Lib.hid hbt
          clear hA hx hxs hlen hd1 hd2 hd3 hk2 hk3 hbt
          simp only [List.append_toArray, List.nil_append, List.cons_append]
          go_enter Try.func68, Try.ntmps68
          go_wp2_with fail
          refine (gone_own _ p xs N c _ H_hx.out HA0.out.cur HA0.out.by8 ho HA0.out.apart hc hc').mono ?_
          rw [H_hxs.out]
          rintro e w1 ⟨hk, hcur, he⟩
          rw [H_hk2.out] at hcur
          rw [H_hk3.out, H_hbt.out] at he
          subst he
          have hA1 := HA0.out.call hk hcur
          clear hk hcur
          have HA1 := Lib.hid (hA1.put 0 (.bool false))
          have f1 := hA1.cells.free 0
          have g1 : w1.cell? ⟨D, 0, none⟩ = some (.bool false) := hA1.cells.cell 0 rfl
          clear hA1
          go_wp2_with fail
          refine (get_any _ p xs N c 1 _ H_hx.out HA1.out.cur HA1.out.by8 ho HA1.out.apart (by have := H_hx.out; have := H_hlen.out; omega) hc hc').mono ?_
          rw [H_hd1.out]
          rintro e w2 ⟨hk, ⟨he, rfl, hcur⟩ | ⟨he, rfl, hcur⟩⟩
          rotate_left
          · exact absurd h1 he
          clear he
          have hA2 := HA1.out.call hk hcur
          clear hk hcur
          have HA2 := Lib.hid (hA2.put 1 (.int .u64 (vget ys).x))
          have f2 := hA2.cells.free 1
          have g2 : w2.cell? ⟨D, 1, none⟩ = some (.int .u64 0) := hA2.cells.cell 1 rfl
          clear hA2
          go_wp2_with fail
          refine (gettext_any _ p xs N c (1 + (vget ys).n) 1 4096 1 4096 rfl rfl (by have := H_hx.out; have := H_hlen.out; omega) (by have := H_hx.out; have := H_hlen.out; omega) _ H_hx.out HA2.out.cur HA2.out.by8 ho HA2.out.apart (by have := H_hx.out; have := H_hlen.out; omega) hc hN9 hc').mono ?_
          rw [H_hd2.out]
          rintro e w3 ⟨hk, ⟨he, rfl, hcur⟩ | ⟨he, rfl, hcur⟩⟩
          rotate_left
          · exact absurd h2 he
          clear he
          have hA3 := HA2.out.call hk hcur
          clear hk hcur
          have HA3 := Lib.hid (hA3.put 2 (.string (strOfNums (vtext (ys.drop (vget ys).n) 1 4096).t)))
          have f3 := hA3.cells.free 2
          have g3 : w3.cell? ⟨D, 2, none⟩ = some (.string (strOfNums [])) := hA3.cells.cell 2 rfl
          have c3 : (w3.setCell ⟨D, 2, none⟩ (.string (strOfNums (vtext (ys.drop (vget ys).n) 1 4096).t))).cell? ⟨D, 0, none⟩ = some (.bool false) := HA3.out.cells.cell 0 rfl
          clear hA3
          go_wp2_with fail
          refine (gettext_any _ p xs N c (1 + (vget ys).n + (vtext (ys.drop (vget ys).n) 1 4096).n) 0 1048576 0 1048576 rfl rfl (by have := H_hx.out; have := H_hlen.out; omega) (by have := H_hx.out; have := H_hlen.out; omega) _ H_hx.out HA3.out.cur HA3.out.by8 ho HA3.out.apart (by have := H_hx.out; have := H_hlen.out; omega) hc hN9 hc').mono ?_
          rw [H_hd3.out]
          rintro e w4 ⟨hk, ⟨he, rfl, hcur⟩ | ⟨he, rfl, hcur⟩⟩
          rotate_left
          · exact absurd h3 he
          clear he
          have hA4 := HA3.out.call hk hcur
          clear hk hcur
          have HA4 := Lib.hid (hA4.put 3 (.string (strOfNums (vtext (ys.drop ((vget ys).n + (vtext (ys.drop (vget ys).n) 1 4096).n)) 0 1048576).t)))
          have f4 := hA4.cells.free 3
          have g4 : w4.cell? ⟨D, 3, none⟩ = some (.string (strOfNums [])) := hA4.cells.cell 3 rfl
          clear hA4
          go_wp2_with fail
          refine (end_more _ p N c (1 + (vget ys).n + (vtext (ys.drop (vget ys).n) 1 4096).n + (vtext (ys.drop ((vget ys).n + (vtext (ys.drop (vget ys).n) 1 4096).n)) 0 1048576).n) _ HA4.out.cur (by have := H_hx.out; have := H_hlen.out; omega) (by have := H_hx.out; have := H_hlen.out; omega)).mono ?_
          rintro e w9 ⟨rfl, hcur, hk⟩
          exact ⟨rfl, (HA4.out.call hk hcur).gave (by decide)⟩
end Go.Proofs.Ytjjeaaiajgbncaa

namespace Go.Proofs.Ytjjeaaiajgbncaa
open Go.RowKit

/-- How must ends. -/
def MustPost (k : Nat) (p : Option Addr) (N c a : Nat) (want : Int) (w : World) (e : Ending) (w' : World) (l : List Int) : Prop :=
  Keeps (Just k) w w' ∧ ((∃ r, l = want :: r ∧ e = .returned (.tuple #[]) ∧ CurB w' k p N c (a + 1) true 0) ∨ (∃ b r, l = b :: r ∧ b ≠ want ∧ e = .panicked (given k) ∧ CurB w' k p N c (a + 1) true 4) ∨ (l = [] ∧ e = .panicked (given k) ∧ CurB w' k p N c a true 2))

theorem drop_head {xs : List Int} {a : Nat} {b : Int} {r : List Int} (h : xs.drop a = b :: r) : a < xs.length ∧ xs.getD a 0 = b ∧ xs.drop (a + 1) = r := by
  have hl : a < xs.length := by
    have := congrArg List.length h
    rw [List.length_drop, List.length_cons] at this
    omega
  have e := List.drop_eq_getElem_cons hl
  rw [h] at e
  refine ⟨hl, ?_, (List.cons.inj e).2.symm⟩
  rw [List.getD_eq_getElem?_getD, List.getElem?_eq_getElem hl]
  exact (List.cons.inj e).1.symm

set_option maxHeartbeats 1600000 in
theorem must_own (k : Nat) (p : Option Addr) (xs : List Int) (N c a : Nat) (z : Int) (w : World) (hx : N = xs.length) (h : CurB w k p N c a true 0) (hb : Bytes8 w p xs) (ho : Octets xs) (hp : 0 < xs.length → ∀ q, p = some q → q.block ≠ k) (ha : a ≤ N) (hN : N ≤ c) (hc : c ≤ 9223372036854775807) :
    Calls Try.prog 77 #[.pointer (some ⟨k, 0, none⟩), .int .u8 z] w fun e w' => MustPost k p N c a z w e w' (xs.drop a) := by
  cases hd : xs.drop a with
  | nil =>
    have hl : xs.length ≤ a := List.drop_eq_nil_iff.1 hd
    have HS := Lib.hid (byte_short k p N c a w h ha (by omega) (by omega))
    clear h hb ho hp hN hc hx hd hl
    go_enter Try.func77, Try.ntmps77
    go_wp2_with fail
    refine HS.out.mono ?_
    rintro e w' ⟨rfl, hcur, hk⟩
    exact ⟨rfl, hk, .inr (.inr ⟨rfl, rfl, hcur⟩)⟩
  | cons b r =>
    obtain ⟨hl, hg, _⟩ := drop_head hd
    have HB := byte_at k p xs N c a w hx h hb ho hp (by omega) hN hc
    rw [hg] at HB
    have HB := Lib.hid HB
    clear h hb ho hp hN hc hx hd hg hl ha
    by_cases h2 : b = z
    · subst h2
      go_enter Try.func77, Try.ntmps77
      go_wp2_with fail
      refine HB.out.mono ?_
      rintro e w' ⟨rfl, hcur, hk⟩
      have HC := Lib.hid hcur; have HK := Lib.hid hk
      clear hcur hk HB
      go_wp2_with fail
      go_returns
      exact ⟨HK.out, .inl ⟨r, rfl, rfl, HC.out⟩⟩
    · have hne : (b != z) = true := by rw [bne_iff_ne]; exact h2
      have HN := Lib.hid h2
      clear h2
      go_enter Try.func77, Try.ntmps77
      go_wp2_with fail
      refine HB.out.mono ?_
      rintro e w' ⟨rfl, hcur, hk⟩
      have HC := Lib.hid hcur; have HK := Lib.hid hk
      clear hcur hk HB
      go_wp2_with fail
      refine (fail_at k p N c (a + 1) 4 _ HC.out (by decide)).mono ?_
      rintro e w2 ⟨rfl, hcur, hk⟩
      exact ⟨rfl, HK.out.trans hk, .inr (.inl ⟨b, r, rfl, HN.out, rfl, hcur⟩)⟩

/-- What a reading of a head comes to: why it stops, where, and what it has read. -/
structure HR where
  y : Int
  a : Nat
  e : Int
  s : Int
  n : Int
def hLast (a : Nat) (e s n : Int) : List Int → HR
  | [] => ⟨0, a, e, s, n⟩
  | _ :: _ => ⟨3, a, e, s, n⟩
def hNum (a : Nat) (e s : Int) (xs : List Int) : HR := if (vget xs).e ≠ 0 then ⟨(vget xs).e, a + (vget xs).n, e, s, 0⟩ else hLast (a + (vget xs).n) e s (vget xs).x (xs.drop (vget xs).n)
def hSeg (a : Nat) (e : Int) (xs : List Int) : HR := if (vget xs).e ≠ 0 then ⟨(vget xs).e, a + (vget xs).n, e, 0, 0⟩ else hNum (a + (vget xs).n) e (vget xs).x (xs.drop (vget xs).n)
def hExp (a : Nat) : List Int → HR
  | [] => ⟨2, a, 0, 0, 0⟩
  | b :: r => hSeg (a + 1) b r
def hVer (a : Nat) : List Int → HR
  | [] => ⟨2, a, 0, 0, 0⟩
  | b :: r => if b = 2 then hExp (a + 1) r else ⟨4, a + 1, 0, 0, 0⟩
def hKind (a : Nat) : List Int → HR
  | [] => ⟨2, a, 0, 0, 0⟩
  | b :: r => if b = 1 then hVer (a + 1) r else ⟨4, a + 1, 0, 0, 0⟩

/-- Within the reading: the cursor at a, the head's numbers in their blocks, the bytes as they were. -/
structure AtH (w0 : World) (A B C : Nat) (p : Option Addr) (xs : List Int) (N c a : Nat) (y x s n : Int) (W : World) : Prop where
  beg : Begun w0 p N c a y W
  cA : Whole W A 5 #[.int .u8 x]
  cB : Whole W B 33 #[.int .u64 s]
  cC : Whole W C 33 #[.int .u64 n]
  by8 : Bytes8 W p xs
  kp : Keeps (fun i => i = A ∨ i = B ∨ i = C) w0 W
  lt : A < B ∧ B < C ∧ C < w0.heap.size
  far : 0 < xs.length → ∀ q, p = some q → q.block < A

section
variable {w0 : World} {A B C : Nat} {p : Option Addr} {xs : List Int} {N c a : Nat} {y x s n : Int} {W : World}
theorem AtH.cur (h : AtH w0 A B C p xs N c a y x s n W) : CurB W (w0.heap.size + 1 + 1) p N c a true y := h.beg.cur
theorem AtH.apart (h : AtH w0 A B C p xs N c a y x s n W) : 0 < xs.length → ∀ q, p = some q → q.block ≠ w0.heap.size + 1 + 1 := fun h0 q hq => by have := h.far h0 q hq; have := h.lt; omega
theorem AtH.call (h : AtH w0 A B C p xs N c a y x s n W) {W' : World} {b : Nat} {z : Int} (hk : Keeps (Just (w0.heap.size + 1 + 1)) W W') (hc : CurB W' (w0.heap.size + 1 + 1) p N c b true z) : AtH w0 A B C p xs N c b z x s n W' :=
  ⟨h.beg.keep hk hc, h.cA.keep hk (by have := h.lt; unfold Just; omega), h.cB.keep hk (by have := h.lt; unfold Just; omega), h.cC.keep hk (by have := h.lt; unfold Just; omega), h.by8.keepPos hk (fun h0 q hq => by have := h.far h0 q hq; have := h.lt; unfold Just; omega), h.kp.then hk (fun i hi hj => by unfold Just at hj; omega), h.lt, h.far⟩
theorem AtH.quiet (h : AtH w0 A B C p xs N c a y x s n W) {W' : World} (hk : Keeps NoBlock W W') : AtH w0 A B C p xs N c a y x s n W' :=
  h.call (hk.wider (fun _ _ hj => hj.elim)) (Whole.keep h.cur hk (fun hj => hj))
theorem AtH.setBeg (h : AtH w0 A B C p xs N c a y x s n W) {D : Nat} (hD : D < w0.heap.size) (v : Value) : Begun w0 p N c a y (W.setCell ⟨D, 0, none⟩ v) :=
  ⟨h.beg.at_.setOther (by simp; omega) v, h.beg.why.setOther (by simp; omega) v, Whole.setOther h.beg.cur (by simp; omega) v, h.beg.var.setOther (by simp; omega) v⟩
theorem AtH.putA (h : AtH w0 A B C p xs N c a y x s n W) (v : Int) : AtH w0 A B C p xs N c a y v s n (W.setCell ⟨A, 0, none⟩ (.int .u8 v)) :=
  ⟨h.setBeg (by have := h.lt; omega) _, h.cA.set 0 _, h.cB.setOther (by have := h.lt; simp; omega) _, h.cC.setOther (by have := h.lt; simp; omega) _, h.by8.keepPos ((Keeps.refl (Just A) W).setIn (Just.self A) 0 _) (fun h0 q hq => by have := h.far h0 q hq; unfold Just; omega), h.kp.setIn (.inl rfl) 0 _, h.lt, h.far⟩
theorem AtH.putB (h : AtH w0 A B C p xs N c a y x s n W) (v : Int) : AtH w0 A B C p xs N c a y x v n (W.setCell ⟨B, 0, none⟩ (.int .u64 v)) :=
  ⟨h.setBeg (by have := h.lt; omega) _, h.cA.setOther (by have := h.lt; simp; omega) _, h.cB.set 0 _, h.cC.setOther (by have := h.lt; simp; omega) _, h.by8.keepPos ((Keeps.refl (Just B) W).setIn (Just.self B) 0 _) (fun h0 q hq => by have := h.far h0 q hq; have := h.lt; unfold Just; omega), h.kp.setIn (.inr (.inl rfl)) 0 _, h.lt, h.far⟩
theorem AtH.putC (h : AtH w0 A B C p xs N c a y x s n W) (v : Int) : AtH w0 A B C p xs N c a y x s v (W.setCell ⟨C, 0, none⟩ (.int .u64 v)) :=
  ⟨h.setBeg (by have := h.lt; omega) _, h.cA.setOther (by have := h.lt; simp; omega) _, h.cB.setOther (by have := h.lt; simp; omega) _, h.cC.set 0 _, h.by8.keepPos ((Keeps.refl (Just C) W).setIn (Just.self C) 0 _) (fun h0 q hq => by have := h.far h0 q hq; have := h.lt; unfold Just; omega), h.kp.setIn (.inr (.inr rfl)) 0 _, h.lt, h.far⟩
end

/-- What the reading leaves. -/
def LeftH (w0 : World) (A B C : Nat) (t : HR) (w2 : World) : Prop :=
  Keeps (fun i => i = A ∨ i = B ∨ i = C) w0 w2 ∧ Whole w2 A 5 #[.int .u8 t.e] ∧ Whole w2 B 33 #[.int .u64 t.s] ∧ Whole w2 C 33 #[.int .u64 t.n]

theorem AtH.gave {w0 : World} {A B C : Nat} {p : Option Addr} {xs : List Int} {N c : Nat} {t u : HR} {W : World} (h : AtH w0 A B C p xs N c t.a t.y t.e t.s t.n W) (hu : u = t) : ReadEnds w0 p N c u.a u.y (LeftH w0 A B C u) (.panicked (given (w0.heap.size + 1 + 1))) W := by
  subst hu
  exact ⟨.inr (gave_given _), h.beg, h.kp, h.cA, h.cB, h.cC⟩
theorem AtH.done {w0 : World} {A B C : Nat} {p : Option Addr} {xs : List Int} {N c : Nat} {t u : HR} {W : World} (h : AtH w0 A B C p xs N c t.a t.y t.e t.s t.n W) (hu : u = t) : ReadEnds w0 p N c u.a u.y (LeftH w0 A B C u) (.returned (.tuple #[])) W := by
  subst hu
  exact ⟨.inl rfl, h.beg, h.kp, h.cA, h.cB, h.cC⟩

theorem enter_headIn (args : Array Value) (w : World) : (callFunc 76 args).run Try.prog w = .ok (.enter 76 args) w := by kernel_rfl

set_option maxHeartbeats 8000000 in
set_option maxRecDepth 10000 in
theorem headIn (w0 W : World) (A B C : Nat) (p : Option Addr) (xs : List Int) (N c : Nat) (hx : N = xs.length) (ho : Octets xs) (hc : N ≤ c) (hc' : c ≤ 9223372036854775807) (hA : AtH w0 A B C p xs N c 0 0 0 0 0 W) :
    Calls Try.prog 76 (#[.pointer (some ⟨w0.heap.size + 1 + 1, 0, none⟩)] ++ #[.pointer (some ⟨A, 0, none⟩), .pointer (some ⟨B, 0, none⟩), .pointer (some ⟨C, 0, none⟩)]) W (ReadEnds w0 p N c (hKind 0 xs).a (hKind 0 xs).y (LeftH w0 A B C (hKind 0 xs))) := by
  obtain ⟨U, hU⟩ : ∃ U, U = hKind 0 xs := ⟨_, rfl⟩
  rw [← hU]
  have HA := Lib.hid hA
  have HX := Lib.hid hx
  have HU : Hid (U = hKind 0 (xs.drop 0)) := Lib.hid (by rw [List.drop_zero]; exact hU)
  have HM := Lib.hid (fun a z x s n W (h : AtH w0 A B C p xs N c a 0 x s n W) (ha : a ≤ N) => must_own (w0.heap.size + 1 + 1) p xs N c a z W hx h.cur h.by8 ho h.apart ha hc hc')
  have HG := Lib.hid (fun a x s n W (h : AtH w0 A B C p xs N c a 0 x s n W) (ha : a ≤ N) => get_any (w0.heap.size + 1 + 1) p xs N c a W hx h.cur h.by8 ho h.apart ha hc hc')
  have HBy := Lib.hid (fun a x s n W (h : AtH w0 A B C p xs N c a 0 x s n W) (ha : a + 1 ≤ N) => byte_at (w0.heap.size + 1 + 1) p xs N c a W hx h.cur h.by8 ho h.apart ha hc hc')
  have HE0 := Lib.hid (fun y x s n W (h : AtH w0 A B C p xs N c N y x s n W) => end_whole (w0.heap.size + 1 + 1) p N c y W h.cur (by omega))
  have HE1 := Lib.hid (fun a x s n W (h : AtH w0 A B C p xs N c a 0 x s n W) (ha : a < N) => end_more (w0.heap.size + 1 + 1) p N c a W h.cur ha (by omega))
  have HBs := Lib.hid (fun a x s n W (h : AtH w0 A B C p xs N c a 0 x s n W) (ha : a ≤ N) (hl : N < a + 1) => byte_short (w0.heap.size + 1 + 1) p N c a W h.cur ha hl (by omega))
  clear hA hx ho hc hc' hU
  simp only [List.append_toArray, List.nil_append, List.cons_append]
  go_enter Try.func76, Try.ntmps76
  go_wp2_with fail
  refine (HM.out 0 _ _ _ _ _ HA.out (Nat.zero_le _)).mono ?_
  rintro e w1 ⟨hk, ⟨r1, hd, rfl, hcur⟩ | ⟨b, r, hd, hne, rfl, hcur⟩ | ⟨hd, rfl, hcur⟩⟩
  rotate_left
  · exact ⟨rfl, AtH.gave (t := ⟨4, 0 + 1, 0, 0, 0⟩) (HA.out.call hk hcur) (by rw [HU.out, hd, hKind, if_neg hne])⟩
  · exact ⟨rfl, AtH.gave (t := ⟨2, 0, 0, 0, 0⟩) (HA.out.call hk hcur) (by rw [HU.out, hd, hKind])⟩
  obtain ⟨hl, _, hr⟩ := drop_head hd
  have HA := Lib.hid (HA.out.call hk hcur)
  have HU : Hid (U = hVer (0 + 1) (xs.drop (0 + 1))) := Lib.hid (by rw [HU.out, hd, hKind, if_pos rfl, hr])
  have HL := Lib.hid (show 0 + 1 ≤ N by have := HX.out; omega)
  obtain ⟨a1, ha1⟩ : ∃ a1, a1 = 0 + 1 := ⟨_, rfl⟩
  rw [← ha1] at HA HU HL
  clear hk hcur hd hl hr ha1
  go_wp2_with fail
  refine (HM.out a1 _ _ _ _ _ HA.out HL.out).mono ?_
  rintro e w2 ⟨hk, ⟨r2, hd, rfl, hcur⟩ | ⟨b, r, hd, hne, rfl, hcur⟩ | ⟨hd, rfl, hcur⟩⟩
  rotate_left
  · exact ⟨rfl, AtH.gave (t := ⟨4, a1 + 1, 0, 0, 0⟩) (HA.out.call hk hcur) (by rw [HU.out, hd, hVer, if_neg hne])⟩
  · exact ⟨rfl, AtH.gave (t := ⟨2, a1, 0, 0, 0⟩) (HA.out.call hk hcur) (by rw [HU.out, hd, hVer])⟩
  obtain ⟨hl, _, hr⟩ := drop_head hd
  have HA := Lib.hid (HA.out.call hk hcur)
  have HU : Hid (U = hExp (a1 + 1) (xs.drop (a1 + 1))) := Lib.hid (by rw [HU.out, hd, hVer, if_pos rfl, hr])
  have HL := Lib.hid (show a1 + 1 ≤ N by have := HX.out; omega)
  obtain ⟨a2, ha2⟩ : ∃ a2, a2 = a1 + 1 := ⟨_, rfl⟩
  rw [← ha2] at HA HU HL
  clear hk hcur hd hl hr ha2
  cases hd : xs.drop a2 with
  | nil =>
    have HS := Lib.hid (HBs.out a2 _ _ _ _ HA.out HL.out (by have := List.drop_eq_nil_iff.1 hd; have := HX.out; omega))
    have HU : Hid (U = ⟨2, a2, 0, 0, 0⟩) := Lib.hid (by rw [HU.out, hd, hExp])
    clear hd
    go_wp2_with fail
    refine HS.out.mono ?_
    rintro e w3 ⟨rfl, hcur, hk⟩
    exact ⟨rfl, AtH.gave (t := ⟨2, a2, 0, 0, 0⟩) (HA.out.call hk hcur) HU.out⟩
  | cons b r3 =>
    obtain ⟨hl, hg, hr⟩ := drop_head hd
    have HB3 := HBy.out a2 _ _ _ _ HA.out (by have := HX.out; omega)
    rw [hg] at HB3
    have HB3 := Lib.hid HB3
    have HU : Hid (U = hSeg (a2 + 1) b (xs.drop (a2 + 1))) := Lib.hid (by rw [HU.out, hd, hExp, hr])
    have HL := Lib.hid (show a2 + 1 ≤ N by have := HX.out; omega)
    clear hd hl hg hr
    go_wp2_with fail
    refine HB3.out.mono ?_
    rintro e w3 ⟨rfl, hcur, hk⟩
    have hA3 := HA.out.call hk hcur
    have HA := Lib.hid (hA3.putA b)
    have f1 := hA3.cA.free 0
    have g1 := hA3.cA.cell 0 rfl
    simp only [List.getElem_toArray, List.getElem_cons_zero] at g1
    obtain ⟨a3, ha3⟩ : ∃ a3, a3 = a2 + 1 := ⟨_, rfl⟩
    rw [← ha3] at HA HU HL
    clear hk hcur hA3 HB3 ha3
    go_wp2_with fail
    refine (HG.out a3 _ _ _ _ HA.out HL.out).mono ?_
    rintro e w4 ⟨hk, ⟨he, rfl, hcur⟩ | ⟨he, rfl, hcur⟩⟩
    rotate_left
    · exact ⟨rfl, AtH.gave (t := ⟨(vget (xs.drop a3)).e, a3 + (vget (xs.drop a3)).n, b, 0, 0⟩) (HA.out.call hk hcur) (by rw [HU.out, hSeg, if_pos he])⟩
    have hA4 := HA.out.call hk hcur
    have HA := Lib.hid (hA4.putB (vget (xs.drop a3)).x)
    have f2 := hA4.cB.free 0
    have g2 := hA4.cB.cell 0 rfl
    simp only [List.getElem_toArray, List.getElem_cons_zero] at g2
    have hn := vread_n 10 true (xs.drop a3)
    rw [List.length_drop] at hn
    have HL := Lib.hid (show a3 + (vget (xs.drop a3)).n ≤ N by have := HL.out; have := HX.out; have : (vget (xs.drop a3)).n ≤ xs.length - a3 := hn; omega)
    have HU : Hid (U = hNum (a3 + (vget (xs.drop a3)).n) b (vget (xs.drop a3)).x (xs.drop (a3 + (vget (xs.drop a3)).n))) := Lib.hid (by rw [HU.out, hSeg, if_neg (by rw [he]; decide), List.drop_drop])
    obtain ⟨x4, hx4⟩ : ∃ x4, x4 = (vget (xs.drop a3)).x := ⟨_, rfl⟩
    rw [← hx4] at HA HU ⊢
    obtain ⟨a4, ha4⟩ : ∃ a4, a4 = a3 + (vget (xs.drop a3)).n := ⟨_, rfl⟩
    rw [← ha4] at HA HU HL
    clear hk hcur hA4 hx4 ha4 hn he
    go_wp2_with fail
    refine (HG.out a4 _ _ _ _ HA.out HL.out).mono ?_
    rintro e w5 ⟨hk, ⟨he, rfl, hcur⟩ | ⟨he, rfl, hcur⟩⟩
    rotate_left
    · exact ⟨rfl, AtH.gave (t := ⟨(vget (xs.drop a4)).e, a4 + (vget (xs.drop a4)).n, b, x4, 0⟩) (HA.out.call hk hcur) (by rw [HU.out, hNum, if_pos he])⟩
    have hA5 := HA.out.call hk hcur
    have HA := Lib.hid (hA5.putC (vget (xs.drop a4)).x)
    have f3 := hA5.cC.free 0
    have g3 := hA5.cC.cell 0 rfl
    simp only [List.getElem_toArray, List.getElem_cons_zero] at g3
    have hn := vread_n 10 true (xs.drop a4)
    rw [List.length_drop] at hn
    have HL := Lib.hid (show a4 + (vget (xs.drop a4)).n ≤ N by have := HL.out; have := HX.out; have : (vget (xs.drop a4)).n ≤ xs.length - a4 := hn; omega)
    have HU : Hid (U = hLast (a4 + (vget (xs.drop a4)).n) b x4 (vget (xs.drop a4)).x (xs.drop (a4 + (vget (xs.drop a4)).n))) := Lib.hid (by rw [HU.out, hNum, if_neg (by rw [he]; decide), List.drop_drop])
    obtain ⟨x5, hx5⟩ : ∃ x5, x5 = (vget (xs.drop a4)).x := ⟨_, rfl⟩
    rw [← hx5] at HA HU ⊢
    obtain ⟨a5, ha5⟩ : ∃ a5, a5 = a4 + (vget (xs.drop a4)).n := ⟨_, rfl⟩
    rw [← ha5] at HA HU HL
    clear hk hcur hA5 hx5 ha5 hn he
    by_cases hend : a5 = N
    · have HU : Hid (U = ⟨0, N, b, x4, x5⟩) := Lib.hid (by rw [HU.out, hend, List.drop_of_length_le (by have := HX.out; omega), hLast])
      rw [hend] at HA
      clear hend
      go_wp2_with fail
      refine (HE0.out _ _ _ _ _ HA.out).mono ?_
      rintro e w6 ⟨rfl, hcur, hk⟩
      have HA := Lib.hid (HA.out.quiet hk)
      clear hk hcur
      go_wp2_with fail
      go_returns
      exact AtH.done (t := ⟨0, N, b, x4, x5⟩) HA.out HU.out
    · have hlt : a5 < N := by have := HL.out; omega
      have HU : Hid (U = ⟨3, a5, b, x4, x5⟩) := Lib.hid (by
        rw [HU.out]
        cases hd : xs.drop a5 with
        | nil => have := List.drop_eq_nil_iff.1 hd; have := HX.out; omega
        | cons u v => rfl)
      have HE := Lib.hid (HE1.out a5 _ _ _ _ HA.out hlt)
      clear hend hlt
      go_wp2_with fail
      refine HE.out.mono ?_
      rintro e w6 ⟨rfl, hcur, hk⟩
      exact ⟨rfl, AtH.gave (t := ⟨3, a5, b, x4, x5⟩) (HA.out.call hk hcur) HU.out⟩
end Go.Proofs.Ytjjeaaiajgbncaa

namespace Go.Proofs.Ytjjeaaiajgbncaa
open Go.RowKit

def countC (e s n : Nat) : Nat × Int := if mayC e s = true then (if s * 2 ^ e < n then (0, 7) else if n % 2 ^ e = 0 then (n / 2 ^ e, 0) else (0, 4)) else (0, 1)

/-- How n bytes lie to a segment's: k whole ones, m bytes. -/
theorem whole_parts {q n : Nat} (hq : 1 ≤ q) : ∃ k m : Nat, n / q = k ∧ m = k * q ∧ m ≤ n ∧ n < m + q ∧ (n % q = 0 ↔ m = n) ∧ ∀ s, (s * q < n ↔ s < k ∨ s = k ∧ m < n) := by
  have h := Nat.div_add_mod n q
  have hr := Nat.mod_lt n (show 0 < q by omega)
  have hc : q * (n / q) = n / q * q := Nat.mul_comm _ _
  refine ⟨n / q, n / q * q, rfl, rfl, by omega, by omega, by omega, fun s => ?_⟩
  rcases Nat.lt_trichotomy s (n / q) with hs | hs | hs
  · have : (s + 1) * q ≤ n / q * q := Nat.mul_le_mul_right q hs
    rw [Nat.succ_mul] at this
    constructor
    · intro _; exact .inl hs
    · intro _; omega
  · rw [hs]
    constructor
    · intro h; exact .inr ⟨rfl, h⟩
    · rintro (h | ⟨_, h⟩)
      · omega
      · exact h
  · have : (n / q + 1) * q ≤ s * q := Nat.mul_le_mul_right q hs
    rw [Nat.succ_mul] at this
    constructor
    · intro h; omega
    · rintro (h | ⟨h, _⟩) <;> omega

def countOut (t : Nat × Int) : Value := .tuple #[.int .u64 (t.1 : Int), .int .i64 t.2]
end Go.Proofs.Ytjjeaaiajgbncaa

namespace Go.Proofs.Ytjjeaaiajgbncaa
open Go.RowKit

def boundsC (e s n i : Nat) : Nat × Nat × Int := if mayC e s = true then (if s ≤ i ∨ n ≤ i * 2 ^ e then (0, 0, 10) else (i * 2 ^ e, min (i * 2 ^ e + 2 ^ e) n, 0)) else (0, 0, 1)
def boundsOut (t : Nat × Nat × Int) : Value := .tuple #[.int .u64 (t.1 : Int), .int .u64 (t.2.1 : Int), .int .i64 t.2.2]

end Go.Proofs.Ytjjeaaiajgbncaa

namespace Go.Proofs.Ytjjeaaiajgbncaa
open Go.RowKit

def whereC (e s x : Nat) : Nat × Nat × Int := if mayC e s = true then (if x / 2 ^ e < s then (x / 2 ^ e, x % 2 ^ e, 0) else (0, 0, 10)) else (0, 0, 1)
def got8 (t : Nat × Int) : Value := .tuple #[.int .u32 (t.1 : Int), .int .i64 t.2]
def checkC (e s : Nat) : Int := if mayC e s = true then 0 else 1
def sizeC (e s : Nat) : Nat := if mayC e s = true then 2 ^ e else 0

end Go.Proofs.Ytjjeaaiajgbncaa

namespace Go.Proofs.Ytjjeaaiajgbncaa
open Go.RowKit

set_option maxHeartbeats 2000000 in
set_option maxRecDepth 10000 in
theorem check_conf (e s : Nat) (w : World) : Calls Try.prog 75 #[confV e s] w fun r w' => r = .returned (.int .i64 (checkC e s)) ∧ Keeps NoBlock w w' := by
  have HR := Lib.hid (Whole.new w 48 (confCells e s))
  have HK := Lib.hid ((Keeps.refl NoBlock w).alloc (.cells (confCells e s) 48))
  by_cases h1 : 12 ≤ e
  · have d1 : decide ((e : Int) < 12) = false := decide_eq_false (by omega)
    by_cases h2 : e ≤ 24
    · have d2 : decide ((24 : Int) < (e : Int)) = false := decide_eq_false (by omega)
      by_cases h3 : 1 ≤ s
      · have d3 : decide ((s : Int) < 1) = false := decide_eq_false (by omega)
        by_cases h4 : s ≤ 65536
        · have d4 : decide ((65536 : Int) < (s : Int)) = false := decide_eq_false (by omega)
          have HM := Lib.hid (show checkC e s = 0 by unfold checkC; rw [if_pos (mayC_true.2 ⟨h1, h2, h3, h4⟩)])
          unfold confV
          go_enter Try.func75, Try.ntmps75
          go_wp2_with fail
          go_ret
          rw [HM.out]
          exact ⟨rfl, HK.out⟩
        · have d4 : decide ((65536 : Int) < (s : Int)) = true := decide_eq_true (by omega)
          have HM := Lib.hid (show checkC e s = 1 by unfold checkC; rw [if_neg (fun h => by have := mayC_true.1 h; omega)])
          unfold confV
          go_enter Try.func75, Try.ntmps75
          go_wp2_with fail
          go_ret
          rw [HM.out]
          exact ⟨rfl, HK.out⟩
      · have d3 : decide ((s : Int) < 1) = true := decide_eq_true (by omega)
        have HM := Lib.hid (show checkC e s = 1 by unfold checkC; rw [if_neg (fun h => by have := mayC_true.1 h; omega)])
        unfold confV
        go_enter Try.func75, Try.ntmps75
        go_wp2_with fail
        go_ret
        rw [HM.out]
        exact ⟨rfl, HK.out⟩
    · have d2 : decide ((24 : Int) < (e : Int)) = true := decide_eq_true (by omega)
      have HM := Lib.hid (show checkC e s = 1 by unfold checkC; rw [if_neg (fun h => by have := mayC_true.1 h; omega)])
      unfold confV
      go_enter Try.func75, Try.ntmps75
      go_wp2_with fail
      go_ret
      rw [HM.out]
      exact ⟨rfl, HK.out⟩
  · have d1 : decide ((e : Int) < 12) = true := decide_eq_true (by omega)
    have HM := Lib.hid (show checkC e s = 1 by unfold checkC; rw [if_neg (fun h => by have := mayC_true.1 h; omega)])
    unfold confV
    go_enter Try.func75, Try.ntmps75
    go_wp2_with fail
    go_ret
    rw [HM.out]
    exact ⟨rfl, HK.out⟩

theorem checkC_may {e s : Nat} (h : mayC e s = true) : checkC e s = 0 := by unfold checkC; rw [if_pos h]
theorem checkC_not {e s : Nat} (h : mayC e s = false) : checkC e s = 1 := by unfold checkC; rw [if_neg (by rw [h]; decide)]
theorem shl_one {e : Nat} (h : e ≤ 24) : Op.shift BinOp.shl IntKind.i64 1 IntKind.u8 (e : Int) = pure (.int .i64 ((2 ^ e : Nat) : Int)) := by
  have : e = 0 ∨ e = 1 ∨ e = 2 ∨ e = 3 ∨ e = 4 ∨ e = 5 ∨ e = 6 ∨ e = 7 ∨ e = 8 ∨ e = 9 ∨ e = 10 ∨ e = 11 ∨ e = 12 ∨ e = 13 ∨ e = 14 ∨ e = 15 ∨ e = 16 ∨ e = 17 ∨ e = 18 ∨ e = 19 ∨ e = 20 ∨ e = 21 ∨ e = 22 ∨ e = 23 ∨ e = 24 := by omega
  rcases this with rfl | rfl | rfl | rfl | rfl | rfl | rfl | rfl | rfl | rfl | rfl | rfl | rfl | rfl | rfl | rfl | rfl | rfl | rfl | rfl | rfl | rfl | rfl | rfl | rfl <;> rfl

end Go.Proofs.Ytjjeaaiajgbncaa

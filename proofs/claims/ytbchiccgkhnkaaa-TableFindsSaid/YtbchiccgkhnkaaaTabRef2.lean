/-
  The document's Put and Sorted of entries.
-/
import Derived.Test.YtbchiccgkhnkaaaTabRef
namespace Go.Proofs.Ytbchiccgkhnkaaa
open Go.RowKit

theorem enEqR (a b : En) (w : World) : (binOp .eql 69 (.agg #[.int .u64 (a.hash : Int), .int .u32 (a.at_ : Int)]) (.agg #[.int .u64 (b.hash : Int), .int .u32 (b.at_ : Int)])).run Try.prog w = .ok (.bool (decide (a = b))) w := by
  by_cases h1 : a.hash = b.hash
  · by_cases h2 : a.at_ = b.at_
    · have hd : decide (a = b) = true := decide_eq_true (En.ext' h1 h2)
      rw [hd]
      simp [go_sem, h1, h2]
    · have hd : decide (a = b) = false := decide_eq_false (fun h => h2 (by rw [h]))
      rw [hd]
      have e : ((a.at_ : Int) == (b.at_ : Int)) = false := by rw [beq_eq_false_iff_ne]; omega
      simp [go_sem, h1, e]
  · have hd : decide (a = b) = false := decide_eq_false (fun h => h1 (by rw [h]))
    rw [hd]
    have e : ((a.hash : Int) == (b.hash : Int)) = false := by rw [beq_eq_false_iff_ne]; omega
    simp [go_sem, e]

/-- Put's row so far. -/
structure PutSt (l : List En) (e : En) (j : Nat) (o : List En) (b : Bool) : Prop where
  yes : b = true → o ++ l.drop j = putE l e
  no : b = false → o = l.take j ∧ o ++ putE (l.drop j) e = putE l e
  len : o.length ≤ j + 1
theorem PutSt.start (l : List En) (e : En) : PutSt l e 0 [] false := ⟨fun h => by simp at h, fun _ => ⟨rfl, rfl⟩, Nat.zero_le _⟩
theorem drop_getD {l : List En} {j : Nat} (hj : j < l.length) : l.drop j = l.getD j En.none :: l.drop (j + 1) := by
  rw [List.drop_eq_getElem_cons hj]
  simp [hj]
theorem take_getD {l : List En} {j : Nat} (hj : j < l.length) : l.take (j + 1) = l.take j ++ [l.getD j En.none] := by
  rw [List.take_succ_eq_append_getElem hj]
  simp [hj]
theorem PutSt.done {l : List En} {e : En} {j : Nat} {o : List En} (h : PutSt l e j o true) (hj : j < l.length) (hl : o.length ≤ j + 1) : PutSt l e (j + 1) (o ++ [l.getD j En.none]) true :=
  ⟨fun _ => by rw [← h.yes rfl, drop_getD hj, List.append_assoc]; rfl, fun h => by simp at h, by rw [List.length_append]; simp; exact hl⟩
theorem PutSt.same {l : List En} {e : En} {j : Nat} {o : List En} (h : PutSt l e j o false) (hj : j < l.length) (he : l.getD j En.none = e) : PutSt l e (j + 1) (o ++ [l.getD j En.none]) true := by
  obtain ⟨h1, h2⟩ := h.no rfl
  refine ⟨fun _ => ?_, fun h => by simp at h, ?_⟩
  · rw [← h2, drop_getD hj, putE, if_pos he, List.append_assoc]
    rfl
  · rw [h1, List.length_append, List.length_take]; simp; omega
theorem PutSt.ahead {l : List En} {e : En} {j : Nat} {o : List En} (h : PutSt l e j o false) (hj : j < l.length) (he : l.getD j En.none ≠ e) (hl : LessE e (l.getD j En.none)) : PutSt l e (j + 1) ((o ++ [e]) ++ [l.getD j En.none]) true := by
  obtain ⟨h1, h2⟩ := h.no rfl
  refine ⟨fun _ => ?_, fun h => by simp at h, ?_⟩
  · rw [← h2, drop_getD hj, putE, if_neg he, if_pos hl, List.append_assoc, List.append_assoc]
    rfl
  · rw [h1, List.length_append, List.length_append, List.length_take]; simp; omega
theorem PutSt.on {l : List En} {e : En} {j : Nat} {o : List En} (h : PutSt l e j o false) (hj : j < l.length) (he : l.getD j En.none ≠ e) (hl : ¬ LessE e (l.getD j En.none)) : PutSt l e (j + 1) (o ++ [l.getD j En.none]) false := by
  obtain ⟨h1, h2⟩ := h.no rfl
  refine ⟨fun h => by simp at h, fun _ => ⟨?_, ?_⟩, ?_⟩
  · rw [h1, take_getD hj]
  · rw [← h2, drop_getD hj, putE, if_neg he, if_neg hl, List.append_assoc]
    rfl
  · rw [h1, List.length_append, List.length_take]; simp; omega

set_option maxHeartbeats 8000000 in
set_option maxRecDepth 10000 in
theorem put11_ref (p : Option Addr) (n c : Nat) (l : List En) (e : En) (hn : n = l.length) (hn9 : n ≤ 1000000) (w : World) (hl : EnsAt w p l) :
    Calls Try.prog 36 #[.slice p n c, enV e] w fun r w' => ∃ v, r = .returned v ∧ NewEns w (putE l e) v w' := by
  obtain ⟨i0, hi, hz0, hz1, hz2⟩ := info_parts infoEnR
  have HL := Lib.hid hl
  have HN := Lib.hid hn
  have HLess := Lib.hid (fun a b w => less_ref a b w)
  clear hl hn
  unfold enV at HLess ⊢
  have HE0 : Hid (Whole (w.alloc (.cells #[.int .u64 (e.hash : Int), .int .u32 (e.at_ : Int)] 69)) w.heap.size 69 (enCells e)) := Lib.hid (Whole.new _ _ _)
  have HK0 := Lib.hid ((Keeps.refl NoBlock w).alloc (.cells #[.int .u64 (e.hash : Int), .int .u32 (e.at_ : Int)] 69))
  obtain ⟨w0, hw0⟩ : ∃ w0, w0 = w.alloc (.cells #[.int .u64 (e.hash : Int), .int .u32 (e.at_ : Int)] 69) := ⟨_, rfl⟩
  rw [← hw0] at HE0 HK0
  have HL0 := Lib.hid (HL.out.keep HK0.out)
  go_enter Try.func36, Try.ntmps36
  go_wp2_with fail
  rw [← hw0]
  clear hw0
  go_loopw [5, 6, 11] (fun v f i wr => ∃ (j : Nat) (o : List En) (b : Bool), j ≤ n ∧ i = .int .i64 (j : Int) ∧ f = .bool b ∧ Hid (PutSt l e j o b) ∧ Hid (TwosSoFar enH enA 69 w0 o v wr)) (fun _ _ i _ => n - (intOf i).toNat)
  case atStart => exact ⟨0, [], false, Nat.zero_le _, rfl, rfl, Lib.hid (PutSt.start l e), Lib.hid (TwosSoFar.start w0)⟩
  case round =>
    obtain ⟨j, o, b, hj, rfl, rfl, HP, HS⟩ := hrel
    by_cases hlt : j < n
    · have hdj : decide ((j : Int) < (n : Int)) = true := decide_eq_true (by omega)
      have hjl : j < l.length := by rw [← HN.out]; exact hlt
      have holen : o.length ≤ 1000001 := by have := HP.out.len; omega
      obtain ⟨a, rfl, c0, c1⟩ := (HL0.out.keep HS.out.keeps).at_ j hjl
      have hE := HE0.out.keep HS.out.keeps (fun h => h)
      have e0 := hE.cell 0 rfl
      have e1 := hE.cell 1 rfl
      simp only [enCells, List.getElem_toArray, List.getElem_cons_zero, List.getElem_cons_succ] at e0 e1
      have HEw := Lib.hid hE
      have hsz : w.heap.size < wr.heap.size := hE.lt
      obtain ⟨r, hr⟩ : ∃ r, r = l.getD j En.none := ⟨_, rfl⟩
      have HSame := Lib.hid (fun (h : PutSt l e j o false) (he : r = e) => (show PutSt l e (j + 1) (o ++ [r]) true by rw [hr] at he ⊢; exact h.same hjl he))
      have HAhead := Lib.hid (fun (h : PutSt l e j o false) (he : r ≠ e) (hl : LessE e r) => (show PutSt l e (j + 1) (o ++ [e, r]) true by rw [hr] at he hl ⊢; have hh := h.ahead hjl he hl; rwa [List.append_assoc] at hh))
      have HOn := Lib.hid (fun (h : PutSt l e j o false) (he : r ≠ e) (hl : ¬ LessE e r) => (show PutSt l e (j + 1) (o ++ [r]) false by rw [hr] at he hl ⊢; exact h.on hjl he hl))
      have HDone := Lib.hid (fun (h : PutSt l e j o true) (hl : o.length ≤ j + 1) => (show PutSt l e (j + 1) (o ++ [r]) true by rw [hr]; exact h.done hjl hl))
      rw [← hr] at c0 c1
      have heq := fun w => enEqR r e w
      have HEa := Lib.hid (hE.alloc (.cells #[.int .u64 (r.hash : Int), .int .u32 (r.at_ : Int)] 69))
      have a0 := HEa.out.cell 0 rfl
      have a1 := HEa.out.cell 1 rfl
      simp only [enCells, List.getElem_toArray, List.getElem_cons_zero, List.getElem_cons_succ] at a0 a1
      clear hr hjl hE
      have HO := Lib.hid holen
      have HPd := Lib.hid (fun (_ : b = true) => HP.out.len)
      clear holen
      by_cases hre : r = e
      · have heq' : ∀ w, (binOp .eql 69 (.agg #[.int .u64 (r.hash : Int), .int .u32 (r.at_ : Int)]) (.agg #[.int .u64 (e.hash : Int), .int .u32 (e.at_ : Int)])).run Try.prog w = .ok (.bool true) w := fun w => by rw [heq w, decide_eq_true hre]
        have HRe := Lib.hid hre
        clear heq hre
        cases b
        · have HW := Lib.hid (Whole.newAt (wr.alloc (.cells #[.int .u64 (r.hash : Int), .int .u32 (r.at_ : Int)] 69)) 69 (enCells r) (wr.heap.size + 1) (by simp))
          have HS2 := Lib.hid ((HS.out.alloc (.cells #[.int .u64 (r.hash : Int), .int .u32 (r.at_ : Int)] 69)).alloc (.cells #[.int .u64 (r.hash : Int), .int .u32 (r.at_ : Int)] 69))
          go_wp2_with (at_builtin; refine wpList_append_twoG rfl _ _ 33 rfl 69 i0 (.agg #[.int .u64 0, .int .u32 0]) 16 Try.underlying33 hi hz0 hz1 hz2 rfl _ _ rfl HS2.out (wr.heap.size + 1) r rfl (HW.out.cell 0 rfl) (HW.out.cell 1 rfl) rfl rfl (by have := HO.out; first | omega | (simp; omega)) (by have := HO.out; first | omega | (simp; omega)) ?_)
          intro v5 w5 h5 g5
          have HS9 := Lib.hid h5
          have HP9 := Lib.hid (HSame.out HP.out HRe.out)
          clear h5 g5
          go_wp2_with fail
          exact ⟨⟨j + 1, o ++ [r], true, by omega, by go_num, rfl, HP9, HS9⟩, by simp [intOf]; omega⟩
        · have HTr := Lib.hid (show o.length ≤ j + 1 from HP.out.len)
          have HW := Lib.hid (Whole.newAt (wr.alloc (.cells #[.int .u64 (r.hash : Int), .int .u32 (r.at_ : Int)] 69)) 69 (enCells r) (wr.heap.size + 1) (by simp))
          have HS2 := Lib.hid ((HS.out.alloc (.cells #[.int .u64 (r.hash : Int), .int .u32 (r.at_ : Int)] 69)).alloc (.cells #[.int .u64 (r.hash : Int), .int .u32 (r.at_ : Int)] 69))
          go_wp2_with (at_builtin; refine wpList_append_twoG rfl _ _ 33 rfl 69 i0 (.agg #[.int .u64 0, .int .u32 0]) 16 Try.underlying33 hi hz0 hz1 hz2 rfl _ _ rfl HS2.out (wr.heap.size + 1) r rfl (HW.out.cell 0 rfl) (HW.out.cell 1 rfl) rfl rfl (by have := HO.out; first | omega | (simp; omega)) (by have := HO.out; first | omega | (simp; omega)) ?_)
          intro v5 w5 h5 g5
          have HS9 := Lib.hid h5
          have HP9 := Lib.hid (HDone.out HP.out HTr.out)
          clear h5 g5
          go_wp2_with fail
          exact ⟨⟨j + 1, o ++ [r], true, by omega, by go_num, rfl, HP9, HS9⟩, by simp [intOf]; omega⟩
      · have heq' : ∀ w, (binOp .eql 69 (.agg #[.int .u64 (r.hash : Int), .int .u32 (r.at_ : Int)]) (.agg #[.int .u64 (e.hash : Int), .int .u32 (e.at_ : Int)])).run Try.prog w = .ok (.bool false) w := fun w => by rw [heq w, decide_eq_false hre]
        have HRe := Lib.hid hre
        clear heq hre
        cases b
        rotate_left
        · have HTr := Lib.hid (show o.length ≤ j + 1 from HP.out.len)
          have HW := Lib.hid (Whole.newAt (wr.alloc (.cells #[.int .u64 (r.hash : Int), .int .u32 (r.at_ : Int)] 69)) 69 (enCells r) (wr.heap.size + 1) (by simp))
          have HS2 := Lib.hid ((HS.out.alloc (.cells #[.int .u64 (r.hash : Int), .int .u32 (r.at_ : Int)] 69)).alloc (.cells #[.int .u64 (r.hash : Int), .int .u32 (r.at_ : Int)] 69))
          go_wp2_with (at_builtin; refine wpList_append_twoG rfl _ _ 33 rfl 69 i0 (.agg #[.int .u64 0, .int .u32 0]) 16 Try.underlying33 hi hz0 hz1 hz2 rfl _ _ rfl HS2.out (wr.heap.size + 1) r rfl (HW.out.cell 0 rfl) (HW.out.cell 1 rfl) rfl rfl (by have := HO.out; first | omega | (simp; omega)) (by have := HO.out; first | omega | (simp; omega)) ?_)
          intro v5 w5 h5 g5
          have HS9 := Lib.hid h5
          have HP9 := Lib.hid (HDone.out HP.out HTr.out)
          clear h5 g5
          go_wp2_with fail
          exact ⟨⟨j + 1, o ++ [r], true, by omega, by go_num, rfl, HP9, HS9⟩, by simp [intOf]; omega⟩
        have HLe := Lib.hid (fun w => HLess.out e r w)
        by_cases hle : LessE e r
        · rw [decide_eq_true hle] at HLe
          have HLt := Lib.hid hle
          clear hle
          go_wp2_with fail
          refine (HLe.out _).mono ?_
          rintro z w2 ⟨rfl, hk⟩
          have HSx := Lib.hid ((HS.out.alloc (.cells #[.int .u64 (r.hash : Int), .int .u32 (r.at_ : Int)] 69)).keep hk)
          have HEx := Lib.hid (HEa.out.keep hk (fun h => h))
          have HXx := Lib.hid ((Whole.new wr 69 (enCells r)).keep hk (fun h => h))
          have HSz : Hid (wr.heap.size + 1 ≤ w2.heap.size) := Lib.hid (by have := hk.size; simpa using this)
          have b0 := HEx.out.cell 0 rfl
          have b1 := HEx.out.cell 1 rfl
          simp only [enCells, List.getElem_toArray, List.getElem_cons_zero, List.getElem_cons_succ] at b0 b1
          have HW := Lib.hid (Whole.new w2 69 (enCells e))
          have HS2 := Lib.hid (HSx.out.alloc (.cells #[.int .u64 (e.hash : Int), .int .u32 (e.at_ : Int)] 69))
          have HX2 := Lib.hid (HXx.out.alloc (.cells #[.int .u64 (e.hash : Int), .int .u32 (e.at_ : Int)] 69))
          clear hk a0 a1 c0 c1 e0 e1
          go_wp2_with (at_builtin; refine wpList_append_twoG rfl _ _ 33 rfl 69 i0 (.agg #[.int .u64 0, .int .u32 0]) 16 Try.underlying33 hi hz0 hz1 hz2 rfl _ _ rfl HS2.out w2.heap.size e rfl (HW.out.cell 0 rfl) (HW.out.cell 1 rfl) rfl rfl (by have := HO.out; first | omega | (simp; omega)) (by have := HO.out; first | omega | (simp; omega)) ?_)
          intro v4 w4 h4 g4
          have HX4 := Lib.hid (HX2.out.grown g4 (HS.out.apart (Nat.le_refl _)))
          have x0 := HX4.out.cell 0 rfl
          have x1 := HX4.out.cell 1 rfl
          simp only [enCells, List.getElem_toArray, List.getElem_cons_zero, List.getElem_cons_succ] at x0 x1
          have HO4 : Hid ((o ++ [e]).length ≤ 1000002) := Lib.hid (by rw [List.length_append]; have := HO.out; simp; omega)
          have HW4 := Lib.hid (Whole.new w4 69 (enCells r))
          have HS4 := Lib.hid (h4.alloc (.cells #[.int .u64 (r.hash : Int), .int .u32 (r.at_ : Int)] 69))
          clear h4 g4 b0 b1
          go_wp2_with (at_builtin; refine wpList_append_twoG rfl _ _ 33 rfl 69 i0 (.agg #[.int .u64 0, .int .u32 0]) 16 Try.underlying33 hi hz0 hz1 hz2 rfl _ _ rfl HS4.out w4.heap.size r rfl (HW4.out.cell 0 rfl) (HW4.out.cell 1 rfl) rfl rfl (by have := HO4.out; first | omega | (simp; omega)) (by have := HO4.out; first | omega | (simp; omega)) ?_)
          intro v5 w5 h5 g5
          have HS9 : Hid (TwosSoFar enH enA 69 w0 (o ++ [e, r]) v5 w5) := Lib.hid h5
          have HP9 := Lib.hid (HAhead.out HP.out HRe.out HLt.out)
          clear h5 g5
          go_wp2_with fail
          exact ⟨⟨j + 1, o ++ [e, r], true, by omega, by go_num, rfl, HP9, HS9⟩, by simp [intOf]; omega⟩
        · rw [decide_eq_false hle] at HLe
          have HLt := Lib.hid hle
          clear hle
          go_wp2_with fail
          refine (HLe.out _).mono ?_
          rintro z w2 ⟨rfl, hk⟩
          have HSx := Lib.hid ((HS.out.alloc (.cells #[.int .u64 (r.hash : Int), .int .u32 (r.at_ : Int)] 69)).keep hk)
          have HXx := Lib.hid ((Whole.new wr 69 (enCells r)).keep hk (fun h => h))
          have b0 := HXx.out.cell 0 rfl
          have b1 := HXx.out.cell 1 rfl
          simp only [enCells, List.getElem_toArray, List.getElem_cons_zero, List.getElem_cons_succ] at b0 b1
          have HW := Lib.hid (Whole.new w2 69 (enCells r))
          have HS2 := Lib.hid (HSx.out.alloc (.cells #[.int .u64 (r.hash : Int), .int .u32 (r.at_ : Int)] 69))
          clear hk a0 a1 c0 c1 e0 e1
          go_wp2_with (at_builtin; refine wpList_append_twoG rfl _ _ 33 rfl 69 i0 (.agg #[.int .u64 0, .int .u32 0]) 16 Try.underlying33 hi hz0 hz1 hz2 rfl _ _ rfl HS2.out w2.heap.size r rfl (HW.out.cell 0 rfl) (HW.out.cell 1 rfl) rfl rfl (by have := HO.out; first | omega | (simp; omega)) (by have := HO.out; first | omega | (simp; omega)) ?_)
          intro v5 w5 h5 g5
          have HS9 := Lib.hid h5
          have HP9 := Lib.hid (HOn.out HP.out HRe.out HLt.out)
          clear h5 g5
          go_wp2_with fail
          exact ⟨⟨j + 1, o ++ [r], false, by omega, by go_num, rfl, HP9, HS9⟩, by simp [intOf]; omega⟩
    · have hdj : decide ((j : Int) < (n : Int)) = false := decide_eq_false (by omega)
      have hdrop : l.drop j = [] := List.drop_eq_nil_of_le (by have := HN.out; omega)
      have HO : Hid (o.length ≤ 1000001) := Lib.hid (by have := HP.out.len; omega)
      cases b
      · have HF : Hid (o ++ [e] = putE l e) := Lib.hid (by
          have h := (HP.out.no rfl).2
          rw [hdrop] at h
          exact h)
        have hE := HE0.out.keep HS.out.keeps (fun h => h)
        have e0 := hE.cell 0 rfl
        have e1 := hE.cell 1 rfl
        simp only [enCells, List.getElem_toArray, List.getElem_cons_zero, List.getElem_cons_succ] at e0 e1
        have HW := Lib.hid (Whole.new wr 69 (enCells e))
        have HS2 := Lib.hid (HS.out.alloc (.cells #[.int .u64 (e.hash : Int), .int .u32 (e.at_ : Int)] 69))
        clear hE hdrop
        go_wp2_with (at_builtin; refine wpList_append_twoG rfl _ _ 33 rfl 69 i0 (.agg #[.int .u64 0, .int .u32 0]) 16 Try.underlying33 hi hz0 hz1 hz2 rfl _ _ rfl HS2.out wr.heap.size e rfl (HW.out.cell 0 rfl) (HW.out.cell 1 rfl) rfl rfl (by have := HO.out; first | omega | (simp; omega)) (by have := HO.out; first | omega | (simp; omega)) ?_)
        intro v5 w5 h5 g5
        have HN5 := Lib.hid (h5.new (dd := En.none))
        rw [HF.out] at HN5
        clear h5 g5
        go_wp2_with fail
        go_ret
        obtain ⟨q, m, d, h1, h2, h3, h4, h5, h6, h7⟩ := HN5.out
        exact ⟨_, rfl, q, m, d, h1, h2, h3, h4, h5, h6, HK0.out.trans h7⟩
      · have HF : Hid (o = putE l e) := Lib.hid (by
          have h := HP.out.yes rfl
          rwa [hdrop, List.append_nil] at h)
        have HN5 := Lib.hid (HS.out.new (dd := En.none))
        rw [HF.out] at HN5
        clear hdrop
        go_wp2_with fail
        go_ret
        obtain ⟨q, m, d, h1, h2, h3, h4, h5, h6, h7⟩ := HN5.out
        exact ⟨_, rfl, q, m, d, h1, h2, h3, h4, h5, h6, HK0.out.trans h7⟩
end Go.Proofs.Ytbchiccgkhnkaaa

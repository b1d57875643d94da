/-
  The law CursorDead returns true for every slice of bytes and every list of asks, and its arguments read afterwards as they did: no condition.
-/
import Derived.Test.YthgjipgkbinjkaaLawDead
import Derived.Test.YthgjipgkbinjkaaOpen
import Derived.Deep.Strs
namespace Go.Proofs.Ythgjipgkbinjkaa.cursorDead
open Go.ChangeShapes Go.WideShapes Go.ChangeAt Go.RowKit

theorem spec : LawSpec Rows.cursorDeadSpec 2 := ⟨rfl, fun H ds h => by
  match ds, h with
  | [d1, d2], _ => exact ⟨rfl, rfl, rfl⟩⟩

theorem plainAdd {w : World} {p : Addr} {v : Value} (j : Nat) (h : w.cell? p = some v) : p.add j = ⟨p.block, p.off + j, none⟩ := by
  obtain ⟨b, o, s⟩ := p
  cases s with
  | none => unfold Addr.add; split <;> simp_all
  | some x =>
    unfold World.cell? at h
    split at h <;> simp at h

/-- The second argument: a list of asks. -/
theorem open_asks {H : Type} {enc : TypeId × Value → H} {W : World} {base : Nat} {v : Value} {d : DataW H} {ps : List MemPlace} (hv : Value.okWide Try.prog W .any base 23 v) (h : DataW.Trod enc Try.prog W 0 (fun _ => true) true 23 v d ps) :
    ∃ (q : Option Addr) (n k : Nat), v = .slice q n k ∧ Asks W q n ∧ n ≤ 9223372036854775807 := by
  obtain ⟨a0, len, cap, rfl⟩ := okWide_slice Try.underlying23 hv
  obtain ⟨fuel, hf⟩ := h
  refine ⟨a0, len, cap, rfl, ?_⟩
  rcases Go.Deep.open_slice Try.underlying23 hf with ⟨hcs, _⟩ | ⟨a, len', cap', m, n, D, Pl, hcs, _, hl, hm, hmm, _, hi⟩
  · simp [Value.cells] at hcs
    obtain ⟨rfl, rfl, rfl⟩ := hcs
    exact ⟨fun i h => by omega, by omega⟩
  · simp [Value.cells] at hcs
    obtain ⟨rfl, rfl, rfl⟩ := hcs
    simp only [if_true] at hmm
    refine ⟨fun i hlt => ?_, by unfold maxLen at hm; omega⟩
    obtain ⟨cs, hc, ht⟩ := hi i (by omega)
    obtain ⟨ys, n', _, _, hlen, hyl, hfs⟩ := DataW.trod_struct Try.underlying32 ht
    have hyl3 : ys.length = 3 := hyl
    have h3 : Try.prog.cellsOf 32 = 3 := by kernel_rfl
    rw [h3] at hc hlen
    have h5 : Try.prog.cellsOf 5 = 1 := by kernel_rfl
    have h8 : Try.prog.cellsOf 3 = 1 := by kernel_rfl
    obtain ⟨_, _, hat⟩ := World.cells?_some hc
    match cs, hlen with
    | [v0, v1, v2], _ =>
      have t0 := hfs 0 _ rfl
      have t1 := hfs 1 _ rfl
      have t2 := hfs 2 _ rfl
      simp only [List.getElem_toArray, List.getElem_cons_zero, List.getElem_cons_succ] at t0 t1 t2
      simp only [h5, h8, List.drop_zero, List.drop_succ_cons, List.take_succ_cons, List.take_zero] at t0 t1 t2
      obtain ⟨y0, hy0⟩ : ∃ y, ys[0]? = some y := ⟨_, List.getElem?_eq_getElem (by omega)⟩
      obtain ⟨y1, hy1⟩ : ∃ y, ys[1]? = some y := ⟨_, List.getElem?_eq_getElem (by omega)⟩
      obtain ⟨y2, hy2⟩ : ∃ y, ys[2]? = some y := ⟨_, List.getElem?_eq_getElem (by omega)⟩
      rw [hy0] at t0; rw [hy1] at t1; rw [hy2] at t2
      obtain ⟨kd, e0, _, w0⟩ := DataW.trod_int Try.underlying5 t0
      obtain ⟨mm, e1, _, w1⟩ := DataW.trod_int Try.underlying3 t1
      obtain ⟨ee, e2, _, w2⟩ := DataW.trod_int Try.underlying5 t2
      obtain rfl : v0 = .int .u8 kd := by simpa using e0
      obtain rfl : v1 = .int .i64 mm := by simpa using e1
      obtain rfl : v2 = .int .u8 ee := by simpa using e2
      have k0 : W.cell? (a.add (i * 3)) = some (.int .u8 kd) := hat 0 (by omega)
      have k1 := hat 1 (by omega)
      have k2 := hat 2 (by omega)
      rw [plainAdd 1 k0] at k1
      rw [plainAdd 2 k0] at k2
      exact ⟨a, kd, mm, ee, rfl, k0, k1, k2, (octet_wf w0).1, (octet_wf w0).2, (octet_wf w2).1, (octet_wf w2).2⟩

theorem contract (H : Type) (enc : TypeId × Value → H) (W : World) (base : Nat) (args : Array Value) (ds gs : List (DataW H)) (before : List MemPlace)
    (hval : ∀ (j : Nat) t v, Try.f3.params[j]? = some t → args[j]? = some v → Value.okWide Try.prog W .any base t v)
    (hW : DataW.Whole enc Try.prog Try.f3.params.toList Rows.cursorDeadSpec.vars false W args.toList ds gs before) :
    Calls Try.prog 3 args W fun e W' => ∃ v, e = .returned v ∧ Rows.cursorDeadSpec.post enc Try.prog Try.f3 false true false false W args v W' := by
  have hW' := hW
  obtain ⟨p, q, hA0, hV, rfl, _, _⟩ := hW
  have hA : DataW.TrodAll enc Try.prog W 0 (fun _ => true) true Try.f3.params.toList args.toList ds p := hA0
  rw [Try.params3] at hA hval
  obtain ⟨v0, v1, d0, d1, p0, p1, rfl, rfl, rfl, h0, h1⟩ := trodAll_two hA
  obtain ⟨p, N, c, xs, rfl, hx, hN, hc, hb, _, hp, _⟩ := open_octets (hval 0 _ v0 rfl rfl) h0
  obtain ⟨q', n, k, rfl, hl, hn⟩ := open_asks (hval 1 _ v1 rfl rfl) h1
  refine (dead_walk p q' N c n k xs W hx hN hc hb hp hl hn).mono fun e W' ⟨he, hk⟩ => ?_
  subst he
  exact ⟨_, rfl, law_post (f := Try.f3) spec rfl (by kernel_rfl) hW' (hk.below (Nat.le_refl _) (fun _ _ h => h))⟩

set_option maxRecDepth 100000 in
theorem lifted (os : Os) (started : os.Started) (H : Type) (enc : TypeId × Value → H) :
    ReturnsInHanded {} Try.checked os 3 .any (Rows.cursorDeadSpec.pre6 enc Try.prog Try.f3 Rows.cursorDeadRow.domain false) (Rows.cursorDeadSpec.post enc Try.prog Try.f3 false true false false) := by
  refine returnsInHanded_of_change (C := Try.checked) own started (by kernel_rfl) Try.func3
    (ChangeSpec.witness6 (enc := enc) (C := Try.checked) false ⟨#[], #[.slice none 0 0, .slice none 0 0], []⟩ 8 (by kernel_rfl) (by kernel_rfl) (by kernel_rfl) (by kernel_rfl)) ?_
  intro W base args ds gs before hval hW _ _
  exact contract H enc W base args ds gs before hval hW

theorem holds : Rows.CursorDeadSaid :=
  OpenClaim.holds_of_wide 3 Try.f3 rfl rfl rfl rfl rfl rfl rfl ⟨rfl, rfl, rfl, rfl, rfl⟩ rfl rfl rfl rfl rfl (by kernel_rfl) Try.func3 (by kernel_rfl)
    (of_decide_eq_true (by kernel_rfl)) (by unfold Func.isWrapper; first | (rw [if_pos (by decide +kernel)]; kernel_rfl) | (rw [if_neg (by decide +kernel)]; exact ⟨rfl, rfl⟩))
    (fun os started H enc _ => lifted os started H enc)

#print axioms holds
end Go.Proofs.Ythgjipgkbinjkaa.cursorDead

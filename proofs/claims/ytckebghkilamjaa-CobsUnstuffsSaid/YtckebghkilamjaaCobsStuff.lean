/-
  Package cobs: Stuff and Size.
-/
import Derived.Test.YtckebghkilamjaaCobsIter
namespace Go.Proofs.Ytckebghkilamjaa
open Go.RowKit Go.Shelf
attribute [local go_sem] Oper.semAt_some

theorem wpListIn_append_own_none {F : Fence} {n : Nat} {P : Program} {w : World} {ops : Array Oper} {rest : List Oper} {o : Oper} {a : Act} {Q : Exit → Act → World → Prop} (hgd : o.guard = none) (s x : Operand) (t : TypeId)
    (ho : o.op = .call { callee := .builtin .append, args := #[s, x], argTypes := #[t, t] })
    (base : Nat) (e : TypeId) (i : TypeInfo) (size : Nat) (ht : P.underlying t = some (.slice e)) (hi : P.info? e = some i)
    (v : Value) (k : Nat) (xs : List Value) (hs : a.eval s = v) (hown : w.ownsRow base e size v k xs) (hx : a.eval x = .slice none 0 0)
    (h : wpListIn F n P ops Q rest (a.put o.dst v) w) : wpListIn F n P ops Q (o :: rest) a w := by
  refine wpListIn_plain hgd fun K hK => ?_
  have hrun := run_append_owned_none (P := P) (w := w) base t o.type e i size ht hi v k xs hown
  unfold Oper.wpIn
  refine ⟨?_, ?_⟩
  · simp [Oper.about, ho, resolve, Target.leads, Sem.run_pure]
  · rw [Oper.semAt_plain F _ _ (by rw [ho]; intro c hc'; cases hc')]
    simp [execOp, ho, resolve, invoke, builtin, hs, hx, hrun, Result.andThen]
    exact hK _ _ h

/-- A store of a longer row into its box, where no block was laid for what was appended. -/
theorem boxed_grew {W w1 : World} {n₀ B : Nat} {t e : TypeId} {size : Nat} {v v' : Value} {k m : Nat} {xs ys : List Value}
    (hv : Boxed W B t v) (hte : t ≠ e) (hrow : W.ownsRow n₀ e size v k xs) (hn₀ : n₀ ≤ W.heap.size) (hB : n₀ ≤ B)
    (hown' : w1.ownsRow n₀ e size v' m ys) (hgrow : W.grownBy w1 v.ownBlock) :
    Boxed w1 B t v ∧ Boxed (w1.setCell ⟨B, 0, none⟩ v') B t v' ∧ (w1.setCell ⟨B, 0, none⟩ v').ownsRow n₀ e size v' m ys ∧ KeepsOthers W (w1.setCell ⟨B, 0, none⟩ v') ∧ Below n₀ W (w1.setCell ⟨B, 0, none⟩ v') := by
  have hv1 : Boxed w1 B t v := hv.kept hgrow (hv.not_row hte hrow)
  refine ⟨hv1, hv1.set v', hown'.kept (grownBy_setCell' w1 B v') (.inr (hv1.not_row hte hown').symm), ?_, ?_⟩
  · refine (KeepsOthers.of_grownBy hgrow fun j o ej hj => ?_).trans (KeepsOthers.setCell _ _ _)
    rcases hrow.2 with ⟨rfl, _⟩ | ⟨g, cap, cur, rfl, _, hgb, _⟩
    · simp [Value.ownBlock] at ej
    · obtain rfl : g = j := by simpa [Value.ownBlock] using ej
      rw [hgb] at hj; cases hj; rfl
  · refine ((Below.refl n₀ W).grown hgrow hn₀ fun j ej => ?_).setCell (p := ⟨B, 0, none⟩) hB v'
    rcases hrow.2 with ⟨rfl, _⟩ | ⟨g, cap, cur, rfl, hb, _, _⟩
    · simp [Value.ownBlock] at ej
    · obtain rfl : g = j := by simpa [Value.ownBlock] using ej
      exact hb

/-- Between two rounds: the box holds a slice of what was told. -/
def ToldAt (w : World) (B : Nat) (pre : List (Grp w)) (W : World) : Prop :=
  (∃ v, Boxed W B 22 v ∧ W.ownsRow w.heap.size 5 1 v (told (pre.map Grp.g)).length ((told (pre.map Grp.g)).map (Value.int .u8)) ∧ True) ∧ Below w.heap.size w W

theorem told_room {w : World} (pre : List (Grp w)) : (told (pre.map Grp.g)).length ≤ 255 * pre.length := by
  have := told_len (pre.map Grp.g) (fun g hg => by
    obtain ⟨x, _, rfl⟩ := List.mem_map.1 hg
    rw [← x.hn]
    exact x.h254)
  rwa [List.length_map] at this
theorem ToldAt.next {w W : World} {B K : Nat} {pre : List (Grp w)} {x : Grp w} {v : Value} {z : Int} (hv : Boxed W B 22 v) (hK : K = (told (pre.map Grp.g)).length) (hz : z = (x.n : Int) + 1)
    (hr : W.ownsRow w.heap.size 5 1 v (K + 1 + x.n) ((told (pre.map Grp.g)).map (Value.int .u8) ++ [Value.int .u8 z] ++ x.g.map (Value.int .u8))) (hB : Below w.heap.size w W) : ToldAt w B (pre ++ [x]) W := by
  refine ⟨⟨v, hv, ?_, trivial⟩, hB⟩
  have e : ((x.g.length + 1 : Nat) : Int) = z := by rw [hz, x.hn]; omega
  have hl : (told ((pre ++ [x]).map Grp.g)).length = K + 1 + x.n := by
    rw [List.map_append, List.map_singleton, told_snoc, List.length_append, List.length_cons, hK, x.hn]; omega
  rw [hl]
  rw [List.map_append, List.map_singleton, told_snoc, List.map_append, List.map_cons, e]
  simpa using hr

set_option maxRecDepth 100000 in
set_option maxHeartbeats 2000000 in
theorem stuff_in (n : Nat) (hn : 3 ≤ n) (p : Option Addr) (N c : Nat) (xs : List Int) (w : World) (hx : N = xs.length) (hc : N ≤ c) (hc' : c ≤ 9223372036854775807) (hn0 : p = none → N = 0 ∧ c = 0) (ho : Octets xs) (hN : N ≤ 1000000) (hb : Bytes8 w p xs) :
    CallsIn Fence.wide n Try.prog 9 #[.slice p N c] w fun e W' => ∃ v, e = .returned v ∧ Copied w (told (groupsOf xs)).length (told (groupsOf xs)) v W' := by
  obtain ⟨i0, hi, hy0, hy1, hy2⟩ := info_parts infoByte
  have h1 : 1 ≤ n := by omega
  obtain ⟨M, hM⟩ : ∃ M, M = mostOf N := ⟨_, rfl⟩
  have hM1 : M ≤ 2000000 := by rw [hM]; unfold mostOf; split <;> omega
  have HM := Lib.hid (fun w => (most_cobs (N : Int) w (by omega) (by omega)))
  rw [show (N : Int).toNat = N by omega, ← hM] at HM
  have HX := Lib.hid hx
  have HO := Lib.hid ho
  have HBY := Lib.hid hb
  have HN0 := Lib.hid hn0
  clear hM hx ho hb hn0
  refine callsIn_of_wp_marks Try.func9 rfl trivial ?_ rfl
  simp only [Try.ntmps9, List.size_toArray, List.length_cons, List.length_nil, Nat.reduceAdd, Nat.reduceSub, Array.replicate_succ, Array.replicate_zero, List.push_toArray, List.append_toArray, List.nil_append, List.cons_append]
  gi_wp2
  refine ⟨trivial, ?_⟩
  refine (callsIn_wide.2 (HM.out _)).mono ?_
  rintro e w1 ⟨rfl, rfl⟩
  gi_wp2_with (gi_at_make; refine wpListIn_make_own _ rfl _ _ 22 rfl w1.heap.size 5 i0 (.int .u8 0) 1 Try.underlying22 hi hy0 hy1 .i64 .i64 (M : Int) M rfl rfl rfl (by rw [hy2]; omega) (by unfold maxLen; omega) (Nat.le_refl _) ?_)
  intro w2 hrow hgrow
  have hB2 : Below w1.heap.size w1 w2 := (Below.refl _ w1).grown hgrow (Nat.le_refl _) (fun k hk => by cases hk)
  have hle : w1.heap.size ≤ w2.heap.size := hB2.size
  gi_wp2
  refine ⟨trivial, ?_⟩
  refine (groups_cobs _ _ _ _ _).mono ?_
  rintro e w' ⟨rfl, rfl⟩
  gi_wp2
  have bS := Boxed.new w2 22 (.slice (some ⟨w1.heap.size, 0, none⟩) 0 M)
  have bN := Boxed.new (w2.alloc (.cells #[.slice (some ⟨w1.heap.size, 0, none⟩) 0 M] 22)) 22 (.slice p N c)
  rw [World.size_alloc] at bN
  have hB0 : Below w1.heap.size w1 ((w2.alloc (.cells #[.slice (some ⟨w1.heap.size, 0, none⟩) 0 M] 22)).alloc (.cells #[.slice p N c] 22)) := (hB2.alloc hle _).alloc (by simp; omega) _
  refine wpIn_rangeFunc_ownG rfl h1 (gf := 17) (lb := #[.pointer (some ⟨w2.heap.size + 1, 0, none⟩)]) rfl trivial (enters_of Try.func17 (by kernel_rfl) rfl)
    (groups_stops (n - 1) (by omega) (w2.heap.size + 1) w1 _ p N c xs HX.out hc hc' HO.out HBY.out HN0.out bN.cell (by simp) hB0) belowK_t (belowK_b (by simp; omega)) (Below.refl _ _) (fun _ => rfl)
    (fun pre W => ToldAt w1 w2.heap.size pre W)
    (fun _ _ _ => False)
    (OwnFrom.and (Own.from (holdsRow_own w1.heap.size w2.heap.size 22 5 1 (fun pre : List (Grp w1) => (told (pre.map Grp.g)).length) (fun pre => (told (pre.map Grp.g)).map (Value.int .u8)) (fun _ _ => True)) _) (ownFrom_below (Nat.le_refl _) (by simp; omega)))
    (fun _ _ _ _ _ hs _ _ => hs)
    ⟨⟨_, bS.alloc _, (hrow.alloc _).alloc _, trivial⟩, hB0⟩
    (fun x => { tmps := #[.slice p N c, undef, .slice none 0 0, .pointer (some ⟨w2.heap.size, 0, none⟩), .slice x.q x.n x.d, .slice p N c, .int .i64 (N : Int), .int .i64 (M : Int), .slice (some ⟨w1.heap.size, 0, none⟩) 0 M, .slice p N c, .func (.func 17) #[] #[.pointer (some ⟨w2.heap.size + 1, 0, none⟩)], .slice x.q x.n x.d, undef, undef, undef, undef, undef, undef, undef, undef, undef, undef, undef], defers := [] }) ?assign ?body ?done ?stop
  case assign =>
    intro l x W K hK
    gi_wp2
    exact hK
  case body =>
    rintro l pre x W ⟨⟨v, hv, hrow, _⟩, hB⟩ hlt
    have hroom := told_room pre
    obtain ⟨K, hKe⟩ : ∃ K, K = (told (pre.map Grp.g)).length := ⟨_, rfl⟩
    rw [← hKe] at hrow hroom
    have HKE := Lib.hid hKe
    clear hKe
    have hc0 := hv.cell
    have hx254 := x.h254
    have hw8 : IntKind.u8.wrap ((x.n : Int) + 1) = (x.n : Int) + 1 := by rw [IntKind.wrap_u8]; omega
    gi_wp2_with (gi_at_builtin; refine wpListIn_append_own _ rfl _ _ 22 rfl w1.heap.size 5 i0 (.int .u8 0) 1 1 Try.underlying22 hi hy0 hy1 hy2 rfl (by decide) _ _ _ rfl (hrow.alloc _) ⟨W.heap.size, 0, none⟩ 1 1 [.int .u8 ((x.n : Int) + 1)] rfl rfl (cell_one_new _ _ _) (by simp [Value.oneCell']) (by unfold maxLen; omega) (by omega) (by have := hB.size; simp; omega) ?_)
    intro v' wA hown' hgrow' _
    obtain ⟨g', cap', rfl⟩ := ownsRow_succ hown'
    obtain ⟨hv1, hv2, hr2, hk2, hb2⟩ := hv.appended (by decide) hrow hB.size hle hown' hgrow'
    have hc1 := hv1.cell
    have hf1 := hv1.frozen
    have HV2 := Lib.hid hv2
    have HR2 := Lib.hid hr2
    have HK2 := Lib.hid hk2
    have HB2 := Lib.hid (hB.trans hb2)
    have HB2' := Lib.hid hb2
    have hc2 := hv2.cell
    have hBx : Bytes8 (wA.setCell ⟨w2.heap.size, 0, none⟩ (.slice (some ⟨g', 0, none⟩) (K + 1) cap')) x.q x.g := x.hb.below (hB.trans hb2)
    have hsz : w1.heap.size ≤ (wA.setCell ⟨w2.heap.size, 0, none⟩ (.slice (some ⟨g', 0, none⟩) (K + 1) cap')).heap.size := (hB.trans hb2).size
    clear hk2 hb2 hv2 hr2 hown' hgrow' hc0 hv1
    cases hxq : x.q with
    | none =>
      obtain ⟨e1, e2⟩ := x.hq hxq
      gi_wp2_with (gi_at_builtin; refine wpListIn_append_own_none rfl _ _ 22 rfl w1.heap.size 5 i0 1 Try.underlying22 hi _ _ _ rfl HR2.out (by simp [Act.eval, e1, e2]) ?_)
      have hg0 : x.g = [] := List.length_eq_zero_iff.1 (by have := x.hn; omega)
      obtain ⟨hv4, hv5, hr5, hk5, hb5⟩ := boxed_grew HV2.out (by decide) HR2.out hsz hle HR2.out ⟨rfl, rfl, rfl, Nat.le_refl _, fun _ _ _ => rfl⟩
      exact ⟨(HK2.out.trans hk5).from _, HB2'.out.trans hb5, ToldAt.next hv5 HKE.out rfl (by rw [hg0, e1]; simpa [e1] using hr5) (HB2.out.trans hb5)⟩
    | some ad =>
      gi_wp2_with (gi_at_builtin; refine wpListIn_append_own _ rfl _ _ 22 rfl w1.heap.size 5 i0 (.int .u8 0) 1 1 Try.underlying22 hi hy0 hy1 hy2 rfl (by decide) _ _ _ rfl HR2.out ad x.n x.d (x.g.map (Value.int .u8)) rfl ?qc1 ?qc2 ?qc3 ?qc4 ?qc5 hsz ?_)
      case qc1 => have := x.hn; simp; omega
      case qc2 =>
        intro j u hj
        have hjn : j < x.g.length := by
          have := (List.getElem?_eq_some_iff.1 hj).1
          simpa using this
        obtain ⟨a', ha', hcell⟩ := hBx (by omega)
        obtain rfl := Option.some.inj (hxq.symm.trans ha')
        rw [hcell j hjn]
        have e : (x.g.map (Value.int .u8))[j]? = some (Value.int .u8 (x.g.getD j 0)) := by simp [List.getElem?_eq_getElem hjn]
        rw [e] at hj
        exact hj
      case qc3 => intro u hu; obtain ⟨b, _, rfl⟩ := List.mem_map.1 hu; rfl
      case qc4 => unfold maxLen; omega
      case qc5 => omega
      intro v3 wB hown3 hgrow3 _
      obtain ⟨hv4, hv5, hr5, hk5, hb5⟩ := boxed_grew HV2.out (by decide) HR2.out hsz hle hown3 hgrow3
      have hc4 := hv4.cell
      have hf4 := hv4.frozen
      rcases hr5.2 with ⟨rfl, h0⟩ | ⟨g5, cap5, _, rfl, _⟩
      · omega
      · gi_wp2
        exact ⟨(HK2.out.trans hk5).from _, HB2'.out.trans hb5, ToldAt.next hv5 HKE.out rfl (by simpa [Nat.add_assoc] using hr5) (HB2.out.trans hb5)⟩
  case done =>
    rintro D ys W hD hS ⟨⟨v, hv, hrow, _⟩, hB⟩ hK
    have hc0 := hv.cell
    rw [hS] at hrow
    gi_wp2
    refine ⟨by simp, .inl ⟨_, _, rfl, run_takeDeferred hK, ?_⟩⟩
    exact ⟨_, results_tmp rfl _ _ _, v, rfl, ownsRow_putObj hrow _ hK rfl, hB.trans (belowK_b (w := w1) (Nat.le_refl _) W D _ _ (by simp at hD; omega) hK rfl rfl)⟩
  case stop =>
    rintro D c pre W _ _ h _
    exact h.elim

set_option maxRecDepth 100000 in
set_option maxHeartbeats 2000000 in
theorem size_in (n : Nat) (hn : 3 ≤ n) (p : Option Addr) (N c : Nat) (xs : List Int) (w : World) (hx : N = xs.length) (hc : N ≤ c) (hc' : c ≤ 9223372036854775807) (hn0 : p = none → N = 0 ∧ c = 0) (ho : Octets xs) (hN : N ≤ 1000000) (hb : Bytes8 w p xs) :
    CallsIn Fence.wide n Try.prog 12 #[.slice p N c] w fun e W' => e = .returned (.int .i64 ((told (groupsOf xs)).length : Int)) ∧ Below w.heap.size w W' := by
  have h1 : 1 ≤ n := by omega
  have HX := Lib.hid hx
  have HO := Lib.hid ho
  have HBY := Lib.hid hb
  have HN0 := Lib.hid hn0
  clear hx ho hb hn0
  refine callsIn_of_wp_marks Try.func12 rfl trivial ?_ rfl
  simp only [Try.ntmps12, List.size_toArray, List.length_cons, List.length_nil, Nat.reduceAdd, Nat.reduceSub, Array.replicate_succ, Array.replicate_zero, List.push_toArray, List.append_toArray, List.nil_append, List.cons_append]
  gi_wp2
  refine ⟨trivial, ?_⟩
  refine (groups_cobs _ _ _ _ _).mono ?_
  rintro e w' ⟨rfl, rfl⟩
  gi_wp2
  have bS := Boxed.new w 3 (.int .i64 0)
  have bN := Boxed.new (w.alloc (.cells #[.int .i64 0] 3)) 22 (.slice p N c)
  rw [World.size_alloc] at bN
  have hB0 : Below w.heap.size w ((w.alloc (.cells #[.int .i64 0] 3)).alloc (.cells #[.slice p N c] 22)) := ((Below.refl _ w).alloc (Nat.le_refl _) _).alloc (by simp) _
  refine wpIn_rangeFunc_ownG rfl h1 (gf := 17) (lb := #[.pointer (some ⟨w.heap.size + 1, 0, none⟩)]) rfl trivial (enters_of Try.func17 (by kernel_rfl) rfl)
    (groups_stops (n - 1) (by omega) (w.heap.size + 1) w _ p N c xs HX.out hc hc' HO.out HBY.out HN0.out bN.cell (by simp) hB0) belowK_t (belowK_b (by simp; omega)) (Below.refl _ _) (fun _ => rfl)
    (fun pre W => (W.cell? ⟨w.heap.size, 0, none⟩ = some (.int .i64 ((toldN (pre.map Grp.g) : Nat) : Int)) ∧ W.frozen? ⟨w.heap.size, 0, none⟩ = false) ∧ Below w.heap.size w W)
    (fun _ _ _ => False)
    (OwnFrom.and (Own.from (fun s A B row hs hg hr => ⟨cell_kept hs.1 hg hr, (frozen_kept hs.1 hg hr).trans hs.2⟩) _) (ownFrom_below (Nat.le_refl _) (by simp; omega)))
    (fun _ _ _ _ _ hs _ _ => hs)
    ⟨⟨(bS.alloc _).cell, (bS.alloc _).frozen⟩, hB0⟩
    (fun x => { tmps := #[.slice p N c, undef, .int .i64 0, .pointer (some ⟨w.heap.size, 0, none⟩), .slice x.q x.n x.d, .slice p N c, .func (.func 17) #[] #[.pointer (some ⟨w.heap.size + 1, 0, none⟩)], .slice x.q x.n x.d, undef, undef, undef, undef, undef, undef], defers := [] }) ?assign ?body ?done ?stop
  case assign =>
    intro l x W K hK
    gi_wp2
    exact hK
  case body =>
    rintro l pre x W ⟨⟨hc0, hf0⟩, hB⟩ hlt
    have hroom := told_room pre
    rw [← toldN_told] at hroom
    have hsn : toldN ((pre ++ [x]).map Grp.g) = toldN (pre.map Grp.g) + (x.n + 1) := by
      rw [toldN_told, toldN_told, List.map_append, List.map_singleton, told_snoc, List.length_append, List.length_cons, x.hn]
    obtain ⟨K, hKe⟩ : ∃ K, K = toldN (pre.map Grp.g) := ⟨_, rfl⟩
    rw [← hKe] at hc0 hroom hsn
    have HSN := Lib.hid hsn
    clear hsn hKe
    have hx254 := x.h254
    gi_wp2
    exact ⟨(KeepsOthers.setCell _ _ _).from _, (Below.refl w.heap.size W).setCell (p := ⟨w.heap.size, 0, none⟩) (Nat.le_refl _) _, ⟨by rw [HSN.out]; exact World.cell?_setCell_same' _ _ _ (by rw [hc0]; rfl), by rw [World.frozen?_setCell]; exact hf0⟩, hB.setCell (p := ⟨w.heap.size, 0, none⟩) (Nat.le_refl _) _⟩
  case done =>
    rintro D ys W hD hS ⟨⟨hc0, _⟩, hB⟩ hK
    rw [hS, toldN_told] at hc0
    gi_wp2
    refine ⟨by simp, .inl ⟨_, _, rfl, run_takeDeferred hK, ?_⟩⟩
    exact ⟨_, results_tmp rfl _ _ _, rfl, hB.trans (belowK_b (w := w) (Nat.le_refl _) W D _ _ (by simp at hD; omega) hK rfl rfl)⟩
  case stop =>
    rintro D c pre W _ _ h _
    exact h.elim
end Go.Proofs.Ytckebghkilamjaa

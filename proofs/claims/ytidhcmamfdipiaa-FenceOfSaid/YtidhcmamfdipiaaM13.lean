/-
  CobsStuff; PlainIn; FenOfOwn; Swap; TabCmp; TabCmp2.
-/
import Derived.Deep.RegionHeld
import Derived.OwnWalkIn
import Derived.Deep.RegionHeld3
import Derived.BigQuiet
import Derived.Sort.Grow
import Derived.Shelf.SlSortCmp.InsertionK
import Derived.Test.YtidhcmamfdipiaaM02
import Derived.Test.YtidhcmamfdipiaaM05
import Derived.Test.YtidhcmamfdipiaaM09
import Derived.Test.YtidhcmamfdipiaaM11
import Derived.Test.YtidhcmamfdipiaaM12
namespace Go.Proofs.Ytidhcmamfdipiaa
open Go.RowKit Go.Shelf
attribute [local go_sem] Oper.semAt_some

theorem wpListIn_append_own_none {F : Fence} {n : Nat} {P : Program} {w : World} {ops : Array Oper} {rest : List Oper} {o : Oper} {a : Act} {Q : Exit → Act → World → Prop} (hgd : o.guard = none) (s x : Operand) (t : TypeId)
    (ho : o.op = .call { callee := .builtin .append, args := #[s, x], argTypes := #[t, t] })
    (base : Nat) (e : TypeId) (i : TypeInfo) (size : Nat) (ht : P.underlying t = some (.slice e)) (hi : P.info? e = some i)
    (v : Value) (k : Nat) (xs : List Value) (hs : a.eval s = v) (hown : w.ownsRow base e size v k xs) (hx : a.eval x = .slice none 0 0)
    (h : wpListIn F n P ops Q rest (a.put o.dst v) w) : wpListIn F n P ops Q (o :: rest) a w := by
  refine wpListIn_plain hgd fun K hK => ?_
  have hrun := run_append_owned_none (P := P) (w := w) base t o.type e i size ht hi v k xs hown
  unfold Oper.wpIn
  refine ⟨?_, ?_⟩
  · simp [Oper.about, ho, resolve, Target.leads, Sem.run_pure]
  · rw [Oper.semAt_plain F _ _ (by rw [ho]; intro c hc'; cases hc')]
    simp [execOp, ho, resolve, invoke, builtin, hs, hx, hrun, Result.andThen]
    exact hK _ _ h

/-- A store of a longer row into its box, where no block was laid for what was appended. -/
theorem boxed_grew {W w1 : World} {n₀ B : Nat} {t e : TypeId} {size : Nat} {v v' : Value} {k m : Nat} {xs ys : List Value}
    (hv : Boxed W B t v) (hte : t ≠ e) (hrow : W.ownsRow n₀ e size v k xs) (hn₀ : n₀ ≤ W.heap.size) (hB : n₀ ≤ B)
    (hown' : w1.ownsRow n₀ e size v' m ys) (hgrow : W.grownBy w1 v.ownBlock) :
    Boxed w1 B t v ∧ Boxed (w1.setCell ⟨B, 0, none⟩ v') B t v' ∧ (w1.setCell ⟨B, 0, none⟩ v').ownsRow n₀ e size v' m ys ∧ KeepsOthers W (w1.setCell ⟨B, 0, none⟩ v') ∧ Below n₀ W (w1.setCell ⟨B, 0, none⟩ v') := by
  have hv1 : Boxed w1 B t v := hv.kept hgrow (hv.not_row hte hrow)
  refine ⟨hv1, hv1.set v', hown'.kept (grownBy_setCell' w1 B v') (.inr (hv1.not_row hte hown').symm), ?_, ?_⟩
  · refine (KeepsOthers.of_grownBy hgrow fun j o ej hj => ?_).trans (KeepsOthers.setCell _ _ _)
    rcases hrow.2 with ⟨rfl, _⟩ | ⟨g, cap, cur, rfl, _, hgb, _⟩
    · simp [Value.ownBlock] at ej
    · obtain rfl : g = j := by simpa [Value.ownBlock] using ej
      rw [hgb] at hj; cases hj; rfl
  · refine ((Below.refl n₀ W).grown hgrow hn₀ fun j ej => ?_).setCell (p := ⟨B, 0, none⟩) hB v'
    rcases hrow.2 with ⟨rfl, _⟩ | ⟨g, cap, cur, rfl, hb, _, _⟩
    · simp [Value.ownBlock] at ej
    · obtain rfl : g = j := by simpa [Value.ownBlock] using ej
      exact hb

/-- Between two rounds: the box holds a slice of what was told. -/
def ToldAt (w : World) (B : Nat) (pre : List (Grp w)) (W : World) : Prop :=
  (∃ v, Boxed W B 40 v ∧ W.ownsRow w.heap.size 5 1 v (told (pre.map Grp.g)).length ((told (pre.map Grp.g)).map (Value.int .u8)) ∧ True) ∧ Below w.heap.size w W

theorem told_room {w : World} (pre : List (Grp w)) : (told (pre.map Grp.g)).length ≤ 255 * pre.length := by
  have := told_len (pre.map Grp.g) (fun g hg => by
    obtain ⟨x, _, rfl⟩ := List.mem_map.1 hg
    rw [← x.hn]
    exact x.h254)
  rwa [List.length_map] at this
theorem ToldAt.next {w W : World} {B K : Nat} {pre : List (Grp w)} {x : Grp w} {v : Value} {z : Int} (hv : Boxed W B 40 v) (hK : K = (told (pre.map Grp.g)).length) (hz : z = (x.n : Int) + 1)
    (hr : W.ownsRow w.heap.size 5 1 v (K + 1 + x.n) ((told (pre.map Grp.g)).map (Value.int .u8) ++ [Value.int .u8 z] ++ x.g.map (Value.int .u8))) (hB : Below w.heap.size w W) : ToldAt w B (pre ++ [x]) W := by
  refine ⟨⟨v, hv, ?_, trivial⟩, hB⟩
  have e : ((x.g.length + 1 : Nat) : Int) = z := by rw [hz, x.hn]; omega
  have hl : (told ((pre ++ [x]).map Grp.g)).length = K + 1 + x.n := by
    rw [List.map_append, List.map_singleton, told_snoc, List.length_append, List.length_cons, hK, x.hn]; omega
  rw [hl]
  rw [List.map_append, List.map_singleton, told_snoc, List.map_append, List.map_cons, e]
  simpa using hr

end Go.Proofs.Ytidhcmamfdipiaa

namespace Go.Proofs.Ytidhcmamfdipiaa
open Go.RowKit

/-- A result that enters nothing. -/
def Stayed : Result Next → Prop
  | .ok (.value _) _ => True
  | .ok .skip _ => True
  | .halt _ _ => True
  | _ => False
theorem stayed_v {P : Program} {w : World} (s : Sem Value) : Stayed ((s >>= fun x => (pure (Next.value x) : Sem Next)).run P w) := by
  rw [Sem.run_bind]
  cases s.run P w with
  | ok x w' => trivial
  | halt h w' => trivial
theorem stayed_u {P : Program} {w : World} (s : Sem Unit) : Stayed ((s >>= fun _ => (pure Next.skip : Sem Next)).run P w) := by
  rw [Sem.run_bind]
  cases s.run P w with
  | ok x w' => trivial
  | halt h w' => trivial

/-- An operation that calls nothing but append. -/
def plainB (o : Oper) : Bool :=
  match o.op with
  | .move _ | .assign _ | .alloc _ | .box _ _ | .build _ _ | .buildSlice _ _ _ | .load _ _ | .store _ _ _ | .binOp _ _ _ _ _ | .slice _ _ _ _ _ | .fieldAddr _ _ _ | .indexAddr _ _ _ => true
  | .call c => match c.callee with
    | .builtin .append => true
    | .builtin .len => true
    | _ => false
  | _ => false
theorem plain_stayed {P : Program} {w : World} {ρ : Operand → Value} {o : Oper} (h : plainB o = true) : Stayed ((execOp ρ o).run P w) := by
  unfold plainB at h
  unfold execOp
  split at h
  case h_13 c ho =>
    rw [ho]
    split at h
    · rename_i hc
      simp only [resolve, hc, invoke, builtin, pure_bind]
      exact stayed_v _
    · rename_i hc
      simp only [resolve, hc, invoke, builtin, pure_bind]
      exact stayed_v _
    · cases h
  case h_14 => cases h
  all_goals (rename_i ho; rw [ho]; first | exact stayed_v _ | exact stayed_u _ | trivial)
theorem plain_about {P : Program} {w : World} {ρ : Operand → Value} {o : Oper} (h : plainB o = true) : o.about P w ρ = none := by
  unfold plainB at h
  unfold Oper.about
  split at h
  case h_13 c ho =>
    rw [ho]
    split at h
    · rename_i hc
      simp [resolve, hc, Target.leads]
    · rename_i hc
      simp [resolve, hc, Target.leads]
    · cases h
  case h_14 => cases h
  all_goals (rename_i ho; rw [ho])
theorem plain_nodefer {o : Oper} (h : plainB o = true) (c : Call) : o.op ≠ .defer c := by
  intro ho
  unfold plainB at h
  rw [ho] at h
  cases h

section
variable {F : Fence} {n : Nat} {P : Program} {ops : Array Oper} {Q : Exit → Act → World → Prop} {md : Region.Mode}
theorem wpOpIn_of_plain {i : Nat} {K K' : Act → World → Prop} {a : Act} {w : World} (hp : ∀ (j : Nat) (o : Oper), ops[j]? = some o → plainB o = true) (hl : ¬ LetsOut Q) (hK : ∀ a w, K a w → K' a w) (h : wpOp P ops Q i K a w) : wpOpIn F n P ops Q i K' a w := by
  unfold wpOp at h
  unfold wpOpIn
  cases ho : ops[i]? with
  | none =>
    simp only [ho] at h ⊢
    exact hK _ _ h
  | some o =>
    simp only [ho] at h ⊢
    have hpo := hp i o ho
    by_cases hw : Region.wanted o (yielded ops a.tmps) = true
    · rw [if_pos hw] at h ⊢
      rcases h with h | ⟨_, h⟩
      · refine ⟨fun f hf => (by rw [plain_about hpo] at hf; cases hf), ?_⟩
        rw [Oper.semAt_plain F _ _ (plain_nodefer hpo)]
        have hs := plain_stayed (P := P) (ρ := a.eval) (w := w) hpo
        unfold Oper.wp at h
        generalize (execOp a.eval o).run P w = r at h hs ⊢
        cases r with
        | ok x w' => cases x <;> first | exact hs.elim | exact hK _ _ h
        | halt x w' => cases x <;> exact h
      · exact absurd h hl
    · rw [if_neg hw] at h ⊢
      exact ⟨fun f hf => (by rw [plain_about hpo] at hf; cases hf), hK _ _ h⟩
theorem wpAnyIn_of_plain (hp : ∀ (j : Nat) (o : Oper), ops[j]? = some o → plainB o = true) (hl : ¬ LetsOut Q) : ∀ (fuel : Nat) (listed : Array Bool) (a : Act) (w : World), wpAny P md ops Q fuel listed a w → wpAnyIn F n P md ops Q fuel listed a w
  | 0, _, _, _, h => h
  | fuel + 1, _, _, _, h => ⟨h.1, fun i hi => wpOpIn_of_plain hp hl (fun a w => wpAnyIn_of_plain hp hl fuel _ a w) (h.2 i hi)⟩
theorem wpIn_region_plain {S : World → Prop} {id : Nat} {a : Act} {w : World} (hm : P.follows .mixedOrders = true) (hp : ops.all plainB = true) (hl : ¬ LetsOut Q) (hS : S w.drew)
    (h : S w.drew → wpAnyH P .any ops Q S ops.size (Array.replicate ops.size false) a w.drew) : (Code.region id ops true).wpIn F n P Q a w :=
  wpIn_region_any hm (wpAnyIn_of_plain (fun j o ho => by
    obtain ⟨hj, rfl⟩ := Array.getElem?_eq_some_iff.1 ho
    exact Array.all_eq_true.1 hp j hj) hl _ _ _ _ (wpAny_of_held _ _ _ _ (h hS)))

/-- append to a row of one's own, as one step of a region that draws. -/
theorem step_append_own {o : Oper} {a : Act} {w : World} {K : Act → World → Prop} {E : Prop}
    (hg : o.guard = none) (s x : Operand) (t : TypeId) (hop : o.op = Op.call { callee := Callee.builtin Builtin.append, args := #[s, x], argTypes := #[t, t] })
    (base : Nat) (e : TypeId) (i : TypeInfo) (z : Value) (size bytes : Nat) (h1 : P.underlying t = some (.slice e)) (h2 : P.info? e = some i) (h3 : i.zero = some z) (h4 : i.size = size) (h5 : i.bytes = bytes) (h6 : z.cells.size = size) (h7 : 0 < size)
    (v : Value) (k : Nat) (xs : List Value) (hs : a.eval s = v) (hown : w.ownsRow base e size v k xs) (ad : Addr) (m c : Nat) (news : List Value) (hx : a.eval x = .slice (some ad) m c) (hn : news.length = m * size)
    (hc : ∀ j u, news[j]? = some u → w.cell? (ad.add j) = some u) (h1c : ∀ u ∈ news, u.oneCell' = true) (b1 : k + m ≤ maxLen) (b2 : (k + m) * bytes ≤ 140737488355328) (b3 : base ≤ w.heap.size)
    (hK : ∀ v' w', w'.ownsRow base e size v' (k + m) (xs ++ news) → w.grownBy w' v.ownBlock → (v' = .slice none 0 0 ↔ v = .slice none 0 0 ∧ m = 0) → K (a.put o.dst v') w') :
    if Region.wanted o (yielded ops a.tmps) = true then Oper.wp P o a w K Q else E := by
  have hw : Region.wanted o (yielded ops a.tmps) = true := by simp [Region.wanted, hg]
  rw [if_pos hw]
  obtain ⟨v', w', hrun, r1, r2, r3⟩ := run_append_own (P := P) w base t o.type e i z size bytes h1 h2 h3 h4 h5 h6 h7 v k xs hown ad m c news hn hc h1c b1 b2 b3
  unfold Oper.wp
  simp [execOp, hop, resolve, invoke, builtin, hs, hx, hrun, Result.andThen]
  exact hK v' w' r1 r2 r3
end
end Go.Proofs.Ytidhcmamfdipiaa

namespace Go.Proofs.Ytidhcmamfdipiaa
open Go.RowKit Go.Shelf
attribute [local go_sem] Oper.semAt_some

set_option maxHeartbeats 1000000 in
set_option maxRecDepth 10000 in
/-- blocks boxes its entries, and hands the box on. -/
theorem blocks_own (n : Nat) (p : Option Addr) (N c : Nat) (w : World) :
    CallsIn Fence.wide n Try.prog 31 #[.slice p N c] w fun e w' => e = .returned (.func (.func 54) #[] #[.pointer (some ⟨w.heap.size, 0, none⟩)]) ∧ w' = w.alloc (.cells #[.slice p N c] 22) := by
  refine callsIn_of_wp Try.func31 rfl trivial ?_ rfl
  simp only [Try.ntmps31, List.size_toArray, List.length_cons, List.length_nil, Nat.reduceAdd, Nat.reduceSub, Array.replicate_succ, Array.replicate_zero, List.push_toArray, List.append_toArray, List.nil_append, List.cons_append]
  gi_wp2
  go_ret
  exact ⟨rfl, rfl⟩

theorem blocks_stops (n : Nat) (hn : 1 ≤ n) (B : Nat) (w0 w : World) (p : Option Addr) (N c : Nat) (xs : List En) (hx : N = xs.length) (hc : N ≤ c) (hc' : c ≤ 9223372036854775807) (hN9 : N ≤ 1000000) (hb : EnsAt w0 p xs)
    (hB : w.cell? ⟨B, 0, none⟩ = some (.slice p N c)) (hBw : B < w.heap.size) :
    SeqStopsK Fence.wide n Try.prog 54 #[.pointer (some ⟨B, 0, none⟩)] (fun x : Blk w0 => #[.slice x.q x.n x.d]) (KeepB w0.heap.size B) (fun ys => ys.map Blk.h = ofF xs) (fun _ => True) (N + 1) w :=
  fun l J Jx W hWB _ _ hY h0 => by
    have hB' := (hWB.cell (p := ⟨B, 0, none⟩) hBw).trans hB
    refine (iter_blocks n hn l B w0 p N c xs hx hc hc' hN9 hb J Jx hY W hB' h0).mono ?_
    rintro e W' ⟨he, ⟨ys, h1, h2⟩ | ⟨pre, h⟩⟩
    · exact ⟨he, .inl ⟨ys, h1, h2⟩⟩
    · exact ⟨he, .inr ⟨pre, trivial, h⟩⟩

theorem fnew_row {w0 wr : World} {l : List Nat} {v : Value} (h : NumsSoFar w0 l v wr) : NewRow w0 l v wr := by
  obtain ⟨h', hb⟩ := h
  have h9 := h'
  rcases h' with ⟨_, ⟨rfl, e⟩ | ⟨g, cap, cur, rfl, hg, hh, hc1, hc2, hc3, hc4⟩⟩
  · exact ⟨none, 0, 0, rfl, e.symm, Nat.le_refl _, by decide, fun _ => ⟨rfl, rfl⟩, fun i hi => by rw [e] at hi; omega, fun h => by omega, Keeps.ofBelow hb⟩
  · refine ⟨_, _, cap, rfl, rfl, hc1, by unfold maxLen at hc2; omega, fun h => by simp at h, fun i hi => ⟨_, rfl, ?_⟩, fun _ a ha => by obtain rfl := Option.some.inj ha; exact hg, Keeps.ofBelow hb⟩
    exact h9.cells (g := g) rfl i _ (by simp [List.getElem?_eq_getElem hi, numV])

theorem from_drew {B : Nat} {W X : World} (h : KeepsFrom B W.drew X) : KeepsFrom B W X := ⟨h.size, h.same⟩
theorem below_drew {B : Nat} {W X : World} (h : Below B W.drew X) : Below B W X := ⟨h.os, h.tape, h.output, h.size, h.block⟩
theorem own_lower {w : World} {b b' size k : Nat} {e : TypeId} {v : Value} {xs : List Value} (h : w.ownsRow b e size v k xs) (hb : b' ≤ b) : w.ownsRow b' e size v k xs := by
  rcases h with ⟨h1, h2 | ⟨g, cap, cur, rfl, hg, h3⟩⟩
  · exact ⟨h1, .inl h2⟩
  · exact ⟨h1, .inr ⟨g, cap, cur, rfl, Nat.le_trans hb hg, h3⟩⟩

set_option maxRecDepth 100000 in
set_option maxHeartbeats 2000000 in
theorem of_in (n : Nat) (hn : 3 ≤ n) (p : Option Addr) (N c : Nat) (xs : List En) (w : World) (hx : N = xs.length) (hc : N ≤ c) (hc' : c ≤ 9223372036854775807) (hN : N ≤ 100000) (hb : EnsAt w p xs) :
    CallsIn Fence.wide n Try.prog 9 #[.slice p N c] w fun e W' => ∃ v, e = .returned v ∧ NumsSoFar w (ofF xs) v W' := by
  obtain ⟨i0, hi, hy0, hy1, hy2⟩ := info_parts infoU64
  have h1 : 1 ≤ n := by omega
  obtain ⟨M, hM⟩ : ∃ M, M = countF (N : Int) := ⟨_, rfl⟩
  have hM1 : M ≤ 100000 := by rw [hM]; unfold countF; omega
  have HM := Lib.hid (fun w => fcount_own (N : Int) w (by omega) (by omega))
  rw [← hM] at HM
  have HX := Lib.hid hx
  have HBY := Lib.hid hb
  clear hM hx hb
  refine callsIn_of_wp_marks Try.func9 rfl trivial ?_ rfl
  simp only [Try.ntmps9, List.size_toArray, List.length_cons, List.length_nil, Nat.reduceAdd, Nat.reduceSub, Array.replicate_succ, Array.replicate_zero, List.push_toArray, List.append_toArray, List.nil_append, List.cons_append]
  gi_wp2
  refine ⟨trivial, ?_⟩
  refine (callsIn_wide.2 (HM.out _)).mono ?_
  rintro e w1 ⟨rfl, hk1⟩
  have hB1 : Below w.heap.size w w1 := hk1.below (Nat.le_refl _) (fun _ _ h => h)
  gi_wp2_with (gi_at_make; refine wpListIn_make_own _ rfl _ _ 26 rfl w1.heap.size 23 i0 (.int .u64 0) 1 Try.underlying26 hi hy0 hy1 .i64 .i64 (M : Int) M rfl rfl rfl (by rw [hy2]; omega) (by unfold maxLen; omega) (Nat.le_refl _) ?_)
  intro w2 hrow hgrow
  have hB2 : Below w1.heap.size w1 w2 := (Below.refl _ w1).grown hgrow (Nat.le_refl _) (fun k hk => by cases hk)
  have hle : w1.heap.size ≤ w2.heap.size := hB2.size
  gi_wp2
  refine ⟨trivial, ?_⟩
  refine (blocks_own _ _ _ _ _).mono ?_
  rintro e w' ⟨rfl, rfl⟩
  gi_wp2
  have bS := Boxed.new w2 26 (.slice (some ⟨w1.heap.size, 0, none⟩) 0 M)
  have bN := Boxed.new (w2.alloc (.cells #[.slice (some ⟨w1.heap.size, 0, none⟩) 0 M] 26)) 22 (.slice p N c)
  rw [World.size_alloc] at bN
  have hB0 : Below w1.heap.size w1 ((w2.alloc (.cells #[.slice (some ⟨w1.heap.size, 0, none⟩) 0 M] 26)).alloc (.cells #[.slice p N c] 22)) := (hB2.alloc hle _).alloc (by simp; omega) _
  have hE1 := EnsAt.keep HBY.out hk1
  have HK1 := Lib.hid hk1
  clear hk1
  refine wpIn_rangeFunc_ownG rfl h1 (gf := 54) (lb := #[.pointer (some ⟨w2.heap.size + 1, 0, none⟩)]) rfl trivial (enters_of Try.func54 (by kernel_rfl) rfl)
    (blocks_stops (n - 1) (by omega) (w2.heap.size + 1) w1 _ p N c xs HX.out hc hc' (by omega) hE1 bN.cell (by simp)) keepB_t (keepB_b (by simp; omega) (by simp)) (Below.refl _ _) (fun _ => rfl)
    (fun pre W => ((∃ v, Boxed W w2.heap.size 26 v ∧ W.ownsRow w1.heap.size 23 1 v pre.length ((pre.map Blk.h).map numV) ∧ True) ∧ Boxed W (w2.heap.size + 1) 22 (.slice p N c)) ∧ Below w1.heap.size w1 W)
    (fun _ _ _ => False)
    (OwnFrom.and (OwnFrom.and (Own.from (holdsRow_own w1.heap.size w2.heap.size 26 23 1 (fun pre : List (Blk w1) => pre.length) (fun pre => (pre.map Blk.h).map numV) (fun _ _ => True)) _) (Own.from (boxed_own (w2.heap.size + 1) 22 (fun _ : List (Blk w1) => .slice p N c)) _)) (ownFrom_below (Nat.le_refl _) (by simp; omega)))
    (fun _ _ _ _ _ hs _ _ => hs)
    ⟨⟨⟨_, bS.alloc _, (hrow.alloc _).alloc _, trivial⟩, bN⟩, hB0⟩
    (fun x => { tmps := #[.slice p N c, undef, .slice none 0 0, .pointer (some ⟨w2.heap.size, 0, none⟩), .slice x.q x.n x.d, .slice p N c, .int .i64 (N : Int), .int .i64 (M : Int), .slice (some ⟨w1.heap.size, 0, none⟩) 0 M, .slice p N c, .func (.func 54) #[] #[.pointer (some ⟨w2.heap.size + 1, 0, none⟩)], .slice x.q x.n x.d, undef, undef, undef, undef, undef, undef, undef, undef], defers := [] }) ?assign ?body ?done ?stop
  case assign =>
    intro l x W K hK
    gi_wp2
    exact hK
  case body =>
    rintro l pre x W ⟨⟨⟨v, hv, hrow, _⟩, hbx⟩, hB⟩ hlt
    obtain ⟨Kn, hKe⟩ : ∃ K, K = pre.length := ⟨_, rfl⟩
    rw [← hKe] at hrow hlt
    have HKE := Lib.hid hKe
    clear hKe
    obtain ⟨a, haq, hca⟩ := x.hq
    have hn0 := x.hn
    have hn1 : (0 : Int) < (x.n : Int) := by omega
    have hca2 : W.cell? a = some (.int .u64 (x.h : Int)) := (Keeps.ofBelow (S := NoBlock) hB).cell hca (fun h => h)
    rw [haq]
    gi_wp2
    have hv0 : Boxed W.drew w2.heap.size 26 v := hv
    have hrow0 : W.drew.ownsRow w1.heap.size 23 1 v Kn ((pre.map Blk.h).map numV) := hrow
    have hbx0 : Boxed W.drew (w2.heap.size + 1) 22 (.slice p N c) := hbx
    have hB0' : Below w1.heap.size w1 W.drew := ⟨hB.os, hB.tape, hB.output, hB.size, hB.block⟩
    clear hrow hbx
    -- REGION
    refine wpIn_region_plain (S := fun w' : World => w'.cell? a = some (.int .u64 (x.h : Int))) (by kernel_rfl) (by kernel_rfl) (by rintro ⟨_, _, h⟩; exact h) hca2 (fun hS => ?_)
    refine wpAnyH_take (i := 1) (v := ?vT1) rfl ?aT1 ?bT1 ?cT1 ?dT1 (Or.inl ⟨?eT1, ?fT1⟩) hS ?gT1
    case fT1 => intro w hSw; (try dsimp only at hSw); go_simp; (try with_reducible rfl)
    case aT1 => kernel_rfl
    case bT1 => kernel_rfl
    case cT1 => kernel_rfl
    case dT1 => exact fun _ _ _ h => h
    case eT1 => rfl
    simp only [Act.put, List.getElem_toArray, List.getElem_cons_zero, List.getElem_cons_succ, List.setIfInBounds_toArray, List.set_cons_zero, List.set_cons_succ]
    refine wpAnyH_take (i := 2) (v := ?vT2) rfl ?aT2 ?bT2 ?cT2 ?dT2 (Or.inl ⟨?eT2, ?fT2⟩) hS ?gT2
    case fT2 => intro w hSw; (try dsimp only at hSw); go_simp; (try with_reducible rfl)
    case aT2 => kernel_rfl
    case bT2 => kernel_rfl
    case cT2 => kernel_rfl
    case dT2 => exact fun _ _ _ h => h
    case eT2 => rfl
    simp only [Act.put, List.getElem_toArray, List.getElem_cons_zero, List.getElem_cons_succ, List.setIfInBounds_toArray, List.set_cons_zero, List.set_cons_succ]
    refine wpAnyH_take (i := 3) (v := ?vT3) rfl ?aT3 ?bT3 ?cT3 ?dT3 (Or.inl ⟨?eT3, ?fT3⟩) hS ?gT3
    case fT3 => intro w hSw; (try dsimp only at hSw); go_simp; (try with_reducible rfl)
    case aT3 => kernel_rfl
    case bT3 => kernel_rfl
    case cT3 => kernel_rfl
    case dT3 => exact fun _ _ _ h => h
    case eT3 => rfl
    simp only [Act.put, List.getElem_toArray, List.getElem_cons_zero, List.getElem_cons_succ, List.setIfInBounds_toArray, List.set_cons_zero, List.set_cons_succ]
    refine wpAnyH_take (i := 4) (v := ?vT4) rfl ?aT4 ?bT4 ?cT4 ?dT4 (Or.inl ⟨?eT4, ?fT4⟩) hS ?gT4
    case fT4 => intro w hSw; (try dsimp only at hSw); go_simp; (try with_reducible rfl)
    case aT4 => kernel_rfl
    case bT4 => kernel_rfl
    case cT4 => kernel_rfl
    case dT4 => exact fun _ _ _ h => h
    case eT4 => rfl
    simp only [Act.put, List.getElem_toArray, List.getElem_cons_zero, List.getElem_cons_succ, List.setIfInBounds_toArray, List.set_cons_zero, List.set_cons_succ]
    refine wpAnyH_ready (rs := [0, 5]) (by kernel_rfl) (by simp) ?_
    refine (AllReadyH.cons (o := _) rfl (fun K hK => ?_) (AllReadyH.cons (o := _) rfl (fun K hK => ?_) AllReadyH.nil))
    · have hc0 := hv0.cell
      go_simp
      refine hK.out _ _ hS (fun _ => ?_)
      clear hK K hc0
      refine wpAnyH_ready (rs := [5]) (by kernel_rfl) (by simp) ?_
      refine (AllReadyH.cons (o := _) rfl (fun K hK => ?_) AllReadyH.nil)
      go_simp
      have hS : (fun w' : World => w'.cell? a = some (.int .u64 (x.h : Int))) (W.drew.alloc (.cells #[.int .u64 (x.h : Int)] 23)) := ((Keeps.refl NoBlock W).drew.alloc _).cell hca2 (fun h => h)
      have hvA : Boxed (W.drew.alloc (.cells #[.int .u64 (x.h : Int)] 23)) w2.heap.size 26 v := Boxed.alloc hv0 _
      have hRA : (W.drew.alloc (.cells #[.int .u64 (x.h : Int)] 23)).ownsRow w1.heap.size 23 1 v Kn ((pre.map Blk.h).map numV) := hrow0.alloc _
      have hbA : Boxed (W.drew.alloc (.cells #[.int .u64 (x.h : Int)] 23)) (w2.heap.size + 1) 22 (.slice p N c) := Boxed.alloc hbx0 _
      refine hK.out _ _ hS (fun _ => ?_)
      clear hK K
      refine wpAnyH_ready (rs := [6]) (by kernel_rfl) (by simp) ?_
      refine (AllReadyH.cons (o := _) rfl (fun K hK => ?_) AllReadyH.nil)
      refine step_append_own rfl _ _ 26 rfl w1.heap.size 23 i0 (.int .u64 0) 1 8 Try.underlying26 hi hy0 hy1 hy2 rfl (by decide) v Kn ((pre.map Blk.h).map numV) rfl hRA ⟨W.heap.size, 0, none⟩ 1 1 [.int .u64 (x.h : Int)] rfl rfl (cell_one_new _ _ _) (by simp [Value.oneCell']) (by unfold maxLen; omega) (by omega) (by have := hB.size; simp; omega) ?_
      intro v' wA hown' hgrow' _
      have hbB := hbA.kept hgrow' (hbA.not_row (by decide) hRA)
      obtain ⟨g', cap', rfl⟩ := ownsRow_succ hown'
      obtain ⟨hv1, hv2, hr2, hk2, hb2⟩ := hv0.appended (by decide) hrow0 hB0'.size hle hown' hgrow'
      have hBA : Below w1.heap.size w1 wA := (hB0'.alloc hB0'.size _).trans ((Below.refl _ _).grown hgrow' (by have := hB.size; simp; omega) (fun k hk => own_from hRA hk))
      have hS : (fun w' : World => w'.cell? a = some (.int .u64 (x.h : Int))) wA := (Keeps.ofBelow (S := NoBlock) hBA).cell hca (fun h => h)
      have hc1 := hv1.cell
      have hf1 := hv1.frozen
      refine hK.out _ _ hS (fun _ => ?_)
      clear hK K
      refine wpAnyH_ready (rs := [7]) (by kernel_rfl) (by simp) ?_
      refine (AllReadyH.cons (o := _) rfl (fun K hK => ?_) AllReadyH.nil)
      go_simp
      refine hK.out _ _ ((Keeps.ofBelow (S := NoBlock) (hB0'.trans hb2)).cell hca (fun h => h)) (fun _ => ?_)
      clear hK K
      refine wpAnyH_done (by kernel_rfl) ?_ _
      have hbF := hbB.other (show w2.heap.size + 1 ≠ w2.heap.size by omega) (.slice (some ⟨g', 0, none⟩) (Kn + 1) cap')
      refine ⟨from_drew (hk2.from _), ⟨below_drew hb2, hbF.trans hbx0.symm⟩, ⟨⟨_, hv2, ?_, trivial⟩, hbF⟩, hB0'.trans hb2⟩
      rw [List.length_append, List.length_singleton, ← HKE.out, List.map_append, List.map_append]
      exact hr2
    · go_simp
      have hS : (fun w' : World => w'.cell? a = some (.int .u64 (x.h : Int))) (W.drew.alloc (.cells #[.int .u64 (x.h : Int)] 23)) := ((Keeps.refl NoBlock W).drew.alloc _).cell hca2 (fun h => h)
      have hvA : Boxed (W.drew.alloc (.cells #[.int .u64 (x.h : Int)] 23)) w2.heap.size 26 v := Boxed.alloc hv0 _
      have hRA : (W.drew.alloc (.cells #[.int .u64 (x.h : Int)] 23)).ownsRow w1.heap.size 23 1 v Kn ((pre.map Blk.h).map numV) := hrow0.alloc _
      have hbA : Boxed (W.drew.alloc (.cells #[.int .u64 (x.h : Int)] 23)) (w2.heap.size + 1) 22 (.slice p N c) := Boxed.alloc hbx0 _
      refine hK.out _ _ hS (fun _ => ?_)
      clear hK K
      refine wpAnyH_ready (rs := [0]) (by kernel_rfl) (by simp) ?_
      refine (AllReadyH.cons (o := _) rfl (fun K hK => ?_) AllReadyH.nil)
      have hc0 : (W.alloc (.cells #[.int .u64 (x.h : Int)] 23)).cell? ⟨w2.heap.size, 0, none⟩ = some v := (Boxed.alloc hv _).cell
      go_simp
      refine hK.out _ _ hS (fun _ => ?_)
      clear hK K hc0
      refine wpAnyH_ready (rs := [6]) (by kernel_rfl) (by simp) ?_
      refine (AllReadyH.cons (o := _) rfl (fun K hK => ?_) AllReadyH.nil)
      refine step_append_own rfl _ _ 26 rfl w1.heap.size 23 i0 (.int .u64 0) 1 8 Try.underlying26 hi hy0 hy1 hy2 rfl (by decide) v Kn ((pre.map Blk.h).map numV) rfl hRA ⟨W.heap.size, 0, none⟩ 1 1 [.int .u64 (x.h : Int)] rfl rfl (cell_one_new _ _ _) (by simp [Value.oneCell']) (by unfold maxLen; omega) (by omega) (by have := hB.size; simp; omega) ?_
      intro v' wA hown' hgrow' _
      have hbB := hbA.kept hgrow' (hbA.not_row (by decide) hRA)
      obtain ⟨g', cap', rfl⟩ := ownsRow_succ hown'
      obtain ⟨hv1, hv2, hr2, hk2, hb2⟩ := hv0.appended (by decide) hrow0 hB0'.size hle hown' hgrow'
      have hBA : Below w1.heap.size w1 wA := (hB0'.alloc hB0'.size _).trans ((Below.refl _ _).grown hgrow' (by have := hB.size; simp; omega) (fun k hk => own_from hRA hk))
      have hS : (fun w' : World => w'.cell? a = some (.int .u64 (x.h : Int))) wA := (Keeps.ofBelow (S := NoBlock) hBA).cell hca (fun h => h)
      have hc1 := hv1.cell
      have hf1 := hv1.frozen
      refine hK.out _ _ hS (fun _ => ?_)
      clear hK K
      refine wpAnyH_ready (rs := [7]) (by kernel_rfl) (by simp) ?_
      refine (AllReadyH.cons (o := _) rfl (fun K hK => ?_) AllReadyH.nil)
      go_simp
      refine hK.out _ _ ((Keeps.ofBelow (S := NoBlock) (hB0'.trans hb2)).cell hca (fun h => h)) (fun _ => ?_)
      clear hK K
      refine wpAnyH_done (by kernel_rfl) ?_ _
      have hbF := hbB.other (show w2.heap.size + 1 ≠ w2.heap.size by omega) (.slice (some ⟨g', 0, none⟩) (Kn + 1) cap')
      refine ⟨from_drew (hk2.from _), ⟨below_drew hb2, hbF.trans hbx0.symm⟩, ⟨⟨_, hv2, ?_, trivial⟩, hbF⟩, hB0'.trans hb2⟩
      rw [List.length_append, List.length_singleton, ← HKE.out, List.map_append, List.map_append]
      exact hr2
    -- BEHIND
  case done =>
    rintro D ys W hD hS ⟨⟨⟨v, hv, hrow, _⟩, _⟩, hB⟩ hK
    have hc0 := hv.cell
    rw [hS] at hrow
    have hlen : ys.length = (ofF xs).length := by rw [← hS, List.length_map]
    rw [hlen] at hrow
    gi_wp2
    refine ⟨by simp, .inl ⟨_, _, rfl, run_takeDeferred hK, ?_⟩⟩
    have hle1 := HK1.out.size
    exact ⟨_, results_tmp rfl _ _ _, v, rfl, own_lower (ownsRow_putObj hrow _ hK rfl) hle1, hB1.trans ((hB.trans (belowK_b (w := w1) (Nat.le_refl _) W D _ _ (by simp at hD; omega) hK rfl rfl)).mono hle1)⟩
  case stop =>
    rintro D c pre W _ _ h _
    exact h.elim
end Go.Proofs.Ytidhcmamfdipiaa

namespace Go.Proofs.Ytidhcmamfdipiaa
open Go.RowKit

/-- A region's condition may be made stronger on the way. -/
theorem wpAnyH_swap {P : Program} {md : Region.Mode} {ops : Array Oper} {Q : Exit → Act → World → Prop} {S S' : World → Prop} (h : ∀ w, S' w → S w) : ∀ (fuel : Nat) (listed : Array Bool) (a : Act) (w : World), wpAnyH P md ops Q S' fuel listed a w → wpAnyH P md ops Q S fuel listed a w
  | 0, _, _, _, hh => hh
  | fuel + 1, _, _, _, hh => ⟨hh.1, fun i hi => wpOp_mono (fun _ _ h' => ⟨h _ h'.1, wpAnyH_swap h fuel _ _ _ h'.2⟩) (hh.2 i hi)⟩
end Go.Proofs.Ytidhcmamfdipiaa

namespace Go.Proofs.Ytidhcmamfdipiaa
open Go.RowKit Go.Sort

/-- Nothing but draws, and blocks behind those that were there. -/
def Grown (w w' : World) : Prop := ∃ q os, w' = grow (w.drewN q) os
theorem Grown.refl (w : World) : Grown w w := ⟨0, #[], by rw [grow_empty]; rfl⟩
theorem Grown.drewN {w w' : World} (h : Grown w w') (n : Nat) : Grown w (w'.drewN n) := by
  obtain ⟨q, os, rfl⟩ := h
  exact ⟨q + n, os, by show grow ((w.drewN q).drewN n) os = _; rw [World.drewN_drewN]⟩
theorem Grown.drew {w w' : World} (h : Grown w w') : Grown w w'.drew := h.drewN 1
theorem Grown.alloc {w w' : World} (h : Grown w w') (o : Obj) : Grown w (w'.alloc o) := by
  obtain ⟨q, os, rfl⟩ := h
  exact ⟨q, os ++ #[o], by rw [alloc_eq_grow, grow_grow]⟩
theorem Grown.trans {a b c : World} (h : Grown a b) (g : Grown b c) : Grown a c := by
  obtain ⟨q, os, rfl⟩ := h
  obtain ⟨q', os', rfl⟩ := g
  exact ⟨q + q', os ++ os', by show grow (grow ((a.drewN q).drewN q') os) os' = _; rw [grow_grow, World.drewN_drewN]⟩
theorem Grown.keeps {w w' : World} (h : Grown w w') : Keeps NoBlock w w' := by
  obtain ⟨q, os, rfl⟩ := h
  refine ⟨rfl, rfl, rfl, by simp [grow], fun k hk _ => ?_⟩
  show ((w.drewN q).heap ++ os)[k]? = _
  rw [Array.getElem?_append_left (by show k < w.heap.size; exact hk)]
  rfl

/-- The order of two numbers. -/
def cmpN (x y : Nat) : Int := if x < y then -1 else if y < x then 1 else 0

theorem nan64_own (x : Nat) (w : World) : Calls Try.prog 73 #[.int .u64 (x : Int)] w fun e w' => e = .returned (.bool false) ∧ w' = w := by
  have h : ((x : Int) != (x : Int)) = false := by simp
  go_enter Try.func73, Try.ntmps73
  go_wp2_with fail
  go_ret
  exact ⟨rfl, rfl⟩
theorem nan32_own (x : Nat) (w : World) : Calls Try.prog 74 #[.int .u32 (x : Int)] w fun e w' => e = .returned (.bool false) ∧ w' = w := by
  have h : ((x : Int) != (x : Int)) = false := by simp
  go_enter Try.func74, Try.ntmps74
  go_wp2_with fail
  go_ret
  exact ⟨rfl, rfl⟩

set_option maxHeartbeats 1000000 in
theorem cmp64_own (x y : Nat) (w : World) : Calls Try.prog 52 #[.int .u64 (x : Int), .int .u64 (y : Int)] w fun e w' => e = .returned (.int .i64 (cmpN x y)) ∧ w' = w := by
  have HA := Lib.hid (fun w => nan64_own x w)
  have HB := Lib.hid (fun w => nan64_own y w)
  unfold cmpN
  by_cases h1 : x < y
  · rw [if_pos h1]
    have d1 : decide ((x : Int) < (y : Int)) = true := decide_eq_true (by omega)
    have d2 : decide (x < y) = true := decide_eq_true h1
    go_enter Try.func52, Try.ntmps52
    go_wp2_with fail
    refine (HA.out _).mono ?_
    rintro e w1 ⟨rfl, rfl⟩
    go_wp2_with fail
    refine (HB.out _).mono ?_
    rintro e w1 ⟨rfl, rfl⟩
    go_wp2_with fail
    go_ret
    exact ⟨rfl, rfl⟩
  · rw [if_neg h1]
    have d1 : decide ((x : Int) < (y : Int)) = false := decide_eq_false (by omega)
    have d2 : decide (x < y) = false := decide_eq_false h1
    by_cases h2 : y < x
    · rw [if_pos h2]
      have d3 : decide ((y : Int) < (x : Int)) = true := decide_eq_true (by omega)
      have d4 : decide (y < x) = true := decide_eq_true h2
      go_enter Try.func52, Try.ntmps52
      go_wp2_with fail
      refine (HA.out _).mono ?_
      rintro e w1 ⟨rfl, rfl⟩
      go_wp2_with fail
      refine (HB.out _).mono ?_
      rintro e w1 ⟨rfl, rfl⟩
      go_wp2_with fail
      go_ret
      exact ⟨rfl, rfl⟩
    · rw [if_neg h2]
      have d3 : decide ((y : Int) < (x : Int)) = false := decide_eq_false (by omega)
      have d4 : decide (y < x) = false := decide_eq_false h2
      go_enter Try.func52, Try.ntmps52
      go_wp2_with fail
      refine (HA.out _).mono ?_
      rintro e w1 ⟨rfl, rfl⟩
      go_wp2_with fail
      refine (HB.out _).mono ?_
      rintro e w1 ⟨rfl, rfl⟩
      go_wp2_with fail
      go_ret
      exact ⟨rfl, rfl⟩

set_option maxHeartbeats 1000000 in
theorem cmp32_own (x y : Nat) (w : World) : Calls Try.prog 53 #[.int .u32 (x : Int), .int .u32 (y : Int)] w fun e w' => e = .returned (.int .i64 (cmpN x y)) ∧ w' = w := by
  have HA := Lib.hid (fun w => nan32_own x w)
  have HB := Lib.hid (fun w => nan32_own y w)
  unfold cmpN
  by_cases h1 : x < y
  · rw [if_pos h1]
    have d1 : decide ((x : Int) < (y : Int)) = true := decide_eq_true (by omega)
    have d2 : decide (x < y) = true := decide_eq_true h1
    go_enter Try.func53, Try.ntmps53
    go_wp2_with fail
    refine (HA.out _).mono ?_
    rintro e w1 ⟨rfl, rfl⟩
    go_wp2_with fail
    refine (HB.out _).mono ?_
    rintro e w1 ⟨rfl, rfl⟩
    go_wp2_with fail
    go_ret
    exact ⟨rfl, rfl⟩
  · rw [if_neg h1]
    have d1 : decide ((x : Int) < (y : Int)) = false := decide_eq_false (by omega)
    have d2 : decide (x < y) = false := decide_eq_false h1
    by_cases h2 : y < x
    · rw [if_pos h2]
      have d3 : decide ((y : Int) < (x : Int)) = true := decide_eq_true (by omega)
      have d4 : decide (y < x) = true := decide_eq_true h2
      go_enter Try.func53, Try.ntmps53
      go_wp2_with fail
      refine (HA.out _).mono ?_
      rintro e w1 ⟨rfl, rfl⟩
      go_wp2_with fail
      refine (HB.out _).mono ?_
      rintro e w1 ⟨rfl, rfl⟩
      go_wp2_with fail
      go_ret
      exact ⟨rfl, rfl⟩
    · rw [if_neg h2]
      have d3 : decide ((y : Int) < (x : Int)) = false := decide_eq_false (by omega)
      have d4 : decide (y < x) = false := decide_eq_false h2
      go_enter Try.func53, Try.ntmps53
      go_wp2_with fail
      refine (HA.out _).mono ?_
      rintro e w1 ⟨rfl, rfl⟩
      go_wp2_with fail
      refine (HB.out _).mono ?_
      rintro e w1 ⟨rfl, rfl⟩
      go_wp2_with fail
      go_ret
      exact ⟨rfl, rfl⟩

set_option maxHeartbeats 1000000 in
/-- cmp.Or of two numbers: the first one, if it isn't 0. -/
theorem or_own (g : Nat) (x y : Int) (w : World) (h0 : w.cell? ⟨g, 0, none⟩ = some (.int .i64 x)) (h1 : w.cell? ⟨g, 1, none⟩ = some (.int .i64 y)) :
    Calls Try.prog 51 #[.slice (some ⟨g, 0, none⟩) 2 2] w fun e w' => e = .returned (.int .i64 (if x = 0 then y else x)) ∧ w' = w := by
  have G0 := Lib.hid h0
  have G1 := Lib.hid h1
  clear h0 h1
  by_cases hx : x = 0
  · have b1 : (x != 0) = false := by simpa using hx
    rw [if_pos hx]
    clear hx
    by_cases hy : y = 0
    · have b2 : (y != 0) = false := by simpa using hy
      have HY := Lib.hid hy
      clear hy
      go_enter Try.func51, Try.ntmps51
      go_wp2_with fail
      refine wp_loop_rounds 3 ?_
      rw [rounds_succ]
      have g0 := G0.out
      go_wp2_with fail
      rw [rounds_succ]
      have g1 := G1.out
      go_wp2_with fail
      rw [rounds_succ]
      go_wp2_with fail
      go_ret
      exact ⟨by rw [HY.out]; rfl, rfl⟩
    · have b2 : (y != 0) = true := by simpa using hy
      go_enter Try.func51, Try.ntmps51
      go_wp2_with fail
      refine wp_loop_rounds 3 ?_
      rw [rounds_succ]
      have g0 := G0.out
      go_wp2_with fail
      rw [rounds_succ]
      have g1 := G1.out
      go_wp2_with fail
      go_ret
      exact ⟨rfl, rfl⟩
  · have b1 : (x != 0) = true := by simpa using hx
    rw [if_neg hx]
    go_enter Try.func51, Try.ntmps51
    go_wp2_with fail
    refine wp_loop_rounds 3 ?_
    rw [rounds_succ]
    have g0 := G0.out
    go_wp2_with fail
    go_ret
    exact ⟨rfl, rfl⟩
end Go.Proofs.Ytidhcmamfdipiaa

namespace Go.Proofs.Ytidhcmamfdipiaa
open Go.RowKit Go.Sort

theorem cmpE_of (a b : En) : (if cmpN a.hash b.hash = 0 then cmpN a.at_ b.at_ else cmpN a.hash b.hash) = cmpE a b := by
  unfold cmpN cmpE
  have L1 : LessE a b ↔ (a.hash < b.hash ∨ a.hash = b.hash ∧ a.at_ < b.at_) := Iff.rfl
  by_cases h1 : a.hash < b.hash
  · have hne : ¬ a = b := fun e => by rw [e] at h1; omega
    rw [if_pos h1, if_neg (by omega), if_neg hne, if_pos (L1.2 (.inl h1))]
  · by_cases h2 : b.hash < a.hash
    · have hne : ¬ a = b := fun e => by rw [e] at h2; omega
      rw [if_neg h1, if_pos h2, if_neg (by omega), if_neg hne, if_neg (fun h => by have := L1.1 h; omega)]
    · have he : a.hash = b.hash := by omega
      rw [if_neg h1, if_neg h2, if_pos rfl]
      by_cases h3 : a.at_ < b.at_
      · have hne : ¬ a = b := fun e => by rw [e] at h3; omega
        rw [if_pos h3, if_neg hne, if_pos (L1.2 (.inr ⟨he, h3⟩))]
      · by_cases h4 : b.at_ < a.at_
        · have hne : ¬ a = b := fun e => by rw [e] at h4; omega
          rw [if_neg h3, if_pos h4, if_neg hne, if_neg (fun h => by have := L1.1 h; omega)]
        · rw [if_neg h3, if_neg h4, if_pos (En.ext' he (by omega))]

set_option maxHeartbeats 4000000 in
set_option maxRecDepth 10000 in
/-- Compare, whatever the numbers are: nothing but draws and new blocks. -/
theorem compare_grown (a b : En) (w : World) : Calls Try.prog 29 #[enV a, enV b] w fun e w' => e = .returned (.int .i64 (cmpE a b)) ∧ Grown w w' := by
  have H64 := Lib.hid (fun w => cmp64_own a.hash b.hash w)
  have H32 := Lib.hid (fun w => cmp32_own a.at_ b.at_ w)
  obtain ⟨R, hR⟩ : ∃ R, R = cmpE a b := ⟨_, rfl⟩
  have HO : Hid ((if cmpN a.hash b.hash = 0 then cmpN a.at_ b.at_ else cmpN a.hash b.hash) = R) := Lib.hid ((cmpE_of a b).trans hR.symm)
  rw [← hR]
  clear hR
  obtain ⟨X, hX⟩ : ∃ X, X = cmpN a.hash b.hash := ⟨_, rfl⟩
  obtain ⟨Y, hY⟩ : ∃ Y, Y = cmpN a.at_ b.at_ := ⟨_, rfl⟩
  rw [← hX] at H64 HO
  rw [← hY] at H32 HO
  clear hX hY
  have HWa := Lib.hid ((Whole.new w 38 (enCells a)).alloc (.cells (enCells b) 38))
  have HWb := Lib.hid (Whole.newAt (w.alloc (.cells (enCells a) 38)) 38 (enCells b) (w.heap.size + 1) (by simp))
  have HGw := Lib.hid (((Grown.refl w).alloc (.cells (enCells a) 38)).alloc (.cells (enCells b) 38))
  unfold enV
  go_enter Try.func29, Try.ntmps29
  go_wp2_with fail
  obtain ⟨W0, hW⟩ : ∃ W0, W0 = (w.alloc (.cells #[.int .u64 (a.hash : Int), .int .u32 (a.at_ : Int)] 38)).alloc (.cells #[.int .u64 (b.hash : Int), .int .u32 (b.at_ : Int)] 38) := ⟨_, rfl⟩
  have HA : Hid (Whole W0.drew w.heap.size 38 (enCells a)) := Lib.hid (by rw [hW]; exact HWa.out)
  have HB : Hid (Whole W0.drew (w.heap.size + 1) 38 (enCells b)) := Lib.hid (by rw [hW]; exact HWb.out)
  have HG : Hid (Grown w W0.drew) := Lib.hid (by rw [hW]; exact HGw.out.drew)
  rw [← hW]
  clear hW HWa HWb HGw
  obtain ⟨W, hWd⟩ : ∃ W, W = W0.drew := ⟨_, rfl⟩
  rw [← hWd] at HA HB HG
  have s0 := And.intro (And.intro (HA.out.cell 0 rfl) (HA.out.cell 1 rfl)) (And.intro (HB.out.cell 0 rfl) (HB.out.cell 1 rfl))
  simp only [enCells, List.getElem_toArray, List.getElem_cons_zero, List.getElem_cons_succ] at s0
  refine wp_region_held_drew (S := fun w' => ((w'.cell? ⟨w.heap.size, 0, none⟩ = some (.int .u64 (a.hash : Int)) ∧ w'.cell? ⟨w.heap.size, 1, none⟩ = some (.int .u32 (a.at_ : Int))) ∧ (w'.cell? ⟨w.heap.size + 1, 0, none⟩ = some (.int .u64 (b.hash : Int)) ∧ w'.cell? ⟨w.heap.size + 1, 1, none⟩ = some (.int .u32 (b.at_ : Int))))) (by kernel_rfl) (by rw [← hWd]; exact s0) (fun hHeld => ?_)
  rw [← hWd]
  rw [← hWd] at hHeld
  clear hWd
  refine wpAnyH_take (i := 0) (v := ?vT1) rfl ?aT1 ?bT1 ?cT1 ?dT1 (Or.inl ⟨?eT1, ?fT1⟩) hHeld ?gT1
  case fT1 => intro w hSw; (try dsimp only at hSw); go_simp; (try with_reducible rfl)
  case aT1 => kernel_rfl
  case bT1 => kernel_rfl
  case cT1 => kernel_rfl
  case dT1 => exact fun _ _ _ h => h
  case eT1 => rfl
  simp only [Act.put, List.getElem_toArray, List.getElem_cons_zero, List.setIfInBounds_toArray, List.set_cons_zero, List.set_cons_succ]
  refine wpAnyH_take (i := 1) (v := ?vT2) rfl ?aT2 ?bT2 ?cT2 ?dT2 (Or.inl ⟨?eT2, ?fT2⟩) hHeld ?gT2
  case fT2 => intro w hSw; (try dsimp only at hSw); go_simp; (try with_reducible rfl)
  case aT2 => kernel_rfl
  case bT2 => kernel_rfl
  case cT2 => kernel_rfl
  case dT2 => exact fun _ _ _ h => h
  case eT2 => rfl
  simp only [Act.put, List.getElem_toArray, List.getElem_cons_zero, List.getElem_cons_succ, List.setIfInBounds_toArray, List.set_cons_zero, List.set_cons_succ]
  refine wpAnyH_take (i := 2) (v := ?vT3) rfl ?aT3 ?bT3 ?cT3 ?dT3 (Or.inl ⟨?eT3, ?fT3⟩) hHeld ?gT3
  case fT3 => intro w hSw; (try dsimp only at hSw); go_simp; (try with_reducible rfl)
  case aT3 => kernel_rfl
  case bT3 => kernel_rfl
  case cT3 => kernel_rfl
  case dT3 => exact fun _ _ _ h => h
  case eT3 => rfl
  simp only [Act.put, List.getElem_toArray, List.getElem_cons_zero, List.getElem_cons_succ, List.setIfInBounds_toArray, List.set_cons_zero, List.set_cons_succ]
  refine wpAnyH_take (i := 3) (v := ?vT4) rfl ?aT4 ?bT4 ?cT4 ?dT4 (Or.inl ⟨?eT4, ?fT4⟩) hHeld ?gT4
  case fT4 => intro w hSw; (try dsimp only at hSw); go_simp; (try with_reducible rfl)
  case aT4 => kernel_rfl
  case bT4 => kernel_rfl
  case cT4 => kernel_rfl
  case dT4 => exact fun _ _ _ h => h
  case eT4 => rfl
  simp only [Act.put, List.getElem_toArray, List.getElem_cons_zero, List.getElem_cons_succ, List.setIfInBounds_toArray, List.set_cons_zero, List.set_cons_succ]
  refine wpAnyH_take (i := 5) (v := ?vT5) rfl ?aT5 ?bT5 ?cT5 ?dT5 (Or.inl ⟨?eT5, ?fT5⟩) hHeld ?gT5
  case fT5 => intro w hSw; (try dsimp only at hSw); go_simp; (try with_reducible rfl)
  case aT5 => kernel_rfl
  case bT5 => kernel_rfl
  case cT5 => kernel_rfl
  case dT5 => exact fun _ _ _ h => h
  case eT5 => rfl
  simp only [Act.put, List.getElem_toArray, List.getElem_cons_zero, List.getElem_cons_succ, List.setIfInBounds_toArray, List.set_cons_zero, List.set_cons_succ]
  refine wpAnyH_take (i := 6) (v := ?vT6) rfl ?aT6 ?bT6 ?cT6 ?dT6 (Or.inl ⟨?eT6, ?fT6⟩) hHeld ?gT6
  case fT6 => intro w hSw; (try dsimp only at hSw); go_simp; (try with_reducible rfl)
  case aT6 => kernel_rfl
  case bT6 => kernel_rfl
  case cT6 => kernel_rfl
  case dT6 => exact fun _ _ _ h => h
  case eT6 => rfl
  simp only [Act.put, List.getElem_toArray, List.getElem_cons_zero, List.getElem_cons_succ, List.setIfInBounds_toArray, List.set_cons_zero, List.set_cons_succ]
  refine wpAnyH_take (i := 7) (v := ?vT7) rfl ?aT7 ?bT7 ?cT7 ?dT7 (Or.inl ⟨?eT7, ?fT7⟩) hHeld ?gT7
  case fT7 => intro w hSw; (try dsimp only at hSw); go_simp; (try with_reducible rfl)
  case aT7 => kernel_rfl
  case bT7 => kernel_rfl
  case cT7 => kernel_rfl
  case dT7 => exact fun _ _ _ h => h
  case eT7 => rfl
  simp only [Act.put, List.getElem_toArray, List.getElem_cons_zero, List.getElem_cons_succ, List.setIfInBounds_toArray, List.set_cons_zero, List.set_cons_succ]
  refine wpAnyH_take (i := 8) (v := ?vT8) rfl ?aT8 ?bT8 ?cT8 ?dT8 (Or.inl ⟨?eT8, ?fT8⟩) hHeld ?gT8
  case fT8 => intro w hSw; (try dsimp only at hSw); go_simp; (try with_reducible rfl)
  case aT8 => kernel_rfl
  case bT8 => kernel_rfl
  case cT8 => kernel_rfl
  case dT8 => exact fun _ _ _ h => h
  case eT8 => rfl
  simp only [Act.put, List.getElem_toArray, List.getElem_cons_zero, List.getElem_cons_succ, List.setIfInBounds_toArray, List.set_cons_zero, List.set_cons_succ]
  refine wpAnyH_ready (rs := [4]) (by kernel_rfl) (by simp) ?_
  refine (AllReadyH.cons (o := _) rfl (fun K hK => ?_) AllReadyH.nil)
  go_simp
  refine (H64.out _).mono ?_
  rintro e9 w9 ⟨rfl, hw9⟩
  have hw9' : W = w9 := hw9.symm
  subst hw9'
  clear hw9
  go_wp2_with fail
  refine hK.out _ _ s0 (fun _ => ?_)
  clear hK K
  refine wpAnyH_ready (rs := [9]) (by kernel_rfl) (by simp) ?_
  refine (AllReadyH.cons (o := _) rfl (fun K hK => ?_) AllReadyH.nil)
  go_simp
  refine (H32.out _).mono ?_
  rintro e9 w9 ⟨rfl, hw9⟩
  have hw9' : W = w9 := hw9.symm
  subst hw9'
  clear hw9
  go_wp2_with fail
  refine hK.out _ _ s0 (fun _ => ?_)
  clear hK K
  refine wpAnyH_ready (rs := [10]) (by kernel_rfl) (by simp) ?_
  refine (AllReadyH.cons (o := _) rfl (fun K hK => ?_) AllReadyH.nil)
  go_simp
  have s1 : (fun w' => ((w'.cell? ⟨w.heap.size, 0, none⟩ = some (.int .u64 (a.hash : Int)) ∧ w'.cell? ⟨w.heap.size, 1, none⟩ = some (.int .u32 (a.at_ : Int))) ∧ (w'.cell? ⟨w.heap.size + 1, 0, none⟩ = some (.int .u64 (b.hash : Int)) ∧ w'.cell? ⟨w.heap.size + 1, 1, none⟩ = some (.int .u32 (b.at_ : Int))))) (W.alloc (.cells #[.int .i64 X, .int .i64 Y] 3)) := And.intro (And.intro ((HA.out.alloc _).cell 0 rfl) ((HA.out.alloc _).cell 1 rfl)) (And.intro ((HB.out.alloc _).cell 0 rfl) ((HB.out.alloc _).cell 1 rfl))
  have HR := (or_own W.heap.size X Y (W.alloc (.cells #[.int .i64 X, .int .i64 Y] 3)) (Whole.cell (Whole.new W 3 #[.int .i64 X, .int .i64 Y]) 0 rfl) (Whole.cell (Whole.new W 3 #[.int .i64 X, .int .i64 Y]) 1 rfl))
  rw [HO.out] at HR
  have HR := Lib.hid HR
  have HG := Lib.hid (HG.out.alloc (.cells #[.int .i64 X, .int .i64 Y] 3))
  refine hK.out _ _ s1 (fun _ => ?_)
  clear hK K
  refine wpAnyH_ready (rs := [11]) (by kernel_rfl) (by simp) ?_
  refine (AllReadyH.cons (o := _) rfl (fun K hK => ?_) AllReadyH.nil)
  go_simp
  refine HR.out.mono ?_
  rintro e9 w9 ⟨rfl, hw9⟩
  subst hw9
  go_wp2_with fail
  refine hK.out _ _ s1 (fun _ => ?_)
  clear hK K
  refine wpAnyH_take (i := 12) (v := ?vT9) rfl ?aT9 ?bT9 ?cT9 ?dT9 (Or.inl ⟨?eT9, ?fT9⟩) s1 ?gT9
  case fT9 => intro w hSw; (try dsimp only at hSw); go_simp; (try with_reducible rfl)
  case aT9 => kernel_rfl
  case bT9 => kernel_rfl
  case cT9 => kernel_rfl
  case dT9 => exact fun _ _ _ h => h
  case eT9 => rfl
  simp only [Act.put, List.getElem_toArray, List.getElem_cons_zero, List.getElem_cons_succ, List.setIfInBounds_toArray, List.set_cons_zero, List.set_cons_succ]
  refine wpAnyH_done (by kernel_rfl) ?_ _
  go_wp2_with fail
  go_ret
  exact ⟨rfl, by first | exact HG.out | exact HG.out.drew⟩
theorem compare_own (a b : En) (w : World) : Calls Try.prog 29 #[enV a, enV b] w fun e w' => e = .returned (.int .i64 (cmpE a b)) ∧ Keeps NoBlock w w' :=
  (compare_grown a b w).mono fun _ _ ⟨h, g⟩ => ⟨h, g.keeps⟩
theorem cmp_ok : CmpOk := ⟨fun a b w _ _ => compare_own a b w⟩
end Go.Proofs.Ytidhcmamfdipiaa

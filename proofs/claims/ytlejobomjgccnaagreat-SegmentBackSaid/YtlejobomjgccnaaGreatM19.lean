/-
  WideCopy; SgRep; SgRow; SgOwnNum; ConfRef2; ConfRef3.
-/
import Derived.Laws.CopyRow
import Derived.Deep.CutRange
import Derived.Deep.DeepCutAuto
import Derived.Lib.MakeNoZero
import Derived.Lib.SlBuf
import Derived.Test.YtlejobomjgccnaaGreatM03
import Derived.Test.YtlejobomjgccnaaGreatM15
import Derived.Test.YtlejobomjgccnaaGreatM17
import Derived.Test.YtlejobomjgccnaaGreatM18
namespace Go.Proofs.YtlejobomjgccnaaGreat
open Go.RowKit

theorem take_mid {α : Type} (A B C : List α) (n : Nat) (h : n = A.length + B.length) : (A ++ B ++ C).take n = A ++ B := by
  rw [List.take_append_of_le_length (by simp; omega), List.take_of_length_le (by simp; omega)]

/-- The bytes don't fill the block that is open. -/
theorem part_short (v : Nat → Int) (xs ys ps : List Int) (N : Nat) (hN : N = ys.length) (ht : ps.take (xs.length % 32) = wleft xs) (hs : xs.length % 32 + N < 32) :
    (ps.take (xs.length % 32) ++ ys.take (min N (32 - xs.length % 32)) ++ ps.drop (xs.length % 32 + min N (32 - xs.length % 32))).take ((xs ++ ys).length % 32) = wleft (xs ++ ys) ∧ wnums v (xs ++ ys) ((xs ++ ys).length / 32) = wnums v xs (xs.length / 32) := by
  have e1 : (xs ++ ys).length % 32 = xs.length % 32 + N := by rw [List.length_append]; omega
  have e2 : (xs ++ ys).length / 32 = xs.length / 32 := by rw [List.length_append]; omega
  have e3 : ys.take (min N (32 - xs.length % 32)) = ys := List.take_of_length_le (by omega)
  refine ⟨?_, ?_⟩
  · rw [e1, e3, ht, take_mid _ _ _ _ (by rw [wleft_length]; omega)]
    unfold wleft
    rw [e2, List.drop_append_of_le_length (by omega)]
  · rw [e2, wnums_append _ _ _ _ (by omega)]
/-- They fill it. -/
theorem part_full (v : Nat → Int) (xs ys ps : List Int) (N : Nat) (hN : N = ys.length) (hp : ps.length = 32) (ht : ps.take (xs.length % 32) = wleft xs) (hs : 32 ≤ xs.length % 32 + N) :
    wtaken (wnums v xs (xs.length / 32)) (ps.take (xs.length % 32) ++ ys.take (min N (32 - xs.length % 32)) ++ ps.drop (xs.length % 32 + min N (32 - xs.length % 32))) 4 = wnums v (xs ++ ys) (xs.length / 32 + 1) ∧ ys.drop (min N (32 - xs.length % 32)) = (xs ++ ys).drop (32 * (xs.length / 32 + 1)) := by
  have e1 : min N (32 - xs.length % 32) = 32 - xs.length % 32 := by omega
  have e2 : ps.drop (xs.length % 32 + (32 - xs.length % 32)) = [] := List.drop_eq_nil_of_le (by omega)
  rw [e1, e2, List.append_nil, ht]
  refine ⟨?_, ?_⟩
  · show _ = wtaken (wnums v (xs ++ ys) (xs.length / 32)) ((xs ++ ys).drop (32 * (xs.length / 32))) 4
    rw [wnums_append _ _ _ _ (by omega), List.drop_append_of_le_length (by omega)]
    have e3 : xs.drop (32 * (xs.length / 32)) ++ ys = wleft xs ++ ys.take (32 - xs.length % 32) ++ ys.drop (32 - xs.length % 32) := by
      rw [List.append_assoc, List.take_append_drop]
      rfl
    rw [e3, wtaken_append _ (wleft xs ++ ys.take (32 - xs.length % 32)) _ _ (by rw [List.length_append, wleft_length, List.length_take]; omega)]
  · rw [List.drop_append, show xs.drop (32 * (xs.length / 32 + 1)) = [] from List.drop_eq_nil_of_le (by omega), List.nil_append]
    congr 1
    omega
/-- What stands behind the last whole block goes into the part. -/
theorem part_end (all ps : List Int) (k m : Nat) (hm : m = (all.drop (32 * k)).length) (hk : 32 * k ≤ all.length) (hs : m < 32) :
    (ps.take 0 ++ (all.drop (32 * k)).take (min m 32) ++ ps.drop (0 + min m 32)).take (all.length % 32) = wleft all ∧ k = all.length / 32 := by
  rw [List.length_drop] at hm
  have e : k = all.length / 32 := by omega
  refine ⟨?_, e⟩
  rw [List.take_zero, List.nil_append]
  rw [List.take_append_of_le_length (by simp; omega), List.take_of_length_le (by simp; omega), List.take_of_length_le (by simp; omega)]
  unfold wleft
  rw [e]

theorem Keeps.setRow {S : Nat → Prop} {a b : World} (h : Keeps S a b) {g : Nat} (hg : S g) (cs : Array Value) : Keeps S a (b.setRow g cs) := by
  refine ⟨h.os, h.tape, h.output, ?_, fun k hk hn => ?_⟩
  · refine Nat.le_trans h.size ?_
    unfold World.setRow
    simp
  · refine Eq.trans ?_ (h.block k hk hn)
    have hkg : ¬ g = k := fun e => hn (e ▸ hg)
    unfold World.setRow
    simp [Array.getElem?_modify, hkg]
theorem Whole.setRow {w : World} {g : Nat} {t : TypeId} {cs : Array Value} (h : Whole w g t cs) (cs' : Array Value) : Whole (w.setRow g cs') g t cs' := setRow_heap w g cs cs' t (0, 0) h

/-- Bytes are copied into a State's part. -/
theorem copy_part {w : World} {g : Nat} {s : Int} {v : Nat → Int} {ps : List Int} {z : Int} (h : StAt w g s v ps z) (o D off : Nat) (hoff : off = 5 + o) (hD : o + D ≤ 32) (p : Option Addr) (N c : Nat) (ys : List Int) (hx : N = ys.length) (hn0 : p = none → N = 0 ∧ c = 0) (hb : Bytes8 w p ys) (ho : Octets ys) :
    ∃ w', (Builtin.copy_ #[52, 52] 3 #[.slice (some ⟨g, off, none⟩) D D, .slice p N c]).run Tryz.prog w = .ok (.int .i64 ((min N D : Nat) : Int)) w' ∧ StAt w' g s v (ps.take o ++ ys.take (min N D) ++ ps.drop (o + min N D)) z ∧ Keeps (Just g) w w' := by
  obtain ⟨hl, hpo, hwh⟩ := h
  subst hoff
  obtain ⟨i0, hi, hz0, hz1, hz2⟩ := info_parts infoByte
  cases p with
  | none =>
    obtain ⟨rfl, rfl⟩ := hn0 rfl
    refine ⟨w, ?_, ⟨by simpa using hl, by simpa using hpo, by simpa using hwh⟩, Keeps.refl _ _⟩
    rw [Nat.zero_min]
    exact run_copy_nil Tryz.prog w _ _ _ _ _ _ _ Tryz.underlying52 (by rw [hi]; rfl)
  | some a =>
    have hlen : (ys.take (min N D)).length = min N D := by rw [List.length_take]; omega
    have e := run_copy_row Tryz.prog w 52 52 3 5 g (5 + o) D D a N c (scells s v ps z) 199 ((ys.take (min N D)).map (Value.int .u8)) Tryz.underlying52 (by rw [hi]; simpa using hz1) hwh (by rw [List.length_map, hlen])
      (fun j u hj => by
        have hj1 := (List.getElem?_eq_some_iff.1 hj).1
        rw [List.length_map, hlen] at hj1
        obtain ⟨a', ha', hcell⟩ := hb (by omega)
        obtain rfl := Option.some.inj ha'
        rw [hcell j (by omega)]
        rw [← hj]
        simp [show j < min N D by omega, show j < ys.length by omega])
      (by rw [List.length_map, hlen]; show 5 + o + min N D ≤ (scells s v ps z).size; simp [scells, hl]; omega)
      (fun u hu => by obtain ⟨x, _, rfl⟩ := List.mem_map.1 hu; rfl)
    rw [List.length_map, hlen] at e
    have hc := scells_copy s v (ps := ps) (cs := ys.take (min N D)) z o hl (by rw [hlen]; omega)
    rw [hlen] at hc
    rw [hc] at e
    refine ⟨_, e, ⟨?_, ?_, hwh.setRow _⟩, (Keeps.refl _ _).setRow (Just.self g) _⟩
    · simp [hl]; omega
    · intro b hb'
      simp only [List.mem_append] at hb'
      rcases hb' with (hb' | hb') | hb'
      · exact hpo.take _ b hb'
      · exact ho.take _ b hb'
      · exact hpo.drop _ b hb'
end Go.Proofs.YtlejobomjgccnaaGreat

namespace Go.Proofs.YtlejobomjgccnaaGreat
open Go.RowKit

set_option maxHeartbeats 1600000 in
set_option maxRecDepth 10000 in
theorem mul64_one (y : Nat) (hy : y < 4294967296) (w : World) : Calls Tryz.prog 126 #[.int .u64 1, .int .u64 (y : Int)] w fun e w' => e = .returned (.tuple #[.int .u64 0, .int .u64 (y : Int)]) ∧ w' = w := by
  have hl : bits BinOp.and IntKind.u64 (y : Int) 4294967295 = (y : Int) := by
    have h := u64_and_nat y 4294967295 (by omega) (by decide)
    rw [show (4294967295 : Nat) = 2 ^ 32 - 1 by decide, Nat.and_two_pow_sub_one_eq_mod] at h
    rw [show ((4294967295 : Int)) = ((2 ^ 32 - 1 : Nat) : Int) by decide, h]
    have : y % 2 ^ 32 = y := Nat.mod_eq_of_lt (by omega)
    rw [this]
  have hh : (y : Int) / 4294967296 = 0 := by omega
  have w0 : IntKind.u64.wrap (y : Int) = (y : Int) := by rw [IntKind.wrap_u64]; omega
  have a1 : bits BinOp.and IntKind.u64 1 4294967295 = 1 := u64_and_nat 1 4294967295 (by decide) (by decide)
  have a0 : bits BinOp.and IntKind.u64 0 4294967295 = 0 := u64_and_nat 0 4294967295 (by decide) (by decide)
  go_enter Tryz.func126, Tryz.ntmps126
  go_wp2_with fail
  refine bodyPost_ret (results_tmp2 rfl _ _ _) rfl ?_
  exact ⟨rfl, rfl⟩

set_option maxHeartbeats 1600000 in
set_option maxRecDepth 10000 in
theorem mul_one (y : Nat) (hy : y < 4294967296) (w : World) : Calls Tryz.prog 99 #[.int .u64 1, .int .u64 (y : Int)] w fun e w' => e = .returned (.tuple #[.int .u64 0, .int .u64 (y : Int)]) ∧ w' = w := by
  have HM := Lib.hid (mul64_one y hy w)
  go_enter Tryz.func99, Tryz.ntmps99
  go_wp2_with fail
  refine HM.out.mono ?_
  rintro e w2 ⟨rfl, rfl⟩
  go_wp2_with fail
  refine bodyPost_ret (results_tmp2 rfl _ _ _) rfl ?_
  exact ⟨rfl, rfl⟩
/-- Bytes of which the first j are x, in a block of n or more. -/
def FilledTo (wr : World) (g n j : Nat) (x : Int) : Prop := ∃ cur, Whole wr g 5 cur ∧ n ≤ cur.size ∧ ∀ i, i < j → cur[i]? = some (.int .u8 x)
theorem FilledTo.keep {wr w' : World} {g n j : Nat} {x : Int} (h : FilledTo wr g n j x) (hk : Keeps NoBlock wr w') : FilledTo w' g n j x := by
  obtain ⟨cur, hw, hs, hc⟩ := h
  exact ⟨cur, hw.keep hk (fun h => h), hs, hc⟩

/-- Some bytes, all the same, are copied behind them. -/
theorem FilledTo.put {wr : World} {g n j m : Nat} {x : Int} (h : FilledTo wr g n j x) (o dLen dCap sLen sCap : Nat) (a : Addr) (hm : m = Nat.min sLen dLen) (hj : j + m ≤ n) (ho : o = j) (hs : ∀ i, i < m → wr.cell? (a.add i) = some (.int .u8 x)) :
    ∃ w', (Builtin.copy_ #[52, 52] 3 #[.slice (some ⟨g, o, none⟩) dLen dCap, .slice (some a) sLen sCap]).run Tryz.prog wr = .ok (.int .i64 (m : Int)) w' ∧ FilledTo w' g n (j + m) x ∧ Keeps (Just g) wr w' := by
  subst ho
  obtain ⟨i0, hi, hz0, hz1, hz2⟩ := info_parts infoByte
  obtain ⟨cur, hw, hsz, hc⟩ := h
  have e := run_copy_row Tryz.prog wr 52 52 3 5 g o dLen dCap a sLen sCap cur 5 (List.replicate m (.int .u8 x)) Tryz.underlying52 (by rw [hi]; simpa using hz1) hw (by rw [List.length_replicate]; exact hm)
    (fun i v hv => by
      rw [List.getElem?_replicate] at hv
      split at hv
      · obtain rfl := Option.some.inj hv
        exact hs i (by omega)
      · simp at hv)
    (by rw [List.length_replicate]; omega) (fun v hv => by rw [(List.mem_replicate.1 hv).2]; rfl)
  rw [List.length_replicate] at e
  refine ⟨_, e, ⟨_, hw.setRow _, ?_, ?_⟩, (Keeps.refl (Just g) wr).setRow (Just.self g) _⟩
  · simp
    omega
  · intro i hi9
    rw [List.getElem?_toArray, List.append_assoc]
    by_cases h1 : i < o
    · rw [List.getElem?_append_left (by simp; omega), List.getElem?_take, if_pos h1, Array.getElem?_toList]
      exact hc i h1
    · rw [List.getElem?_append_right (by simp; omega), List.getElem?_append_left (by simp; omega), List.getElem?_replicate, if_pos (by simp; omega)]
/-- .. of their own first ones. -/
theorem FilledTo.cells {wr : World} {g n j : Nat} {x : Int} (h : FilledTo wr g n j x) (k : Nat) (hk : k ≤ j) : ∀ i, i < k → wr.cell? (Addr.add ⟨g, 0, none⟩ i) = some (.int .u8 x) := fun i hi => by
  obtain ⟨cur, hw, _, hc⟩ := h
  rw [addZero]
  exact hw.cell i (hc i (by omega))

/-- copy, as a step of a region that draws. -/
theorem step_copy_run {ops : Array Oper} {o : Oper} {a : Act} {w : World} {K : Act → World → Prop} {Q : Exit → Act → World → Prop} {E : Prop}
    (hg : o.guard = none) (d x : Operand) (dT sT : TypeId) (hop : o.op = Op.call { callee := Callee.builtin Builtin.copy, args := #[d, x], argTypes := #[dT, sT] })
    (v u : Value) (hd : a.eval d = v) (hx : a.eval x = u) {v' : Value} {w' : World} (hr : (Builtin.copy_ #[dT, sT] o.type #[v, u]).run Tryz.prog w = .ok v' w') (hK : K (a.put o.dst v') w') :
    if Region.wanted o (yielded ops a.tmps) = true then Oper.wp Tryz.prog o a w K Q else E := by
  have hw : Region.wanted o (yielded ops a.tmps) = true := by simp [Region.wanted, hg]
  rw [if_pos hw]
  exact Lib.wp_copy_run w d x dT sT hop v u hd hx hr hK

set_option maxHeartbeats 4000000 in
set_option maxRecDepth 10000 in
theorem repeat_bytes (g n : Nat) (x : Int) (w : World) (hn : 0 < n) (hn9 : n ≤ 100000000) (hg : w.cell? ⟨g, 0, none⟩ = some (.int .u8 x)) :
    Calls Tryz.prog 69 #[.slice (some ⟨g, 0, none⟩) 1 1, .int .i64 (n : Int)] w fun e w' => ∃ g', e = .returned (.slice (some ⟨g', 0, none⟩) n n) ∧ w.heap.size ≤ g' ∧ FilledTo w' g' n n x ∧ Keeps NoBlock w w' := by
  obtain ⟨i0, hi, hz0, hz1, hz2⟩ := info_parts infoByte
  have HM := Lib.hid (fun w => mul_one n (by omega) w)
  have wn : IntKind.u64.wrap (n : Int) = (n : Int) := by rw [IntKind.wrap_u64]; omega
  have wi : IntKind.i64.wrap (n : Int) = (n : Int) := by rw [IntKind.wrap_i64]; omega
  have n0 : ¬ (n : Int) = 0 := by omega
  have n1 : ¬ (n : Int) < 0 := by omega
  have n2 : ¬ (9223372036854775807 : Int) < (n : Int) := by omega
  have hgl := ltOfCell hg
  obtain ⟨cs, hrunM, hle, _⟩ := Lib.run_makeNoZero (P := Tryz.prog) w #[3] 52 5 Tryz.underlying52 n (by omega)
  have hcall : (callFunc 100 #[.int .i64 (n : Int)]).run Tryz.prog w = .ok (.value (.slice (some ⟨w.heap.size, 0, none⟩) n cs.size)) ((w.alloc (.cells cs 5)).drewN 2) := by
    rw [run_callFunc_extern Tryz.func100 (by kernel_rfl) (by kernel_rfl) (by kernel_rfl) (e := Extern.BytealgMakeNoZero.makeNoZero #[3] #[52]) (by kernel_rfl), hrunM]
    rfl
  clear hrunM
  have HW := Lib.hid (show Whole ((w.alloc (.cells cs 5)).drewN 2) w.heap.size 5 cs from Whole.new w _ _)
  have HK := Lib.hid (show Keeps NoBlock w ((w.alloc (.cells cs 5)).drewN 2) from ((Keeps.refl NoBlock w).alloc _).drewN 2)
  have hgc := HK.out.cell hg (fun h => h)
  have i0 : (0 : Int) ≤ (n : Int) := by omega
  have i1 : (n : Int) ≤ (cs.size : Int) := by omega
  have i2 : (n : Int) ≤ (n : Int) := Int.le_refl _
  clear hg
  have HS0 := Lib.hid (FilledTo.put (wr := (w.alloc (.cells cs 5)).drewN 2) (g := w.heap.size) (n := n) (j := 0) (m := 1) (x := x) ⟨cs, HW.out, hle, fun i hi => by omega⟩ 0 n n 1 1 ⟨g, 0, none⟩ (by show 1 = min 1 n; omega) (by omega) rfl (fun i hi => by rw [addZero, show i = 0 by omega]; exact hgc))
  obtain ⟨w3, hr3, hf3, hk3⟩ := HS0.out
  have HF3 := Lib.hid hf3
  have HK3 := Lib.hid (HK.out.then hk3 (fun k hk hj => by unfold Just at hj; omega))
  clear hf3 hk3 HS0 hgc HW
  obtain ⟨G, hG⟩ : ∃ G, G = w.heap.size := ⟨_, rfl⟩
  rw [← hG] at hr3 HF3 hcall
  have HG := Lib.hid (show w.heap.size ≤ G by omega)
  clear hG
  have hsl : ∀ (j : Nat), j < n → ∀ W, (Instr.slice 52 (.slice (some ⟨G, 0, none⟩) n n) (some (.int .i64 (j : Int))) none none).run Tryz.prog W = .ok (.slice (some ⟨G, j, none⟩) (n - j) (n - j)) W := fun j hj W => by
    have h := Lib.run_slice_tailV (P := Tryz.prog) W 52 5 Tryz.underlying52 (fun w => by simp [Go.sizeOf, typeInfo, hi, hz1]) G n j (by omega)
    unfold Lib.tailV at h
    rw [if_neg (by omega)] at h
    exact h
  have HSl := Lib.hid hsl
  clear hsl
  by_cases hbig : 8192 < n
  · have hbi : (8192 : Int) < (n : Int) := by omega
    clear hbig
    go_enter Tryz.func69, Tryz.ntmps69
    go_wp2_with fail
    refine (HM.out _).mono ?_
    rintro e w2 ⟨rfl, rfl⟩
    go_wp2_with (at_builtin; refine Lib.wpList_copy_run _ rfl _ _ 52 52 rfl _ _ rfl rfl hr3 ?_)
    clear hr3 hcall
    go_loopw [10, 11] (fun bp ch wr => ∃ j : Nat, 1 ≤ j ∧ j ≤ n ∧ bp = .int .i64 (j : Int) ∧ Hid (FilledTo wr G n j x) ∧ Hid (Keeps NoBlock w2 wr)) (fun bp _ _ => n - (intOf bp).toNat)
    case atStart => exact ⟨1, Nat.le_refl _, by omega, rfl, HF3, HK3⟩
    case round =>
      obtain ⟨j, hj1, hj, rfl, HF, HK4⟩ := hrel
      by_cases hlt : j < n
      · have hd : decide ((j : Int) < (n : Int)) = true := decide_eq_true (by omega)
        have hjn : (j : Int) < (n : Int) := by omega
        have hs := HSl.out j hlt
        obtain ⟨k, hk⟩ : ∃ k, k = min j 8192 := ⟨_, rfl⟩
        have hmin : min (j : Int) (8192 : Int) = (k : Int) := by omega
        have hk0 : (0 : Int) ≤ (k : Int) := by omega
        have hkn : (k : Int) ≤ (n : Int) := by omega
        obtain ⟨m, hm⟩ : ∃ m, m = min k (n - j) := ⟨_, rfl⟩
        obtain ⟨w5, hr5, hf5, hk5⟩ := FilledTo.put (wr := wr.drew) (m := m) HF.out j (n - j) (n - j) k n ⟨G, 0, none⟩ hm (by omega) rfl (HF.out.cells m (by omega))
        have HF5 := Lib.hid hf5
        have HK5 := Lib.hid (HK4.out.drew.then hk5 (fun i hi hj => by have := HG.out; unfold Just at hj; omega))
        have hwj : IntKind.i64.wrap ((j : Int) + (m : Int)) = ((j + m : Nat) : Int) := by rw [IntKind.wrap_i64]; omega
        have HM2 := Lib.hid (show 1 ≤ m ∧ j + m ≤ n by omega)
        clear hf5 hk5 hm hk
        go_wp2_with fail
        -- REGION
        refine wp_region_held_drew (S := fun _ => True) (by kernel_rfl) trivial (fun hHeld => ?_)
        refine wpAnyH_take (i := 0) (v := ?vT1) rfl ?aT1 ?bT1 ?cT1 ?dT1 (Or.inl ⟨?eT1, ?fT1⟩) hHeld ?gT1
        case fT1 => intro w hSw; (try dsimp only at hSw); go_simp; (try with_reducible rfl)
        case aT1 => kernel_rfl
        case bT1 => kernel_rfl
        case cT1 => kernel_rfl
        case dT1 => exact fun _ _ _ h => h
        case eT1 => rfl
        simp only [Act.put, List.getElem_toArray, List.getElem_cons_zero, List.setIfInBounds_toArray, List.set_cons_zero, List.set_cons_succ]
        refine wpAnyH_take (i := 1) (v := ?vT2) rfl ?aT2 ?bT2 ?cT2 ?dT2 (Or.inl ⟨?eT2, ?fT2⟩) hHeld ?gT2
        case fT2 => intro w hSw; (try dsimp only at hSw); go_simp; (try with_reducible rfl)
        case aT2 => kernel_rfl
        case bT2 => kernel_rfl
        case cT2 => kernel_rfl
        case dT2 => exact fun _ _ _ h => h
        case eT2 => rfl
        simp only [Act.put, List.getElem_toArray, List.getElem_cons_zero, List.getElem_cons_succ, List.setIfInBounds_toArray, List.set_cons_zero, List.set_cons_succ]
        refine wpAnyH_take (i := 2) (v := ?vT3) rfl ?aT3 ?bT3 ?cT3 ?dT3 (Or.inl ⟨?eT3, ?fT3⟩) hHeld ?gT3
        case fT3 => intro w hSw; (try dsimp only at hSw); go_simp; (try with_reducible rfl)
        case aT3 => kernel_rfl
        case bT3 => kernel_rfl
        case cT3 => kernel_rfl
        case dT3 => exact fun _ _ _ h => h
        case eT3 => rfl
        simp only [Act.put, List.getElem_toArray, List.getElem_cons_zero, List.getElem_cons_succ, List.setIfInBounds_toArray, List.set_cons_zero, List.set_cons_succ]
        refine wpAnyH_take (i := 3) (v := ?vT4) rfl ?aT4 ?bT4 ?cT4 ?dT4 (Or.inl ⟨?eT4, ?fT4⟩) hHeld ?gT4
        case fT4 => intro w hSw; (try dsimp only at hSw); go_simp; (try with_reducible rfl)
        case aT4 => kernel_rfl
        case bT4 => kernel_rfl
        case cT4 => kernel_rfl
        case dT4 => exact fun _ _ _ h => h
        case eT4 => rfl
        simp only [Act.put, List.getElem_toArray, List.getElem_cons_zero, List.getElem_cons_succ, List.setIfInBounds_toArray, List.set_cons_zero, List.set_cons_succ]
        refine wpAnyH_take (i := 4) (v := ?vT5) rfl ?aT5 ?bT5 ?cT5 ?dT5 (Or.inl ⟨?eT5, ?fT5⟩) hHeld ?gT5
        case fT5 => intro w hSw; (try dsimp only at hSw); go_simp; (try with_reducible rfl)
        case aT5 => kernel_rfl
        case bT5 => kernel_rfl
        case cT5 => kernel_rfl
        case dT5 => exact fun _ _ _ h => h
        case eT5 => rfl
        simp only [Act.put, List.getElem_toArray, List.getElem_cons_zero, List.getElem_cons_succ, List.setIfInBounds_toArray, List.set_cons_zero, List.set_cons_succ]
        refine wpAnyH_take (i := 5) (v := ?vT6) rfl ?aT6 ?bT6 ?cT6 ?dT6 (Or.inl ⟨?eT6, ?fT6⟩) hHeld ?gT6
        case fT6 => intro w hSw; (try dsimp only at hSw); go_simp; (try with_reducible rfl)
        case aT6 => kernel_rfl
        case bT6 => kernel_rfl
        case cT6 => kernel_rfl
        case dT6 => exact fun _ _ _ h => h
        case eT6 => rfl
        simp only [Act.put, List.getElem_toArray, List.getElem_cons_zero, List.getElem_cons_succ, List.setIfInBounds_toArray, List.set_cons_zero, List.set_cons_succ]
        refine wpAnyH_take (i := 6) (v := ?vT7) rfl ?aT7 ?bT7 ?cT7 ?dT7 (Or.inl ⟨?eT7, ?fT7⟩) hHeld ?gT7
        case fT7 => intro w hSw; (try dsimp only at hSw); go_simp; (try with_reducible rfl)
        case aT7 => kernel_rfl
        case bT7 => kernel_rfl
        case cT7 => kernel_rfl
        case dT7 => exact fun _ _ _ h => h
        case eT7 => rfl
        simp only [Act.put, List.getElem_toArray, List.getElem_cons_zero, List.getElem_cons_succ, List.setIfInBounds_toArray, List.set_cons_zero, List.set_cons_succ]
        refine wpAnyH_ready (rs := [7]) (by kernel_rfl) (by simp) ?_
        refine (AllReadyH.cons (o := _) rfl (fun K hK => ?_) AllReadyH.nil)
        refine step_copy_run rfl _ _ 52 52 rfl _ _ rfl rfl hr5 ?_
        refine hK.out _ _ trivial (fun _ => ?_)
        clear hK K
        refine wpAnyH_ready (rs := [8]) (by kernel_rfl) (by simp) ?_
        refine (AllReadyH.cons (o := _) rfl (fun K hK => ?_) AllReadyH.nil)
        go_simp
        refine hK.out _ _ trivial (fun _ => ?_)
        clear hK K
        refine wpAnyH_ready (rs := [9]) (by kernel_rfl) (by simp) ?_
        refine (AllReadyH.cons (o := _) rfl (fun K hK => ?_) AllReadyH.nil)
        go_simp
        refine hK.out _ _ trivial (fun _ => ?_)
        clear hK K
        refine wpAnyH_done (by kernel_rfl) ?_ _
        clear hr5
        go_wp2_with fail
        go_roundw
        case rel => exact ⟨j + m, by omega, HM2.out.2, by push_cast; rfl, HF5, HK5⟩
        case measure => have := HM2.out; simp only [intOf]; omega
        -- BEHIND
      · have hjn : ¬ (j : Int) < (n : Int) := by omega
        obtain rfl : j = n := by omega
        have hd : decide ((j : Int) < (j : Int)) = false := decide_eq_false (by omega)
        go_wp2_with fail
        go_ret
        exact ⟨G, rfl, HG.out, HF.out, HK4.out⟩
  · have hbi : ¬ (8192 : Int) < (n : Int) := by omega
    clear hbig
    go_enter Tryz.func69, Tryz.ntmps69
    go_wp2_with fail
    refine (HM.out _).mono ?_
    rintro e w2 ⟨rfl, rfl⟩
    go_wp2_with (at_builtin; refine Lib.wpList_copy_run _ rfl _ _ 52 52 rfl _ _ rfl rfl hr3 ?_)
    clear hr3 hcall
    go_loopw [10, 11] (fun bp ch wr => ∃ j : Nat, 1 ≤ j ∧ j ≤ n ∧ bp = .int .i64 (j : Int) ∧ Hid (FilledTo wr G n j x) ∧ Hid (Keeps NoBlock w2 wr)) (fun bp _ _ => n - (intOf bp).toNat)
    case atStart => exact ⟨1, Nat.le_refl _, by omega, rfl, HF3, HK3⟩
    case round =>
      obtain ⟨j, hj1, hj, rfl, HF, HK4⟩ := hrel
      by_cases hlt : j < n
      · have hd : decide ((j : Int) < (n : Int)) = true := decide_eq_true (by omega)
        have hjn : (j : Int) < (n : Int) := by omega
        have hs := HSl.out j hlt
        obtain ⟨k, hk⟩ : ∃ k, k = min j n := ⟨_, rfl⟩
        have hmin : min (j : Int) (n : Int) = (k : Int) := by omega
        have hk0 : (0 : Int) ≤ (k : Int) := by omega
        have hkn : (k : Int) ≤ (n : Int) := by omega
        obtain ⟨m, hm⟩ : ∃ m, m = min k (n - j) := ⟨_, rfl⟩
        obtain ⟨w5, hr5, hf5, hk5⟩ := FilledTo.put (wr := wr.drew) (m := m) HF.out j (n - j) (n - j) k n ⟨G, 0, none⟩ hm (by omega) rfl (HF.out.cells m (by omega))
        have HF5 := Lib.hid hf5
        have HK5 := Lib.hid (HK4.out.drew.then hk5 (fun i hi hj => by have := HG.out; unfold Just at hj; omega))
        have hwj : IntKind.i64.wrap ((j : Int) + (m : Int)) = ((j + m : Nat) : Int) := by rw [IntKind.wrap_i64]; omega
        have HM2 := Lib.hid (show 1 ≤ m ∧ j + m ≤ n by omega)
        clear hf5 hk5 hm hk
        go_wp2_with fail
        -- REGION
        refine wp_region_held_drew (S := fun _ => True) (by kernel_rfl) trivial (fun hHeld => ?_)
        refine wpAnyH_take (i := 0) (v := ?vT501) rfl ?aT501 ?bT501 ?cT501 ?dT501 (Or.inl ⟨?eT501, ?fT501⟩) hHeld ?gT501
        case fT501 => intro w hSw; (try dsimp only at hSw); go_simp; (try with_reducible rfl)
        case aT501 => kernel_rfl
        case bT501 => kernel_rfl
        case cT501 => kernel_rfl
        case dT501 => exact fun _ _ _ h => h
        case eT501 => rfl
        simp only [Act.put, List.getElem_toArray, List.getElem_cons_zero, List.setIfInBounds_toArray, List.set_cons_zero, List.set_cons_succ]
        refine wpAnyH_take (i := 1) (v := ?vT502) rfl ?aT502 ?bT502 ?cT502 ?dT502 (Or.inl ⟨?eT502, ?fT502⟩) hHeld ?gT502
        case fT502 => intro w hSw; (try dsimp only at hSw); go_simp; (try with_reducible rfl)
        case aT502 => kernel_rfl
        case bT502 => kernel_rfl
        case cT502 => kernel_rfl
        case dT502 => exact fun _ _ _ h => h
        case eT502 => rfl
        simp only [Act.put, List.getElem_toArray, List.getElem_cons_zero, List.getElem_cons_succ, List.setIfInBounds_toArray, List.set_cons_zero, List.set_cons_succ]
        refine wpAnyH_take (i := 2) (v := ?vT503) rfl ?aT503 ?bT503 ?cT503 ?dT503 (Or.inl ⟨?eT503, ?fT503⟩) hHeld ?gT503
        case fT503 => intro w hSw; (try dsimp only at hSw); go_simp; (try with_reducible rfl)
        case aT503 => kernel_rfl
        case bT503 => kernel_rfl
        case cT503 => kernel_rfl
        case dT503 => exact fun _ _ _ h => h
        case eT503 => rfl
        simp only [Act.put, List.getElem_toArray, List.getElem_cons_zero, List.getElem_cons_succ, List.setIfInBounds_toArray, List.set_cons_zero, List.set_cons_succ]
        refine wpAnyH_take (i := 3) (v := ?vT504) rfl ?aT504 ?bT504 ?cT504 ?dT504 (Or.inl ⟨?eT504, ?fT504⟩) hHeld ?gT504
        case fT504 => intro w hSw; (try dsimp only at hSw); go_simp; (try with_reducible rfl)
        case aT504 => kernel_rfl
        case bT504 => kernel_rfl
        case cT504 => kernel_rfl
        case dT504 => exact fun _ _ _ h => h
        case eT504 => rfl
        simp only [Act.put, List.getElem_toArray, List.getElem_cons_zero, List.getElem_cons_succ, List.setIfInBounds_toArray, List.set_cons_zero, List.set_cons_succ]
        refine wpAnyH_take (i := 4) (v := ?vT505) rfl ?aT505 ?bT505 ?cT505 ?dT505 (Or.inl ⟨?eT505, ?fT505⟩) hHeld ?gT505
        case fT505 => intro w hSw; (try dsimp only at hSw); go_simp; (try with_reducible rfl)
        case aT505 => kernel_rfl
        case bT505 => kernel_rfl
        case cT505 => kernel_rfl
        case dT505 => exact fun _ _ _ h => h
        case eT505 => rfl
        simp only [Act.put, List.getElem_toArray, List.getElem_cons_zero, List.getElem_cons_succ, List.setIfInBounds_toArray, List.set_cons_zero, List.set_cons_succ]
        refine wpAnyH_take (i := 5) (v := ?vT506) rfl ?aT506 ?bT506 ?cT506 ?dT506 (Or.inl ⟨?eT506, ?fT506⟩) hHeld ?gT506
        case fT506 => intro w hSw; (try dsimp only at hSw); go_simp; (try with_reducible rfl)
        case aT506 => kernel_rfl
        case bT506 => kernel_rfl
        case cT506 => kernel_rfl
        case dT506 => exact fun _ _ _ h => h
        case eT506 => rfl
        simp only [Act.put, List.getElem_toArray, List.getElem_cons_zero, List.getElem_cons_succ, List.setIfInBounds_toArray, List.set_cons_zero, List.set_cons_succ]
        refine wpAnyH_take (i := 6) (v := ?vT507) rfl ?aT507 ?bT507 ?cT507 ?dT507 (Or.inl ⟨?eT507, ?fT507⟩) hHeld ?gT507
        case fT507 => intro w hSw; (try dsimp only at hSw); go_simp; (try with_reducible rfl)
        case aT507 => kernel_rfl
        case bT507 => kernel_rfl
        case cT507 => kernel_rfl
        case dT507 => exact fun _ _ _ h => h
        case eT507 => rfl
        simp only [Act.put, List.getElem_toArray, List.getElem_cons_zero, List.getElem_cons_succ, List.setIfInBounds_toArray, List.set_cons_zero, List.set_cons_succ]
        refine wpAnyH_ready (rs := [7]) (by kernel_rfl) (by simp) ?_
        refine (AllReadyH.cons (o := _) rfl (fun K hK => ?_) AllReadyH.nil)
        refine step_copy_run rfl _ _ 52 52 rfl _ _ rfl rfl hr5 ?_
        refine hK.out _ _ trivial (fun _ => ?_)
        clear hK K
        refine wpAnyH_ready (rs := [8]) (by kernel_rfl) (by simp) ?_
        refine (AllReadyH.cons (o := _) rfl (fun K hK => ?_) AllReadyH.nil)
        go_simp
        refine hK.out _ _ trivial (fun _ => ?_)
        clear hK K
        refine wpAnyH_ready (rs := [9]) (by kernel_rfl) (by simp) ?_
        refine (AllReadyH.cons (o := _) rfl (fun K hK => ?_) AllReadyH.nil)
        go_simp
        refine hK.out _ _ trivial (fun _ => ?_)
        clear hK K
        refine wpAnyH_done (by kernel_rfl) ?_ _
        clear hr5
        go_wp2_with fail
        go_roundw
        case rel => exact ⟨j + m, by omega, HM2.out.2, by push_cast; rfl, HF5, HK5⟩
        case measure => have := HM2.out; simp only [intOf]; omega
        -- BEHIND
      · have hjn : ¬ (j : Int) < (n : Int) := by omega
        obtain rfl : j = n := by omega
        have hd : decide ((j : Int) < (j : Int)) = false := decide_eq_false (by omega)
        go_wp2_with fail
        go_ret
        exact ⟨G, rfl, HG.out, HF.out, HK4.out⟩
end Go.Proofs.YtlejobomjgccnaaGreat

namespace Go.Proofs.YtlejobomjgccnaaGreat
open Go.RowKit

/-- Bytes at the beginning of a block that may go on behind them. -/
def RowT (w : World) (g M : Nat) (T : List Int) : Prop := T.length = M ∧ ∃ cur, Whole w g 5 cur ∧ M ≤ cur.size ∧ ∀ i, i < M → cur[i]? = some (.int .u8 (T.getD i 0))
theorem FilledTo.row {w : World} {g n : Nat} {x : Int} (h : FilledTo w g n n x) : RowT w g n (List.replicate n x) := by
  obtain ⟨cur, hw, hs, hc⟩ := h
  refine ⟨List.length_replicate, cur, hw, hs, fun i hi => ?_⟩
  rw [hc i hi]
  simp [hi]
theorem RowT.keep {w w' : World} {g M : Nat} {T : List Int} (h : RowT w g M T) {S : Nat → Prop} (hk : Keeps S w w') (hs : ¬ S g) : RowT w' g M T := by
  obtain ⟨h1, cur, hw, h2, h3⟩ := h
  exact ⟨h1, cur, hw.keep hk hs, h2, h3⟩
theorem RowT.own {w : World} {g M base : Nat} {T : List Int} (h : RowT w g M T) (hg : base ≤ g) (hM : M ≤ maxLen) : OwnP w base (.slice (some ⟨g, 0, none⟩) M M) T.length (T.map (Value.int .u8)) := by
  obtain ⟨h1, cur, hw, h2, h3⟩ := h
  subst h1
  refine ⟨by rw [List.length_map], .inr ⟨g, T.length, cur, rfl, hg, hw, Nat.le_refl _, hM, h2, ?_⟩⟩
  refine List.ext_getElem? (fun i => ?_)
  rw [List.getElem?_take, List.getElem?_map]
  by_cases hi : i < T.length
  · rw [if_pos hi, Array.getElem?_toList, h3 i hi]
    simp [hi]
  · rw [if_neg hi]
    simp [Nat.le_of_not_lt hi]
theorem mid_get {α : Type} (A B : List α) (o k i : Nat) (ho : o + k ≤ A.length) (hk : k = B.length) : (A.take o ++ (B ++ A.drop (o + k)))[i]? = if i < o then A[i]? else if i - o < k then B[i - o]? else A[i]? := by
  by_cases h1 : i < o
  · rw [if_pos h1, List.getElem?_append_left (by rw [List.length_take]; omega), List.getElem?_take, if_pos h1]
  · rw [if_neg h1, List.getElem?_append_right (by rw [List.length_take]; omega), List.length_take, show min o A.length = o by omega]
    by_cases h2 : i - o < k
    · rw [if_pos h2, List.getElem?_append_left (by omega)]
    · rw [if_neg h2, List.getElem?_append_right (by omega), List.getElem?_drop, show o + k + (i - o - B.length) = i by omega]
/-- Bytes are copied over them. -/
theorem RowT.put {w : World} {g M : Nat} {T : List Int} (h : RowT w g M T) (o k dLen dCap : Nat) (p : Option Addr) (c : Nat) (ys : List Int) (hk : k = ys.length) (hd : k ≤ dLen) (ho : o + k ≤ M) (h8 : Bytes8 w p ys) (d : Option Addr) (hdst : 0 < k → d = some ⟨g, o, none⟩) :
    ∃ w', (Builtin.copy_ #[52, 52] 3 #[.slice d dLen dCap, .slice p k c]).run Tryz.prog w = .ok (.int .i64 (k : Int)) w' ∧ RowT w' g M (T.take o ++ ys ++ T.drop (o + k)) ∧ Keeps (Just g) w w' := by
  obtain ⟨i0, hi, hz0, hz1, hz2⟩ := info_parts infoByte
  obtain ⟨hl, cur, hw, hsz, hc⟩ := h
  by_cases h0 : k = 0
  · subst h0
    obtain rfl : ys = [] := List.length_eq_zero_iff.1 hk.symm
    refine ⟨w, run_copy_none (P := Tryz.prog) w _ _ _ 5 _ _ _ _ _ _ Tryz.underlying52 (by rw [hi]; simpa using hz1) (by simp), ⟨by simp; omega, cur, hw, hsz, fun i h => ?_⟩, Keeps.refl _ _⟩
    rw [List.append_nil, Nat.add_zero, List.take_append_drop]
    exact hc i h
  · obtain rfl := hdst (by omega)
    obtain ⟨a, rfl, h8'⟩ := h8 (by omega)
    have e := run_copy_row Tryz.prog w 52 52 3 5 g o dLen dCap a k c cur 5 (ys.map (Value.int .u8)) Tryz.underlying52 (by rw [hi]; simpa using hz1) hw (by rw [List.length_map, ← hk]; exact (Nat.min_eq_left hd).symm)
      (fun i v hv => by
        have hil : i < ys.length := by have := (List.getElem?_eq_some_iff.1 hv).1; simpa using this
        rw [h8' i hil]
        rw [← hv]
        simp [hil])
      (by rw [List.length_map, ← hk]; omega) (fun v hv => by obtain ⟨x, _, rfl⟩ := List.mem_map.1 hv; rfl)
    rw [List.length_map, ← hk] at e
    refine ⟨_, e, ⟨?_, _, hw.setRow _, ?_, ?_⟩, (Keeps.refl (Just g) w).setRow (Just.self g) _⟩
    · simp only [List.length_append, List.length_take, List.length_drop]
      omega
    · simp only [List.size_toArray, List.length_append, List.length_take, List.length_drop, List.length_map, Array.length_toList]
      omega
    · intro i hi9
      rw [List.getElem?_toArray, List.append_assoc, List.append_assoc, List.getD_eq_getElem?_getD, mid_get T ys o k i (by omega) hk, show o + k = o + k from rfl, mid_get cur.toList (ys.map (Value.int .u8)) o k i (by rw [Array.length_toList]; omega) (by rw [List.length_map]; exact hk)]
      by_cases h1 : i < o
      · rw [if_pos h1, if_pos h1, Array.getElem?_toList, hc i hi9, List.getD_eq_getElem?_getD]
      · rw [if_neg h1, if_neg h1]
        by_cases h2 : i - o < k
        · rw [if_pos h2, if_pos h2, List.getElem?_map]
          simp [show i - o < ys.length by omega]
        · rw [if_neg h2, if_neg h2, Array.getElem?_toList, hc i hi9, List.getD_eq_getElem?_getD]
end Go.Proofs.YtlejobomjgccnaaGreat

namespace Go.Proofs.YtlejobomjgccnaaGreat

theorem recsB_cons (r : Rec) (l : List Rec) : recsB (r :: l) = recB r ++ recsB l := by unfold recsB; rw [List.flatMap_cons]
theorem entsGo_mem : ∀ (l : List Rec) (k : Nat) (x : En), x ∈ entsGo k l → ∃ r ∈ l, x.hash = (wxxh 0 r.key).toNat ∧ x.at_ < k + (recsB l).length
  | [], _, x, h => by simp [entsGo] at h
  | r :: l, k, x, h => by
    rw [entsGo] at h
    have hp := recB_pos r
    rcases List.mem_cons.1 h with rfl | h
    · exact ⟨r, List.mem_cons_self, rfl, by rw [recsB_cons, List.length_append]; show k < _; omega⟩
    · obtain ⟨y, hy, h1, h2⟩ := entsGo_mem l _ x h
      exact ⟨y, List.mem_cons_of_mem _ hy, h1, by rw [recsB_cons, List.length_append]; omega⟩
theorem outS_len (e s n : Nat) (l : List Rec) : (outS e s n l).length = headLen e s n + (recsB l).length := by
  unfold outS headLen
  rw [List.length_append]
theorem ents_below {e s n : Nat} {l : List Rec} {x : En} (h : x ∈ entsS e s n l) : x.at_ < (outS e s n l).length := by
  obtain ⟨_, _, _, h2⟩ := entsGo_mem l _ x h
  rw [outS_len]
  exact h2
theorem ents_len (e s n : Nat) (l : List Rec) : (entsS e s n l).length = l.length := entsGo_length l _
/-- The footer of a segment's records may be. -/
theorem seal_check {e s n : Nat} {l : List Rec} (h0 : 0 < l.length) (h9 : l.length ≤ 100000) : checkFt ⟨(outS e s n l).length, sortE (entsS e s n l)⟩ = 0 := by
  have hl := sortE_len (entsS e s n l)
  rw [ents_len] at hl
  refine checkFt_ok.2 ⟨?_, by show (sortE _).length ≤ _; omega, sortE_rises _, ?_⟩
  · show 1 ≤ (sortE (entsS e s n l)).length
    have h : (entsS e s n l)[0]'(by rw [ents_len]; exact h0) ∈ sortE (entsS e s n l) := sortE_mem.2 (List.getElem_mem _)
    exact List.length_pos_of_mem h
  · unfold belowFt
    rw [List.all_eq_true]
    intro x hx
    simp only [decide_eq_true_eq]
    exact ents_below (sortE_mem.1 hx)
theorem seal_put {e s n : Nat} {l : List Rec} (h0 : 0 < l.length) (h9 : l.length ≤ 100000) : putFt ⟨(outS e s n l).length, sortE (entsS e s n l)⟩ = footS e s n l := by
  unfold putFt
  rw [if_pos (seal_check h0 h9)]
  rfl
theorem ents_snoc (e s n : Nat) (l : List Rec) (r : Rec) : entsS e s n (l ++ [r]) = entsS e s n l ++ [⟨(wxxh 0 r.key).toNat, (outS e s n l).length⟩] := by
  unfold entsS
  rw [entsGo_snoc, outS_len]

/-- Two that end at their first noughts. -/
theorem solid_cut {a b u v : List Int} (ha : Solid a) (hb : Solid b) (h : a ++ 0 :: u = b ++ 0 :: v) : a = b ∧ u = v := by
  induction a generalizing b with
  | nil =>
    cases b with
    | nil => simpa using h
    | cons y b =>
      have : y = 0 := by simpa using (List.cons.inj h).1.symm
      have := (hb y List.mem_cons_self).1
      omega
  | cons x a ih =>
    cases b with
    | nil =>
      have : x = 0 := by simpa using (List.cons.inj h).1
      have := (ha x List.mem_cons_self).1
      omega
    | cons y b =>
      simp only [List.cons_append, List.cons.injEq] at h
      obtain ⟨h1, h2⟩ := ih (fun z hz => ha z (List.mem_cons_of_mem _ hz)) (fun z hz => hb z (List.mem_cons_of_mem _ hz)) h.2
      exact ⟨by rw [h.1, h1], h2⟩
theorem rep_zero {k : Nat} {c r : List Int} (h : List.replicate k (255 : Int) = c ++ 0 :: r) : False := by
  have : (0 : Int) ∈ List.replicate k (255 : Int) := by rw [h]; simp
  have := (List.mem_replicate.1 this).2
  omega
/-- No nought stands behind the records. -/
theorem parse_open {e s n : Nat} (he : e < 256) {ys rest : List Int} {l : List Rec} (hf : ∀ x ∈ l, x.Fine ∧ checkR x = 0) (hy : ys = outS e s n l ++ rest) (hl : ys.length = 2 ^ e) (hn : ∀ b ∈ rest, b ≠ 0) :
    parseS e s n ys = if rest = List.replicate rest.length 255 then some (l, false) else none := by
  have hs : scanS ys = l := by rw [hy, scan_out he hf, chunksGo_none rest [] hn]; simp [recsTake]
  have hr : rest.length = 2 ^ e - (outS e s n l).length := by rw [hy, List.length_append] at hl; omega
  have ht : textS e s n l false = outS e s n l ++ List.replicate rest.length 255 := by unfold textS framesS; rw [if_neg (by simp), List.append_nil, hr]
  unfold parseS
  rw [hs, ht]
  by_cases h : rest = List.replicate rest.length 255
  · rw [if_pos h, if_pos (by rw [hy, ← h])]
  · rw [if_neg h, if_neg (fun h2 => h (by rw [hy] at h2; exact (List.append_cancel_left h2).symm)), if_neg]
    rintro ⟨_, h2⟩
    rw [hy] at h2
    unfold textS framesS at h2
    rw [if_pos rfl, List.append_assoc] at h2
    have h3 := List.append_cancel_left h2
    refine hn 0 ?_ rfl
    rw [← h3]
    unfold footS sealN
    simp
/-- A chunk that is no record stands behind them. -/
theorem parse_foot {e s n : Nat} (he : e < 256) {ys c rest : List Int} {l : List Rec} (hf : ∀ x ∈ l, x.Fine ∧ checkR x = 0) (hy : ys = outS e s n l ++ (c ++ 0 :: rest)) (hl : ys.length = 2 ^ e) (hc : Solid c) (hg : (getR c).1 ≠ 0) :
    parseS e s n ys = if (0 < l.length ∧ c ++ [0] = footS e s n l) ∧ rest = List.replicate rest.length 255 then some (l, true) else none := by
  have hs : scanS ys = l := by
    rw [hy, scan_out he hf, chunksGo_solid c [] rest hc, recsTake, List.nil_append, if_neg hg, List.append_nil]
  unfold parseS
  rw [hs, if_neg]
  · by_cases h : (0 < l.length ∧ c ++ [0] = footS e s n l) ∧ rest = List.replicate rest.length 255
    · rw [if_pos h, if_pos]
      obtain ⟨⟨h0, h1⟩, h2⟩ := h
      refine ⟨h0, ?_⟩
      have hfr : framesS e s n l true = outS e s n l ++ (c ++ [0]) := by unfold framesS; rw [if_pos rfl, h1]
      have hr : rest.length = 2 ^ e - (framesS e s n l true).length := by
        rw [hfr, ← hl, hy]
        simp only [List.length_append, List.length_cons, List.length_nil]
        omega
      unfold textS
      rw [← hr, ← h2, hfr, hy]
      simp
    · rw [if_neg h, if_neg]
      rintro ⟨h0, h2⟩
      refine h ⟨⟨h0, ?_⟩, ?_⟩
      all_goals
        rw [hy] at h2
        unfold textS framesS at h2
        rw [if_pos rfl, List.append_assoc] at h2
        have h3 := List.append_cancel_left h2
        have hft : footS e s n l = chunkN (bodyFt ⟨(outS e s n l).length, sortE (entsS e s n l)⟩) ++ [0] := rfl
        have hbo : Octets (bodyFt ⟨(outS e s n l).length, sortE (entsS e s n l)⟩) := bodyFt_octets
        rw [hft, List.append_assoc, List.singleton_append] at h3
        obtain ⟨h4, h5⟩ := solid_cut (chunk_solid hbo) hc h3
      · rw [hft, h4]
      · rw [← h5, List.length_replicate]
  · intro h2
    rw [hy] at h2
    unfold textS framesS at h2
    rw [if_neg (by simp), List.append_nil] at h2
    exact rep_zero (List.append_cancel_left h2)
/-- A record more was read. -/
theorem out_more {e s n : Nat} {ys c rest : List Int} {l : List Rec} {r : Rec} (ho : Octets ys) (hy : ys = outS e s n l ++ (c ++ 0 :: rest)) (hg : getR c = (0, r)) : ys = outS e s n (l ++ [r]) ++ rest ∧ r.Fine ∧ checkR r = 0 ∧ (recB r).length = c.length + 1 := by
  obtain ⟨h1, h2, h3⟩ := getR_only (fun b hb => ho b (by rw [hy]; simp [hb])) hg
  refine ⟨?_, h1, h2, ?_⟩
  · rw [outS_snoc, hy]
    unfold recB sealN
    rw [← h3]
    simp
  · unfold recB
    rw [(seal_length _).1, ← h3]
theorem recB_least {r : Rec} (hf : r.Fine) : 11 ≤ (recB r).length := by
  have h1 : (bodyR r ++ sumB (bodyR r)).length ≤ (chunkN (bodyR r)).length := by
    have h := unst_stuff (xs := bodyR r ++ sumB (bodyR r)) ((bodyR_octets hf).app (sumB_octets _))
    have h2 := (unst_octets (xs := stuff (bodyR r ++ sumB (bodyR r))) (stuff_solid ((bodyR_octets hf).app (sumB_octets _))).octets).2
    rw [h] at h2
    exact h2
  rw [List.length_append, sumB_length] at h1
  have h2 : 2 ≤ (bodyR r).length := by
    have := vnum_pos r.seq
    unfold bodyR
    split
    · rw [List.length_cons, List.length_append]
      omega
    · rw [List.length_cons, List.length_append, List.length_append]
      omega
  unfold recB
  rw [(seal_length _).1]
  omega
theorem recsB_least : ∀ (l : List Rec), (∀ x ∈ l, x.Fine) → 11 * l.length ≤ (recsB l).length
  | [], _ => by simp
  | r :: l, h => by
    have h1 := recB_least (h r List.mem_cons_self)
    have h2 := recsB_least l (fun x hx => h x (List.mem_cons_of_mem _ hx))
    rw [recsB_cons, List.length_append, List.length_cons]
    omega
end Go.Proofs.YtlejobomjgccnaaGreat

namespace Go.Proofs.YtlejobomjgccnaaGreat
open Go.RowKit

end Go.Proofs.YtlejobomjgccnaaGreat

namespace Go.Proofs.YtlejobomjgccnaaGreat
open Go.RowKit

end Go.Proofs.YtlejobomjgccnaaGreat

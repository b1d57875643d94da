/-
  TabRis; TabComp; TabComp2; SeaLay; TabLay; TabSorted.
-/
import Derived.Shelf.SlSortCmp.QuietGrown
import Derived.Lib.SlicesCompact
import Derived.Lib.SliceRun
import Derived.Sort.Statements
import Derived.Shelf.SlSorted.Search
import Derived.Shelf.SlSortCmp.NoneTotal
import Derived.Test.YtlejobomjgccnaaGreatM02
import Derived.Test.YtlejobomjgccnaaGreatM05
import Derived.Test.YtlejobomjgccnaaGreatM21
namespace Go.Proofs.YtlejobomjgccnaaGreat
open Go.RowKit Go.Sort

theorem ltOfCell' {w : World} {a : Addr} {v : Value} (h : w.cell? a = some v) : a.block < w.heap.size := World.block_lt_of_cell? _ _ h
theorem cellG {w : World} {a : Addr} {v : Value} (h : w.cell? a = some v) (n : Nat) (os : Array Obj) : (grow (w.drewN n) os).cell? a = some v := cell_grown (ltOfCell' h) h n os
theorem keepsG {S : Nat → Prop} {w w' : World} (h : Keeps S w w') (n : Nat) (os : Array Obj) : Keeps S w (grow (w'.drewN n) os) :=
  h.then (show Grown w' _ from ⟨n, os, rfl⟩).keeps (fun _ _ h => h.elim)

set_option maxHeartbeats 4000000 in
set_option maxRecDepth 10000 in
theorem rising_own (p : Option Addr) (n c : Nat) (l : List En) (hn : n = l.length) (hn9 : n ≤ 1000000) (w : World) (hl : EnsAt w p l) :
    Calls Tryz.prog 116 #[.slice p n c] w fun e w' => e = .returned (.bool (risesE l)) ∧ Keeps NoBlock w w' := by
  have HL := Lib.hid hl
  have HN := Lib.hid hn
  have HCmp := Lib.hid (fun a b w => compare_grown a b w)
  unfold enV Grown at HCmp
  have mixed : Tryz.prog.follows .mixedOrders = true := by kernel_rfl
  clear hl hn
  go_enter Tryz.func116, Tryz.ntmps116
  go_wp2_with fail
  go_loopw [3] (fun i wr => ∃ m : Nat, m ≤ n ∧ i = .int .i64 ((m + 1 : Nat) : Int) ∧ Hid (∀ i, i + 1 < m + 1 → i + 1 < n → LessE (l.getD i En.none) (l.getD (i + 1) En.none)) ∧ Keeps NoBlock w wr) (fun i _ => n + 1 - (intOf i).toNat)
  case atStart => exact ⟨0, Nat.zero_le _, rfl, Lib.hid (fun i h => by omega), Keeps.refl _ _⟩
  case round =>
    obtain ⟨m, hm, rfl, HA, hkk⟩ := hrel
    have HK := Lib.hid hkk
    clear hkk
    by_cases hlt : m + 1 < n
    · have hdk : decide (((m + 1 : Nat) : Int) < (n : Int)) = true := decide_eq_true (by omega)
      have hdk2 : decide ((m : Int) + 1 < (n : Int)) = true := decide_eq_true (by omega)
      obtain ⟨a, rfl, c0, c1⟩ := (HL.out.keep HK.out).at_ (m + 1) (by have := HN.out; omega)
      obtain ⟨b, hb, d0, d1⟩ := (HL.out.keep HK.out).at_ m (by have := HN.out; omega)
      obtain rfl := Option.some.inj hb
      obtain ⟨r, hr⟩ : ∃ r, r = l.getD (m + 1) En.none := ⟨_, rfl⟩
      obtain ⟨s, hs⟩ : ∃ s, s = l.getD m En.none := ⟨_, rfl⟩
      rw [← hr] at c0 c1
      rw [← hs] at d0 d1
      have HRr := Lib.hid hr
      have HSs := Lib.hid hs
      clear hr hs hb
      have C0 : ∀ n os, (grow (wr.drewN n) os).cell? _ = _ := fun n os => cellG c0 n os
      have C1 : ∀ n os, (grow (wr.drewN n) os).cell? _ = _ := fun n os => cellG c1 n os
      have D0 : ∀ n os, (grow (wr.drewN n) os).cell? _ = _ := fun n os => cellG d0 n os
      have D1 : ∀ n os, (grow (wr.drewN n) os).cell? _ = _ := fun n os => cellG d1 n os
      clear c0 c1 d0 d1
      have hmn : (m : Int) < (n : Int) := by omega
      have hmn2 : m < n := by omega
      have hmn3 : (m : Int) + 1 < (n : Int) := by omega
      have hm3 : (0 : Int) ≤ (m : Int) + 1 := by omega
      have hm4 : ((m : Int) + 1).toNat = m + 1 := by omega
      have w1 : IntKind.i64.wrap (m : Int) = (m : Int) := by rw [IntKind.wrap_i64]; omega
      have hm0 : (0 : Int) ≤ (m : Int) := by omega
      have hcall := fun n os => HCmp.out s r (grow (wr.drewN n) os)
      by_cases hls : LessE s r
      · have hc : cmpE s r < 0 := cmpE_less.2 hls
        have HLs := Lib.hid hls
        obtain ⟨z, hz⟩ : ∃ z, z = cmpE s r := ⟨_, rfl⟩
        rw [← hz] at hcall hc
        have hz0 : decide (0 ≤ z) = false := decide_eq_false (by omega)
        clear hls hz
        go_wp2_with fail
        go_quiet_grown ((go_at_call 97; exact Calls.grown_of (hcall _ _)))
        go_wp2_with fail
        go_roundw
        case rel =>
          refine ⟨m + 1, by omega, by go_num, Lib.hid (fun i h h2 => ?_), by first | exact keepsG HK.out _ _ | exact (keepsG HK.out _ _).drew⟩
          by_cases he : i = m
          · rw [he, ← HRr.out, ← HSs.out]
            exact HLs.out
          · exact HA.out i (by omega) h2
        case measure => simp [intOf]; omega
      · have hc : ¬ cmpE s r < 0 := fun h => hls (cmpE_less.1 h)
        have HB : Hid (risesE l = false) := Lib.hid (by
          cases hb : risesE l
          · rfl
          · have h := risesE_adj.1 hb m (by have := HN.out; omega)
            rw [← HRr.out, ← HSs.out] at h
            exact absurd h hls)
        obtain ⟨z, hz⟩ : ∃ z, z = cmpE s r := ⟨_, rfl⟩
        rw [← hz] at hcall hc
        have hz0 : decide (0 ≤ z) = true := decide_eq_true (by omega)
        clear hls hz
        go_wp2_with fail
        go_quiet_grown ((go_at_call 97; exact Calls.grown_of (hcall _ _)))
        go_wp2_with fail
        go_ret
        rw [HB.out]
        exact ⟨rfl, by first | exact keepsG HK.out _ _ | exact (keepsG HK.out _ _).drew⟩
    · have hdk : decide (((m + 1 : Nat) : Int) < (n : Int)) = false := decide_eq_false (by omega)
      have hdk2 : decide ((m : Int) + 1 < (n : Int)) = false := decide_eq_false (by omega)
      have HB : Hid (risesE l = true) := Lib.hid (risesE_adj.2 fun i hi => HA.out i (by have := HN.out; omega) (by have := HN.out; omega))
      go_wp2_with fail
      go_ret
      rw [HB.out]
      exact ⟨rfl, HK.out⟩
end Go.Proofs.YtlejobomjgccnaaGreat

namespace Go.Proofs.YtlejobomjgccnaaGreat
open Go.RowKit Go.Lib

instance : Inhabited En := ⟨En.none⟩

theorem lessE_le {a b : En} (h : ¬ LessE b a) : a = b ∨ LessE a b := by
  by_cases e : a = b
  · exact .inl e
  · exact .inr ((LessE.total e).resolve_right h)
theorem compact_rises (d : Array En) (hs : ∀ i j, i ≤ j → j < d.size → ¬ LessE d[j]! d[i]!) : ∀ m, m ≤ d.size → (compactUpTo d m).Pairwise LessE ∧ ∀ x, x ∈ compactUpTo d m ↔ ∃ i, i < m ∧ x = d[i]!
  | 0, _ => by simp [compactUpTo]
  | m + 1, hm => by
    obtain ⟨h1, h2⟩ := compact_rises d hs m (by omega)
    rw [compactUpTo_succ]
    by_cases hk : keeps d m = true
    · rw [if_pos hk]
      refine ⟨List.pairwise_append.2 ⟨h1, List.pairwise_singleton _ _, fun x hx y hy => ?_⟩, fun x => ?_⟩
      · obtain ⟨i, hi, rfl⟩ := (h2 x).1 hx
        obtain rfl : y = d[m]! := by simpa using hy
        have hne : d[m]! ≠ d[m - 1]! := by
          unfold keeps at hk
          rcases of_decide_eq_true hk with h | h
          · omega
          · exact h
        have a1 := lessE_le (hs i (m - 1) (by omega) (by omega))
        have a2 : LessE d[m - 1]! d[m]! := (lessE_le (hs (m - 1) m (by omega) (by omega))).resolve_left (fun e => hne e.symm)
        rcases a1 with e | h
        · rw [e]; exact a2
        · exact h.trans a2
      · rw [List.mem_append, List.mem_singleton, h2]
        constructor
        · rintro (⟨i, hi, rfl⟩ | rfl)
          · exact ⟨i, by omega, rfl⟩
          · exact ⟨m, by omega, rfl⟩
        · rintro ⟨i, hi, rfl⟩
          by_cases e : i = m
          · rw [e]; exact .inr rfl
          · exact .inl ⟨i, by omega, rfl⟩
    · rw [if_neg hk, List.append_nil]
      refine ⟨h1, fun x => ?_⟩
      have he : m ≠ 0 ∧ d[m]! = d[m - 1]! := by
        have h3 : ¬ (m = 0 ∨ d[m]! ≠ d[m - 1]!) := fun h => hk (by unfold keeps; exact decide_eq_true h)
        exact ⟨fun h => h3 (.inl h), Classical.byContradiction fun h => h3 (.inr h)⟩
      rw [h2]
      constructor
      · rintro ⟨i, hi, rfl⟩
        exact ⟨i, by omega, rfl⟩
      · rintro ⟨i, hi, rfl⟩
        by_cases e : i = m
        · rw [e, he.2]
          exact ⟨m - 1, by omega, rfl⟩
        · exact ⟨i, by omega, rfl⟩
theorem mem_arr (d : Array En) (x : En) : x ∈ d.toList ↔ ∃ i, i < d.size ∧ x = d[i]! := by
  rw [List.mem_iff_getElem]
  constructor
  · rintro ⟨i, hi, rfl⟩
    have hi' : i < d.size := by simpa using hi
    exact ⟨i, hi', by simp [getElem!_pos, hi']⟩
  · rintro ⟨i, hi, rfl⟩
    exact ⟨i, by simpa using hi, by simp [getElem!_pos, hi]⟩
theorem compact_sortE (d : Array En) (hs : ∀ i j, i ≤ j → j < d.size → ¬ LessE d[j]! d[i]!) : compactUpTo d d.size = sortE d.toList := by
  obtain ⟨h1, h2⟩ := compact_rises d hs d.size (Nat.le_refl _)
  exact rises_only h1 (sortE_pair _) fun x => by rw [h2, sortE_mem, mem_arr]

theorem setCells_whole {g : Nat} {t : TypeId} : ∀ (vs : List Value) (o : Nat) (w : World) (cur : Array Value), Whole w g t cur → ∃ cur', Whole (w.setCells g o vs) g t cur' ∧ cur'.size = cur.size ∧ ∀ i, i < o → cur'[i]? = cur[i]?
  | [], _, _, cur, h => ⟨cur, h, rfl, fun _ _ => rfl⟩
  | v :: vs, o, w, cur, h => by
    obtain ⟨cur', h1, h2, h3⟩ := setCells_whole vs (o + 1) _ _ (h.set o v)
    exact ⟨cur', h1, by rw [h2]; simp, fun i hi => by rw [h3 i (by omega), Array.getElem?_setIfInBounds_ne (by omega)]⟩
theorem setCells_keeps {S : Nat → Prop} {a : World} {g : Nat} (hg : S g ∨ a.heap.size ≤ g) : ∀ (vs : List Value) (o : Nat) (b : World), Keeps S a b → Keeps S a (b.setCells g o vs)
  | [], _, _, h => h
  | v :: vs, o, _, h => setCells_keeps hg vs (o + 1) _ (h.set hg v)
theorem RowF.setCells {w : World} {g d n : Nat} {f : Nat → En} (h : RowF w g d n f) (m : Nat) (hm : m ≤ n) (vs : List Value) : RowF (w.setCells g (m * 2) vs) g d m f := by
  obtain ⟨cur, hw, h1, h2, h3⟩ := h
  obtain ⟨cur', c1, c2, c3⟩ := setCells_whole vs (m * 2) w cur hw
  exact ⟨cur', c1, by omega, by omega, fun i hi => by rw [c3 _ (by omega), c3 _ (by omega)]; exact h3 i (by omega)⟩

/-- 'clear' of what is left of a row. -/
theorem run_clear_ens {w : World} {g d n : Nat} {f : Nat → En} (h : RowF w g d n f) (k m c : Nat) (hk : k + m = n) (hm : 0 < m) (ty : TypeId) :
    (Builtin.clear_ #[71] ty #[.slice (some ⟨g, k * 2, none⟩) m c]).run Tryz.prog w = .ok (.tuple #[]) (w.setCells g (k * 2) (Builtin.zeroCells #[.int .u64 0, .int .u32 0] m).toList) := by
  have hlen : (Builtin.zeroCells #[.int .u64 0, .int .u32 0] m).toList.length = m * 2 := by simp [Builtin.zeroCells]
  have hone : ∀ v ∈ (Builtin.zeroCells #[.int .u64 0, .int .u32 0] m).toList, v.oneCell' = true := fun v hv => by
    simp only [Builtin.zeroCells, Array.mem_toList_iff, Array.mem_map] at hv
    obtain ⟨j, _, rfl⟩ := hv
    have : j % 2 = 0 ∨ j % 2 = 1 := by omega
    rcases this with e | e
    · show ((#[Value.int .u64 0, Value.int .u32 0] : Array Value)[j % 2]!).oneCell' = true
      rw [e]; rfl
    · show ((#[Value.int .u64 0, Value.int .u32 0] : Array Value)[j % 2]!).oneCell' = true
      rw [e]; rfl
  have hst := run_storeCells_cells (P := Tryz.prog) g (k * 2) (Builtin.zeroCells #[.int .u64 0, .int .u32 0] m).toList 0 w (fun j hj => by
      rw [hlen] at hj
      have hc := h.cell (i := k + j / 2) (by omega)
      by_cases e : j % 2 = 0
      · rw [show k * 2 + 0 + j = (k + j / 2) * 2 by omega, hc.1]; rfl
      · rw [show k * 2 + 0 + j = (k + j / 2) * 2 + 1 by omega, hc.2]; rfl) (fun j _ => h.free _) hone
  simp only [Nat.add_zero] at hst
  obtain ⟨m', rfl⟩ : ∃ m', m = m' + 1 := ⟨m - 1, by omega⟩
  have hz := Tryz.zeroValue80
  have hu := run_underlying Tryz.underlying71
  simp [Builtin.clear_, hu, hz]
  rw [show (Value.agg #[Value.int .u64 0, Value.int .u32 0]).cells = #[.int .u64 0, .int .u32 0] from rfl, hst]
  rfl
end Go.Proofs.YtlejobomjgccnaaGreat

namespace Go.Proofs.YtlejobomjgccnaaGreat
open Go.RowKit Go.Lib

theorem enEqlT (a b : En) (w : World) : (binOp .eql 80 (.agg #[.int .u64 (a.hash : Int), .int .u32 (a.at_ : Int)]) (.agg #[.int .u64 (b.hash : Int), .int .u32 (b.at_ : Int)])).run Tryz.prog w = .ok (.bool (decide (a = b))) w := by
  by_cases h1 : a.hash = b.hash
  · by_cases h2 : a.at_ = b.at_
    · have hd : decide (a = b) = true := decide_eq_true (En.ext' h1 h2)
      rw [hd]
      simp [go_sem, h1, h2]
    · have hd : decide (a = b) = false := decide_eq_false (fun h => h2 (by rw [h]))
      rw [hd]
      have e : ((a.at_ : Int) == (b.at_ : Int)) = false := by rw [beq_eq_false_iff_ne]; omega
      simp [go_sem, h1, e]
  · have hd : decide (a = b) = false := decide_eq_false (fun h => h1 (by rw [h]))
    rw [hd]
    have e : ((a.hash : Int) == (b.hash : Int)) = false := by rw [beq_eq_false_iff_ne]; omega
    simp [go_sem, e]
theorem enNeqT (a b : En) (w : World) : (binOp .neq 80 (.agg #[.int .u64 (a.hash : Int), .int .u32 (a.at_ : Int)]) (.agg #[.int .u64 (b.hash : Int), .int .u32 (b.at_ : Int)])).run Tryz.prog w = .ok (.bool (decide (a ≠ b))) w := by
  by_cases h1 : a.hash = b.hash
  · by_cases h2 : a.at_ = b.at_
    · have hd : decide (a ≠ b) = false := decide_eq_false (fun h => h (En.ext' h1 h2))
      rw [hd]
      simp [go_sem, h1, h2]
    · have hd : decide (a ≠ b) = true := decide_eq_true (fun h => h2 (by rw [h]))
      rw [hd]
      have e : ((a.at_ : Int) == (b.at_ : Int)) = false := by rw [beq_eq_false_iff_ne]; omega
      simp [go_sem, h1, e]
  · have hd : decide (a ≠ b) = true := decide_eq_true (fun h => h1 (by rw [h]))
    rw [hd]
    have e : ((a.hash : Int) == (b.hash : Int)) = false := by rw [beq_eq_false_iff_ne]; omega
    simp [go_sem, e]

theorem cellDrewN {w : World} {a : Addr} {v : Value} (h : w.cell? a = some v) (n : Nat) : (w.drewN n).cell? a = some v := h
/-- What Compact answers. -/
def Compacted (A : Array En) (g d : Nat) (w : World) (e : Ending) (w' : World) : Prop :=
  ∃ m, m = (compactUpTo A A.size).length ∧ e = .returned (.slice (some ⟨g, 0, none⟩) m d) ∧ RowF w' g d m (fun i => (compactUpTo A A.size).getD i En.none) ∧ Keeps (Just g) w w'
theorem all_kept {A : Array En} (h : ∀ j, j < A.size → keeps A j = true) : compactUpTo A A.size = A.toList := by
  rw [compactUpTo_all A _ h, range_map_get]
theorem getD_arr (A : Array En) (i : Nat) (hi : i < A.size) : A.toList.getD i En.none = A[i]! := by
  rw [List.getD_eq_getElem?_getD, Array.getElem?_toList, Array.getElem?_eq_getElem hi, getElem!_pos A i hi]
  rfl
theorem Compacted.all {A : Array En} {g d : Nat} {w w' : World} (h : ∀ j, j < A.size → keeps A j = true) (hr : RowF w' g d A.size (fun i => A[i]!)) (hk : Keeps (Just g) w w') : Compacted A g d w (.returned (.slice (some ⟨g, 0, none⟩) A.size d)) w' := by
  refine ⟨A.size, by rw [all_kept h]; simp, rfl, ?_, hk⟩
  rw [all_kept h]
  exact hr.congr (Nat.le_refl _) (fun i hi => (getD_arr A i hi).symm)

set_option maxHeartbeats 4000000 in
set_option maxRecDepth 10000 in
theorem compact_own (g d n : Nat) (A : Array En) (hn : n = A.size) (w : World) (h : RowF w g d n (fun i => A[i]!)) (_hd : d ≤ 9223372036854775807) (hn9 : n ≤ 1000000) :
    Calls Tryz.prog 98 #[.slice (some ⟨g, 0, none⟩) n d] w (Compacted A g d w) := by
  have hnd : n ≤ d := h.le
  have HR := Lib.hid h
  have HN := Lib.hid hn
  clear h hn
  by_cases h2 : n < 2
  · have h2d : decide ((n : Int) < 2) = true := decide_eq_true (by omega)
    have h2e : decide (n < 2) = true := decide_eq_true h2
    go_enter Tryz.func98, Tryz.ntmps98
    go_wp2_with fail
    go_ret
    have hn := HN.out
    subst hn
    exact Compacted.all (fun j hj => keeps_lt_one A j (by omega)) HR.out (Keeps.refl _ _)
  · have h2d : decide ((n : Int) < 2) = false := decide_eq_false (by omega)
    have h2e : decide (n < 2) = false := decide_eq_false h2
    go_enter Tryz.func98, Tryz.ntmps98
    go_wp2_with fail
    go_loopw [3] (fun i wr => ∃ k : Nat, k + 1 ≤ n ∧ i = .int .i64 ((k + 1 : Nat) : Int) ∧ Hid (∀ j, j < k + 1 → keeps A j = true) ∧ Hid (Keeps NoBlock w wr)) (fun i _ => n - (intOf i).toNat)
    case atStart => exact ⟨0, by omega, rfl, Lib.hid (keeps_lt_one A), Lib.hid (Keeps.refl _ _)⟩
    case round =>
      obtain ⟨k, hk, rfl, HA, HK⟩ := hrel
      by_cases hlt : k + 1 < n
      · have hdk : decide (((k + 1 : Nat) : Int) < (n : Int)) = true := decide_eq_true (by omega)
        have hdk2 : decide ((k : Int) + 1 < (n : Int)) = true := decide_eq_true (by omega)
        have hdk3 : decide (k + 1 < n) = true := decide_eq_true hlt
        have c0 := ((HR.out.keep HK.out (fun h => h)).cell hlt).1
        have c1 := ((HR.out.keep HK.out (fun h => h)).cell hlt).2
        have e0 := ((HR.out.keep HK.out (fun h => h)).cell (i := k) (by omega)).1
        have e1 := ((HR.out.keep HK.out (fun h => h)).cell (i := k) (by omega)).2
        have hne := fun w => enEqlT A[k + 1]! A[k]! w
        obtain ⟨x, hx⟩ : ∃ x, x = A[k + 1]! := ⟨_, rfl⟩
        obtain ⟨y, hy⟩ : ∃ y, y = A[k]! := ⟨_, rfl⟩
        simp only [← hx, ← hy] at c0 c1 e0 e1 hne
        have HX := Lib.hid hx
        have HY := Lib.hid hy
        clear hx hy
        have hkn : (k : Int) < (n : Int) := by omega
        have hkn3 : (k : Int) + 1 < (n : Int) := by omega
        have hk3 : (0 : Int) ≤ (k : Int) + 1 := by omega
        have hk4 : ((k : Int) + 1).toNat = k + 1 := by omega
        have w1 : IntKind.i64.wrap (k : Int) = (k : Int) := by rw [IntKind.wrap_i64]; omega
        have hk0 : (0 : Int) ≤ (k : Int) := by omega
        by_cases hxy : x = y
        · have HE := Lib.hid hxy
          rw [decide_eq_true hxy] at hne
          clear hxy
          go_wp2_with fail
          go_quiet (fail)
          go_wp2_with fail
          obtain ⟨W, hW⟩ : ∃ W, W = wr.drewN nq := ⟨_, rfl⟩
          have HK1 : Hid (Keeps NoBlock w W) := Lib.hid (by rw [hW]; exact HK.out.drewN _)
          rw [← hW]
          clear hW
          have HKn : Hid (keeps A (k + 1) = false) := Lib.hid (keeps_neg (by omega) (by rw [show k + 1 - 1 = k by omega, ← HX.out, ← HY.out]; exact HE.out))
          have HI0 : Hid (CompInv A (k + 1 + (0 + 1)) (k + 1) A) := Lib.hid (CompInv.start HA.out HKn.out)
          obtain ⟨q, hq⟩ : ∃ q, q = k + 1 := ⟨_, rfl⟩
          obtain ⟨M, hM⟩ : ∃ M, M = n - q := ⟨_, rfl⟩
          obtain ⟨D, hD⟩ : ∃ D, D = d - q := ⟨_, rfl⟩
          rw [← hq] at hlt HI0
          simp only [← hq]
          rw [← hM, ← hD]
          have hqM : q + M = n := by omega
          have hqD : q + D = d := by omega
          have HQM := Lib.hid hqM
          have HQD := Lib.hid hqD
          have HQ1 := Lib.hid (show 1 ≤ M by omega)
          clear c0 c1 e0 e1 hne HX HY HE HKn HA hk hk0 w1 hk4 hk3 hkn3 hkn hdk hdk2 hdk3 hq hM hD hqM hqD hlt HK
          go_loopw [3, 5] (fun s3 s5 wz => ∃ (kk k2 : Nat) (dk : Array En), s3 = .int .i64 (kk : Int) ∧ s5 = .int .i64 ((k2 + 1 : Nat) : Int) ∧ k2 + 1 ≤ M ∧ Hid (RowF wz g d n (fun i => dk[i]!)) ∧ Hid (CompInv A (q + (k2 + 1)) kk dk) ∧ Hid (Keeps (Just g) w wz)) (fun _ s5 _ => M - (intOf s5).toNat)
          case atStart => exact ⟨q, 0, A, rfl, rfl, HQ1.out, Lib.hid (HR.out.keep HK1.out (fun h => h)), HI0, Lib.hid (HK1.out.wider (fun _ _ h => h.elim))⟩
          case round =>
            obtain ⟨kk, k2, dk, rfl, rfl, hk2, HR2, HI, HK2⟩ := hrel
            have hM9 : M ≤ 1000000 := by have := HQM.out; omega
            have hsz := HI.out.size
            have hlt0 := HI.out.lt
            have hkn : kk < n := by have := HQM.out; omega
            by_cases hlt : k2 + 1 < M
            · have d1 : decide (((k2 + 1 : Nat) : Int) < (M : Int)) = true := decide_eq_true (by omega)
              have d2 : decide ((k2 : Int) + 1 < (M : Int)) = true := decide_eq_true (by omega)
              have d3 : decide (k2 + 1 < M) = true := decide_eq_true hlt
              have c := HR2.out.cell (i := q + (k2 + 1)) (by have := HQM.out; omega)
              have e := HR2.out.cell (i := q + k2) (by have := HQM.out; omega)
              have o := HR2.out.cell (i := kk) hkn
              have hne := fun w => enNeqT A[q + (k2 + 1)]! A[q + k2]! w
              rw [show (q + (k2 + 1)) * 2 = q * 2 + (k2 + 1) * 2 by omega, HI.out.high (q + (k2 + 1)) (by omega)] at c
              rw [show (q + k2) * 2 = q * 2 + k2 * 2 by omega, HI.out.high (q + k2) (by omega)] at e
              obtain ⟨x, hx⟩ : ∃ x, x = A[q + (k2 + 1)]! := ⟨_, rfl⟩
              obtain ⟨y, hy⟩ : ∃ y, y = A[q + k2]! := ⟨_, rfl⟩
              obtain ⟨v, hv⟩ : ∃ v, v = dk[kk]! := ⟨_, rfl⟩
              rw [← hx] at c hne
              rw [← hy] at e hne
              rw [← hv] at o
              have HX := Lib.hid hx
              have HY := Lib.hid hy
              obtain ⟨c0, c1⟩ := c
              obtain ⟨e0, e1⟩ := e
              obtain ⟨o0, o1⟩ := o
              clear hx hy hv
              have HKn := Lib.hid hkn
              have HSz := Lib.hid hsz
              clear hsz hlt0
              have b1 : (k2 : Int) < (M : Int) := by omega
              have b2 : (k2 : Int) + 1 < (M : Int) := by omega
              have b3 : (0 : Int) ≤ (k2 : Int) + 1 := by omega
              have b4 : ((k2 : Int) + 1).toNat = k2 + 1 := by omega
              have w1 : IntKind.i64.wrap (k2 : Int) = (k2 : Int) := by rw [IntKind.wrap_i64]; have := HQM.out; omega
              have b5 : (0 : Int) ≤ (k2 : Int) := by omega
              have b6 : (kk : Int) < (n : Int) := by omega
              by_cases hxy : x = y
              · have HE := Lib.hid hxy
                rw [decide_eq_false (fun h => h hxy)] at hne
                clear hxy o0 o1
                go_wp2_with fail
                go_quiet (fail)
                go_wp2_with fail
                go_roundw
                case rel =>
                  refine ⟨kk, k2 + 1, dk, rfl, by go_num, by omega, Lib.hid (by first | exact HR2.out | exact HR2.out.drew), Lib.hid ?_, Lib.hid (by first | exact HK2.out.drewN _ | exact HK2.out)⟩
                  exact HI.out.skip (keeps_neg (by omega) (by rw [show q + (k2 + 1) - 1 = q + k2 by omega, ← HX.out, ← HY.out]; exact HE.out))
                case measure => simp [intOf]; omega
              · have HE := Lib.hid hxy
                rw [decide_eq_true hxy] at hne
                clear hxy
                go_wp2_with fail
                go_quiet (fail)
                obtain ⟨W2, hW2⟩ : ∃ W2, W2 = wr.drewN nq := ⟨_, rfl⟩
                have HR3 : Hid (RowF W2 g d n (fun i => dk[i]!)) := Lib.hid (by rw [hW2]; exact HR2.out)
                have HK3 : Hid (Keeps (Just g) w W2) := Lib.hid (by rw [hW2]; exact HK2.out.drewN _)
                have t0 := cellDrewN c0 nq
                have t1 := cellDrewN c1 nq
                have r0 := cellDrewN o0 nq
                have r1 := cellDrewN o1 nq
                rw [← hW2] at t0 t1 r0 r1 ⊢
                clear hW2 c0 c1 e0 e1 o0 o1
                have f0 := HR3.out.free (kk * 2)
                have f1 := HR3.out.free (kk * 2 + 1)
                have HRn := Lib.hid (HR3.out.put HKn.out x)
                have HKx := Lib.hid (keepsPut HK3.out (.inl (Just.self g)) (kk * 2) (kk * 2 + 1) (.int .u64 (x.hash : Int)) (.int .u32 (x.at_ : Int)))
                go_wp2_with fail
                go_roundw
                case rel =>
                  refine ⟨kk + 1, k2 + 1, dk.setIfInBounds kk x, by go_num, by go_num, by omega, Lib.hid ?_, Lib.hid ?_, Lib.hid (by first | exact HKx.out | exact HKx.out.drew)⟩
                  · refine RowF.congr (by first | exact HRn.out | exact HRn.out.drew) (Nat.le_refl _) (fun i hi => ?_)
                    have hkd : kk < dk.size := by have := HKn.out; have := HSz.out; have := HN.out; omega
                    by_cases e : i = kk
                    · subst e
                      rw [if_pos rfl, Go.Sort.getElem!_set_same dk i x hkd]
                    · rw [if_neg e, Go.Sort.getElem!_set_other dk kk i x e]
                  · have h := HI.out.keep (by have := HN.out; have := HQM.out; omega) (keeps_pos (by rw [show q + (k2 + 1) - 1 = q + k2 by omega, ← HX.out, ← HY.out]; exact HE.out))
                    rw [← HX.out] at h
                    exact h
                case measure => simp [intOf]; omega
            · have d1 : decide (((k2 + 1 : Nat) : Int) < (M : Int)) = false := decide_eq_false (by omega)
              have d2 : decide ((k2 : Int) + 1 < (M : Int)) = false := decide_eq_false (by omega)
              have d3 : decide (k2 + 1 < M) = false := decide_eq_false hlt
              have hall : q + (k2 + 1) = A.size := by have := HN.out; have := HQM.out; omega
              have HI2 : Hid (CompInv A A.size kk dk) := Lib.hid (by rw [← hall]; exact HI.out)
              have hcl := fun ty => run_clear_ens HR2.out kk (n - kk) (d - kk) (by omega) (by omega) ty
              have HRc := Lib.hid (HR2.out.setCells kk (by omega) (Builtin.zeroCells #[.int .u64 0, .int .u32 0] (n - kk)).toList)
              have HKc := Lib.hid (setCells_keeps (g := g) (.inl (Just.self g)) (Builtin.zeroCells #[.int .u64 0, .int .u32 0] (n - kk)).toList (kk * 2) _ HK2.out)
              obtain ⟨V, hV⟩ : ∃ V, V = wr.setCells g (kk * 2) (Builtin.zeroCells #[.int .u64 0, .int .u32 0] (n - kk)).toList := ⟨_, rfl⟩
              rw [← hV] at HRc HKc
              simp only [← hV] at hcl
              have b6 : (kk : Int) ≤ (n : Int) := by omega
              have b7 : kk ≤ n := by omega
              have b8 : kk ≤ d := by omega
              have b9 : (kk : Int) ≤ (d : Int) := by omega
              clear hV hall hsz hlt0 HI
              go_wp2_with fail
              go_ret
              refine ⟨kk, HI2.out.len.symm, rfl, ?_, HKc.out⟩
              refine HRc.out.congr (Nat.le_refl _) (fun i hi => ?_)
              rw [List.getD_eq_getElem?_getD, HI2.out.low i hi]
              rfl
        · have HE := Lib.hid hxy
          rw [decide_eq_false hxy] at hne
          clear hxy
          go_wp2_with fail
          go_quiet (fail)
          go_wp2_with fail
          go_roundw
          case rel =>
            refine ⟨k + 1, by omega, by go_num, Lib.hid (fun j hj => ?_), Lib.hid (by first | exact HK.out.drewN _ | exact HK.out)⟩
            by_cases e : j = k + 1
            · subst e
              exact keeps_pos (by rw [show k + 1 - 1 = k by omega, ← HX.out, ← HY.out]; exact HE.out)
            · exact HA.out j (by omega)
          case measure => simp [intOf]; omega
      · have hdk : decide (((k + 1 : Nat) : Int) < (n : Int)) = false := decide_eq_false (by omega)
        have hdk2 : decide ((k : Int) + 1 < (n : Int)) = false := decide_eq_false (by omega)
        have hdk3 : decide (k + 1 < n) = false := decide_eq_false hlt
        go_wp2_with fail
        go_ret
        have hn := HN.out
        subst hn
        exact Compacted.all (fun j hj => HA.out j (by omega)) (HR.out.keep HK.out (fun h => h)) (HK.out.wider (fun _ _ h => h.elim))
end Go.Proofs.YtlejobomjgccnaaGreat

namespace Go.Proofs.YtlejobomjgccnaaGreat
open Go.Shelf Go.RowKit Go.Lib Go.Sort

end Go.Proofs.YtlejobomjgccnaaGreat

namespace Go.Proofs.YtlejobomjgccnaaGreat
open Go.Shelf Go.RowKit Go.Lib Go.Sort

def sortLay_ren : Go.Shelf.Ren := ⟨fun | 6 => 96 | 15 => 121 | 14 => 120 | 28 => 162 | 29 => 163 | 20 => 154 | 21 => 155 | 22 => 156 | 23 => 157 | 24 => 158 | 25 => 159 | 26 => 160 | 27 => 161 | 46 => 179 | 47 => 180 | 48 => 181 | 49 => 182 | 50 => 183 | 57 => 189 | n => n, fun | 22 => 71 | 24 => 80 | 25 => 149 | 3 => 3 | 39 => 133 | 0 => 0 | 53 => 22 | 55 => 34 | 4 => 4 | 46 => 207 | 45 => 206 | 50 => 211 | 5 => 5 | 9 => 9 | 66 => 227 | 70 => 230 | 76 => 233 | 77 => 234 | n => n, fun | n => n⟩
theorem sortLay : SlLaysF0.n6 Tryz.prog sortLay_ren := {
  mixed := by kernel_rfl
  f6 := ⟨Tryz.f96.name, by decide, Tryz.func96.trans (congrArg some (by kernel_rfl))⟩
  f14 := ⟨Tryz.f120.name, by decide, Tryz.func120.trans (congrArg some (by kernel_rfl))⟩
  f15 := Tryz.func121.trans (congrArg some (by kernel_rfl))
  f20 := ⟨Tryz.f154.name, by decide, Tryz.func154.trans (congrArg some (by kernel_rfl))⟩
  f21 := ⟨Tryz.f155.name, by decide, Tryz.func155.trans (congrArg some (by kernel_rfl))⟩
  f22 := ⟨Tryz.f156.name, by decide, Tryz.func156.trans (congrArg some (by kernel_rfl))⟩
  f23 := ⟨Tryz.f157.name, by decide, Tryz.func157.trans (congrArg some (by kernel_rfl))⟩
  f24 := ⟨Tryz.f158.name, by decide, Tryz.func158.trans (congrArg some (by kernel_rfl))⟩
  f25 := ⟨Tryz.f159.name, by decide, Tryz.func159.trans (congrArg some (by kernel_rfl))⟩
  f26 := ⟨Tryz.f160.name, by decide, Tryz.func160.trans (congrArg some (by kernel_rfl))⟩
  f27 := ⟨Tryz.f161.name, by decide, Tryz.func161.trans (congrArg some (by kernel_rfl))⟩
  f28 := Tryz.func162.trans (congrArg some (by kernel_rfl))
  f29 := Tryz.func163.trans (congrArg some (by kernel_rfl))
  f46 := ⟨Tryz.f179.name, by decide, Tryz.func179.trans (congrArg some (by kernel_rfl))⟩
  f47 := Tryz.func180.trans (congrArg some (by kernel_rfl))
  f48 := Tryz.func181.trans (congrArg some (by kernel_rfl))
  f49 := ⟨Tryz.f182.name, by decide, Tryz.func182.trans (congrArg some (by kernel_rfl))⟩
  f50 := ⟨Tryz.f183.name, by decide, Tryz.func183.trans (congrArg some (by kernel_rfl))⟩
  f57 := ⟨Tryz.f189.name, by decide, Tryz.func189.trans (congrArg some (by kernel_rfl))⟩
  t0 := Tryz.underlying0
  a0 := Tryz.isAgg0
  z0 := Tryz.sizeOf0
  v0 := Tryz.zeroValue0
  t3 := Tryz.underlying3
  a3 := Tryz.isAgg3
  z3 := Tryz.sizeOf3
  v3 := Tryz.zeroValue3
  t4 := Tryz.underlying4
  a4 := Tryz.isAgg4
  z4 := Tryz.sizeOf4
  v4 := Tryz.zeroValue4
  t5 := Tryz.underlying5
  a5 := Tryz.isAgg5
  z5 := Tryz.sizeOf5
  v5 := Tryz.zeroValue5
  t9 := Tryz.underlying9
  a9 := Tryz.isAgg9
  z9 := Tryz.sizeOf9
  v9 := Tryz.zeroValue9
  t22 := Tryz.underlying71
  a22 := Tryz.isAgg71
  z22 := Tryz.sizeOf71
  v22 := Tryz.zeroValue71
  t25 := Tryz.underlying149
  a25 := Tryz.isAgg149
  z25 := Tryz.sizeOf149
  v25 := Tryz.zeroValue149
  t39 := Tryz.underlying133
  a39 := Tryz.isAgg133
  z39 := Tryz.sizeOf133
  v39 := Tryz.zeroValue133
  t45 := Tryz.underlying206
  a45 := Tryz.isAgg206
  z45 := Tryz.sizeOf206
  v45 := Tryz.zeroValue206
  t46 := Tryz.underlying207
  a46 := Tryz.isAgg207
  z46 := Tryz.sizeOf207
  v46 := Tryz.zeroValue207
  t50 := Tryz.underlying211
  a50 := Tryz.isAgg211
  z50 := Tryz.sizeOf211
  v50 := Tryz.zeroValue211
  t53 := Tryz.underlying22
  a53 := Tryz.isAgg22
  z53 := Tryz.sizeOf22
  v53 := Tryz.zeroValue22
  t55 := Tryz.underlying34
  a55 := Tryz.isAgg34
  z55 := Tryz.sizeOf34
  v55 := Tryz.zeroValue34
  t66 := Tryz.underlying227
  a66 := Tryz.isAgg227
  z66 := Tryz.sizeOf227
  v66 := Tryz.zeroValue227
  t70 := Tryz.underlying230
  a70 := Tryz.isAgg230
  z70 := Tryz.sizeOf230
  v70 := Tryz.zeroValue230
  t76 := Tryz.underlying233
  a76 := Tryz.isAgg233
  z76 := Tryz.sizeOf233
  v76 := Tryz.zeroValue233
  t77 := Tryz.underlying234
  a77 := Tryz.isAgg234
  z77 := Tryz.sizeOf234
  v77 := Tryz.zeroValue234 }
end Go.Proofs.YtlejobomjgccnaaGreat

namespace Go.Proofs.YtlejobomjgccnaaGreat
open Go.RowKit Go.Lib Go.Sort Go.Shelf

def encE (e : En) : List Value := [enH e, enA e]
theorem swoE : SWO (ltOf cmpE) where
  irrefl x := by
    unfold ltOf
    exact decide_eq_false (fun h => LessE.irrefl _ (cmpE_less.1 h))
  trans x y z h1 h2 := by
    unfold ltOf at *
    exact decide_eq_true (cmpE_less.2 ((cmpE_less.1 (of_decide_eq_true h1)).trans (cmpE_less.1 (of_decide_eq_true h2))))
  ntrans x y z h1 h2 := by
    unfold ltOf at *
    have a1 : ¬ LessE x y := fun h => of_decide_eq_false h1 (cmpE_less.2 h)
    have a2 : ¬ LessE y z := fun h => of_decide_eq_false h2 (cmpE_less.2 h)
    refine decide_eq_false (fun h => ?_)
    have h3 := cmpE_less.1 h
    unfold LessE at *
    omega
theorem cmpLaysE (blk off size : Nat) (w : World) : CmpLays Tryz.prog 97 #[] encE 2 cmpE blk off size w :=
  fun _ _ _ _ x y => compare_grown x y _

theorem RowF.holds {w : World} {g d n : Nat} {f : Nat → En} (h : RowF w g d n f) (A : Array En) (hA : A.size = n) (he : ∀ i, i < n → f i = A[i]!) : HoldsK encE 2 w g 0 A := by
  intro j hj
  rw [size_flatK] at hj
  refine ⟨?_, h.free _⟩
  have hc := h.cell (i := j / 2) (by omega)
  rw [he (j / 2) (by omega)] at hc
  show w.cell? ⟨g, 0 + j, none⟩ = some (flatK encE 2 A)[j]!
  rw [get_flatK _ _ _ _ hj]
  by_cases h5 : j % 2 = 0
  · rw [show 0 + j = j / 2 * 2 by omega, hc.1, h5]
    rfl
  · rw [show 0 + j = j / 2 * 2 + 1 by omega, hc.2, show j % 2 = 1 by omega]
    rfl
theorem RowF.sorted {w : World} {g d n : Nat} {f : Nat → En} (h : RowF w g d n f) (A : Array En) (hA : A.size = n) (m : Nat) (os : Array Obj) :
    RowF (sortWorldK encE 2 w g 0 m A os) g d n (fun i => A[i]!) := by
  obtain ⟨cur, hw, h1, h2, h3⟩ := h
  have hlt := hw.lt
  refine ⟨putCells id 0 (flatK encE 2 A) cur, ?_, by simpa [putCells] using h1, h2, fun i hi => ?_⟩
  · show ((w.heap.modify g _) ++ os)[g]? = _
    rw [Array.getElem?_append_left (by simpa using hlt), Array.getElem?_modify, if_pos rfl, show w.heap[g]? = _ from hw]
    rfl
  · obtain ⟨c0, c1⟩ := h3 i hi
    have hsz : (flatK encE 2 A).size = n * 2 := by rw [size_flatK, hA]
    have g0 := get_flatK encE 2 A (i * 2) (by rw [hA]; omega)
    have g1 := get_flatK encE 2 A (i * 2 + 1) (by rw [hA]; omega)
    rw [show i * 2 / 2 = i by omega, show i * 2 % 2 = 0 by omega] at g0
    rw [show (i * 2 + 1) / 2 = i by omega, show (i * 2 + 1) % 2 = 1 by omega] at g1
    constructor
    · unfold putCells
      rw [Array.getElem?_mapIdx, c0]
      simp only [Option.map_some]
      rw [if_pos ⟨Nat.zero_le _, by omega⟩, Nat.sub_zero, g0]
      rfl
    · unfold putCells
      rw [Array.getElem?_mapIdx, c1]
      simp only [Option.map_some]
      rw [if_pos ⟨Nat.zero_le _, by omega⟩, Nat.sub_zero, g1]
      rfl
theorem sortWorld_keeps (w : World) (g m : Nat) (A : Array En) (os : Array Obj) : Keeps (Just g) w (sortWorldK encE 2 w g 0 m A os) := by
  refine ⟨rfl, rfl, rfl, ?_, fun k hk hn => ?_⟩
  · show w.heap.size ≤ ((w.heap.modify g _) ++ os).size
    simp
  · show ((w.heap.modify g _) ++ os)[k]? = _
    rw [Array.getElem?_append_left (by simpa using hk), Array.getElem?_modify, if_neg (fun e => hn e.symm)]

set_option maxHeartbeats 2000000 in
set_option maxRecDepth 10000 in
theorem clone_own (p : Option Addr) (n c : Nat) (l : List En) (w : World) (hn : n = l.length) (hn9 : n ≤ 1000000) (hp : p = none → n = 0 ∧ c = 0) (hat : EnsAt w p l) :
    Calls Tryz.prog 95 #[.slice p n c] w fun e w' => ∃ v, e = .returned v ∧ TwosSoFar enH enA 80 w l v w' := by
  have q22 : ∀ (w : World) (a : Option Addr) (n c n' c' : Nat), (binOp .eql 71 (.slice a n c) (.slice none n' c')).run Tryz.prog w = .ok (.bool a.isNone) w := fun w a n c n' c' => Lib.run_eql_slice_nil w _ _ a n c n' c' Tryz.underlying71
  obtain ⟨i0, hi, hz0, hz1, hz2⟩ := info_parts infoEnL
  have HN := Lib.hid hn
  cases p with
  | none =>
    obtain ⟨rfl, rfl⟩ := hp rfl
    obtain rfl : l = [] := List.length_eq_zero_iff.1 hn.symm
    clear hat hn
    go_enter Tryz.func95, Tryz.ntmps95
    go_wp2_with fail
    go_ret
    exact ⟨_, rfl, TwosSoFar.start w⟩
  | some a =>
    have HA := Lib.hid hat
    have HO0 := Lib.hid (show TwosSoFar enH enA 80 w ([] : List En) (.slice (some ⟨w.heap.size, 0, none⟩) 0 0) (w.alloc (.cells #[] 80)) from ⟨World.ownsRow_made w #[] 0 (Nat.le_refl _) (Nat.zero_le _) (by simp), (Below.refl _ w).alloc (Nat.le_refl _) _⟩)
    clear hat hn hp
    go_enter Tryz.func95, Tryz.ntmps95
    go_wp2_with (at_builtin; refine wpList_append_twos (dd := En.none) rfl _ _ 71 rfl 80 i0 (.agg #[.int .u64 0, .int .u32 0]) 16 Tryz.underlying71 hi hz0 hz1 hz2 rfl _ _ rfl HO0.out (some a) n c l rfl (fun h => by simp at h) HN.out (TwosAt.keep HA.out ((Keeps.refl NoBlock w).alloc _) (fun _ _ h => h)) (fun _ => rfl) (fun _ => rfl) (by simp; omega) (by simp; omega) ?_)
    intro v w1 hv
    have HV := Lib.hid hv
    clear hv
    go_wp2_with fail
    go_ret
    exact ⟨_, rfl, HV.out⟩

set_option maxHeartbeats 2000000 in
theorem compact_nil (w : World) : Calls Tryz.prog 98 #[.slice none 0 0] w fun e w' => e = .returned (.slice none 0 0) ∧ w' = w := by
  go_enter Tryz.func98, Tryz.ntmps98
  go_wp2_with fail
  go_ret
  exact ⟨rfl, rfl⟩

/-- What the library's sort makes of a row of one's own. -/
theorem sortfunc_own (g cap n : Nat) (l : List En) (hl : n = l.length) (hn9 : n ≤ 1000000) (w : World) (h : RowF w g cap n (fun i => l.getD i En.none)) :
    Calls Tryz.prog 96 #[.slice (some ⟨g, 0, none⟩) n cap, .func (.func 97) #[] #[]] w fun e w' =>
      e = .returned (.tuple #[]) ∧ ∃ A : Array En, A.size = n ∧ compactUpTo A A.size = sortE l ∧ RowF w' g cap n (fun i => A[i]!) ∧ Keeps (Just g) w w' := by
  have eg : ∀ args w, (callFunc 97 args).run Tryz.prog w = .ok (.enter 97 args) w := enters_of Tryz.func97 (by kernel_rfl) rfl
  have hA : l.toArray.size = n := by simp [hl]
  have hf : ∀ i, i < n → l.getD i En.none = l.toArray[i]! := fun i hi => by
    rw [← getD_arr l.toArray i (by omega)]
  have hcon := AnyQ.slices_SortFunc sortLay 2 Tryz.isAgg80 Tryz.sizeOf80 encE (fun _ => rfl) (fun x v hv => by simp [encE] at hv; rcases hv with rfl | rfl <;> rfl) cmpE swoE 97 #[] g 0 cap l.toArray w eg (cmpLaysE g 0 l.toArray.size w) (h.holds l.toArray hA hf) h.lt (by omega)
  rw [hA] at hcon
  refine Calls.mono hcon ?_
  rintro e w' ⟨rfl, A, m, os, hp, hs, rfl⟩
  obtain ⟨p1, _, p3⟩ := hp
  have hAn : A.size = n := by rw [p1, hA]
  refine ⟨rfl, A, hAn, ?_, h.sorted A hAn m os, sortWorld_keeps w g m A os⟩
  rw [compact_sortE A (fun i j hij hj => ?_)]
  · have hmem : ∀ x, x ∈ A.toList ↔ x ∈ l := fun x => by
      have h1 := p3.mem_iff (a := x)
      rw [show A.extract 0 n = A by rw [← hAn]; exact Array.extract_size, show l.toArray.extract 0 n = l.toArray by rw [← hA]; exact Array.extract_size] at h1
      exact h1
    exact sortE_same hmem
  · by_cases e : i = j
    · rw [e]; exact LessE.irrefl _
    · have h2 := hs i j (Nat.zero_le _) (by omega) (by omega)
      unfold ltOf at h2
      exact fun h3 => of_decide_eq_false h2 (cmpE_less.2 h3)

set_option maxHeartbeats 2000000 in
set_option maxRecDepth 10000 in
theorem tsorted_own (p : Option Addr) (n c : Nat) (l : List En) (w : World) (h : InE w p n c l) (hn9 : n ≤ 100000) :
    Calls Tryz.prog 68 #[.slice p n c] w fun e w' => ∃ v, e = .returned v ∧ TwosSoFar enH enA 80 w (sortE l) v w' := by
  have HCl := Lib.hid (clone_own p n c l w h.len (by omega) h.bare h.at_)
  have HNo := Lib.hid (fun fv w => AnyF.slices_SortFunc_none sortLay none 0 fv w)
  have HLn := Lib.hid h.len
  clear h
  go_enter Tryz.func68, Tryz.ntmps68
  go_wp2_with fail
  refine HCl.out.mono ?_
  rintro e w1 ⟨v, rfl, hown, hbel⟩
  have HB := Lib.hid hbel
  rcases id hown with ⟨_, ⟨rfl, h0⟩ | ⟨g, cap, cur, rfl, hb, hg, h1, h2, h3, h4⟩⟩
  · obtain rfl : l = [] := List.length_eq_zero_iff.1 h0
    clear hown hbel HCl
    go_wp2_with fail
    refine (HNo.out _ _).mono ?_
    rintro e w2 ⟨rfl, rfl⟩
    go_wp2_with fail
    refine (compact_nil _).mono ?_
    rintro e w2 ⟨rfl, rfl⟩
    go_wp2_with fail
    go_ret
    exact ⟨_, rfl, ⟨by simp [sortE, twoFlat], .inl ⟨rfl, rfl⟩⟩, HB.out⟩
  · obtain ⟨hR, hbg, hcap⟩ := RowF.ofOwn hown rfl
    have HS := Lib.hid (sortfunc_own g cap l.length l rfl (by rw [← HLn.out]; omega) _ hR)
    have HBg := Lib.hid hbg
    have HCap := Lib.hid hcap
    have HL9 := Lib.hid (show l.length ≤ 100000 by rw [← HLn.out]; exact hn9)
    clear hown hbel HCl hR hbg hcap hb hg h1 h2 h3 h4
    go_wp2_with fail
    refine HS.out.mono ?_
    rintro e w2 ⟨rfl, A, hAn, hAs, hR2, hk2⟩
    have HC := Lib.hid (compact_own g cap A.size A rfl w2 (by rw [hAn]; exact hR2) (by have := HCap.out; unfold maxLen at this; exact this) (by have := HL9.out; omega))
    rw [hAn] at HC
    have HK2 := Lib.hid hk2
    have HAs := Lib.hid hAs
    clear hR2 hk2 hAs HS
    go_wp2_with fail
    refine HC.out.mono ?_
    rintro e w3 ⟨m, hm, rfl, hR3, hk3⟩
    rw [HAs.out] at hm hR3
    have HR3 := Lib.hid hR3
    have HM := Lib.hid hm
    have HK3 := Lib.hid (HK2.out.trans hk3)
    clear hR3 hm hk3 HC
    go_wp2_with fail
    go_ret
    have hm := HM.out
    subst hm
    exact ⟨_, rfl, HR3.out.own (Nat.le_refl _) (fun _ _ => rfl) HBg.out HCap.out, HB.out.trans (HK3.out.below HB.out.size (fun k hk e => by have := HBg.out; have e' : k = g := e; omega))⟩
end Go.Proofs.YtlejobomjgccnaaGreat

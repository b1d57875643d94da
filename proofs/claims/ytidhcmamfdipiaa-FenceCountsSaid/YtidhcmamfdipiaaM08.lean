/-
  Lift; Open; OpenW; FenRow; FenLaws; FenCtWalk.
-/
import Derived.ProofKit
import Derived.OpenShut
import Derived.SizedLaws
import Derived.Carry
import Derived.ChangeSame
import Derived.JoinedOf
import Derived.JoinedAt
import Derived.Deep.Slices
import Derived.Test.YtidhcmamfdipiaaM01
import Derived.Test.YtidhcmamfdipiaaM02
import Derived.Test.YtidhcmamfdipiaaM05
import Derived.Test.YtidhcmamfdipiaaM07
namespace Go.Proofs.Ytidhcmamfdipiaa
open Go.ChangeShapes Go.WideShapes Go.ChangeAt Go.RowKit

theorem own : ownKnob Try.prog.godebug = none := by kernel_rfl
theorem laidOut : laidOutB Try.prog = true := by kernel_rfl

theorem trodAll_stay {H : Type} {enc : TypeId × Value → H} {W W' : World} (hb : Below W.heap.size W W') : ∀ (ts : List TypeId) (vs : List Value) (ds : List (DataW H)) (ps : List MemPlace), (∀ t ∈ ts, Try.prog.readableRec t = true ∧ t < Try.prog.types.size) →
    DataW.TrodAll enc Try.prog W 0 (fun _ => true) true ts vs ds ps → (∀ x ∈ ps, x.block < W.heap.size) → DataW.TrodAll enc Try.prog W' 0 (fun b => decide (b < W.heap.size)) true ts vs ds ps
  | [], [], [], _, _, h, _ => h
  | t :: ts, v :: vs, d :: ds, _, hr, ⟨p, q, h1, h2, e⟩, hlt => by
    subst e
    exact ⟨p, q, Below.trod laidOut (hr t List.mem_cons_self).1 (hr t List.mem_cons_self).2 h1 hb (fun x hx => hlt x (List.mem_append_left _ hx)),
      trodAll_stay hb ts vs ds q (fun u hu => hr u (List.mem_cons_of_mem _ hu)) h2 (fun x hx => hlt x (List.mem_append_right _ hx)), rfl⟩
  | [], _ :: _, _, _, _, h, _ => h.elim
  | [], [], _ :: _, _, _, h, _ => h.elim
  | _ :: _, [], _, _, _, h, _ => h.elim
  | _ :: _, _ :: _, [], _, _, h, _ => h.elim

/-- What a law's specification says. -/
def LawSpec (s : ChangeSpec) (n : Nat) : Prop :=
  s.vars = [] ∧ ∀ (H : Type) (ds : List (DataW H)), ds.length = n → (s.fn H ds).results = [.lit (.bool true)] ∧ (s.fn H ds).args = ds ∧ (s.fn H ds).vars = []

theorem trodAll_length {H : Type} {enc : TypeId × Value → H} {W : World} {sp : Nat → Bool} {hd : Bool} : ∀ (ts : List TypeId) (vs : List Value) (ds : List (DataW H)) (ps : List MemPlace), DataW.TrodAll enc Try.prog W 0 sp hd ts vs ds ps → ds.length = ts.length
  | [], [], [], _, _ => rfl
  | _ :: ts, _ :: vs, _ :: ds, _, ⟨_, q, _, h2, _⟩ => by simp [trodAll_length ts vs ds q h2]
  | [], _ :: _, _, _, h => h.elim
  | [], [], _ :: _, _, h => h.elim
  | _ :: _, [], _, _, h => h.elim
  | _ :: _, _ :: _, [], _, h => h.elim

theorem law_post {H : Type} {enc : TypeId × Value → H} {f : Func} {s : ChangeSpec} {W W' : World} {args : Array Value} {ds gs : List (DataW H)} {before : List MemPlace} (hs : LawSpec s f.params.size) (hres : f.resultTypes = #[4])
    (hr0 : (f.params.toList.all fun t => Try.prog.readableRec t && decide (t < Try.prog.types.size)) = true) (hW : DataW.Whole enc Try.prog f.params.toList s.vars false W args.toList ds gs before) (hb : Below W.heap.size W W') :
    s.post enc Try.prog f false true false false W args (.bool true) W' := by
  have hr : ∀ t ∈ f.params.toList, Try.prog.readableRec t = true ∧ t < Try.prog.types.size := fun t ht => by simpa using List.all_eq_true.1 hr0 t ht
  have hW' := hW
  obtain ⟨p, q, hA, hV, rfl, _, _⟩ := hW
  rw [hs.1] at hV
  have hgs : gs = [] ∧ q = [] := by
    cases gs with
    | nil => exact ⟨rfl, hV⟩
    | cons g gs => exact hV.elim
  obtain ⟨rfl, rfl⟩ := hgs
  have hl := trodAll_length _ _ _ _ hA
  have hlt : ∀ x ∈ p, x.block < W.heap.size := fun x hx => by simpa using hW'.lt x (List.mem_append_left _ hx)
  obtain ⟨h1, h2, h3⟩ := hs.2 H (ds ++ []) (by simpa using hl)
  refine ⟨ds, [], p ++ [], [], p, [], hW', ?_, ?_, ?_, hb.frame _, fun h => by cases h⟩
  · rw [h1, hres]
    exact trodAll_mk1 (shut_bool Try.underlying4 true)
  · rw [h2, List.append_nil]
    exact trodAll_stay hb _ _ _ _ hr hA hlt
  · rw [h3, hs.1]
    rfl
end Go.Proofs.Ytidhcmamfdipiaa

namespace Go.Proofs.Ytidhcmamfdipiaa
open Go.ChangeShapes Go.WideShapes Go.ChangeAt Go.RowKit

theorem octet_wf {n : Int} (h : (Lit.int .u8 n).wf = true) : 0 ≤ n ∧ n < 256 := by
  have : 0 ≤ n ∧ n ≤ 255 := by simpa [Lit.wf, IntKind.min, IntKind.max, IntKind.signed, IntKind.bits] using h
  omega

set_option maxRecDepth 100000 in
/-- An argument that is a slice of bytes. -/
theorem open_octets {H : Type} {enc : TypeId × Value → H} {W : World} {base : Nat} {v : Value} {d : DataW H} {ps : List MemPlace} (hv : Value.okWide Try.prog W .any base 40 v) (h : DataW.Trod enc Try.prog W 0 (fun _ => true) true 40 v d ps) :
    ∃ (p : Option Addr) (N c : Nat) (xs : List Int), v = .slice p N c ∧ N = xs.length ∧ N ≤ c ∧ c ≤ 9223372036854775807 ∧ Bytes8 W p xs ∧ Octets xs ∧ (1 ≤ N → ∀ r, p = some r → r.block < W.heap.size) ∧ (p = none → N = 0 ∧ c = 0) := by
  obtain ⟨a0, len, cap, rfl⟩ := okWide_slice Try.underlying40 hv
  obtain ⟨fuel, hf⟩ := h
  rcases open_ints Try.underlying40 Try.underlying5 (by kernel_rfl) hf with ⟨hcs, hx⟩ | ⟨a, len', cap', zs, hcs, _, hl, hm, hz, hx, hcell, hwz⟩
  · simp [Value.cells] at hcs
    obtain ⟨rfl, rfl, rfl⟩ := hcs
    exact ⟨none, 0, 0, [], rfl, rfl, Nat.le_refl _, by omega, Bytes8.nil _ _, fun b hb => by simp at hb, fun h => by omega, fun _ => ⟨rfl, rfl⟩⟩
  · simp [Value.cells] at hcs
    obtain ⟨rfl, rfl, rfl⟩ := hcs
    simp only [if_true] at hz
    have hxl : (zs.take len).length = len := by simp; omega
    have hb8 : Bytes8 W (some a) (zs.take len) := fun _ => ⟨a, rfl, fun i hi => by
      rw [hxl] at hi
      rw [hcell i (by omega)]
      simp [hi]⟩
    refine ⟨some a, len, cap, zs.take len, rfl, hxl.symm, hl, by unfold maxLen at hm; omega, hb8, fun b hb => octet_wf (hwz b (List.mem_of_mem_take hb)), fun h1 r hr => ?_, fun h => by simp at h⟩
    obtain ⟨a', ha', hc'⟩ := hb8 (by omega)
    obtain rfl := Option.some.inj hr
    obtain rfl := Option.some.inj ha'
    have := ltOfCell (hc' 0 (by omega))
    rwa [addBlock] at this
end Go.Proofs.Ytidhcmamfdipiaa

namespace Go.Proofs.Ytidhcmamfdipiaa
open Go.ChangeShapes Go.WideShapes Go.ChangeAt Go.RowKit

theorem u64_wf {n : Int} (h : (Lit.int .u64 n).wf = true) : ∃ x : Nat, n = x ∧ x < 18446744073709551616 := by
  have : 0 ≤ n ∧ n ≤ 18446744073709551615 := by simpa [Lit.wf, IntKind.min, IntKind.max, IntKind.signed, IntKind.bits] using h
  exact ⟨n.toNat, by omega, by omega⟩

/-- A row of numbers of 64 bits that can be read. -/
def RowN (w : World) (p : Option Addr) (l : List Nat) : Prop := ∀ i, i < l.length → ∃ a, p = some a ∧ w.cell? (a.add i) = some (.int .u64 (l.getD i 0 : Nat))

theorem RowN.keep {w w' : World} {p : Option Addr} {l : List Nat} (h : RowN w p l) {S : Nat → Prop} (hk : Keeps S w w') (hs : ∀ k, k < w.heap.size → ¬ S k) : RowN w' p l := fun i hi => by
  obtain ⟨a, rfl, hc⟩ := h i hi
  exact ⟨a, rfl, hk.cell hc (hs _ (ltOfCell hc))⟩

/-- Numbers as naturals. -/
theorem nat_list (zs : List Int) (h : ∀ z ∈ zs, 0 ≤ z ∧ z < 18446744073709551616) : ∃ l : List Nat, zs = l.map (fun n : Nat => (n : Int)) ∧ ∀ n ∈ l, n < 18446744073709551616 := by
  refine ⟨zs.map Int.toNat, ?_, ?_⟩
  · rw [List.map_map]
    conv => lhs; rw [← List.map_id zs]
    exact List.map_congr_left fun z hz => by have := h z hz; simp; omega
  · intro n hn
    obtain ⟨z, hz, rfl⟩ := List.mem_map.1 hn
    have := h z hz
    omega

set_option maxRecDepth 100000 in
/-- An argument that is a row of numbers of 64 bits. -/
theorem open_row {H : Type} {enc : TypeId × Value → H} {W : World} {base : Nat} {v : Value} {d : DataW H} {ps : List MemPlace} (hv : Value.okWide Try.prog W .any base 26 v) (h : DataW.Trod enc Try.prog W 0 (fun _ => true) true 26 v d ps) :
    ∃ (p : Option Addr) (n c : Nat) (l : List Nat), v = .slice p n c ∧ n = l.length ∧ RowN W p l ∧ (∀ z ∈ l, z < 18446744073709551616) ∧ n ≤ 9223372036854775807 := by
  obtain ⟨a0, len, cap, rfl⟩ := okWide_slice Try.underlying26 hv
  obtain ⟨fuel, hf⟩ := h
  rcases open_ints Try.underlying26 Try.underlying23 (by kernel_rfl) hf with ⟨hcs, hx⟩ | ⟨a, len', cap', zs, hcs, _, hl, hm, hz, hx, hcell, hwz⟩
  · simp [Value.cells] at hcs
    obtain ⟨rfl, rfl, rfl⟩ := hcs
    exact ⟨none, 0, 0, [], rfl, rfl, fun i hi => by simp at hi, fun b hb => by simp at hb, by omega⟩
  · simp [Value.cells] at hcs
    obtain ⟨rfl, rfl, rfl⟩ := hcs
    simp only [if_true] at hz
    have hxl : (zs.take len).length = len := by simp; omega
    obtain ⟨l, hl1, hl2⟩ := nat_list (zs.take len) (fun b hb => by
      obtain ⟨x, rfl, hx⟩ := u64_wf (hwz b (List.mem_of_mem_take hb))
      omega)
    have hll : l.length = len := by rw [← hxl, hl1, List.length_map]
    refine ⟨some a, len, cap, l, rfl, hll.symm, fun i hi => ⟨a, rfl, ?_⟩, hl2, by unfold maxLen at hm; omega⟩
    rw [hll] at hi
    rw [hcell i (by omega)]
    have e : (zs.take len)[i]? = some ((l.getD i 0 : Nat) : Int) := by
      rw [hl1]
      simp [show i < l.length by omega]
    rw [List.getElem?_take, if_pos hi] at e
    simp [e]
end Go.Proofs.Ytidhcmamfdipiaa

namespace Go.Proofs.Ytidhcmamfdipiaa
open Go.RowKit

/-- Entries whose Hashes and places are 0, 1 .. -/
def stepE (n : Nat) : List En := (List.range n).map fun i => ⟨i, i⟩
theorem stepE_snoc (n : Nat) : stepE n ++ [⟨n, n⟩] = stepE (n + 1) := by
  unfold stepE
  rw [List.range_succ, List.map_append]
  rfl
theorem stepE_length (n : Nat) : (stepE n).length = n := by unfold stepE; rw [List.length_map, List.length_range]

set_option maxHeartbeats 2000000 in
set_option maxRecDepth 10000 in
theorem row12_go (n : Nat) (hn9 : n ≤ 1000) (w : World) :
    Calls Try.prog 26 #[.int .i64 (n : Int), .int .u64 1] w fun e w' => ∃ v, e = .returned v ∧ NewEns w (stepE n) v w' := by
  obtain ⟨i0, hi, hz0, hz1, hz2⟩ := info_parts infoEnL
  go_enter Try.func26, Try.ntmps26
  go_wp2_with fail
  go_loopw [5, 8] (fun v i wr => ∃ j : Nat, j ≤ n ∧ i = .int .i64 (j : Int) ∧ Hid (TwosSoFar enH enA 38 w (stepE j) v wr)) (fun _ i _ => n - (intOf i).toNat)
  case atStart => exact ⟨0, Nat.zero_le _, rfl, Lib.hid (TwosSoFar.start w)⟩
  case round =>
    obtain ⟨j, hj, rfl, HS⟩ := hrel
    by_cases hlt : j < n
    · have hdj : decide ((j : Int) < (n : Int)) = true := decide_eq_true (by omega)
      have hj9 : j ≤ 1000 := by omega
      have w1 : IntKind.u64.wrap (j : Int) = (j : Int) := by rw [IntKind.wrap_u64]; omega
      have w2 : IntKind.u32.wrap (j : Int) = (j : Int) := by rw [IntKind.wrap_u32]; omega
      have hlj : (stepE j).length ≤ 1000000 := by rw [stepE_length]; omega
      have HTk := Lib.hid (stepE_snoc j)
      obtain ⟨r, hr⟩ : ∃ r : En, r = ⟨j, j⟩ := ⟨_, rfl⟩
      have hr0 : r.hash = j := by rw [hr]
      have hr1 : r.at_ = j := by rw [hr]
      rw [← hr] at HTk
      obtain ⟨k, hk⟩ : ∃ k, k = stepE j := ⟨_, rfl⟩
      rw [← hk] at HS HTk hlj
      have HLj := Lib.hid hlj
      have HW : Hid (Whole (wr.alloc (.cells #[.int .u64 (j : Int), .int .u32 (j : Int)] 38)) wr.heap.size 38 (enCells r)) := Lib.hid (by
        unfold enCells
        rw [hr0, hr1]
        exact Whole.new _ _ _)
      have HS2 := Lib.hid (HS.out.alloc (.cells #[.int .u64 (j : Int), .int .u32 (j : Int)] 38))
      clear hr hk hlj hr0 hr1
      go_wp2_with (at_builtin; refine wpList_append_two rfl _ _ 22 rfl 38 i0 (.agg #[.int .u64 0, .int .u32 0]) 16 Try.underlying22 hi hz0 hz1 hz2 rfl _ _ rfl HS2.out wr.heap.size r rfl (HW.out.cell 0 rfl) (HW.out.cell 1 rfl) rfl rfl (by have := HLj.out; omega) (by have := HLj.out; omega) ?_)
      intro v' w5 hS5
      rw [HTk.out] at hS5
      have HS5 := Lib.hid hS5
      clear hS5
      go_wp2_with fail
      exact ⟨⟨j + 1, by omega, by go_num, HS5⟩, by simp [intOf]; omega⟩
    · have hdj : decide ((j : Int) < (n : Int)) = false := decide_eq_false (by omega)
      have HNw : Hid (NewEns w (stepE n) _ wr) := Lib.hid (by
        have h := (HS.out.new (dd := En.none))
        rw [show j = n by omega] at h
        exact h)
      go_wp2_with fail
      go_ret
      exact ⟨_, rfl, HNw.out⟩
end Go.Proofs.Ytidhcmamfdipiaa

namespace Go.Proofs.Ytidhcmamfdipiaa
open Go.RowKit

/-- A row of numbers of new memory. -/
def NewRow (w : World) (l : List Nat) (v : Value) (w' : World) : Prop :=
  ∃ (q : Option Addr) (m d : Nat), v = .slice q m d ∧ m = l.length ∧ m ≤ d ∧ d ≤ 9223372036854775807 ∧ (q = none → m = 0 ∧ d = 0) ∧ RowN w' q l ∧ (0 < m → ∀ a, q = some a → w.heap.size ≤ a.block) ∧ Keeps NoBlock w w'

/-- The contracts of Of, Range, Count. -/
structure FenOk : Prop where
  of : ∀ (p : Option Addr) (n c : Nat) (l : List En) (w : World), InE w p n c l → n ≤ 100000 → risesE l = true →
    Calls Try.prog 9 #[.slice p n c] w fun e w' => ∃ v, e = .returned v ∧ NewRow w (ofF l) v w'
  range : ∀ (p : Option Addr) (m c : Nat) (l : List En) (n h : Nat) (w : World), m = (ofF l).length → m ≤ c → c ≤ 9223372036854775807 → (p = none → m = 0 ∧ c = 0) → RowN w p (ofF l) → (∀ e ∈ l, e.Fine) → n = l.length → n ≤ 100000 → risesE l = true → h < 18446744073709551616 →
    Calls Try.prog 14 #[.slice p m c, .int .i64 (n : Int), .int .u64 (h : Int)] w fun e w' => e = .returned (.tuple #[.int .i64 ((rangeF (ofF l) n h).1 : Int), .int .i64 ((rangeF (ofF l) n h).2 : Int)]) ∧ Keeps NoBlock w w'
structure FenCtOk : Prop where
  count : ∀ (n : Int) (w : World), -1000000000 ≤ n → n ≤ 1000000000 →
    Calls Try.prog 13 #[.int .i64 n] w fun e w' => e = .returned (.int .i64 (countF n : Int)) ∧ Keeps NoBlock w w'

theorem step_fine {n : Nat} (h : n ≤ 1000) : ∀ e ∈ stepE n, e.Fine := fun e he => by
  obtain ⟨i, hi, rfl⟩ := List.mem_map.1 he
  have := List.mem_range.1 hi
  exact ⟨by show i < _; omega, by show i < _; omega⟩
theorem step_rises : risesE (stepE 40) = true := by decide
theorem step_of : ofF (stepE 40) = [0, 16, 32] := by decide
theorem step_range : rangeF (ofF (stepE 40)) 40 17 = (16, 32) := by decide

set_option maxHeartbeats 2000000 in
set_option maxRecDepth 10000 in
theorem lives12_true (H : FenOk) (w : World) : Calls Try.prog 7 #[] w fun e w' => e = .returned (.bool true) ∧ Keeps NoBlock w w' := by
  have HR := Lib.hid (fun w => row12_go 40 (by decide) w)
  have HO := Lib.hid (fun (p : Option Addr) (c : Nat) (w : World) (h : InE w p 40 c (stepE 40)) => H.of p 40 c (stepE 40) w h (by decide) step_rises)
  have HN := Lib.hid (fun (p : Option Addr) (c : Nat) (w : World) (h1 : 3 ≤ c) (h2 : c ≤ 9223372036854775807) (h3 : p = none → 3 = 0 ∧ c = 0) (h4 : RowN w p (ofF (stepE 40))) => H.range p 3 c (stepE 40) 40 17 w (by rw [step_of]; rfl) h1 h2 h3 h4 (step_fine (by decide)) (by rw [stepE_length]) (by decide) step_rises (by decide))
  rw [step_range] at HN
  rw [step_of] at HO HN
  clear H
  go_enter Try.func7, Try.ntmps7
  go_wp2_with fail
  refine (HR.out _).mono ?_
  rintro e w1 ⟨v, rfl, q, m, d, rfl, hm, hmd, hd, hq, hat, hk⟩
  rw [stepE_length] at hm
  subst hm
  have HK := Lib.hid hk
  have HI := Lib.hid (HO.out q d w1 ⟨by rw [stepE_length], hmd, hd, hq, step_fine (by decide), hat⟩)
  clear hmd hd hq hat hk
  go_wp2_with fail
  refine HI.out.mono ?_
  rintro e w2 ⟨v, rfl, q, m, d, rfl, hm, hmd, hd, hq, hat, hnw, hk⟩
  obtain rfl : m = 3 := hm
  have HK2 := Lib.hid (HK.out.trans hk)
  have HC := Lib.hid (HN.out q d w2 hmd hd hq hat)
  obtain ⟨a, rfl, x0⟩ := hat 1 (by decide)
  obtain ⟨a', ha', x1⟩ := hat 2 (by decide)
  obtain rfl := Option.some.inj ha'
  rw [show a.add 1 = ⟨a.block, a.off + 1, none⟩ from rfl] at x0
  rw [show a.add 2 = ⟨a.block, a.off + 2, none⟩ from rfl] at x1
  simp only [List.getD_cons_zero, List.getD_cons_succ] at x0 x1
  clear hmd hd hq hat hk hnw ha' HI HO HN HR
  go_wp2_with fail
  refine HC.out.mono ?_
  rintro e w3 ⟨rfl, hk⟩
  have HK3 := Lib.hid (HK2.out.trans hk)
  clear hk
  go_wp2_with fail
  go_ret
  exact ⟨rfl, HK3.out⟩
end Go.Proofs.Ytidhcmamfdipiaa

namespace Go.Proofs.Ytidhcmamfdipiaa
open Go.RowKit

set_option maxHeartbeats 4000000 in
set_option maxRecDepth 10000 in
theorem fencounts_walk (H : FenOk) (HC : FenCtOk) (n : Nat) (hn : n < 65536) (w : World) :
    Calls Try.prog 6 #[.int .u16 (n : Int)] w fun e w' => e = .returned (.bool true) ∧ Keeps NoBlock w w' := by
  have HL := Lib.hid (fun w => lives12_true H w)
  have HC1 := Lib.hid (fun w => HC.count (n : Int) w (by omega) (by omega))
  have HC2 := Lib.hid (fun w => HC.count ((n : Int) + 16) w (by omega) (by omega))
  have e1 : countF (n : Int) = (n + 15) / 16 := by unfold countF; rw [Int.toNat_natCast]
  have e2 : countF ((n : Int) + 16) = (n + 15) / 16 + 1 := by unfold countF; omega
  rw [e1] at HC1
  rw [e2] at HC2
  obtain ⟨k, hk⟩ : ∃ k, k = (n + 15) / 16 := ⟨_, rfl⟩
  rw [← hk] at HC1 HC2
  have hk9 : k ≤ 4096 := by omega
  have k1 : n ≤ 16 * k := by omega
  have k2 : 16 * k < n + 16 := by omega
  have d1 : decide ((n : Int) ≤ 16 * (k : Int)) = true := decide_eq_true (by omega)
  have d2 : decide (16 * (k : Int) < (n : Int) + 16) = true := decide_eq_true (by omega)
  have wn : IntKind.i64.wrap (n : Int) = (n : Int) := by rw [IntKind.wrap_i64]; omega
  have ck : ((k + 1 : Nat) : Int) = (k : Int) + 1 := by omega
  rw [ck] at HC2
  clear H HC hk e1 e2 ck
  go_enter Try.func6, Try.ntmps6
  go_wp2_with fail
  refine (HL.out _).mono ?_
  rintro e w1 ⟨rfl, hk⟩
  have HK1 := Lib.hid hk
  clear hk
  go_wp2_with fail
  refine (HC1.out _).mono ?_
  rintro e w2 ⟨rfl, hk⟩
  have HK2 := Lib.hid (HK1.out.trans hk)
  clear hk
  go_wp2_with fail
  refine (HC2.out _).mono ?_
  rintro e w3 ⟨rfl, hk⟩
  have HK3 := Lib.hid (HK2.out.trans hk)
  clear hk
  go_wp2_with fail
  go_ret
  exact ⟨rfl, HK3.out⟩
end Go.Proofs.Ytidhcmamfdipiaa

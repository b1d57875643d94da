/-
  Open; OpenW; FenRow; FenLaws; FenOf; FenRange.
-/
import Derived.Deep.Slices
import Derived.Test.YtmifbohdepejaaaM01
import Derived.Test.YtmifbohdepejaaaM04
import Derived.Test.YtmifbohdepejaaaM05
import Derived.Test.YtmifbohdepejaaaM08
namespace Go.Proofs.Ytmifbohdepejaaa
open Go.ChangeShapes Go.WideShapes Go.ChangeAt Go.RowKit

theorem octet_wf {n : Int} (h : (Lit.int .u8 n).wf = true) : 0 ≤ n ∧ n < 256 := by
  have : 0 ≤ n ∧ n ≤ 255 := by simpa [Lit.wf, IntKind.min, IntKind.max, IntKind.signed, IntKind.bits] using h
  omega

set_option maxRecDepth 100000 in
/-- An argument that is a slice of bytes. -/
theorem open_octets {H : Type} {enc : TypeId × Value → H} {W : World} {base : Nat} {v : Value} {d : DataW H} {ps : List MemPlace} (hv : Value.okWide Try.prog W .any base 27 v) (h : DataW.Trod enc Try.prog W 0 (fun _ => true) true 27 v d ps) :
    ∃ (p : Option Addr) (N c : Nat) (xs : List Int), v = .slice p N c ∧ N = xs.length ∧ N ≤ c ∧ c ≤ 9223372036854775807 ∧ Bytes8 W p xs ∧ Octets xs ∧ (1 ≤ N → ∀ r, p = some r → r.block < W.heap.size) ∧ (p = none → N = 0 ∧ c = 0) := by
  obtain ⟨a0, len, cap, rfl⟩ := okWide_slice Try.underlying27 hv
  obtain ⟨fuel, hf⟩ := h
  rcases open_ints Try.underlying27 Try.underlying5 (by kernel_rfl) hf with ⟨hcs, hx⟩ | ⟨a, len', cap', zs, hcs, _, hl, hm, hz, hx, hcell, hwz⟩
  · simp [Value.cells] at hcs
    obtain ⟨rfl, rfl, rfl⟩ := hcs
    exact ⟨none, 0, 0, [], rfl, rfl, Nat.le_refl _, by omega, Bytes8.nil _ _, fun b hb => by simp at hb, fun h => by omega, fun _ => ⟨rfl, rfl⟩⟩
  · simp [Value.cells] at hcs
    obtain ⟨rfl, rfl, rfl⟩ := hcs
    simp only [if_true] at hz
    have hxl : (zs.take len).length = len := by simp; omega
    have hb8 : Bytes8 W (some a) (zs.take len) := fun _ => ⟨a, rfl, fun i hi => by
      rw [hxl] at hi
      rw [hcell i (by omega)]
      simp [hi]⟩
    refine ⟨some a, len, cap, zs.take len, rfl, hxl.symm, hl, by unfold maxLen at hm; omega, hb8, fun b hb => octet_wf (hwz b (List.mem_of_mem_take hb)), fun h1 r hr => ?_, fun h => by simp at h⟩
    obtain ⟨a', ha', hc'⟩ := hb8 (by omega)
    obtain rfl := Option.some.inj hr
    obtain rfl := Option.some.inj ha'
    have := ltOfCell (hc' 0 (by omega))
    rwa [addBlock] at this
end Go.Proofs.Ytmifbohdepejaaa

namespace Go.Proofs.Ytmifbohdepejaaa
open Go.ChangeShapes Go.WideShapes Go.ChangeAt Go.RowKit

theorem u64_wf {n : Int} (h : (Lit.int .u64 n).wf = true) : ∃ x : Nat, n = x ∧ x < 18446744073709551616 := by
  have : 0 ≤ n ∧ n ≤ 18446744073709551615 := by simpa [Lit.wf, IntKind.min, IntKind.max, IntKind.signed, IntKind.bits] using h
  exact ⟨n.toNat, by omega, by omega⟩

/-- A row of numbers of 64 bits that can be read. -/
def RowN (w : World) (p : Option Addr) (l : List Nat) : Prop := ∀ i, i < l.length → ∃ a, p = some a ∧ w.cell? (a.add i) = some (.int .u64 (l.getD i 0 : Nat))

theorem RowN.keep {w w' : World} {p : Option Addr} {l : List Nat} (h : RowN w p l) {S : Nat → Prop} (hk : Keeps S w w') (hs : ∀ k, k < w.heap.size → ¬ S k) : RowN w' p l := fun i hi => by
  obtain ⟨a, rfl, hc⟩ := h i hi
  exact ⟨a, rfl, hk.cell hc (hs _ (ltOfCell hc))⟩

/-- Numbers as naturals. -/
theorem nat_list (zs : List Int) (h : ∀ z ∈ zs, 0 ≤ z ∧ z < 18446744073709551616) : ∃ l : List Nat, zs = l.map (fun n : Nat => (n : Int)) ∧ ∀ n ∈ l, n < 18446744073709551616 := by
  refine ⟨zs.map Int.toNat, ?_, ?_⟩
  · rw [List.map_map]
    conv => lhs; rw [← List.map_id zs]
    exact List.map_congr_left fun z hz => by have := h z hz; simp; omega
  · intro n hn
    obtain ⟨z, hz, rfl⟩ := List.mem_map.1 hn
    have := h z hz
    omega

set_option maxRecDepth 100000 in
/-- An argument that is a row of numbers of 64 bits. -/
theorem open_row {H : Type} {enc : TypeId × Value → H} {W : World} {base : Nat} {v : Value} {d : DataW H} {ps : List MemPlace} (hv : Value.okWide Try.prog W .any base 47 v) (h : DataW.Trod enc Try.prog W 0 (fun _ => true) true 47 v d ps) :
    ∃ (p : Option Addr) (n c : Nat) (l : List Nat), v = .slice p n c ∧ n = l.length ∧ RowN W p l ∧ (∀ z ∈ l, z < 18446744073709551616) ∧ n ≤ 9223372036854775807 := by
  obtain ⟨a0, len, cap, rfl⟩ := okWide_slice Try.underlying47 hv
  obtain ⟨fuel, hf⟩ := h
  rcases open_ints Try.underlying47 Try.underlying46 (by kernel_rfl) hf with ⟨hcs, hx⟩ | ⟨a, len', cap', zs, hcs, _, hl, hm, hz, hx, hcell, hwz⟩
  · simp [Value.cells] at hcs
    obtain ⟨rfl, rfl, rfl⟩ := hcs
    exact ⟨none, 0, 0, [], rfl, rfl, fun i hi => by simp at hi, fun b hb => by simp at hb, by omega⟩
  · simp [Value.cells] at hcs
    obtain ⟨rfl, rfl, rfl⟩ := hcs
    simp only [if_true] at hz
    have hxl : (zs.take len).length = len := by simp; omega
    obtain ⟨l, hl1, hl2⟩ := nat_list (zs.take len) (fun b hb => by
      obtain ⟨x, rfl, hx⟩ := u64_wf (hwz b (List.mem_of_mem_take hb))
      omega)
    have hll : l.length = len := by rw [← hxl, hl1, List.length_map]
    refine ⟨some a, len, cap, l, rfl, hll.symm, fun i hi => ⟨a, rfl, ?_⟩, hl2, by unfold maxLen at hm; omega⟩
    rw [hll] at hi
    rw [hcell i (by omega)]
    have e : (zs.take len)[i]? = some ((l.getD i 0 : Nat) : Int) := by
      rw [hl1]
      simp [show i < l.length by omega]
    rw [List.getElem?_take, if_pos hi] at e
    simp [e]
end Go.Proofs.Ytmifbohdepejaaa

namespace Go.Proofs.Ytmifbohdepejaaa
open Go.RowKit

/-- Entries whose Hashes and places are 0, 1 .. -/
def stepE (n : Nat) : List En := (List.range n).map fun i => ⟨i, i⟩
theorem stepE_snoc (n : Nat) : stepE n ++ [⟨n, n⟩] = stepE (n + 1) := by
  unfold stepE
  rw [List.range_succ, List.map_append]
  rfl
theorem stepE_length (n : Nat) : (stepE n).length = n := by unfold stepE; rw [List.length_map, List.length_range]

end Go.Proofs.Ytmifbohdepejaaa

namespace Go.Proofs.Ytmifbohdepejaaa
open Go.RowKit

/-- A row of numbers of new memory. -/
def NewRow (w : World) (l : List Nat) (v : Value) (w' : World) : Prop :=
  ∃ (q : Option Addr) (m d : Nat), v = .slice q m d ∧ m = l.length ∧ m ≤ d ∧ d ≤ 9223372036854775807 ∧ (q = none → m = 0 ∧ d = 0) ∧ RowN w' q l ∧ (0 < m → ∀ a, q = some a → w.heap.size ≤ a.block) ∧ Keeps NoBlock w w'

/-- The contracts of Of, Range, Count. -/
structure FenOk : Prop where
  of : ∀ (p : Option Addr) (n c : Nat) (l : List En) (w : World), InE w p n c l → n ≤ 100000 → risesE l = true →
    Calls Try.prog 25 #[.slice p n c] w fun e w' => ∃ v, e = .returned v ∧ NewRow w (ofF l) v w'
  range : ∀ (p : Option Addr) (m c : Nat) (l : List En) (n h : Nat) (w : World), m = (ofF l).length → m ≤ c → c ≤ 9223372036854775807 → (p = none → m = 0 ∧ c = 0) → RowN w p (ofF l) → (∀ e ∈ l, e.Fine) → n = l.length → n ≤ 100000 → risesE l = true → h < 18446744073709551616 →
    Calls Try.prog 48 #[.slice p m c, .int .i64 (n : Int), .int .u64 (h : Int)] w fun e w' => e = .returned (.tuple #[.int .i64 ((rangeF (ofF l) n h).1 : Int), .int .i64 ((rangeF (ofF l) n h).2 : Int)]) ∧ Keeps NoBlock w w'
structure FenCtOk : Prop where
  count : ∀ (n : Int) (w : World), -1000000000 ≤ n → n ≤ 1000000000 →
    Calls Try.prog 41 #[.int .i64 n] w fun e w' => e = .returned (.int .i64 (countF n : Int)) ∧ Keeps NoBlock w w'

theorem step_fine {n : Nat} (h : n ≤ 1000) : ∀ e ∈ stepE n, e.Fine := fun e he => by
  obtain ⟨i, hi, rfl⟩ := List.mem_map.1 he
  have := List.mem_range.1 hi
  exact ⟨by show i < _; omega, by show i < _; omega⟩
theorem step_rises : risesE (stepE 40) = true := by decide
theorem step_of : ofF (stepE 40) = [0, 16, 32] := by decide
theorem step_range : rangeF (ofF (stepE 40)) 40 17 = (16, 32) := by decide

end Go.Proofs.Ytmifbohdepejaaa

namespace Go.Proofs.Ytmifbohdepejaaa
open Go.RowKit

set_option maxHeartbeats 4000000 in
set_option maxRecDepth 10000 in
theorem of12_ref (p : Option Addr) (n c : Nat) (l : List En) (hn : n = l.length) (hn9 : n ≤ 1000000) (w : World) (hl : EnsAt w p l) :
    Calls Try.prog 39 #[.slice p n c] w fun e w' => ∃ v, e = .returned v ∧ NumsSoFar w (ofF l) v w' := by
  obtain ⟨i0, hi, hz0, hz1, hz2⟩ := info_parts infoU64
  have HL := Lib.hid hl
  have HN := Lib.hid hn
  clear hl hn
  go_enter Try.func39, Try.ntmps39
  go_wp2_with fail
  go_loopw [3, 8] (fun v i wr => ∃ j : Nat, j ≤ n ∧ i = .int .i64 (j : Int) ∧ Hid (NumsSoFar w (ofF (l.take j)) v wr)) (fun _ i _ => n - (intOf i).toNat)
  case atStart => exact ⟨0, Nat.zero_le _, rfl, Lib.hid ⟨World.ownsRow_nil _ _ _ _, Below.refl _ _⟩⟩
  case round =>
    obtain ⟨j, hj, rfl, HS⟩ := hrel
    by_cases hlt : j < n
    · have hdj : decide ((j : Int) < (n : Int)) = true := decide_eq_true (by omega)
      have hjl : j < l.length := by rw [← HN.out]; exact hlt
      obtain ⟨a, rfl, c0, c1⟩ := (HL.out.keep (Keeps.ofBelow HS.out.2)).at_ j hjl
      have hlk : (l.take j).length = j := by rw [List.length_take]; omega
      have HT := Lib.hid (ofF_snoc (l.take j) (l.getD j En.none))
      rw [hlk, ← take_getD hjl] at HT
      have hlen : (ofF (l.take j)).length ≤ 1000000 := by rw [ofF_length, hlk]; omega
      have htm : (j : Int).tmod 16 = ((j % 16 : Nat) : Int) := by rw [Int.tmod_eq_emod_of_nonneg (by omega)]; omega
      obtain ⟨m, hm⟩ : ∃ m, m = j % 16 := ⟨_, rfl⟩
      rw [← hm] at htm HT
      obtain ⟨r, hr⟩ : ∃ r, r = l.getD j En.none := ⟨_, rfl⟩
      rw [← hr] at c0 c1 HT
      obtain ⟨K, hK⟩ : ∃ K, K = ofF (l.take j) := ⟨_, rfl⟩
      rw [← hK] at HS HT hlen
      have HLn := Lib.hid hlen
      have HM := Lib.hid hm
      have HS1 := Lib.hid (HS.out.alloc (.cells #[.int .u64 (r.hash : Int), .int .u32 (r.at_ : Int)] 68))
      have htm2 : (j : Int) % 16 = (m : Int) := by omega
      clear hr hjl hlen hK hlk hm
      by_cases h0 : m = 0
      · subst h0
        rw [if_pos rfl] at HT
        have HS2 := Lib.hid (HS1.out.alloc (.cells #[.int .u64 (r.hash : Int)] 46))
        have HW : Hid (Whole ((wr.alloc (.cells #[.int .u64 (r.hash : Int), .int .u32 (r.at_ : Int)] 68)).alloc (.cells #[.int .u64 (r.hash : Int)] 46)) (wr.heap.size + 1) 46 #[.int .u64 (r.hash : Int)]) := Lib.hid (Whole.newAt _ _ _ _ (by simp))
        go_wp2_with (at_builtin; refine wpList_append_any rfl _ _ 47 rfl w.heap.size 46 i0 (.int .u64 0) 1 8 Try.underlying47 hi hz0 hz1 hz2 rfl (by decide) _ K.length (K.map numV) rfl HS2.out.1 (some ⟨wr.heap.size + 1, 0, none⟩) 1 1 [numV r.hash] rfl (fun h => by simp at h) rfl ?qc1 (by intro u hu; simp at hu; subst hu; rfl) (by have := HLn.out; unfold maxLen; omega) (by have := HLn.out; omega) HS2.out.2.size ?_)
        case qc1 =>
          intro ad had j' u hu
          obtain rfl := Option.some.inj had
          rw [Addr.add_lit, Nat.zero_add]
          match j', hu with
          | 0, hu => obtain rfl := Option.some.inj hu; exact HW.out.cell 0 rfl
          | k + 1, hu => simp at hu
        intro v' w5 h5 hb5
        have HS5 : Hid (NumsSoFar w (ofF (l.take (j + 1))) v' w5) := Lib.hid (by
          refine ⟨?_, HS2.out.2.trans hb5⟩
          rw [HT.out, List.map_append, List.length_append]
          exact h5)
        clear h5 hb5
        go_wp2_with fail
        exact ⟨⟨j + 1, by omega, by go_num, HS5⟩, by simp [intOf]; omega⟩
      · have hd0 : ((m : Int) == 0) = false := by rw [beq_eq_false_iff_ne]; omega
        have hd1 : (m == 0) = false := by rw [beq_eq_false_iff_ne]; exact h0
        have hd2 : decide (m = 0) = false := decide_eq_false h0
        rw [if_neg h0] at HT
        rw [← HT.out] at HS1
        go_wp2_with fail
        exact ⟨⟨j + 1, by omega, by go_num, HS1⟩, by simp [intOf]; omega⟩
    · have hdj : decide ((j : Int) < (n : Int)) = false := decide_eq_false (by omega)
      have HS2 := HS
      rw [List.take_of_length_le (by have := HN.out; omega)] at HS2
      go_wp2_with fail
      go_ret
      exact ⟨_, rfl, HS2.out⟩
end Go.Proofs.Ytmifbohdepejaaa

namespace Go.Proofs.Ytmifbohdepejaaa
open Go.RowKit

/-- How many are below, how many aren't above. -/
def twoF (fs : List Nat) (h : Nat) : Nat × Nat := (fs.countP fun f => decide (f < h), fs.countP fun f => decide (f ≤ h))
theorem twoF_take {l : List Nat} {h j : Nat} (hj : j < l.length) : twoF (l.take (j + 1)) h = ((twoF (l.take j) h).1 + (if l.getD j 0 < h then 1 else 0), (twoF (l.take j) h).2 + (if l.getD j 0 ≤ h then 1 else 0)) := by
  unfold twoF
  have e : l.take (j + 1) = l.take j ++ [l.getD j 0] := by rw [List.take_succ_eq_append_getElem hj]; simp [hj]
  rw [e, List.countP_append, List.countP_append, List.countP_cons, List.countP_cons]
  simp
theorem twoF_le (l : List Nat) (h : Nat) : (twoF l h).1 ≤ l.length ∧ (twoF l h).2 ≤ l.length := ⟨List.countP_le_length, List.countP_le_length⟩
theorem rangeF_two (l : List Nat) (N h : Nat) : rangeF l N h = if (twoF l h).2 = 0 then (0, 0) else (16 * ((twoF l h).1 - 1), min N (16 * (twoF l h).2)) := rfl

theorem two_ret {a b x y : Int} (h1 : a = x) (h2 : b = y) : Ending.returned (.tuple #[.int .i64 a, .int .i64 b]) = .returned (.tuple #[.int .i64 x, .int .i64 y]) := by rw [h1, h2]

end Go.Proofs.Ytmifbohdepejaaa

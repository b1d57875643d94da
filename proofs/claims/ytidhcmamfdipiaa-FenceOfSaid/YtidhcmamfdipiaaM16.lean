/-
  OpenE; FenHoWalk; TabFind; FenGet; FenText.
-/
import Derived.Lib.SmallJoins
import Derived.Deep.Slices
import Derived.Deep.Cut
import Derived.Test.YtidhcmamfdipiaaM04
import Derived.Test.YtidhcmamfdipiaaM05
import Derived.Test.YtidhcmamfdipiaaM08
import Derived.Test.YtidhcmamfdipiaaM09
import Derived.Test.YtidhcmamfdipiaaM14
import Derived.Test.YtidhcmamfdipiaaM15
namespace Go.Proofs.Ytidhcmamfdipiaa
open Go.Joins Go.ChangeShapes Go.WideShapes Go.ChangeAt Go.RowKit Go.Deep

theorem num_u64E {n : Int} (h : (Lit.int .u64 n).wf = true) : ∃ x : Nat, n = (x : Int) ∧ x < 18446744073709551616 := by
  have : 0 ≤ n ∧ n ≤ 18446744073709551615 := by simpa [Lit.wf, IntKind.min, IntKind.max, IntKind.signed, IntKind.bits] using h
  exact ⟨n.toNat, by omega, by omega⟩
theorem en_of_two {H : Type} {enc : TypeId × Value → H} {W : World} {sp : Nat → Bool} {v0 v1 : Value} {y0 y1 : DataW H × List MemPlace} {n0 n1 : Nat}
    (t0 : DataW.trod enc Try.prog W 0 sp true n0 23 [v0] = some y0) (t1 : DataW.trod enc Try.prog W 0 sp true n1 36 [v1] = some y1) :
    ∃ r : En, v0 = .int .u64 (r.hash : Int) ∧ v1 = .int .u32 (r.at_ : Int) ∧ r.Fine := by
  obtain ⟨a, e0, _, w0⟩ := DataW.trod_int Try.underlying23 t0
  obtain ⟨b, e1, _, w1⟩ := DataW.trod_int Try.underlying36 t1
  obtain ⟨x, rfl, hx⟩ := num_u64E w0
  have hb : 0 ≤ b ∧ b ≤ 4294967295 := by simpa [Lit.wf, IntKind.min, IntKind.max, IntKind.signed, IntKind.bits] using w1
  obtain ⟨y, rfl⟩ : ∃ y : Nat, b = (y : Int) := ⟨b.toNat, by omega⟩
  exact ⟨⟨x, y⟩, by simpa using e0, by simpa using e1, ⟨hx, by simp only; omega⟩⟩

set_option maxRecDepth 100000 in
theorem open_strE {H : Type} {enc : TypeId × Value → H} {W : World} {base : Nat} {v : Value} {d : DataW H} {ps : List MemPlace} (hv : Value.okWide Try.prog W .any base 9 v) (h : DataW.Trod enc Try.prog W 0 (fun _ => true) true 9 v d ps) :
    ∃ xs : List Int, v = .string (strOfNums xs) ∧ Octets xs ∧ xs.length ≤ 9223372036854775807 := by
  obtain ⟨fuel, hf⟩ := h
  obtain ⟨s, e0, _, hs⟩ := DataW.trod_string Try.underlying9 hf
  obtain ⟨xs, rfl, ox, lx⟩ := nums_of_str s
  unfold maxLen at hs
  obtain ⟨s', rfl⟩ := okWide_string Try.underlying9 hv
  refine ⟨xs, ?_, ox, by omega⟩
  simpa [Value.cells] using e0

set_option maxRecDepth 100000 in
theorem open_en {H : Type} {enc : TypeId × Value → H} {W : World} {base : Nat} {v : Value} {d : DataW H} {ps : List MemPlace} (hv : Value.okWide Try.prog W .any base 38 v) (h : DataW.Trod enc Try.prog W 0 (fun _ => true) true 38 v d ps) :
    ∃ r : En, v = enV r ∧ r.Fine := by
  obtain ⟨v0, v1, y0, y1, n, rfl, _, _, t0, t1⟩ := open_agg2 Try.underlying38 (by kernel_rfl) (by kernel_rfl) hv h
  obtain ⟨r, rfl, rfl, hr⟩ := en_of_two t0 t1
  exact ⟨r, rfl, hr⟩

set_option maxRecDepth 100000 in
theorem ens_of_trod {H : Type} {enc : TypeId × Value → H} {W : World} {a0 : Option Addr} {len cap : Nat} {d : DataW H} {ps : List MemPlace} (h : DataW.Trod enc Try.prog W 0 (fun _ => true) true 22 (.slice a0 len cap) d ps) :
    ∃ (p : Option Addr) (n c : Nat) (l : List En), Value.slice a0 len cap = .slice p n c ∧ InE W p n c l := by
  obtain ⟨fuel, hf⟩ := h
  rcases Go.Deep.open_slice Try.underlying22 hf with ⟨hcs, _⟩ | ⟨a, len', cap', m, n, D, Pl, hcs, _, hl, hm, hmm, _, hi⟩
  · simp [Value.cells] at hcs
    obtain ⟨rfl, rfl, rfl⟩ := hcs
    exact ⟨none, 0, 0, [], rfl, rfl, Nat.le_refl _, by omega, fun _ => ⟨rfl, rfl⟩, fun b hb => by simp at hb, fun i hi => by simp at hi⟩
  · simp [Value.cells] at hcs
    obtain ⟨rfl, rfl, rfl⟩ := hcs
    simp only [if_true] at hmm
    have hall : ∀ i, i < len → ∃ r : En, (W.cell? (a.add (i * 2)) = some (.int .u64 (r.hash : Int)) ∧ W.cell? ⟨(a.add (i * 2)).block, (a.add (i * 2)).off + 1, none⟩ = some (.int .u32 (r.at_ : Int))) ∧ r.Fine := by
      intro i hlt
      obtain ⟨cs, hc, ht⟩ := hi i (by omega)
      obtain ⟨ys, n', _, _, hlen, hyl, hfs⟩ := DataW.trod_struct Try.underlying38 ht
      have hyl2 : ys.length = 2 := hyl
      have h2 : Try.prog.cellsOf 38 = 2 := by kernel_rfl
      rw [h2] at hc hlen
      have hs : Try.prog.cellsOf 23 = 1 := by kernel_rfl
      have hs2 : Try.prog.cellsOf 36 = 1 := by kernel_rfl
      obtain ⟨_, _, hat⟩ := World.cells?_some hc
      match cs, hlen with
      | [v0, v1], _ =>
        have t0 := hfs 0 _ rfl
        have t1 := hfs 1 _ rfl
        simp only [List.getElem_toArray, List.getElem_cons_zero, List.getElem_cons_succ] at t0 t1
        simp only [hs, hs2, List.drop_zero, List.drop_succ_cons, List.take_succ_cons, List.take_zero] at t0 t1
        obtain ⟨y0, hy0⟩ : ∃ y, ys[0]? = some y := ⟨_, List.getElem?_eq_getElem (by omega)⟩
        obtain ⟨y1, hy1⟩ : ∃ y, ys[1]? = some y := ⟨_, List.getElem?_eq_getElem (by omega)⟩
        rw [hy0] at t0; rw [hy1] at t1
        obtain ⟨r, rfl, rfl, hr⟩ := en_of_two t0 t1
        have k0 : W.cell? (a.add (i * 2)) = some (.int .u64 (r.hash : Int)) := hat 0 (by omega)
        have k1 := hat 1 (by omega)
        rw [plusPlain 1 k0] at k1
        exact ⟨r, ⟨k0, k1⟩, hr⟩
    haveI : Inhabited En := ⟨En.none⟩
    obtain ⟨f, hf⟩ := Go.Deep.choose_lt (α := En) hall
    refine ⟨some a, len, cap, (List.range len).map f, rfl, by simp, hl, by unfold maxLen at hm; omega, fun h => by simp at h, fun z hz => ?_, fun i hi => ⟨a, rfl, ?_⟩⟩
    · obtain ⟨i, hi, rfl⟩ := List.mem_map.1 hz
      exact (hf i (by simpa using hi)).2
    · have hi' : i < len := by simpa using hi
      have := (hf i hi').1
      simpa [hi', enH, enA] using this

set_option maxRecDepth 100000 in
theorem open_ens {H : Type} {enc : TypeId × Value → H} {W : World} {base : Nat} {v : Value} {d : DataW H} {ps : List MemPlace} (hv : Value.okWide Try.prog W .any base 22 v) (h : DataW.Trod enc Try.prog W 0 (fun _ => true) true 22 v d ps) :
    ∃ (p : Option Addr) (n c : Nat) (l : List En), v = .slice p n c ∧ InE W p n c l := by
  obtain ⟨a0, len, cap, rfl⟩ := okWide_slice Try.underlying22 hv
  exact ens_of_trod h
end Go.Proofs.Ytidhcmamfdipiaa

namespace Go.Proofs.Ytidhcmamfdipiaa
open Go.RowKit

set_option maxHeartbeats 8000000 in
set_option maxRecDepth 10000 in
theorem fenholds_walk (H : FenOk) (HSo : SortOk) (HFd : FindOk) (p : Option Addr) (n c : Nat) (l : List En) (hash : Nat) (w : World) (h : InE w p n c l) (hh : hash < 18446744073709551616) :
    Calls Try.prog 4 #[.slice p n c, .int .u64 (hash : Int)] w fun e w' => e = .returned (.bool true) ∧ Keeps NoBlock w w' := by
  have HL := Lib.hid (fun w => lives12_true H w)
  by_cases hn : n ≤ 150
  rotate_left
  · have hd : decide ((150 : Int) < (n : Int)) = true := decide_eq_true (by omega)
    have hd2 : decide (150 < n) = true := decide_eq_true (by omega)
    have hn2 : 150 < n := by omega
    clear h H HSo HFd hn hh
    go_enter Try.func4, Try.ntmps4
    go_wp2_with fail
    refine (HL.out _).mono ?_
    rintro e w1 ⟨rfl, hk⟩
    have HK := Lib.hid hk
    clear hk
    go_wp2_with fail
    refine (HL.out _).mono ?_
    rintro e w2 ⟨rfl, hk⟩
    have HK := Lib.hid (HK.out.trans hk)
    clear hk
    go_wp2_with fail
    go_ret
    exact ⟨rfl, HK.out⟩
  have hd : decide ((150 : Int) < (n : Int)) = false := decide_eq_false (by omega)
  have hd2 : decide (150 < n) = false := decide_eq_false (by omega)
  have hn2 : ¬ 150 < n := by omega
  obtain ⟨i0, hi, hz0, hz1, hz2⟩ := info_parts infoU64
  have HAt := Lib.hid h.at_
  have hsl := sortE_len l
  rw [← h.len] at hsl
  have HFs := Lib.hid (sortE_fine h.fine)
  have HPr := Lib.hid (sortE_pair l)
  have HSt := Lib.hid (fun w h => HSo.sorted p n c l w h (by omega))
  have HIn := Lib.hid (fun w (ha : EnsAt w p l) => (show InE w p n c l from ⟨h.len, h.cap, h.room, h.bare, h.fine, ha⟩))
  have HRise := Lib.hid (sortE_rises l)
  obtain ⟨S, hS⟩ : ∃ S, S = sortE l := ⟨_, rfl⟩
  rw [← hS] at hsl HFs HPr HSt HRise
  obtain ⟨M, hM⟩ : ∃ M, M = S.length := ⟨_, rfl⟩
  rw [← hM] at hsl
  have HMl := Lib.hid hM
  have hm150 : M ≤ 150 := by omega
  have HOf := Lib.hid (fun q d w h => H.of q M d S w h (by omega) HRise.out)
  have HFn := Lib.hid (fun q d x w (hx : x < 18446744073709551616) h => HFd.find q M d S x w h (by omega) HRise.out hx)
  have HRn := Lib.hid (fun q m d x w (hx : x < 18446744073709551616) h1 h2 h3 h4 h5 => H.range q m d S M x w h1 h2 h3 h4 h5 HFs.out HMl.out (by omega) HRise.out hx)
  have HNums : Hid (∀ x ∈ [hash] ++ S.map En.hash, x < 18446744073709551616) := Lib.hid (by
    intro x hx
    rcases List.mem_append.1 hx with hx | hx
    · simp only [List.mem_cons, List.not_mem_nil, or_false] at hx
      rw [hx]
      exact hh
    · obtain ⟨e, he, rfl⟩ := List.mem_map.1 hx
      exact (HFs.out e he).hash)
  have HNl : Hid (([hash] ++ S.map En.hash).length = M + 1) := Lib.hid (by rw [List.length_append, List.length_map, ← HMl.out]; simp; omega)
  clear h H HSo HFd hM hsl hn hh hS
  go_enter Try.func4, Try.ntmps4
  go_wp2_with fail
  refine (HL.out _).mono ?_
  rintro e w1 ⟨rfl, hk⟩
  have HAt := Lib.hid (EnsAt.keep HAt.out hk)
  have HK := Lib.hid hk
  clear hk HL
  go_wp2_with fail
  refine (HSt.out _ (HIn.out _ HAt.out)).mono ?_
  rintro e w2 ⟨v, rfl, q2, m2, d2, rfl, hm, hmd, hdd, hq, hat, hk⟩
  have hme : M = m2 := by rw [hm, ← HMl.out]
  subst hme
  have HS2 := Lib.hid (show EnsAt w2 q2 S from hat)
  have HI2 := Lib.hid (fun w (ha : EnsAt w q2 S) => (show InE w q2 M d2 S from ⟨HMl.out, hmd, hdd, hq, HFs.out, ha⟩))
  have HK := Lib.hid (HK.out.trans hk)
  clear hm hmd hdd hq hat hk
  go_wp2_with fail
  refine (HOf.out q2 d2 _ (HI2.out _ HS2.out)).mono ?_
  rintro e w3 ⟨v, rfl, q3, m3, d3, rfl, hm, hmd, hdd, hq, hat, hnw, hk⟩
  have HS3 := Lib.hid (EnsAt.keep HS2.out hk)
  have HK := Lib.hid (HK.out.trans hk)
  have HF3 := Lib.hid (show RowN w3 q3 (ofF S) from hat)
  have HR3 := Lib.hid (fun x w (hx : x < 18446744073709551616) h5 => HRn.out q3 m3 d3 x w hx hm hmd hdd hq h5)
  clear hm hmd hdd hq hat hk hnw HRn HOf HSt HIn HAt HS2
  have HN3 : Hid (NumsSoFar w3 [hash] (.slice (some ⟨w3.heap.size, 0, none⟩) 1 1) (w3.alloc (.cells #[.int .u64 (hash : Int)] 23))) := Lib.hid ⟨⟨by simp, .inr ⟨w3.heap.size, 1, _, rfl, Nat.le_refl _, heap_alloc_new w3 _, Nat.le_refl _, by decide, by simp, by simp [numV]⟩⟩, (Below.refl _ w3).alloc (Nat.le_refl _) _⟩
  go_wp2_with fail
  go_loopw [7, 32] (fun v i wr => ∃ j : Nat, j ≤ M ∧ i = .int .i64 (j : Int) ∧ Hid (NumsSoFar w3 ([hash] ++ (S.take j).map En.hash) v wr)) (fun _ i _ => M - (intOf i).toNat)
  case atStart => exact ⟨0, Nat.zero_le _, rfl, HN3⟩
  case round =>
    obtain ⟨j, hj, rfl, HS⟩ := hrel
    clear HN3
    by_cases hlt : j < M
    · have hdj : decide ((j : Int) < (M : Int)) = true := decide_eq_true (by omega)
      have hdj2 : decide (j < M) = true := decide_eq_true hlt
      have hjl : j < S.length := by rw [← HMl.out]; exact hlt
      obtain ⟨a, rfl, c0, c1⟩ := (HS3.out.keep (Keeps.ofBelow HS.out.2)).at_ j hjl
      have HT : Hid (([hash] ++ (S.take j).map En.hash) ++ [(S.getD j En.none).hash] = [hash] ++ (S.take (j + 1)).map En.hash) := Lib.hid (by rw [take_getD hjl, List.map_append, List.append_assoc]; rfl)
      have hlen : ([hash] ++ (S.take j).map En.hash).length ≤ 1000000 := by rw [List.length_append, List.length_map, List.length_take]; simp; omega
      obtain ⟨r, hr⟩ : ∃ r, r = S.getD j En.none := ⟨_, rfl⟩
      rw [← hr] at c0 c1 HT
      obtain ⟨K, hK⟩ : ∃ K, K = [hash] ++ (S.take j).map En.hash := ⟨_, rfl⟩
      rw [← hK] at HS HT hlen
      have HLn := Lib.hid hlen
      have HS2 := Lib.hid ((HS.out.alloc (.cells #[.int .u64 (r.hash : Int), .int .u32 (r.at_ : Int)] 38)).alloc (.cells #[.int .u64 (r.hash : Int)] 23))
      have HW : Hid (Whole ((wr.alloc (.cells #[.int .u64 (r.hash : Int), .int .u32 (r.at_ : Int)] 38)).alloc (.cells #[.int .u64 (r.hash : Int)] 23)) (wr.heap.size + 1) 23 #[.int .u64 (r.hash : Int)]) := Lib.hid (Whole.newAt _ _ _ _ (by simp))
      clear hr hjl hlen hK
      go_wp2_with (at_builtin; refine wpList_append_any rfl _ _ 26 rfl w3.heap.size 23 i0 (.int .u64 0) 1 8 Try.underlying26 hi hz0 hz1 hz2 rfl (by decide) _ K.length (K.map numV) rfl HS2.out.1 (some ⟨wr.heap.size + 1, 0, none⟩) 1 1 [numV r.hash] rfl (fun h => by simp at h) rfl ?qc1 (by intro u hu; simp at hu; subst hu; rfl) (by have := HLn.out; unfold maxLen; omega) (by have := HLn.out; omega) HS2.out.2.size ?_)
      case qc1 =>
        intro ad had j' u hu
        obtain rfl := Option.some.inj had
        rw [Addr.add_lit, Nat.zero_add]
        match j', hu with
        | 0, hu => obtain rfl := Option.some.inj hu; exact HW.out.cell 0 rfl
        | k + 1, hu => simp at hu
      intro v' w5 h5 hb5
      have HS5 : Hid (NumsSoFar w3 ([hash] ++ (S.take (j + 1)).map En.hash) v' w5) := Lib.hid (by
        refine ⟨?_, HS2.out.2.trans hb5⟩
        rw [← HT.out, List.map_append, List.length_append]
        exact h5)
      clear h5 hb5
      go_wp2_with fail
      exact ⟨⟨j + 1, by omega, by go_num, HS5⟩, by simp [intOf]; omega⟩
    · have hdj : decide ((j : Int) < (M : Int)) = false := decide_eq_false (by omega)
      have hdj2 : decide (j < M) = false := decide_eq_false hlt
      rw [List.take_of_length_le (by have := HMl.out; omega)] at HS
      have hk4 : Keeps NoBlock w3 wr := Keeps.ofBelow HS.out.2
      have HS4 := Lib.hid (EnsAt.keep HS3.out hk4)
      have HF4 := Lib.hid (RowN.keep HF3.out hk4 (fun _ _ h => h))
      have HK4 := Lib.hid (HK.out.trans hk4)
      obtain ⟨q5, m5, d5, rfl, hbare5, hm5, hcell5⟩ := own_nums HS.out.1
      have hm5n : m5 = M + 1 := by rw [hm5, HNl.out]
      obtain ⟨ad, rfl⟩ : ∃ ad, q5 = some ad := by
        cases q5 with
        | none => have := (hbare5 rfl).1; omega
        | some ad => exact ⟨ad, rfl⟩
      have HC5 := Lib.hid (hcell5 ad rfl)
      obtain ⟨N, hN⟩ : ∃ N, N = M + 1 := ⟨_, rfl⟩
      rw [← hN] at hm5n HNl
      subst hm5n
      have hm151 : m5 ≤ 151 := by omega
      obtain ⟨L, hL⟩ : ∃ L, L = [hash] ++ S.map En.hash := ⟨_, rfl⟩
      rw [← hL] at HC5 HNums HNl
      clear hbare5 hm5 hcell5 hL hk4 HS hN hlt
      go_wp2_with fail
      go_loopw [44] (fun i wq => ∃ j : Nat, j ≤ m5 ∧ i = .int .i64 (j : Int) ∧ Hid (Keeps NoBlock wr wq)) (fun i _ => m5 - (intOf i).toNat)
      case atStart => exact ⟨0, Nat.zero_le _, rfl, Lib.hid (Keeps.refl _ _)⟩
      case round =>
        rename_i wq _
        obtain ⟨j, hj, rfl, HKr⟩ := hrel
        by_cases hlt : j < m5
        · have hdj : decide (j < m5) = true := decide_eq_true hlt
          have hdj2 : decide ((j : Int) < (m5 : Int)) = true := decide_eq_true (by omega)
          have hjl : j < L.length := by rw [HNl.out]; exact hlt
          have hx := HNums.out _ (by simp [hjl] : L.getD j 0 ∈ L)
          have hcell := HKr.out.cell (HC5.out j (numV (L.getD j 0)) (by simp [List.getElem?_map, List.getElem?_eq_getElem hjl])) (fun h => h)
          obtain ⟨x, hxd⟩ : ∃ x, x = L.getD j 0 := ⟨_, rfl⟩
          rw [← hxd] at hx hcell
          unfold numV at hcell
          have HFx := Lib.hid (fun q d w h => HFn.out q d x w hx h)
          have HRx := Lib.hid (fun w h5 => HR3.out x w hx h5)
          obtain ⟨g1, g2, g3, g4, g5⟩ := range_holds HPr.out x
          rw [← HMl.out] at g1 g2 g3 g4 g5
          have g6 := (findE_two S x).1
          have g7 := (findE_two S x).2
          rw [← HMl.out] at g7
          obtain ⟨A, hA⟩ : ∃ A, A = (findE S x).1 := ⟨_, rfl⟩
          obtain ⟨B, hB⟩ : ∃ B, B = (findE S x).2 := ⟨_, rfl⟩
          rw [← hA, ← hB] at HFx
          rw [← hA, ← hB] at g4 g5 g6
          rw [← hB] at g7
          obtain ⟨C, hC⟩ : ∃ C, C = (rangeF (ofF S) M x).1 := ⟨_, rfl⟩
          obtain ⟨D, hD⟩ : ∃ D, D = (rangeF (ofF S) M x).2 := ⟨_, rfl⟩
          rw [← hC, ← hD] at HRx g2 g4 g5
          rw [← hC] at g3
          rw [← hD] at g1
          have t0 : decide ((C : Int) < 0) = false := decide_eq_false (by omega)
          have t1 : decide ((M : Int) < (D : Int)) = false := decide_eq_false (by omega)
          have t2 : decide ((D : Int) < (C : Int)) = false := decide_eq_false (by omega)
          have t1' : decide (M < D) = false := decide_eq_false (by omega)
          have t2' : decide (D < C) = false := decide_eq_false (by omega)
          have t3 : (C : Int).tmod 16 = 0 := by rw [Int.tmod_eq_emod_of_nonneg (by omega)]; omega
          have t3' : (C : Int) % 16 = 0 := by omega
          obtain ⟨Q, hQ⟩ : ∃ Q, Q = (B - A + 15) / 16 := ⟨_, rfl⟩
          rw [← hQ] at g5
          have t4 : ((B : Int) - (A : Int) + 15).tdiv 16 = (Q : Int) := by rw [Int.tdiv_eq_ediv_of_nonneg (by omega)]; omega
          have t4' : ((B : Int) - (A : Int) + 15) / 16 = (Q : Int) := by omega
          have hQ9 : Q ≤ 20 := by omega
          have t5 : decide (16 * ((Q : Int) + 2) < (D : Int) - (C : Int)) = false := decide_eq_false (by omega)
          have hB9 : B ≤ 150 := by omega
          have hD9 : D ≤ 150 := by omega
          have HSr := Lib.hid (EnsAt.keep HS4.out HKr.out)
          have HFr := Lib.hid (RowN.keep HF4.out HKr.out (fun _ _ h => h))
          clear hxd hA hB hC hD hQ hjl g3 g5
          go_wp2_with fail
          refine (HRx.out _ HFr.out).mono ?_
          rintro e w6 ⟨rfl, hk⟩
          have HSr := Lib.hid (EnsAt.keep HSr.out hk)
          have HKr := Lib.hid (HKr.out.trans hk)
          clear hk
          go_wp2_with fail
          refine (HFx.out q2 d2 _ (HI2.out _ HSr.out)).mono ?_
          rintro e w7 ⟨rfl, hk⟩
          have HKr := Lib.hid (HKr.out.trans hk)
          clear hk
          by_cases hAB : A < B
          · have u1 : decide ((A : Int) < (B : Int)) = true := decide_eq_true (by omega)
            have u1' : decide (A < B) = true := decide_eq_true hAB
            have u2 : decide ((A : Int) < (C : Int)) = false := decide_eq_false (by have := g4 hAB; omega)
            have u2' : decide (A < C) = false := decide_eq_false (by have := g4 hAB; omega)
            have u3 : decide ((D : Int) < (B : Int)) = false := decide_eq_false (by have := g4 hAB; omega)
            have u3' : decide (D < B) = false := decide_eq_false (by have := g4 hAB; omega)
            clear g4
            go_wp2_with fail
            exact ⟨⟨j + 1, by omega, by go_num, HKr⟩, by simp [intOf]; omega⟩
          · have u1 : decide ((A : Int) < (B : Int)) = false := decide_eq_false (by omega)
            have u1' : decide (A < B) = false := decide_eq_false hAB
            clear g4
            go_wp2_with fail
            exact ⟨⟨j + 1, by omega, by go_num, HKr⟩, by simp [intOf]; omega⟩
        · have hdj : decide (j < m5) = false := decide_eq_false hlt
          have hdj2 : decide ((j : Int) < (m5 : Int)) = false := decide_eq_false (by omega)
          go_wp2_with fail
          go_ret
          exact ⟨by first | rfl | simp, HK4.out.trans HKr.out⟩
end Go.Proofs.Ytidhcmamfdipiaa

namespace Go.Proofs.Ytidhcmamfdipiaa
open Go.RowKit Go.Sort Go.Shelf Go.Lib

theorem ask_from (h hash b : Nat) (W : World) (hb : W.cell? ⟨b, 0, none⟩ = some (.int .u64 (hash : Int))) :
    Calls Try.prog 37 #[.int .u64 (h : Int), .pointer (some ⟨b, 0, none⟩)] W fun e w' => e = .returned (.bool (decide (hash ≤ h))) ∧ w' = W := by
  go_enter Try.func37, Try.ntmps37
  go_wp2_with fail
  go_ret
  exact ⟨rfl, rfl⟩
theorem ask_to (h hash b : Nat) (W : World) (hb : W.cell? ⟨b, 0, none⟩ = some (.int .u64 (hash : Int))) :
    Calls Try.prog 38 #[.int .u64 (h : Int), .pointer (some ⟨b, 0, none⟩)] W fun e w' => e = .returned (.bool (decide (hash < h))) ∧ w' = W := by
  go_enter Try.func38, Try.ntmps38
  go_wp2_with fail
  go_ret
  exact ⟨rfl, rfl⟩

/-- A question that is asked of a number, by a box that holds another one. -/
def AskAt (G b hash : Nat) (Pq : Nat → Bool) : Prop :=
  (∀ args w, (callFunc G args).run Try.prog w = .ok (.enter G args) w) ∧
  ∀ (h : Nat) (W : World), W.cell? ⟨b, 0, none⟩ = some (.int .u64 (hash : Int)) → Calls Try.prog G #[.int .u64 (h : Int), .pointer (some ⟨b, 0, none⟩)] W fun e w' => e = .returned (.bool (Pq h)) ∧ w' = W
theorem askFrom (b hash : Nat) : AskAt 37 b hash (fun h => decide (hash ≤ h)) := ⟨enters_of Try.func37 (by kernel_rfl) rfl, fun h W hb => ask_from h hash b W hb⟩
theorem askTo (b hash : Nat) : AskAt 38 b hash (fun h => decide (hash < h)) := ⟨enters_of Try.func38 (by kernel_rfl) rfl, fun h W hb => ask_to h hash b W hb⟩

set_option maxHeartbeats 2000000 in
set_option maxRecDepth 10000 in
theorem inner_own (G b hash : Nat) (Pq : Nat → Bool) (hA : AskAt G b hash Pq) (p : Option Addr) (n c : Nat) (l : List En) (hn : n = l.length) (bq bl : Nat) (i : Nat) (hi : i < n) (_hn9 : n ≤ 1000000) (W : World)
    (hq : W.cell? ⟨bq, 0, none⟩ = some (.func (.func G) #[] #[.pointer (some ⟨b, 0, none⟩)])) (hl : W.cell? ⟨bl, 0, none⟩ = some (.slice p n c)) (hb : W.cell? ⟨b, 0, none⟩ = some (.int .u64 (hash : Int))) (hat : EnsAt W p l) :
    Calls Try.prog 36 #[.int .i64 (i : Int), .pointer (some ⟨bq, 0, none⟩), .pointer (some ⟨bl, 0, none⟩)] W fun e w' => e = .returned (.bool (Pq (l.getD i En.none).hash)) ∧ ∃ q os, w' = grow (W.drewN q) os := by
  have mixed : Try.prog.follows .mixedOrders = true := by kernel_rfl
  obtain ⟨a, rfl, c0, c1⟩ := hat.at_ i (by omega)
  obtain ⟨r, hr⟩ : ∃ r, r = l.getD i En.none := ⟨_, rfl⟩
  rw [← hr] at c0 ⊢
  obtain ⟨z, hz⟩ : ∃ z, z = Pq r.hash := ⟨_, rfl⟩
  have eG := hA.1
  have hcall := fun n os => hA.2 r.hash (grow (W.drewN n) os) (cellG hb n os)
  rw [← hz] at hcall ⊢
  have HC : Hid (∀ n os, Calls Try.prog G #[.int .u64 (r.hash : Int), .pointer (some ⟨b, 0, none⟩)] (grow (W.drewN n) os) fun e w' => e = .returned (.bool z) ∧ ∃ q os', w' = grow ((grow (W.drewN n) os).drewN q) os') := Lib.hid (fun n os => (hcall n os).mono fun e w' ⟨h1, h2⟩ => ⟨h1, 0, #[], by rw [h2, grow_empty]; rfl⟩)
  have Q0 : ∀ n os, (grow (W.drewN n) os).cell? _ = _ := fun n os => cellG hq n os
  have L0 : ∀ n os, (grow (W.drewN n) os).cell? _ = _ := fun n os => cellG hl n os
  have C0 : ∀ n os, (grow (W.drewN n) os).cell? _ = _ := fun n os => cellG c0 n os
  have hin : (i : Int) < (n : Int) := by omega
  clear hA hat c0 c1 hq hl hb hcall hr hz hn
  go_enter Try.func36, Try.ntmps36
  go_wp2_with fail
  go_quiet_grown ((go_at_fn G; exact Calls.grown_of (HC.out _ _)))
  go_wp2_with fail
  go_ret
  exact ⟨rfl, nq, osq, rfl⟩

theorem rises_hash {l : List En} (h : risesE l = true) {i j : Nat} (hij : i ≤ j) (hj : j < l.length) : (l.getD i En.none).hash ≤ (l.getD j En.none).hash := by
  have hp := risesE_pair.1 h
  by_cases e : i = j
  · rw [e]; exact Nat.le_refl _
  · have := List.pairwise_iff_getElem.1 hp i j (by omega) hj (by omega)
    have e1 : l.getD i En.none = l[i] := by simp [show i < l.length by omega]
    have e2 : l.getD j En.none = l[j] := by simp [hj]
    rw [e1, e2]
    unfold LessE at this
    omega
theorem count_row (l : List En) (f : En → Bool) : (List.range l.length).countP (fun i => f (l.getD i En.none)) = l.countP f := by
  have h := Lib.countP_range l.toArray f
  have e : ∀ i, i < l.length → l.toArray[i]! = l.getD i En.none := fun i hi => by
    rw [getElem!_pos l.toArray i (by simpa using hi)]
    simp [hi]
  have h2 : (List.range l.length).countP (fun i => f (l.getD i En.none)) = (List.range l.toArray.size).countP (fun i => f l.toArray[i]!) := by
    rw [show l.toArray.size = l.length by simp]
    apply List.countP_congr
    intro i hi
    rw [e i (by simpa using hi)]
  rw [h2, h]

set_option maxHeartbeats 2000000 in
set_option maxRecDepth 10000 in
theorem first_own (G b hash : Nat) (Pq : Nat → Bool) (hA : AskAt G b hash Pq) (hm : ∀ x y, x ≤ y → Pq x = true → Pq y = true) (p : Option Addr) (n c : Nat) (l : List En) (hn : n = l.length) (hr : risesE l = true) (bl : Nat) (hn9 : n ≤ 1000000) (W : World)
    (hl : W.cell? ⟨bl, 0, none⟩ = some (.slice p n c)) (hb : W.cell? ⟨b, 0, none⟩ = some (.int .u64 (hash : Int))) (hat : EnsAt W p l) :
    Calls Try.prog 35 #[.func (.func G) #[] #[.pointer (some ⟨b, 0, none⟩)], .pointer (some ⟨bl, 0, none⟩)] W fun e w' => e = .returned (.int .i64 ((l.countP fun x => !Pq x.hash : Nat) : Int)) ∧ Grown W w' := by
  obtain ⟨V, hV⟩ : ∃ V, V = W.alloc (.cells #[.func (.func G) #[] #[.pointer (some ⟨b, 0, none⟩)]] 69) := ⟨_, rfl⟩
  have hk : Grown W V := by rw [hV]; exact (Grown.refl W).alloc _
  have hql : V.cell? ⟨W.heap.size, 0, none⟩ = some (.func (.func G) #[] #[.pointer (some ⟨b, 0, none⟩)]) := by rw [hV]; exact Whole.cell (Whole.new W _ _) 0 rfl
  have hl2 : V.cell? ⟨bl, 0, none⟩ = some (.slice p n c) := hk.keeps.cell hl (fun h => h)
  have hb2 : V.cell? ⟨b, 0, none⟩ = some (.int .u64 (hash : Int)) := hk.keeps.cell hb (fun h => h)
  have hat2 : EnsAt V p l := EnsAt.keep hat hk.keeps
  have hcon := Any.sort_Search searchLay 36 #[.pointer (some ⟨W.heap.size, 0, none⟩), .pointer (some ⟨bl, 0, none⟩)] n (fun i => Pq (l.getD i En.none).hash) V (enters_of Try.func36 (by kernel_rfl) rfl) (by omega)
    (fun m os i hi => inner_own G b hash Pq hA p n c l hn W.heap.size bl i hi hn9 _ (cellG hql m os) (cellG hl2 m os) (cellG hb2 m os) (EnsAt.keep hat2 (show Grown V _ from ⟨m, os, rfl⟩).keeps))
    (fun i j hij hj h => hm _ _ (rises_hash hr hij (by omega)) h)
  change Calls Try.prog 32 _ _ _ at hcon
  have hc2 := count_row l (fun x => !Pq x.hash)
  rw [← hn] at hc2
  rw [hc2] at hcon
  obtain ⟨K, hK⟩ : ∃ K, K = l.countP (fun x => !Pq x.hash) := ⟨_, rfl⟩
  rw [← hK] at hcon ⊢
  have HC := Lib.hid hcon
  have HG := Lib.hid hk
  have l1 := hl2
  clear hcon hc2 hK hat hat2 hA hm hr hk hql hb hb2 hn hl2
  go_enter Try.func35, Try.ntmps35
  rw [hV] at HC HG l1
  clear hV
  go_wp2_with fail
  refine HC.out.mono ?_
  rintro e w2 ⟨rfl, q, os, rfl⟩
  go_wp2_with fail
  go_ret
  exact ⟨rfl, HG.out.trans ⟨q, os, rfl⟩⟩

set_option maxHeartbeats 2000000 in
set_option maxRecDepth 10000 in
theorem find_own (p : Option Addr) (n c : Nat) (l : List En) (h : Nat) (w : World) (hn : n = l.length) (hn9 : n ≤ 1000000) (hr : risesE l = true) (hat : EnsAt w p l) :
    Calls Try.prog 16 #[.slice p n c, .int .u64 (h : Int)] w fun e w' => e = .returned (.tuple #[.int .i64 ((findE l h).1 : Int), .int .i64 ((findE l h).2 : Int)]) ∧ Keeps NoBlock w w' := by
  have e1 : (findE l h).1 = l.countP (fun x => !decide (h ≤ x.hash)) := by
    unfold findE
    apply List.countP_congr
    intro x _
    simp
  have e2 : (findE l h).2 = l.countP (fun x => !decide (h < x.hash)) := by
    unfold findE
    apply List.countP_congr
    intro x _
    simp
  have HF := Lib.hid (fun W hl hb hat => first_own 37 (w.heap.size + 1) h (fun x => decide (h ≤ x)) (askFrom _ _) (fun x y hxy hx => decide_eq_true (by have := of_decide_eq_true hx; omega)) p n c l hn hr w.heap.size hn9 W hl hb hat)
  have HT := Lib.hid (fun W hl hb hat => first_own 38 (w.heap.size + 1) h (fun x => decide (h < x)) (askTo _ _) (fun x y hxy hx => decide_eq_true (by have := of_decide_eq_true hx; omega)) p n c l hn hr w.heap.size hn9 W hl hb hat)
  rw [← e1] at HF
  rw [← e2] at HT
  clear e1 e2
  obtain ⟨A, hA⟩ : ∃ A, A = (findE l h).1 := ⟨_, rfl⟩
  obtain ⟨B, hB⟩ : ∃ B, B = (findE l h).2 := ⟨_, rfl⟩
  rw [← hA] at HF ⊢
  rw [← hB] at HT ⊢
  clear hA hB
  obtain ⟨V, hV⟩ : ∃ V, V = (w.alloc (.cells #[.slice p n c] 22)).alloc (.cells #[.int .u64 (h : Int)] 23) := ⟨_, rfl⟩
  have HK : Hid (Keeps NoBlock w V) := Lib.hid (by rw [hV]; exact ((Keeps.refl _ w).alloc _).alloc _)
  have HL : Hid (V.cell? ⟨w.heap.size, 0, none⟩ = some (.slice p n c)) := Lib.hid (by rw [hV]; exact Whole.cell ((Whole.new w _ _).alloc _) 0 rfl)
  have HB : Hid (V.cell? ⟨w.heap.size + 1, 0, none⟩ = some (.int .u64 (h : Int))) := Lib.hid (by rw [hV]; exact Whole.cell (Whole.newAt (w.alloc (.cells #[.slice p n c] 22)) _ _ (w.heap.size + 1) (by simp)) 0 rfl)
  have HE := Lib.hid (EnsAt.keep hat HK.out)
  clear hat hn hr
  go_enter Try.func16, Try.ntmps16
  go_wp2_with fail
  rw [← hV]
  clear hV
  refine (HF.out _ HL.out HB.out HE.out).mono ?_
  rintro e w1 ⟨rfl, hk⟩
  have HK1 := Lib.hid (HK.out.trans hk.keeps)
  have HL1 := Lib.hid (hk.keeps.cell HL.out (fun h => h))
  have HB1 := Lib.hid (hk.keeps.cell HB.out (fun h => h))
  have HE1 := Lib.hid (EnsAt.keep HE.out hk.keeps)
  clear hk HL HB HE HK
  go_wp2_with fail
  refine (HT.out _ HL1.out HB1.out HE1.out).mono ?_
  rintro e w2 ⟨rfl, hk⟩
  have HK2 := Lib.hid (HK1.out.trans hk.keeps)
  clear hk
  go_wp2_with fail
  refine bodyPost_ret (results_tmp2 rfl _ _ _) rfl ?_
  exact ⟨rfl, HK2.out⟩
theorem find_ok : FindOk := ⟨fun p n c l h w hi h9 hr _ => find_own p n c l h w hi.len (by omega) hr hi.at_⟩
end Go.Proofs.Ytidhcmamfdipiaa

namespace Go.Proofs.Ytidhcmamfdipiaa
open Go.RowKit

theorem NumsSoFar.cell {w0 wr : World} {l : List Nat} {ad : Addr} {m d : Nat} (h : NumsSoFar w0 l (.slice (some ad) m d) wr) {j : Nat} (hj : j < l.length) : wr.cell? (ad.add j) = some (.int .u64 ((l.getD j 0 : Nat) : Int)) := by
  obtain ⟨q', m', d', e, _, _, hc⟩ := own_nums h.1
  injection e with e1 e2 e3
  rw [hc ad e1.symm j (numV (l.getD j 0)) (by simp [hj])]
  rfl
theorem NumsSoFar.nil {w0 wr : World} (h : Below w0.heap.size w0 wr) : NumsSoFar w0 [] (.slice none 0 0) wr := ⟨World.ownsRow_nil _ _ _ _, h⟩
def GotF (w : World) (xs : List Int) (a : Int) (t : GF) (e : Ending) (w' : World) : Prop := ∃ v, e = .returned (.tuple #[rdr (xs.drop t.m) (a + t.m) t.y, v]) ∧ NumsSoFar w t.l v w'

set_option maxHeartbeats 8000000 in
set_option maxRecDepth 10000 in
theorem get12_ref (n : Int) (xs : List Int) (ho : Octets xs) (hl : xs.length ≤ 1000000) (a : Int) (ha : 0 ≤ a ∧ a ≤ 1000000000) (w : World) :
    Calls Try.prog 25 #[rdr xs a 0, .int .i64 n] w (GotF w xs a (getF n xs)) := by
  have HF := Lib.hid (fun xs a y w => fail_ref xs a y w)
  have HR0 : Hid (Whole (w.alloc (.cells (rdrCells xs a 0) 54)) w.heap.size 54 (rdrCells xs a 0)) := Lib.hid (Whole.new _ _ _)
  have hsz := str_size xs
  unfold getF
  by_cases hn0 : n ≤ 0
  · rw [if_pos hn0]
    have hd : decide (n ≤ 0) = true := decide_eq_true hn0
    unfold GotF
    simp only [List.drop_zero, Int.natCast_zero, Int.add_zero]
    unfold rdr
    clear HF ho hl ha
    go_enter Try.func25, Try.ntmps25
    go_wp2_with fail
    exact bodyPost_ret (v := .tuple #[.agg #[.string (strOfNums xs), .int .i64 a, .int .i64 0], .slice none 0 0]) (by simp [results, Try.results25, go_sem]) rfl ⟨_, rfl, NumsSoFar.nil (((Below.refl _ w).alloc (Nat.le_refl _) _).alloc (by simp) _)⟩
  · rw [if_neg hn0]
    obtain ⟨N, rfl⟩ : ∃ N : Nat, n = (N : Int) := ⟨n.toNat, by omega⟩
    rw [Int.toNat_natCast]
    have hd : decide ((N : Int) ≤ 0) = false := decide_eq_false hn0
    have hd2 : decide (N ≤ 0) = false := decide_eq_false (by omega)
    have hN0 : ¬ N = 0 := by omega
    obtain ⟨L, hL⟩ : ∃ L, L = xs.length := ⟨_, rfl⟩
    rw [← hL] at hsz hl ⊢
    have hq : ((L : Int)).tdiv 8 = ((L / 8 : Nat) : Int) := by rw [Int.tdiv_eq_ediv_of_nonneg (by omega)]; omega
    obtain ⟨K, hK⟩ : ∃ K, K = L / 8 := ⟨_, rfl⟩
    rw [← hK] at hq ⊢
    have hq2 : (L : Int) / 8 = (K : Int) := by omega
    have hK9 : K ≤ 1000000 := by omega
    by_cases hs : K < N
    · rw [if_pos hs]
      have hd3 : decide ((K : Int) < (N : Int)) = true := decide_eq_true (by omega)
      have hd4 : decide (K < N) = true := decide_eq_true hs
      unfold GotF
      simp only [List.drop_zero, Int.natCast_zero, Int.add_zero]
      have HF1 := Lib.hid (fun w => HF.out xs a 2 w)
      unfold rdr at HF1 ⊢
      clear HF ho hl ha hK hL
      go_enter Try.func25, Try.ntmps25
      go_wp2_with fail
      refine (HF1.out _).mono ?_
      rintro e w1 ⟨rfl, hk⟩
      have hB : Below w.heap.size w w1 := (((Below.refl _ w).alloc (Nat.le_refl _) (.cells #[.string (strOfNums xs), .int .i64 a, .int .i64 0] 54)).alloc (by simp) (.cells #[.string ⟨#[]⟩, .int .i64 0, .int .i64 0] 54)).trans (hk.below (by simp; omega) (fun _ _ h => h))
      have HB := Lib.hid hB
      have hN := (Whole.newAt (w.alloc (.cells #[.string (strOfNums xs), .int .i64 a, .int .i64 0] 54)) 54 #[.string ⟨#[]⟩, .int .i64 0, .int .i64 0] (w.heap.size + 1) (by simp)).keep hk (fun h => h)
      have c0 := hN.cell 0 rfl
      have c1 := hN.cell 1 rfl
      have c2 := hN.cell 2 rfl
      have f0 := hN.free 0
      have f1 := hN.free 1
      have f2 := hN.free 2
      simp only [List.getElem_toArray, List.getElem_cons_zero, List.getElem_cons_succ] at c0 c1 c2
      clear hk hN hB
      go_wp2_with fail
      exact bodyPost_ret (v := .tuple #[.agg #[.string (strOfNums xs), .int .i64 a, .int .i64 2], .slice none 0 0]) (by simp [results, Try.results25, go_sem, c0, c1, c2]) rfl ⟨_, rfl, NumsSoFar.nil (((HB.out.setCell (by simp) _).setCell (by simp) _).setCell (by simp) _)⟩
    · rw [if_neg hs]
      have hd3 : decide ((K : Int) < (N : Int)) = false := decide_eq_false (by omega)
      have hd4 : decide (K < N) = false := decide_eq_false hs
      have hroom : 8 * N ≤ L := by omega
      obtain ⟨t, ht⟩ : ∃ t, t = if risesF (takeF N xs) = true then (⟨8 * N, 0, takeF N xs⟩ : GF) else ⟨8 * N, 8, []⟩ := ⟨_, rfl⟩
      rw [← ht]
      have HTt := Lib.hid ht
      clear ht
      have HG := Lib.hid (fun (ys : List Int) (b : Int) (z : Int) (k : Nat) (hz : z = k) (h0 : 0 < k) (h1 : k ≤ ys.length) (h8 : k ≤ 8) (hl : ys.length ≤ 1000000) (hb : 0 ≤ b ∧ b ≤ 2000000000) (hoy : Octets ys) w => get1_ref ys b z k hz h0 h1 h8 (by omega) (by omega) hoy w)
      have HO := Lib.hid ho
      have HL := Lib.hid hL
      unfold rdr at HG HF ⊢
      unfold GotF
      unfold rdr
      have HW1 : Hid (Whole ((w.alloc (.cells #[.string (strOfNums xs), .int .i64 a, .int .i64 0] 54)).alloc (.cells #[.string ⟨#[]⟩, .int .i64 0, .int .i64 0] 54)) w.heap.size 54 (rdrCells xs a 0)) := Lib.hid ((Whole.new w _ _).alloc _)
      have HW2 : Hid (Whole ((w.alloc (.cells #[.string (strOfNums xs), .int .i64 a, .int .i64 0] 54)).alloc (.cells #[.string ⟨#[]⟩, .int .i64 0, .int .i64 0] 54)) (w.heap.size + 1) 54 (rdrCells [] 0 0)) := Lib.hid (Whole.newAt _ _ _ _ (by simp))
      have HB0 : Hid (NumsSoFar w [] (.slice none 0 0) ((w.alloc (.cells #[.string (strOfNums xs), .int .i64 a, .int .i64 0] 54)).alloc (.cells #[.string ⟨#[]⟩, .int .i64 0, .int .i64 0] 54))) := Lib.hid (NumsSoFar.nil (((Below.refl _ w).alloc (Nat.le_refl _) _).alloc (by simp) _))
      clear ho hL hK HR0
      go_enter Try.func25, Try.ntmps25
      go_wp2_with fail
      go_loopw [6, 7, 28] (fun v f i wr => ∃ j : Nat, j ≤ N ∧ i = .int .i64 (j : Int) ∧ f = .bool (!risesF (takeF j xs)) ∧ Hid (NumsSoFar w (takeF j xs) v wr) ∧ Hid (Whole wr w.heap.size 54 (rdrCells (xs.drop (8 * j)) (a + (8 * j : Nat)) 0)) ∧ Hid (Whole wr (w.heap.size + 1) 54 (rdrCells [] 0 0))) (fun _ _ i _ => N - (intOf i).toNat)
      case atStart => exact ⟨0, Nat.zero_le _, rfl, rfl, HB0, by simpa using HW1, HW2⟩
      case round =>
        obtain ⟨j, hj, rfl, rfl, HS, HA, HZ⟩ := hrel
        have c0 := HA.out.cell 0 rfl
        have c1 := HA.out.cell 1 rfl
        have c2 := HA.out.cell 2 rfl
        have f0 := HA.out.free 0
        have f1 := HA.out.free 1
        have f2 := HA.out.free 2
        simp only [rdrCells, List.getElem_toArray, List.getElem_cons_zero, List.getElem_cons_succ] at c0 c1 c2
        have hwz : w.heap.size + 1 < wr.heap.size := HZ.out.lt
        obtain ⟨q, m, d, rfl, hbare, hmR, hcR⟩ := own_nums HS.out.1
        rw [takeF_length] at hmR
        subst hmR
        clear hcR
        by_cases hlt : m < N
        · have hdj : decide ((m : Int) < (N : Int)) = true := decide_eq_true (by omega)
          have hdj2 : decide (m < N) = true := decide_eq_true hlt
          have HT := Lib.hid (takeF_snoc m xs)
          have hylen : (xs.drop (8 * m)).length + 8 * m = L := by rw [List.length_drop, ← HL.out]; omega
          have hyo := HO.out.drop (8 * m)
          have HNx : Hid (xs.drop (8 * (m + 1)) = (xs.drop (8 * m)).drop 8) := Lib.hid (by rw [List.drop_drop, show 8 * m + 8 = 8 * (m + 1) by omega])
          have hpos : a + ((8 * (m + 1) : Nat) : Int) = a + ((8 * m : Nat) : Int) + 8 := by omega
          obtain ⟨ys, hys⟩ : ∃ ys, ys = xs.drop (8 * m) := ⟨_, rfl⟩
          rw [← hys] at c0 HT hylen hyo HNx HA
          obtain ⟨b, hb⟩ : ∃ b, b = a + ((8 * m : Nat) : Int) := ⟨_, rfl⟩
          rw [← hb] at c1 hpos HA
          have HG8 := Lib.hid (fun w => HG.out ys b 8 8 rfl (by decide) (by omega) (by decide) (by omega) (by omega) hyo w)
          have hb8 := le_bound (ys.take 8) (hyo.take 8)
          rw [show (ys.take 8).length = 8 by rw [List.length_take]; omega] at hb8
          obtain ⟨h, hh⟩ : ∃ h : Nat, le (ys.take 8) = (h : Int) := ⟨(le (ys.take 8)).toNat, by omega⟩
          rw [hh, Int.toNat_natCast] at HT
          rw [hh] at HG8
          have hlenj := takeF_length m xs
          obtain ⟨y8, hy8⟩ : ∃ y8, y8 = ys.drop 8 := ⟨_, rfl⟩
          rw [← hy8] at HG8 HNx
          have HPos := Lib.hid hpos
          have hfm := falls_more (takeF m xs) h
          rw [← HT.out, hlenj] at hfm
          have HFm := Lib.hid hfm
          obtain ⟨R, hR⟩ : ∃ R, R = takeF m xs := ⟨_, rfl⟩
          rw [← hR] at HS HT hlenj HFm ⊢
          have HLj := Lib.hid (show R.length = m from hlenj)
          obtain ⟨R2, hR2⟩ : ∃ R2, R2 = takeF (m + 1) xs := ⟨_, rfl⟩
          rw [← hR2] at HT HFm
          have HR2 := Lib.hid hR2
          have hj9 : m ≤ 1000000 := by omega
          clear hylen hyo hys hb hb8 hh hlenj hpos hy8 hR hR2 hfm
          go_wp2_with fail
          refine (HG8.out _).mono ?_
          rintro e w1 ⟨rfl, hk⟩
          have HS1 := Lib.hid (HS.out.keep hk)
          have HA1 := Lib.hid (HA.out.keep hk (fun h => h))
          have HZ1 := Lib.hid (HZ.out.keep hk (fun h => h))
          have HSz : Hid (w.heap.size + 1 < w1.heap.size) := Lib.hid HZ1.out.lt
          clear hk c0 c1 c2 f0 f1 f2
          have HX := Lib.hid (Whole.new w1 54 (rdrCells y8 (b + 8) 0))
          have HS3 := Lib.hid (HS1.out.alloc (.cells (rdrCells y8 (b + 8) 0) 54))
          have HA3 := Lib.hid (HA1.out.alloc (.cells (rdrCells y8 (b + 8) 0) 54))
          have HZ3 := Lib.hid (HZ1.out.alloc (.cells (rdrCells y8 (b + 8) 0) 54))
          have d0 := HA3.out.cell 0 rfl
          have d1 := HA3.out.cell 1 rfl
          have d2 := HA3.out.cell 2 rfl
          have df0 := HA3.out.free 0
          have df1 := HA3.out.free 1
          have df2 := HA3.out.free 2
          simp only [rdrCells, List.getElem_toArray, List.getElem_cons_zero, List.getElem_cons_succ] at d0 d1 d2
          simp only [rdrCells] at df0 df1 df2
          have hne : ¬ w.heap.size = w1.heap.size := by have := HSz.out; omega
          have hne2 : ¬ w1.heap.size = w.heap.size := by have := HSz.out; omega
          go_upto_region 12 with (fail)
          have hA4 := ((HA3.out.set 0 (.string (strOfNums y8))).set 1 (.int .i64 (b + 8))).set 2 (.int .i64 0)
          have hZ4 := ((HZ3.out.setOther (p := ⟨w.heap.size, 0, none⟩) (by simp) (.string (strOfNums y8))).setOther (p := ⟨w.heap.size, 1, none⟩) (by simp) (.int .i64 (b + 8))).setOther (p := ⟨w.heap.size, 2, none⟩) (by simp) (.int .i64 0)
          have hS4 := HS3.out.set3 (own_apart (by decide) HS3.out.1 HA3.out) (Nat.le_refl _) (.string (strOfNums y8)) (.int .i64 (b + 8)) (.int .i64 0)
          obtain ⟨W, hW⟩ : ∃ W, W = (((w1.alloc (.cells #[.string (strOfNums y8), .int .i64 (b + 8), .int .i64 0] 54)).setCell ⟨w.heap.size, 0, none⟩ (.string (strOfNums y8))).setCell ⟨w.heap.size, 1, none⟩ (.int .i64 (b + 8))).setCell ⟨w.heap.size, 2, none⟩ (.int .i64 0) := ⟨_, rfl⟩
          have HA5 : Hid (Whole W w.heap.size 54 (rdrCells y8 (b + 8) 0)) := Lib.hid (by rw [hW]; exact hA4)
          have HZ5 : Hid (Whole W (w.heap.size + 1) 54 (rdrCells [] 0 0)) := Lib.hid (by rw [hW]; exact hZ4)
          have HS5 : Hid (NumsSoFar w R (.slice q m d) W) := Lib.hid (by rw [hW]; exact hS4)
          rw [← hW]
          have HSa := Lib.hid (HS5.out.alloc (.cells #[.int .u64 (h : Int)] 23))
          have HWa := Lib.hid (Whole.new W 23 #[.int .u64 (h : Int)])
          have HAa := Lib.hid (HA5.out.alloc (.cells #[.int .u64 (h : Int)] 23))
          have HZa := Lib.hid (HZ5.out.alloc (.cells #[.int .u64 (h : Int)] 23))
          have HoA := Lib.hid (own_apart (t := 54) (by decide) HSa.out.1 HAa.out)
          have HoZ := Lib.hid (own_apart (t := 54) (by decide) HSa.out.1 HZa.out)
          clear hW hA4 hZ4 hS4 d0 d1 d2 df0 df1 df2 HX HS3 HA3 HZ3 HS1 HA1 HZ1
          cases hr : risesF R
          · rw [hr, Bool.not_false, Bool.true_or] at HFm
            rw [Bool.not_false]
            go_wp2_with (at_builtin; refine wpList_append_numG rfl _ _ rfl _ R rfl HSa.out W.heap.size h rfl (HWa.out.cell 0 rfl) (by have := HLj.out; omega) ?_)
            intro v9 w9 h9 g9
            have HA9 : Hid (Whole w9 w.heap.size 54 (rdrCells y8 (b + 8) 0)) := Lib.hid (HAa.out.grown g9 HoA.out)
            have HZ9 := Lib.hid (HZa.out.grown g9 HoZ.out)
            rw [← HPos.out, ← HNx.out] at HA9
            rw [← HT.out] at h9
            have HS9 := Lib.hid h9
            rw [HR2.out] at HS9 HFm
            clear h9 g9
            go_wp2_with fail
            exact ⟨⟨m + 1, by omega, by go_num, by rw [HFm.out], HS9, HA9, HZ9⟩, by simp [intOf]; omega⟩
          by_cases hm0 : m = 0
          · have hm1 : decide (0 < m) = false := decide_eq_false (by omega)
            have hm2 : decide ((0 : Int) < (m : Int)) = false := decide_eq_false (by omega)
            rw [hr, Bool.not_true, Bool.false_or, hm1, Bool.false_and] at HFm
            rw [Bool.not_true]
            clear hm0
            go_wp2_with (at_builtin; refine wpList_append_numG rfl _ _ rfl _ R rfl HSa.out W.heap.size h rfl (HWa.out.cell 0 rfl) (by have := HLj.out; omega) ?_)
            intro v9 w9 h9 g9
            have HA9 : Hid (Whole w9 w.heap.size 54 (rdrCells y8 (b + 8) 0)) := Lib.hid (HAa.out.grown g9 HoA.out)
            have HZ9 := Lib.hid (HZa.out.grown g9 HoZ.out)
            rw [← HPos.out, ← HNx.out] at HA9
            rw [← HT.out] at h9
            have HS9 := Lib.hid h9
            rw [HR2.out] at HS9 HFm
            clear h9 g9
            go_wp2_with fail
            exact ⟨⟨m + 1, by omega, by go_num, by rw [HFm.out], HS9, HA9, HZ9⟩, by simp [intOf]; omega⟩
          obtain ⟨i, hi⟩ : ∃ i, m = i + 1 := ⟨m - 1, by omega⟩
          obtain ⟨ad, rfl⟩ : ∃ ad, q = some ad := by
            cases q with
            | none => have := (hbare rfl).1; omega
            | some ad => exact ⟨ad, rfl⟩
          have hcell := HS5.out.cell (j := i) (by have := HLj.out; omega)
          have hm1 : decide (0 < m) = true := decide_eq_true (by omega)
          have hm2 : decide ((0 : Int) < (m : Int)) = true := decide_eq_true (by omega)
          have hmi : (m : Int) - 1 = (i : Int) := by omega
          have him : i < m := by omega
          rw [hr, Bool.not_true, Bool.false_or, hm1, Bool.true_and, show m - 1 = i by omega] at HFm
          obtain ⟨r, hrr⟩ : ∃ r, r = R.getD i 0 := ⟨_, rfl⟩
          rw [← hrr] at hcell HFm
          rw [Bool.not_true]
          clear hrr hi hbare
          by_cases hlr : h < r
          · have hl1 : decide ((h : Int) < (r : Int)) = true := decide_eq_true (by omega)
            have hl2 : decide (h < r) = true := decide_eq_true hlr
            rw [hl2] at HFm
            go_wp2_with (at_builtin; refine wpList_append_numG rfl _ _ rfl _ R rfl HSa.out W.heap.size h rfl (HWa.out.cell 0 rfl) (by have := HLj.out; omega) ?_)
            intro v9 w9 h9 g9
            have HA9 : Hid (Whole w9 w.heap.size 54 (rdrCells y8 (b + 8) 0)) := Lib.hid (HAa.out.grown g9 HoA.out)
            have HZ9 := Lib.hid (HZa.out.grown g9 HoZ.out)
            rw [← HPos.out, ← HNx.out] at HA9
            rw [← HT.out] at h9
            have HS9 := Lib.hid h9
            rw [HR2.out] at HS9 HFm
            clear h9 g9
            go_wp2_with fail
            exact ⟨⟨m + 1, by omega, by go_num, by rw [HFm.out], HS9, HA9, HZ9⟩, by simp [intOf]; omega⟩
          · have hl1 : decide ((h : Int) < (r : Int)) = false := decide_eq_false (by omega)
            have hl2 : decide (h < r) = false := decide_eq_false hlr
            rw [hl2] at HFm
            go_wp2_with (at_builtin; refine wpList_append_numG rfl _ _ rfl _ R rfl HSa.out W.heap.size h rfl (HWa.out.cell 0 rfl) (by have := HLj.out; omega) ?_)
            intro v9 w9 h9 g9
            have HA9 : Hid (Whole w9 w.heap.size 54 (rdrCells y8 (b + 8) 0)) := Lib.hid (HAa.out.grown g9 HoA.out)
            have HZ9 := Lib.hid (HZa.out.grown g9 HoZ.out)
            rw [← HPos.out, ← HNx.out] at HA9
            rw [← HT.out] at h9
            have HS9 := Lib.hid h9
            rw [HR2.out] at HS9 HFm
            clear h9 g9
            go_wp2_with fail
            exact ⟨⟨m + 1, by omega, by go_num, by rw [HFm.out], HS9, HA9, HZ9⟩, by simp [intOf]; omega⟩
        · have hdj : decide ((m : Int) < (N : Int)) = false := decide_eq_false (by omega)
          have hdj2 : decide (m < N) = false := decide_eq_false hlt
          obtain rfl : m = N := by omega
          have z0 := HZ.out.cell 0 rfl
          have z1 := HZ.out.cell 1 rfl
          have z2 := HZ.out.cell 2 rfl
          have zf0 := HZ.out.free 0
          have zf1 := HZ.out.free 1
          have zf2 := HZ.out.free 2
          simp only [rdrCells, List.getElem_toArray, List.getElem_cons_zero, List.getElem_cons_succ] at z0 z1 z2
          have HoZ := Lib.hid (own_apart (t := 54) (by decide) HS.out.1 HZ.out)
          obtain ⟨R, hR⟩ : ∃ R, R = takeF m xs := ⟨_, rfl⟩
          rw [← hR] at HTt HS ⊢
          clear hR
          cases hr : risesF R
          · rw [hr, if_neg (by decide)] at HTt
            rw [Bool.not_false]
            have HF8 := Lib.hid (fun w => HF.out (xs.drop (8 * m)) (a + (8 * m : Nat)) 8 w)
            go_wp2_with fail
            refine (HF8.out _).mono ?_
            rintro e w2 ⟨rfl, hk⟩
            have HB2 := Lib.hid (HS.out.2.trans (hk.below HS.out.2.size (fun _ _ h => h)))
            have hZ2 := HZ.out.keep hk (fun h => h)
            clear z0 z1 z2 zf0 zf1 zf2
            have z0 := hZ2.cell 0 rfl
            have z1 := hZ2.cell 1 rfl
            have z2 := hZ2.cell 2 rfl
            simp only [rdrCells, List.getElem_toArray, List.getElem_cons_zero, List.getElem_cons_succ] at z0 z1 z2
            have zf0 := hZ2.free 0
            have zf1 := hZ2.free 1
            have zf2 := hZ2.free 2
            clear hk hZ2
            go_wp2_with fail
            rw [HTt.out]
            exact bodyPost_ret (v := .tuple #[.agg #[.string (strOfNums (xs.drop (8 * m))), .int .i64 (a + (8 * m : Nat)), .int .i64 8], .slice none 0 0]) (by simp [results, Try.results25, go_sem, z0, z1, z2]) rfl ⟨_, rfl, NumsSoFar.nil (((HB2.out.setCell (by simp) _).setCell (by simp) _).setCell (by simp) _)⟩
          · rw [hr, if_pos rfl] at HTt
            rw [Bool.not_true]
            go_wp2_with fail
            rw [HTt.out]
            exact bodyPost_ret (v := .tuple #[.agg #[.string (strOfNums (xs.drop (8 * m))), .int .i64 (a + (8 * m : Nat)), .int .i64 0], .slice q m d]) (by simp [results, Try.results25, go_sem, z0, z1, z2]) rfl ⟨_, rfl, HS.out.set3 HoZ.out (by omega) _ _ _⟩
end Go.Proofs.Ytidhcmamfdipiaa

namespace Go.Proofs.Ytidhcmamfdipiaa
open Go.RowKit

theorem textF_take {l : List Nat} {j : Nat} (hj : j < l.length) : textF (l.take (j + 1)) = textF (l.take j) ++ digits ((l.getD j 0 : Nat) : Int) 8 := by
  have e : l.take (j + 1) = l.take j ++ [l.getD j 0] := by rw [List.take_succ_eq_append_getElem hj]; simp [hj]
  rw [e, textF_snoc]

set_option maxHeartbeats 4000000 in
set_option maxRecDepth 10000 in
theorem text12_ref (p : Option Addr) (n c : Nat) (l : List Nat) (hn : n = l.length) (hn9 : n ≤ 1000000) (hf : ∀ x ∈ l, x < 18446744073709551616) (w : World) (hl : RowN w p l) :
    Calls Try.prog 23 #[.slice p n c] w fun e w' => e = .returned (.string (strOfNums (textF l))) ∧ Keeps NoBlock w w' := by
  have HL := Lib.hid hl
  have HN := Lib.hid hn
  have HFi := Lib.hid hf
  clear hl hn hf
  go_enter Try.func23, Try.ntmps23
  go_wp2_with fail
  go_loopw [3, 8] (fun x i wr => ∃ j : Nat, j ≤ n ∧ i = .int .i64 (j : Int) ∧ x = .string (strOfNums (textF (l.take j))) ∧ Keeps NoBlock w wr) (fun _ i _ => n - (intOf i).toNat)
  case atStart => exact ⟨0, Nat.zero_le _, rfl, rfl, Keeps.refl _ _⟩
  case round =>
    obtain ⟨j, hj, rfl, rfl, hk⟩ := hrel
    have HK := Lib.hid hk
    clear hk
    by_cases hlt : j < n
    · have hdj : decide ((j : Int) < (n : Int)) = true := decide_eq_true (by omega)
      have hjl : j < l.length := by rw [← HN.out]; exact hlt
      obtain ⟨a, rfl, c0⟩ := RowN.keep HL.out HK.out (fun _ _ h => h) j hjl
      have HT := Lib.hid (textF_take hjl)
      have hfine := HFi.out (l.getD j 0) (by simp [hjl])
      have hlen : (textF (l.take j)).length ≤ 12000000 := by rw [textF_length, List.length_take]; omega
      obtain ⟨r, hr⟩ : ∃ r, r = l.getD j 0 := ⟨_, rfl⟩
      rw [← hr] at c0 HT hfine
      obtain ⟨A, hA⟩ : ∃ A, A = textF (l.take j) := ⟨_, rfl⟩
      rw [← hA] at HT hlen ⊢
      have HN8 := Lib.hid (fun w => num_any (r : Int) 8 8 rfl (by decide) (by omega) (by omega) w)
      have z8 := str_size (digits (r : Int) 8)
      have zA := str_size A
      rw [digits_length] at z8
      have a1 := str_append A (digits (r : Int) 8)
      rw [← HT.out] at a1
      obtain ⟨D8, hD8⟩ : ∃ D8, D8 = digits (r : Int) 8 := ⟨_, rfl⟩
      rw [← hD8] at HN8 z8 a1
      obtain ⟨M, hM⟩ : ∃ M, M = A.length := ⟨_, rfl⟩
      rw [← hM] at zA hlen
      have r1 : ¬ 9223372036854775807 < M + 8 := by omega
      obtain ⟨B, hB⟩ : ∃ B, B = textF (l.take (j + 1)) := ⟨_, rfl⟩
      rw [← hB] at a1
      have HB := Lib.hid hB
      clear hr hjl hfine hA HT hD8 hM hB
      go_wp2_with fail
      refine (HN8.out _).mono ?_
      rintro e w5 ⟨rfl, hk⟩
      have HK := Lib.hid (HK.out.trans hk)
      clear hk
      go_wp2_with fail
      exact ⟨⟨j + 1, by omega, by go_num, by rw [HB.out], HK.out⟩, by simp [intOf]; omega⟩
    · have hdj : decide ((j : Int) < (n : Int)) = false := decide_eq_false (by omega)
      have hT : l.take j = l := List.take_of_length_le (by have := HN.out; omega)
      rw [hT]
      clear hT
      go_wp2_with fail
      go_ret
      exact ⟨rfl, HK.out⟩
end Go.Proofs.Ytidhcmamfdipiaa

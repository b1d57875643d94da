/-
  RowV; ImLaws2; ImBuild; FenByIn; BufK; FenOwn.
-/
import Derived.Test.YtjeammmfdniokaaGreatM02
import Derived.Test.YtjeammmfdniokaaGreatM03
import Derived.Test.YtjeammmfdniokaaGreatM05
import Derived.Test.YtjeammmfdniokaaGreatM06
import Derived.Test.YtjeammmfdniokaaGreatM09
import Derived.Test.YtjeammmfdniokaaGreatM10
import Derived.Test.YtjeammmfdniokaaGreatM14
import Derived.Test.YtjeammmfdniokaaGreatM15
import Derived.Test.YtjeammmfdniokaaGreatM19
import Derived.Test.YtjeammmfdniokaaGreatM20
namespace Go.Proofs.YtjeammmfdniokaaGreat
open Go.RowKit

/-- Block g has d cells: those of f. -/
def RowV (t : TypeId) (w : World) (g d : Nat) (f : Nat → Value) : Prop :=
  ∃ cur, Whole w g t cur ∧ cur.size = d ∧ ∀ i, i < d → cur[i]? = some (f i)
theorem RowV.lt {t : TypeId} {w : World} {g d : Nat} {f : Nat → Value} (h : RowV t w g d f) : g < w.heap.size := by
  obtain ⟨cur, hw, _⟩ := h
  exact hw.lt
theorem RowV.cell {t : TypeId} {w : World} {g d : Nat} {f : Nat → Value} (h : RowV t w g d f) {i : Nat} (hi : i < d) : w.cell? ⟨g, i, none⟩ = some (f i) := by
  obtain ⟨cur, hw, _, hc⟩ := h
  exact hw.cell _ (hc i hi)
theorem RowV.free {t : TypeId} {w : World} {g d : Nat} {f : Nat → Value} (h : RowV t w g d f) (i : Nat) : w.frozen? ⟨g, i, none⟩ = false := by
  obtain ⟨cur, hw, _⟩ := h
  exact hw.free i
theorem RowV.keep {t : TypeId} {w w' : World} {g d : Nat} {f : Nat → Value} (h : RowV t w g d f) {S : Nat → Prop} (hk : Keeps S w w') (hs : ¬ S g) : RowV t w' g d f := by
  obtain ⟨cur, hw, h1⟩ := h
  exact ⟨cur, hw.keep hk hs, h1⟩
theorem RowV.congr {t : TypeId} {w : World} {g d : Nat} {f f' : Nat → Value} (h : RowV t w g d f) (he : ∀ i, i < d → f i = f' i) : RowV t w g d f' := by
  obtain ⟨cur, hw, h1, h3⟩ := h
  exact ⟨cur, hw, h1, fun i hi => by rw [← he i hi]; exact h3 i hi⟩
theorem RowV.put {t : TypeId} {w : World} {g d : Nat} {f : Nat → Value} (h : RowV t w g d f) {k : Nat} (hk : k < d) (x : Value) :
    RowV t (w.setCell ⟨g, k, none⟩ x) g d (fun i => if i = k then x else f i) := by
  obtain ⟨cur, hw, h1, h3⟩ := h
  refine ⟨_, hw.set _ _, by simpa using h1, fun i hi => ?_⟩
  dsimp only
  by_cases e : i = k
  · subst e
    rw [if_pos rfl, Array.getElem?_setIfInBounds_self_of_lt (by omega)]
  · rw [if_neg e, Array.getElem?_setIfInBounds_ne (by omega)]
    exact h3 i hi
theorem RowV.ofOwn {t : TypeId} {w : World} {base g n size : Nat} {xs : List Value} (h : w.ownsRow base t size (.slice (some ⟨g, 0, none⟩) n n) n xs) : RowV t w g (n * size) (fun i => xs.getD i (.bool false)) := by
  rcases h with ⟨hl, ⟨h0, _⟩ | ⟨g', cap, cur, hv, hb, hg, h1, h2, h3, h4⟩⟩
  · simp at h0
  · simp only [Value.slice.injEq, Option.some.injEq, Addr.mk.injEq, and_true, true_and] at hv
    obtain ⟨rfl, rfl⟩ := hv
    have e : cur.toList = xs := by
      rw [← h4, List.take_of_length_le (by rw [Array.length_toList]; omega)]
    refine ⟨cur, hg, by omega, fun i hi => ?_⟩
    rw [← Array.getElem?_toList, ← e]
    show cur.toList[i]? = some (cur.toList.getD i (.bool false))
    have hl : i < cur.toList.length := by rw [Array.length_toList]; omega
    rw [List.getD_eq_getElem?_getD, List.getElem?_eq_getElem hl]
    rfl
end Go.Proofs.YtjeammmfdniokaaGreat

namespace Go.Proofs.YtjeammmfdniokaaGreat
open Go.RowKit

def p32A (x : Nat × Nat) : Value := .int .u32 (x.1 : Int)
def p32B (x : Nat × Nat) : Value := .int .u32 (x.2 : Int)
/-- Where the records of parts stand, from segment i on. -/
def placesGo (e s : Nat) : Nat → List (List Rec) → List (Nat × Nat)
  | _, [] => []
  | i, p :: ps => (placesS e s i p).map (fun a => (i, a)) ++ placesGo e s (i + 1) ps
def placesI (e s : Nat) (l : List Rec) : List (Nat × Nat) := if (planI e s l).1 ≠ 0 then [] else placesGo e s 0 (partsGo [] l (planI e s l).2)
def countI (e s : Nat) (l : List Rec) : Nat := if (planI e s l).1 ≠ 0 then 0 else (partsGo [] l (planI e s l).2).length
/-- The contracts of Places and Segments. -/
structure ImPlOk : Prop where
  places : ∀ (e s : Nat) (p : Option Addr) (n c : Nat) (l : List Rec) (w : World), e < 256 → s < 4294967296 → n ≤ 10000 → (n < 1000 ∨ e ≤ 13) → InR w p n c l →
    Calls Tryz.prog 12 #[confV e s, .slice p n c] w fun r w' => ∃ v, r = .returned (.tuple #[v, .int .i64 (planI e s l).1]) ∧ NewTwos p32A p32B (0, 0) w (placesI e s l) v w'
structure ImSegOk : Prop where
  segs : ∀ (e s : Nat) (p : Option Addr) (n c : Nat) (l : List Rec) (w : World), e < 256 → s < 4294967296 → n ≤ 10000 → InR w p n c l →
    Calls Tryz.prog 13 #[confV e s, .slice p n c] w fun r w' => r = .returned (.tuple #[.int .u32 (countI e s l : Int), .int .i64 (planI e s l).1]) ∧ Keeps NoBlock w w'
end Go.Proofs.YtjeammmfdniokaaGreat

namespace Go.Proofs.YtjeammmfdniokaaGreat
open Go.RowKit

/-- The places' cells behind j records. -/
def placeF (e s i : Nat) (q : List Rec) (j y : Nat) : Value :=
  if y < j * 2 then (if y % 2 = 0 then .int .u32 (i : Int) else .int .u32 (((outS e s i (q.take (y / 2))).length : Nat) : Int)) else .int .u32 0
theorem placeF_step (e s i : Nat) (q : List Rec) (j y : Nat) : (if y = j * 2 + 1 then Value.int .u32 (((outS e s i (q.take j)).length : Nat) : Int) else if y = j * 2 then .int .u32 (i : Int) else placeF e s i q j y) = placeF e s i q (j + 1) y := by
  unfold placeF
  by_cases h1 : y = j * 2 + 1
  · subst h1
    rw [if_pos rfl, if_pos (by omega), if_neg (by omega), show (j * 2 + 1) / 2 = j by omega]
  · rw [if_neg h1]
    by_cases h2 : y = j * 2
    · rw [if_pos h2, if_pos (show y < (j + 1) * 2 by omega), if_pos (show y % 2 = 0 by omega)]
    · rw [if_neg h2]
      by_cases h3 : y < j * 2
      · rw [if_pos h3, if_pos (show y < (j + 1) * 2 by omega)]
      · rw [if_neg h3, if_neg (show ¬ y < (j + 1) * 2 by omega)]
theorem placeF_made (e s i n : Nat) (q : List Rec) : ∀ y, y < n * 2 → ((madeCells #[Value.int .u32 0, Value.int .u32 0] (n * 2)).toList).getD y (.bool false) = placeF e s i q 0 y := fun y hy => by
  unfold placeF
  rw [if_neg (by omega)]
  have h : y % 2 = 0 ∨ y % 2 = 1 := by omega
  rcases h with h | h <;> simp [madeCells, hy, h]
theorem takeR_succ {q : List Rec} {j : Nat} (h : j < q.length) : q.take (j + 1) = q.take j ++ [q.getD j Rec.none] := by
  rw [List.take_succ_eq_append_getElem h]
  simp [h]
theorem infoPl : (Tryz.prog.info? 42).map (fun i => (i.zero, i.size, i.bytes)) = some (some (.agg #[.int .u32 0, .int .u32 0]), 2, 8) := by kernel_rfl

set_option maxHeartbeats 8000000 in
set_option maxRecDepth 10000 in
theorem imbuild_own {At : BAt} (HB : SgBuild At) (HNw : SgNewOk At) (HAd : SgAddOk At) (e s i : Nat) (p : Option Addr) (n c : Nat) (q : List Rec) (w : World) (hq : InR w p n c q) (hp : PartIn e s i q) (hn9 : n ≤ 1000) (hc : ∀ r ∈ q, checkR r = 0 ∧ fitsP (emptyP e s (s - 1)) ((recB r).length : Int) = true) :
    Calls Tryz.prog 21 #[confV e s, .int .u32 (i : Int), .slice p n c] w fun r w' => ∃ F v u, r = .returned (.tuple #[v, u, .int .i64 0]) ∧ Keeps NoBlock w w' ∧ At w' F v e s i q ∧ (∀ k, F k → w.heap.size ≤ k) ∧ NewTwos p32A p32B (0, 0) w ((placesS e s i q).map (fun a => (i, a))) u w' := by
  obtain ⟨r0, hr0, hre, hrs, hri⟩ := hp.room
  have hmay : mayHead e s i = true := by have := hr0.real.may; rwa [hre, hrs, hri] at this
  have hmm := mayHead_true.1 hmay
  have hsi : i < s := hmm.2.2.2.2
  have hs16 : s ≤ 65536 := hmm.2.2.2.1
  have he24 : e ≤ 24 := hmm.2.1
  have HNew := Lib.hid (fun w => HNw.may e s i w (by omega) (by omega) (by omega) hmay)
  have hnq := hq.len
  have HAdd := Lib.hid (fun j (hj : j < q.length) F v w (h : At w F v e s i (q.take j)) => HAd.add F v e s i (q.take j) (q.getD j Rec.none) w h (hp.rooms (by omega) j (by omega)) (by rw [List.length_take]; omega) (fun x hx => ⟨hq.fine x (List.mem_of_mem_take hx), (hc x (List.mem_of_mem_take hx)).1⟩) (hq.fine _ (getR_mem hj)) (hq.key _ (getR_mem hj)) (hq.val _ (getR_mem hj)))
  have HE := Lib.hid (fun j (hj : j < q.length) => (show addE e s i (q.take j) (q.getD j Rec.none) = 0 ∧ addL e s i (q.take j) (q.getD j Rec.none) = q.take (j + 1) ∧ addAt e s i (q.take j) (q.getD j Rec.none) = (outS e s i (q.take j)).length from by
    have h := part_add hp hc hj
    exact ⟨h, by unfold addL; rw [if_pos h, takeR_succ hj], by unfold addAt; rw [if_pos h]⟩))
  have HPa := Lib.hid (fun k (hk : k < q.length) => places_at (e := e) (s := s) (n := i) (l := q) hk)
  have HPl := Lib.hid (places_length e s i q)
  have HI := Lib.hid hq
  have HPt := Lib.hid (fun F v w l (h : At w F v e s i l) => HB.ptr h)
  have HOl := Lib.hid (fun F v w l (h : At w F v e s i l) => HB.old h)
  have HKp := Lib.hid (fun F v w w' l (h : At w F v e s i l) (hk : Keeps NoBlock w w') => HB.keep h hk (fun _ _ h => h))
  have HKs := Lib.hid (fun F v w w' g l (h : At w F v e s i l) (hg : ¬ F g) (hk : Keeps (Just g) w w') => HB.keep h hk (fun k hf hj => hg (by rw [← show k = g from hj]; exact hf)))
  have HK := Lib.hid ((Keeps.refl NoBlock w).alloc (.cells (confCells e s) 27))
  obtain ⟨i0, hi, hz0, hz1, hz2⟩ := info_parts infoPl
  have HN := Lib.hid hnq
  clear HB HNw HAd hq hp hc hr0 hre hrs hri hmay hmm hsi hs16 he24 hnq
  unfold confV at HNew ⊢
  go_enter Tryz.func21, Tryz.ntmps21
  go_wp2_with fail
  refine (HNew.out _).mono ?_
  rintro e9 w1 ⟨hk, F0, v, rfl, hat, hF⟩
  have hK1 := HK.out.trans hk
  have HF0 := Lib.hid (show ∀ k, F0 k → w.heap.size ≤ k from fun k hf => Nat.le_trans HK.out.size (hF k hf))
  obtain ⟨gb, rfl⟩ := HPt.out _ _ _ _ hat
  have HK1 := Lib.hid hK1
  have HA1 := Lib.hid hat
  clear hk hat hF hK1 HK HNew
  go_wp2_with (at_make; refine wpList_make_full _ rfl _ _ 36 rfl w1.heap.size 42 i0 (.agg #[.int .u32 0, .int .u32 0]) 2 Tryz.underlying36 hi hz0 hz1 .i64 .i64 (n : Int) (n : Int) n rfl rfl rfl rfl (by rw [hz2]; omega) (by unfold maxLen; omega) (Nat.le_refl _) ?_)
  intro w3 hown hgrow
  have hR0 := (RowV.ofOwn hown).congr (placeF_made e s i n q)
  have hk3 : Keeps NoBlock w1 w3 := (Keeps.refl NoBlock w1).grown hgrow (fun k hk => by simp at hk)
  have HA3 := Lib.hid (HKp.out _ _ _ _ _ HA1.out hk3)
  obtain ⟨g, hgd⟩ : ∃ g, g = w1.heap.size := ⟨_, rfl⟩
  have HFg := Lib.hid (show ∀ k, F0 k → w.heap.size ≤ k ∧ k ≠ g from fun k hf => ⟨HF0.out k hf, by have := HOl.out _ _ _ _ HA1.out k hf; omega⟩)
  have HG := Lib.hid (show w.heap.size ≤ g by have := HK1.out.size; omega)
  have HK3 := Lib.hid (HK1.out.trans hk3)
  rw [← hgd] at hR0 ⊢
  have HR := Lib.hid hR0
  clear hown hgrow hR0 hk3 hgd HA1 HK1 HF0
  go_wp2_with fail
  go_loopw [30] (fun x wr => ∃ (j : Nat) (F : Nat → Prop), j ≤ n ∧ x = .int .i64 (j : Int) ∧ Hid (At wr F (.pointer (some ⟨gb, 0, none⟩)) e s i (q.take j)) ∧ Hid (∀ k, F k → w.heap.size ≤ k ∧ k ≠ g) ∧ Hid (RowV 42 wr g (n * 2) (placeF e s i q j)) ∧ Hid (Keeps NoBlock w wr)) (fun x _ => n - (intOf x).toNat)
  case atStart => exact ⟨0, F0, Nat.zero_le _, rfl, HA3, HFg, HR, HK3⟩
  case round =>
    clear HA3 HFg HR HK3
    obtain ⟨j, F, hj, rfl, HA, HFg, HR, HK⟩ := hrel
    by_cases hlt : j < n
    · have hdj : decide ((j : Int) < (n : Int)) = true := decide_eq_true (by omega)
      have hdj2 : decide (j < n) = true := decide_eq_true hlt
      have hjn : (j : Int) < (n : Int) := by omega
      have hjl : j < q.length := by rw [← HN.out]; exact hlt
      obtain ⟨a, rfl, c0, c1, c2, c3⟩ := (HI.out.at_.keep HK.out (fun _ _ h => h)) j hjl
      obtain ⟨hE0, hL, hAt⟩ := HE.out j hjl
      have HAd := Lib.hid (fun w h => HAdd.out j hjl F (.pointer (some ⟨gb, 0, none⟩)) w h)
      have HSt := Lib.hid (fun y => placeF_step e s i q j y)
      rw [hE0, hL, hAt] at HAd
      obtain ⟨r, hr⟩ : ∃ r, r = q.getD j Rec.none := ⟨_, rfl⟩
      rw [← hr] at c0 c1 c2 c3 HAd
      obtain ⟨Z, hZ⟩ : ∃ Z, Z = (outS e s i (q.take j)).length := ⟨_, rfl⟩
      rw [← hZ] at HSt HAd
      have hkA := (Keeps.refl NoBlock wr).alloc (.cells #[.bool r.del, .int .u64 (r.seq : Int), .string (strOfNums r.key), .string (strOfNums r.val)] 46)
      have HKA := Lib.hid hkA
      have HA4 := Lib.hid (HKp.out _ _ _ _ _ HA.out hkA)
      unfold recV at HAd
      clear hr hjl hE0 hL hAt hZ hkA
      go_wp2_with fail
      refine (HAd.out _ HA4.out).mono ?_
      rintro e9 w5 ⟨rfl, hk, F', hF', hat⟩
      have hRk : RowV 42 w5 g (n * 2) (placeF e s i q j) := (HR.out.keep HKA.out (fun h => h)).keep hk (fun hf => (HFg.out g hf).2 rfl)
      have HR5 := Lib.hid hRk
      have HK5 := Lib.hid ((HK.out.trans HKA.out).then hk (fun k hk1 hf => by have := (HFg.out k hf).1; omega))
      have HF5 := Lib.hid (show ∀ k, F' k → w.heap.size ≤ k ∧ k ≠ g from fun k hf => by
        rcases hF' k hf with h | h
        · exact HFg.out k h
        · have h1 := HR.out.lt
          have h2 := HKA.out.size
          have h3 := HK.out.size
          exact ⟨by omega, by omega⟩)
      have hSet : Keeps (Just g) w5 ((w5.setCell ⟨g, j * 2, none⟩ (.int .u32 (i : Int))).setCell ⟨g, j * 2 + 1, none⟩ (.int .u32 (Z : Int))) := ((Keeps.refl _ _).setIn (Just.self g) _ _).setIn (Just.self g) _ _
      have HAn := Lib.hid (HKs.out _ _ _ _ g _ hat (fun hf => (HF5.out g hf).2 rfl) hSet)
      have x0 := hRk.cell (show j * 2 < n * 2 by omega)
      have x1 := hRk.cell (show j * 2 + 1 < n * 2 by omega)
      have f0 := hRk.free (j * 2)
      have f1 := hRk.free (j * 2 + 1)
      have HRn := Lib.hid (((hRk.put (show j * 2 < n * 2 by omega) (.int .u32 (i : Int))).put (show j * 2 + 1 < n * 2 by omega) (.int .u32 (Z : Int))).congr (fun y _ => HSt.out y))
      have HKn := Lib.hid ((HK5.out.setNew (g := g) HG.out (j * 2) (.int .u32 (i : Int))).setNew (g := g) HG.out (j * 2 + 1) (.int .u32 (Z : Int)))
      clear hk hF' hat hRk hSet HAd HKA HA4 c0 c1 c2 c3
      go_wp2_with fail
      go_roundw
      case rel => exact ⟨j + 1, F', by omega, by go_num, HAn, HF5, HRn, HKn⟩
      case measure => simp [intOf]; omega
    · have hdj : decide ((j : Int) < (n : Int)) = false := decide_eq_false (by omega)
      have hdj2 : decide (j < n) = false := decide_eq_false hlt
      obtain rfl : j = n := by omega
      have HAe := Lib.hid (show At wr F (.pointer (some ⟨gb, 0, none⟩)) e s i q by have := HA.out; rwa [List.take_of_length_le (by have := HN.out; omega)] at this)
      have HNt : Hid (NewTwos p32A p32B (0, 0) w ((placesS e s i q).map (fun a => (i, a))) (.slice (some ⟨g, 0, none⟩) j j) wr) := Lib.hid ⟨_, _, _, rfl, by rw [List.length_map, HPl.out]; exact HN.out, Nat.le_refl _, by omega, fun h => by simp at h, fun k hk => by
        rw [List.length_map, HPl.out] at hk
        have h1 := HPa.out k hk
        have h2 : ((placesS e s i q).map (fun a => (i, a))).getD k (0, 0) = (i, (outS e s i (q.take k)).length) := by
          rw [← h1, List.getD_eq_getElem?_getD, List.getElem?_map, List.getElem?_eq_getElem (by rw [HPl.out]; exact hk)]
          simp [show k < (placesS e s i q).length by rw [HPl.out]; exact hk]
        have h3 := HR.out.cell (show k * 2 < j * 2 by have := HN.out; omega)
        have h4 := HR.out.cell (show k * 2 + 1 < j * 2 by have := HN.out; omega)
        unfold placeF at h3 h4
        rw [if_pos (by have := HN.out; omega), if_pos (by omega)] at h3
        rw [if_pos (by have := HN.out; omega), if_neg (by omega), show (k * 2 + 1) / 2 = k by omega] at h4
        refine ⟨_, rfl, ?_, ?_⟩
        · rw [addZero, h2]
          exact h3
        · rw [addZero, h2]
          exact h4, HK.out⟩
      clear HA HR
      go_wp2_with fail
      refine bodyPost_ret (v := .tuple #[.pointer (some ⟨gb, 0, none⟩), .slice (some ⟨g, 0, none⟩) j j, .int .i64 0]) (by simp [results, Tryz.results21, go_sem]) rfl ?_
      exact ⟨F, _, _, rfl, HK.out, HAe.out, fun k hf => (HFg.out k hf).1, HNt.out⟩

set_option maxHeartbeats 2000000 in
set_option maxRecDepth 10000 in
theorem imwhole_own {At : BAt} (HB : SgBuild At) (HOp : SgOpenOk At) (HSl : SgSealOk At) (F : Nat → Prop) (v : Value) (e s i : Nat) (q : List Rec) (b : Bool) (w : World) (h : At w F v e s i q) (hp : PartIn e s i q) (h9 : q.length < 1000) (hq : ∀ r ∈ q, r.Fine ∧ checkR r = 0) :
    Calls Tryz.prog 22 #[v, .bool b] w fun r w' => ∃ u, r = .returned (.tuple #[u, .int .i64 0]) ∧ SgGives At F w v e s i q (textS e s i q (!b)) u w' := by
  have hr := hp.rooms (by omega) q.length (Nat.le_refl _)
  rw [List.take_of_length_le (Nat.le_refl _)] at hr
  have H1 := Lib.hid (HOp.open_ F v e s i q w h hr h9 hq)
  have H2 := Lib.hid (HSl.seals F v e s i q w h hr h9 hq hp.full)
  obtain ⟨gb, rfl⟩ := HB.ptr h
  clear HB HOp HSl h hp h9 hq hr
  cases b with
  | true =>
    rw [show (!true) = false from rfl]
    go_enter Tryz.func22, Tryz.ntmps22
    go_wp2_with fail
    refine H1.out.mono ?_
    rintro e9 w1 ⟨u, rfl, hg⟩
    have HG := Lib.hid hg
    clear hg
    go_wp2_with fail
    exact bodyPost_ret (results_tmp2 rfl _ _ _) rfl ⟨_, rfl, HG.out⟩
  | false =>
    rw [show (!false) = true from rfl]
    go_enter Tryz.func22, Tryz.ntmps22
    go_wp2_with fail
    refine H2.out.mono ?_
    rintro e9 w1 ⟨u, rfl, hg⟩
    have HG := Lib.hid hg
    clear hg
    go_wp2_with fail
    exact bodyPost_ret (results_tmp2 rfl _ _ _) rfl ⟨_, rfl, HG.out⟩
end Go.Proofs.YtjeammmfdniokaaGreat

namespace Go.Proofs.YtjeammmfdniokaaGreat
open Go.RowKit

end Go.Proofs.YtjeammmfdniokaaGreat

namespace Go.Proofs.YtjeammmfdniokaaGreat
open Go.RowKit

def InLoopK (base g : Nat) (xs : List Int) (x : Int) (w : World) (k : Nat) (wr : World) : Prop := BufAt wr base g (xs ++ digits x k) ∧ Keeps (OnBuf base g) w wr

set_option maxHeartbeats 800000 in
theorem bufNumberK (base g : Nat) (xs : List Int) (x : Int) (n : Nat) (z : Int) (hz : z = n) (w : World) (h : BufAt w base g xs) (hs : base ≤ w.heap.size) (hx : xs.length + n ≤ 140737488355328) (hn : n ≤ 8) (_x0 : 0 ≤ x) (x1 : x < 18446744073709551616) :
    Calls Tryz.prog 106 #[.pointer (some ⟨g, 0, none⟩), .int .u64 x, .int .i64 z] w (BufOkK base g (xs ++ digits x n) w) := by
  subst hz
  have H := Lib.hid h; have HX := Lib.hid hx; have HX1 := Lib.hid x1
  clear h hx x1
  go_enter Tryz.func106, Tryz.ntmps106
  go_wp2_with fail
  go_loopw [9] (fun i wr => ∃ k : Nat, k ≤ n ∧ i = .int .i64 k ∧ InLoopK base g xs x w k wr) (fun i _ => n - (intOf i).toNat)
  case atStart => exact ⟨0, Nat.zero_le _, rfl, by simpa [digits] using H.out, Keeps.refl _ _⟩
  case round =>
    obtain ⟨k, hk, rfl, hin⟩ := hrel
    have HI := Lib.hid hin
    clear hin
    by_cases hlt : k < n
    · go_wp2_with fail
      refine (bufByteK base g (xs ++ digits x k) _ _ HI.out.1 (by have := HI.out.2.size; omega) (by have := HX.out; simp [digits_length]; omega)).mono ?_
      rintro e w2 ⟨rfl, hbuf, hbel⟩
      have HB := Lib.hid hbuf; have HL := Lib.hid (HI.out.2.trans hbel)
      clear hbuf hbel
      go_wp2_with fail
      go_roundw
      case rel =>
        refine ⟨k + 1, by omega, by go_num, ?_, HL.out⟩
        have := HB.out
        rw [List.append_assoc] at this
        exact this
      case measure => simp [intOf]; omega
    · go_wp2_with fail
      go_ret
      obtain rfl : k = n := by omega
      exact ⟨rfl, HI.out.1, HI.out.2⟩

theorem bufFourK (base g : Nat) (xs : List Int) (x : Int) (w : World) (h : BufAt w base g xs) (hs : base ≤ w.heap.size) (hx : xs.length + 4 ≤ 140737488355328) (x0 : 0 ≤ x) (x1 : x < 4294967296) :
    Calls Tryz.prog 97 #[.pointer (some ⟨g, 0, none⟩), .int .u32 x] w (BufOkK base g (xs ++ digits x 4) w) := by
  have H := Lib.hid h
  clear h
  go_enter Tryz.func97, Tryz.ntmps97
  go_wp2_with fail
  refine (bufNumberK base g xs _ 4 _ (by rfl) _ H.out hs hx (by omega) (by omega) (by omega)).mono ?_
  rintro e w2 ⟨rfl, hbuf, hbel⟩
  have HB := Lib.hid hbuf; have HL := Lib.hid hbel
  clear hbuf hbel
  go_wp2_with fail
  go_ret
  exact ⟨rfl, HB.out, HL.out⟩

end Go.Proofs.YtjeammmfdniokaaGreat

namespace Go.Proofs.YtjeammmfdniokaaGreat
open Go.RowKit

set_option maxHeartbeats 1000000 in
theorem fcount_own (n : Int) (w : World) (h0 : -1000000000 ≤ n) (h1 : n ≤ 1000000000) :
    Calls Tryz.prog 117 #[.int .i64 n] w fun e w' => e = .returned (.int .i64 (countF n : Int)) ∧ Keeps NoBlock w w' := by
  by_cases hz : n ≤ 0
  · have hd : decide (n ≤ 0) = true := decide_eq_true hz
    have e : countF n = 0 := by unfold countF; omega
    rw [e]
    clear e
    go_enter Tryz.func117, Tryz.ntmps117
    go_wp2_with fail
    go_ret
    exact ⟨rfl, Keeps.refl _ _⟩
  · obtain ⟨m, rfl⟩ : ∃ m : Nat, n = (m : Int) + 1 := ⟨n.toNat - 1, by omega⟩
    have hd : decide ((m : Int) + 1 ≤ 0) = false := decide_eq_false hz
    have e : countF ((m : Int) + 1) = m / 16 + 1 := by unfold countF; omega
    have hq : ((m : Int)).tdiv 16 = ((m / 16 : Nat) : Int) := by rw [Int.tdiv_eq_ediv_of_nonneg (by omega)]; omega
    have hq2 : (m : Int) / 16 = ((m / 16 : Nat) : Int) := by omega
    obtain ⟨k, hk⟩ : ∃ k, k = m / 16 := ⟨_, rfl⟩
    rw [← hk] at hq hq2 e
    have hk9 : k ≤ 1000000000 := by omega
    rw [e]
    have hs : (m : Int) + 1 - 1 = (m : Int) := by omega
    clear hk e
    go_enter Tryz.func117, Tryz.ntmps117
    go_wp2_with fail
    go_ret
    exact ⟨by go_num, Keeps.refl _ _⟩

theorem textF_takeO {l : List Nat} {j : Nat} (hj : j < l.length) : textF (l.take (j + 1)) = textF (l.take j) ++ digits ((l.getD j 0 : Nat) : Int) 8 := by
  have e : l.take (j + 1) = l.take j ++ [l.getD j 0] := by rw [List.take_succ_eq_append_getElem hj]; simp [hj]
  rw [e, textF_snoc]

end Go.Proofs.YtjeammmfdniokaaGreat

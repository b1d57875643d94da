/-
  ConfLaws; ConfOwn; ConfAll; SgWhole; WideWrite; WideAll.
-/
import Derived.Deep.CutRange
import Derived.Deep.DeepCutAuto
import Derived.StillTailTactics
import Derived.Test.YtlejobomjgccnaaGreatM19
namespace Go.Proofs.YtlejobomjgccnaaGreat
open Go.RowKit

def checkC (e s : Nat) : Int := if mayC e s = true then 0 else 1
def sizeC (e s : Nat) : Nat := if mayC e s = true then 2 ^ e else 0

end Go.Proofs.YtlejobomjgccnaaGreat

namespace Go.Proofs.YtlejobomjgccnaaGreat
open Go.RowKit

set_option maxHeartbeats 2000000 in
set_option maxRecDepth 10000 in
theorem check_conf (e s : Nat) (w : World) : Calls Tryz.prog 73 #[confV e s] w fun r w' => r = .returned (.int .i64 (checkC e s)) ∧ Keeps NoBlock w w' := by
  have HR := Lib.hid (Whole.new w 27 (confCells e s))
  have HK := Lib.hid ((Keeps.refl NoBlock w).alloc (.cells (confCells e s) 27))
  by_cases h1 : 12 ≤ e
  · have d1 : decide ((e : Int) < 12) = false := decide_eq_false (by omega)
    by_cases h2 : e ≤ 24
    · have d2 : decide ((24 : Int) < (e : Int)) = false := decide_eq_false (by omega)
      by_cases h3 : 1 ≤ s
      · have d3 : decide ((s : Int) < 1) = false := decide_eq_false (by omega)
        by_cases h4 : s ≤ 65536
        · have d4 : decide ((65536 : Int) < (s : Int)) = false := decide_eq_false (by omega)
          have HM := Lib.hid (show checkC e s = 0 by unfold checkC; rw [if_pos (mayC_true.2 ⟨h1, h2, h3, h4⟩)])
          unfold confV
          go_enter Tryz.func73, Tryz.ntmps73
          go_wp2_with fail
          go_ret
          rw [HM.out]
          exact ⟨rfl, HK.out⟩
        · have d4 : decide ((65536 : Int) < (s : Int)) = true := decide_eq_true (by omega)
          have HM := Lib.hid (show checkC e s = 1 by unfold checkC; rw [if_neg (fun h => by have := mayC_true.1 h; omega)])
          unfold confV
          go_enter Tryz.func73, Tryz.ntmps73
          go_wp2_with fail
          go_ret
          rw [HM.out]
          exact ⟨rfl, HK.out⟩
      · have d3 : decide ((s : Int) < 1) = true := decide_eq_true (by omega)
        have HM := Lib.hid (show checkC e s = 1 by unfold checkC; rw [if_neg (fun h => by have := mayC_true.1 h; omega)])
        unfold confV
        go_enter Tryz.func73, Tryz.ntmps73
        go_wp2_with fail
        go_ret
        rw [HM.out]
        exact ⟨rfl, HK.out⟩
    · have d2 : decide ((24 : Int) < (e : Int)) = true := decide_eq_true (by omega)
      have HM := Lib.hid (show checkC e s = 1 by unfold checkC; rw [if_neg (fun h => by have := mayC_true.1 h; omega)])
      unfold confV
      go_enter Tryz.func73, Tryz.ntmps73
      go_wp2_with fail
      go_ret
      rw [HM.out]
      exact ⟨rfl, HK.out⟩
  · have d1 : decide ((e : Int) < 12) = true := decide_eq_true (by omega)
    have HM := Lib.hid (show checkC e s = 1 by unfold checkC; rw [if_neg (fun h => by have := mayC_true.1 h; omega)])
    unfold confV
    go_enter Tryz.func73, Tryz.ntmps73
    go_wp2_with fail
    go_ret
    rw [HM.out]
    exact ⟨rfl, HK.out⟩

theorem checkC_may {e s : Nat} (h : mayC e s = true) : checkC e s = 0 := by unfold checkC; rw [if_pos h]
theorem checkC_not {e s : Nat} (h : mayC e s = false) : checkC e s = 1 := by unfold checkC; rw [if_neg (by rw [h]; decide)]
theorem shl_one {e : Nat} (h : e ≤ 24) : Op.shift BinOp.shl IntKind.i64 1 IntKind.u8 (e : Int) = pure (.int .i64 ((2 ^ e : Nat) : Int)) := by
  have : e = 0 ∨ e = 1 ∨ e = 2 ∨ e = 3 ∨ e = 4 ∨ e = 5 ∨ e = 6 ∨ e = 7 ∨ e = 8 ∨ e = 9 ∨ e = 10 ∨ e = 11 ∨ e = 12 ∨ e = 13 ∨ e = 14 ∨ e = 15 ∨ e = 16 ∨ e = 17 ∨ e = 18 ∨ e = 19 ∨ e = 20 ∨ e = 21 ∨ e = 22 ∨ e = 23 ∨ e = 24 := by omega
  rcases this with rfl | rfl | rfl | rfl | rfl | rfl | rfl | rfl | rfl | rfl | rfl | rfl | rfl | rfl | rfl | rfl | rfl | rfl | rfl | rfl | rfl | rfl | rfl | rfl | rfl <;> rfl

set_option maxHeartbeats 2000000 in
set_option maxRecDepth 10000 in
theorem size_conf (e s : Nat) (w : World) : Calls Tryz.prog 44 #[confV e s] w fun r w' => r = .returned (.int .i64 (sizeC e s : Int)) ∧ Keeps NoBlock w w' := by
  have HR := Lib.hid (Whole.new w 27 (confCells e s))
  have HK := Lib.hid ((Keeps.refl NoBlock w).alloc (.cells (confCells e s) 27))
  have H1 := Lib.hid (fun w => check_conf e s w)
  by_cases hm : mayC e s = true
  · have HM := Lib.hid (show sizeC e s = 2 ^ e by unfold sizeC; rw [if_pos hm])
    have he := (mayC_true.1 hm).2.1
    have hsh := shl_one he
    rw [checkC_may hm] at H1
    obtain ⟨q, hq⟩ : ∃ q, q = 2 ^ e := ⟨_, rfl⟩
    rw [← hq] at HM hsh
    clear hq hm he
    unfold confV at H1
    unfold confV
    go_enter Tryz.func44, Tryz.ntmps44
    go_wp2_with fail
    refine (H1.out _).mono ?_
    rintro r w1 ⟨rfl, hk⟩
    have HR := Lib.hid (HR.out.keep hk (fun h => h))
    have HK := Lib.hid (HK.out.trans hk)
    clear hk
    have c0 := HR.out.cell 0 rfl
    have c1 := HR.out.cell 1 rfl
    simp only [confCells, List.getElem_toArray, List.getElem_cons_zero, List.getElem_cons_succ] at c0 c1
    go_wp2_with fail
    go_ret
    rw [HM.out]
    exact ⟨rfl, HK.out⟩
  · have HM := Lib.hid (show sizeC e s = 0 by unfold sizeC; rw [if_neg hm])
    have hmf : mayC e s = false := by simpa using hm
    rw [checkC_not hmf] at H1
    clear hm hmf
    unfold confV at H1
    unfold confV
    go_enter Tryz.func44, Tryz.ntmps44
    go_wp2_with fail
    refine (H1.out _).mono ?_
    rintro r w1 ⟨rfl, hk⟩
    have HR := Lib.hid (HR.out.keep hk (fun h => h))
    have HK := Lib.hid (HK.out.trans hk)
    clear hk
    go_wp2_with fail
    go_ret
    rw [HM.out]
    exact ⟨rfl, HK.out⟩
end Go.Proofs.YtlejobomjgccnaaGreat

namespace Go.Proofs.YtlejobomjgccnaaGreat
open Go.RowKit

theorem sizeC_may {e s : Nat} (h : mayC e s = true) : sizeC e s = 2 ^ e := by unfold sizeC; rw [if_pos h]

end Go.Proofs.YtlejobomjgccnaaGreat

namespace Go.Proofs.YtlejobomjgccnaaGreat
open Go.RowKit

def bCells (e s n u k : Nat) (f p : Value) : Array Value := #[.int .u8 (e : Int), .int .u32 (s : Int), .int .u32 (n : Int), .int .i64 (u : Int), .int .i64 (k : Int), f, p]
/-- What the cells of a builder give. -/
theorem bcells_at {w : World} {g e s n u k : Nat} {f p : Value} (h : Whole w g 73 (bCells e s n u k f p)) :
    w.cell? ⟨g, 0, none⟩ = some (.int .u8 (e : Int)) ∧ w.cell? ⟨g, 1, none⟩ = some (.int .u32 (s : Int)) ∧ w.cell? ⟨g, 2, none⟩ = some (.int .u32 (n : Int)) ∧ w.cell? ⟨g, 3, none⟩ = some (.int .i64 (u : Int)) ∧ w.cell? ⟨g, 4, none⟩ = some (.int .i64 (k : Int)) ∧ w.cell? ⟨g, 5, none⟩ = some f ∧ w.cell? ⟨g, 6, none⟩ = some p :=
  ⟨h.cell 0 rfl, h.cell 1 rfl, h.cell 2 rfl, h.cell 3 rfl, h.cell 4 rfl, h.cell 5 rfl, h.cell 6 rfl⟩

set_option maxHeartbeats 4000000 in
set_option maxRecDepth 10000 in
/-- The frames, and what stands behind them; all else is Erased. -/
theorem whole_own (g e s n u k : Nat) (q : Option Addr) (m d : Nat) (pv : Value) (xs : List Int) (p : Option Addr) (N c : Nat) (ys : List Int) (w : World)
    (hw : Whole w g 73 (bCells e s n u k (.slice q m d) pv)) (hm : mayC e s = true) (hx : m = xs.length) (h8 : Bytes8 w q xs) (hN : N = ys.length) (hy : Bytes8 w p ys) (hl : m + N ≤ 2 ^ e) :
    Calls Tryz.prog 40 #[.pointer (some ⟨g, 0, none⟩), .slice p N c] w fun r w' => ∃ v, r = .returned v ∧ OwnB w (xs ++ ys ++ List.replicate (2 ^ e - (xs ++ ys).length) 255) v w' ∧ Keeps NoBlock w w' := by
  obtain ⟨i0, hi, hz0, hz1, hz2⟩ := info_parts infoByte
  obtain ⟨me, me2, _, _⟩ := mayC_true.1 hm
  obtain ⟨M, hM⟩ : ∃ M, M = 2 ^ e := ⟨_, rfl⟩
  have hMb : 0 < M ∧ M ≤ 16777216 := by rw [hM]; exact ⟨Nat.pow_pos (by decide), (two_e me2).2⟩
  have HS := Lib.hid (fun w => size_conf e s w)
  rw [sizeC_may hm, ← hM] at HS
  rw [← hM] at hl ⊢
  obtain ⟨c0, c1, c2, c3, c4, c5, c6⟩ := bcells_at (hw.alloc (.cells #[.int .u8 255] 5))
  have HK0 := Lib.hid ((Keeps.refl NoBlock w).alloc (.cells #[.int .u8 255] 5))
  have HB := Lib.hid (Whole.new w 5 #[.int .u8 255])
  have hlt := hw.lt
  have HW := Lib.hid hw
  have HX := Lib.hid h8
  have HY := Lib.hid hy
  have HXl := Lib.hid hx
  have HYl := Lib.hid hN
  have HSl : Hid (∀ G, ∀ (j : Nat), j ≤ M → ∀ W, ∃ d', (0 < M - j → d' = some ⟨G, j, none⟩) ∧ (Instr.slice 52 (.slice (some ⟨G, 0, none⟩) M M) (some (.int .i64 (j : Int))) none none).run Tryz.prog W = .ok (.slice d' (M - j) (M - j)) W) := Lib.hid (fun G j hj W => by
    have h := Lib.run_slice_tailV (P := Tryz.prog) W 52 5 Tryz.underlying52 (fun w => by simp [Go.sizeOf, typeInfo, hi, hz1]) G M j hj
    unfold Lib.tailV at h
    exact ⟨_, fun h0 => by rw [if_neg (by omega)], h⟩)
  have HR := Lib.hid (fun G w h => repeat_bytes G M 255 w hMb.1 (by omega) h)
  clear hw hm hx h8 hN hy me me2 hM
  unfold confV at HS
  unfold bCells at HW
  go_enter Tryz.func40, Tryz.ntmps40
  go_wp2_with fail
  refine (HS.out _).mono ?_
  rintro r w1 ⟨rfl, hk⟩
  have HK1 := Lib.hid (HK0.out.trans hk)
  have HC1 := Lib.hid ((HB.out.keep hk (fun h => h)).cell 0 rfl)
  clear hk c0 c1 c2 c3 c4 c5 c6 HK0 HB HS
  go_wp2_with fail
  refine (HR.out _ _ (by exact HC1.out)).mono ?_
  rintro r w2 ⟨G, rfl, hG, hf, hk⟩
  obtain ⟨c0, c1, c2, c3, c4, c5, c6⟩ := bcells_at (HW.out.keep (HK1.out.trans hk) (fun h => h))
  obtain ⟨w3, hr3, hf3, hk3⟩ := hf.row.put 0 m M M q d xs HXl.out (by omega) (by omega) (HX.out.keep (HK1.out.trans hk) (fun _ _ h => h)) (some ⟨G, 0, none⟩) (fun _ => rfl)
  have HG := Lib.hid (show w.heap.size ≤ G by have := HK1.out.size; omega)
  have HK3 := Lib.hid ((HK1.out.trans hk).then hk3 (fun i hi hj => by have := HG.out; unfold Just at hj; omega))
  obtain ⟨dd, hdd, hs⟩ := HSl.out G m (by omega) w3
  obtain ⟨w4, hr4, hf4, hk4⟩ := hf3.put m N (M - m) (M - m) p c ys HYl.out (by omega) (by omega) (HY.out.keep HK3.out (fun _ _ h => h)) dd (fun h0 => hdd (by omega))
  have HK4 := Lib.hid (HK3.out.then hk4 (fun i hi hj => by have := HG.out; unfold Just at hj; omega))
  have HF4 := Lib.hid hf4
  clear hk hf hf3 hk3 hf4 hk4 hG hdd
  go_wp2_with (at_builtin; first | refine Lib.wpList_copy_run _ rfl _ _ 52 52 rfl _ _ rfl rfl hr3 ?_ | refine Lib.wpList_copy_run _ rfl _ _ 52 52 rfl _ _ rfl rfl hr4 ?_)
  go_ret
  refine ⟨_, rfl, ?_, HK4.out⟩
  have h := HF4.out
  have hx := HXl.out
  have hy := HYl.out
  have hT : ((List.replicate M (255 : Int)).take 0 ++ xs ++ (List.replicate M (255 : Int)).drop (0 + m)).take m ++ ys ++ ((List.replicate M (255 : Int)).take 0 ++ xs ++ (List.replicate M (255 : Int)).drop (0 + m)).drop (m + N) = xs ++ ys ++ List.replicate (M - (xs ++ ys).length) 255 := by
    rw [List.take_zero, List.nil_append, Nat.zero_add, List.drop_replicate, hx, List.take_left' rfl, List.drop_append, List.drop_eq_nil_of_le (by omega), List.nil_append, List.drop_replicate, List.length_append]
    congr 2
    omega
  rw [hT] at h
  exact h.own HG.out (by unfold maxLen; omega)
end Go.Proofs.YtlejobomjgccnaaGreat

namespace Go.Proofs.YtlejobomjgccnaaGreat
open Go.RowKit

theorem addNone (g o i : Nat) : Addr.add ⟨g, o, none⟩ i = ⟨g, o + i, none⟩ := by unfold Addr.add; split <;> simp_all

/-- A State's part, as bytes. -/
theorem StAt.bytes {w : World} {g : Nat} {s : Int} {v : Nat → Int} {ps : List Int} {z : Int} (h : StAt w g s v ps z) : Bytes8 w (some ⟨g, 5, none⟩) ps :=
  fun _ => ⟨_, rfl, fun i hi => by rw [addNone]; exact h.2.2.cell (5 + i) (scells_part s v z i hi)⟩
theorem part_apart (g : Nat) (a : Addr) (ha : some (⟨g, 5, none⟩ : Addr) = some a) (i j : Nat) (hj : j < 4) : a.add i ≠ ⟨g, 1 + j, none⟩ := by
  obtain rfl := Option.some.inj ha
  rw [addNone]
  intro e
  have := congrArg Addr.off e
  simp at this
  omega
theorem block_apart {g : Nat} {q : Option Addr} (h : ∀ a, q = some a → a.block ≠ g) (a : Addr) (ha : q = some a) (i j : Nat) : a.add i ≠ ⟨g, 1 + j, none⟩ := by
  intro e
  have := congrArg Addr.block e
  rw [addBlock] at this
  exact h a ha this

/-- What Write has behind the block that was open: k blocks are taken up, b is what stands behind them. -/
def Wrote (w : World) (g : Nat) (s : Int) (all : List Int) (c : Nat) (b : Value) (wx : World) : Prop :=
  ∃ (k m d : Nat) (q : Option Addr) (ps : List Int), b = .slice q m d ∧ m = (all.drop (32 * k)).length ∧ m ≤ d ∧ d ≤ c ∧ (q = none → m = 0 ∧ d = 0) ∧ 32 * k ≤ all.length ∧ Bytes8 wx q (all.drop (32 * k)) ∧ (0 < m → ∀ a, q = some a → a.block ≠ g) ∧ StAt wx g s (wnums (wseed s) all k) ps all.length ∧ Keeps (Just g) w wx

set_option maxHeartbeats 2000000 in
set_option maxRecDepth 10000 in
theorem write_wide (g : Nat) (s : Int) (xs : List Int) (p : Option Addr) (N c : Nat) (ys : List Int) (w : World) (hh : Holds w g s xs) (hs : U64 s) (hxo : Octets xs) (hx : N = ys.length) (hc : N ≤ c) (hc' : c ≤ 9223372036854775807) (hn0 : p = none → N = 0 ∧ c = 0) (ho : Octets ys) (hb : Bytes8 w p ys)
    (hne : 0 < N → ∀ a, p = some a → a.block ≠ g) (hlen : xs.length + N ≤ 140737488355328) :
    Calls Tryz.prog 111 #[.pointer (some ⟨g, 0, none⟩), .slice p N c] w fun e w' => e = .returned (.pointer (some ⟨g, 0, none⟩)) ∧ Holds w' g s (xs ++ ys) ∧ Keeps (Just g) w w' := by
  obtain ⟨ps, hst, htk⟩ := hh
  have HPS := part_short (wseed s) xs ys ps N hx htk
  have HPF := part_full (wseed s) xs ys ps N hx hst.1 htk
  have HVB := Lib.hid (fun k j (hj : j < 4) => wnums_bound (fun j _ => wseed_bound hs j) (xs ++ ys) k j hj)
  have HVB0 := Lib.hid (fun k j (hj : j < 4) => wnums_bound (fun j _ => wseed_bound hs j) xs k j hj)
  have HAO : Hid (Octets (xs ++ ys)) := Lib.hid (fun b hb => (List.mem_append.1 hb).elim (hxo b) (ho b))
  have hal : ((xs ++ ys).length : Int) = (xs.length : Int) + (N : Int) := by rw [List.length_append, hx]; omega
  have hdr0 : xs.length % 32 = 0 → (xs ++ ys).drop (32 * (xs.length / 32)) = ys := fun h => by
    rw [show 32 * (xs.length / 32) = xs.length by omega, List.drop_left]
  have hwn0 := wnums_append (wseed s) xs ys (xs.length / 32) (by omega)
  have hall : 32 * (xs.length / 32) ≤ (xs ++ ys).length := by rw [List.length_append]; omega
  obtain ⟨all, hA⟩ : ∃ all, all = xs ++ ys := ⟨_, rfl⟩
  rw [← hA] at HPS HPF HVB HAO hal hdr0 hwn0 hall ⊢
  obtain ⟨L, hL⟩ : ∃ L, L = xs.length := ⟨_, rfl⟩
  obtain ⟨r, hr⟩ : ∃ r, r = L % 32 := ⟨_, rfl⟩
  obtain ⟨kq, hkq⟩ : ∃ kq, kq = L / 32 := ⟨_, rfl⟩
  rw [← hL] at hst htk hlen HPS HPF hal hdr0 hwn0 hall
  rw [← hr] at htk HPS HPF hdr0
  rw [← hkq] at hst HPS HPF hdr0 hwn0 hall
  obtain ⟨v, hv⟩ : ∃ v, v = wnums (wseed s) xs kq := ⟨_, rfl⟩
  have HV0 : Hid (∀ j, j < 4 → U64 (v j)) := Lib.hid (by rw [hv]; exact fun j hj => HVB0.out kq j hj)
  rw [← hv] at hst HPS HPF hwn0
  have HST := Lib.hid hst
  have hl := hst.1
  have c37 := hst.2.2.cell 37 (scells_size _ _ _ hl)
  have f37 := hst.2.2.free 37
  have hrem : (L : Int) % 32 = (r : Int) := by omega
  have hr31 : r ≤ 31 := by omega
  have hr0 : (0 : Int) ≤ (r : Int) := by omega
  have hr32 : (r : Int) ≤ 32 := by omega
  have hr32' : ¬ 32 = r := by omega
  have HX := Lib.hid hx
  have HB := Lib.hid hb
  have HO := Lib.hid ho
  have HPS := Lib.hid HPS
  have HPF := Lib.hid HPF
  have HAL := Lib.hid hal
  have HD0 := Lib.hid hdr0
  have HW0 := Lib.hid hwn0
  have HKQ := Lib.hid hall
  have HNE := Lib.hid hne
  have HN0 := Lib.hid hn0
  have HTK := Lib.hid htk
  have hlr : L = 32 * kq + r := by omega
  have HLR := Lib.hid hlr
  have HLL := Lib.hid hL
  have HS1 : Hid (StAt (w.setCell ⟨g, 37, none⟩ (.int .u64 ((L : Int) + (N : Int)))) g s v ps ((L : Int) + (N : Int))) :=
    Lib.hid ⟨hst.1, hst.2.1, by rw [← scells_setSize s v (L : Int) ((L : Int) + (N : Int)) hl]; exact hst.2.2.set 37 _⟩
  have HK1 : Hid (Keeps (Just g) w (w.setCell ⟨g, 37, none⟩ (.int .u64 ((L : Int) + (N : Int))))) := Lib.hid ((Keeps.refl _ _).setIn (Just.self g) 37 _)
  clear hL hr hx hb ho hal hdr0 hwn0 hall hne hn0 htk hkq hv hlr hA hst hs hxo hl
  go_enter Tryz.func111, Tryz.ntmps111
  go_upto_if 23 with (fail)
  go_cut [1, 5, 6] (fun s1 _ _ wx => Wrote w g s all c s1 wx)
  case first =>
    obtain ⟨W0, hW0⟩ : ∃ W0, W0 = w.setCell ⟨g, 37, none⟩ (.int .u64 ((L : Int) + (N : Int))) := ⟨_, rfl⟩
    rw [← hW0] at HS1 HK1 ⊢
    have HB0 : Hid (Bytes8 W0 p ys) := Lib.hid (HB.out.keepPos HK1.out (fun h a ha hj => HNE.out (by rw [HX.out]; exact h) a ha hj))
    clear hW0
    by_cases h0 : 0 < r
    · have hdn : decide ((0 : Int) < (r : Int)) = true := decide_eq_true (by omega)
      obtain ⟨W1, hcp, hst1, hk1⟩ := copy_part HS1.out r (32 - r) (5 + r) rfl (by omega) p N c ys HX.out HN0.out HB0.out HO.out
      have hn1 : min N (32 - r) ≤ N := Nat.min_le_left _ _
      have hn2 : r + min N (32 - r) ≤ 32 := by omega
      have hn3 : N ≤ min N (32 - r) ∨ r + min N (32 - r) = 32 := by omega
      obtain ⟨n, hn⟩ : ∃ n, n = min N (32 - r) := ⟨_, rfl⟩
      have HPS := Lib.hid HPS.out
      have HPF := Lib.hid HPF.out
      rw [← hn] at hcp hst1 hn1 hn2 hn3 HPS HPF
      have HS2 := Lib.hid hst1
      have HK2 := Lib.hid (HK1.out.trans hk1)
      have HN3 := Lib.hid hn3
      have hnc : (n : Int) ≤ (c : Int) := by omega
      have hnN : (n : Int) ≤ (N : Int) := by omega
      have hn00 : (0 : Int) ≤ (n : Int) := by omega
      have hrn : IntKind.u64.wrap ((r : Int) + (n : Int)) = (r : Int) + (n : Int) := by rw [IntKind.wrap_u64]; omega
      clear hst1 hn hn3
      have hbp : ∀ q, (0 < N - n → q = p.map (·.add n)) → Bytes8 W1 q (ys.drop n) := fun q hq => by
        have h1 := HB0.out.piece (q := q) n (N - n) (by have := HX.out; omega) hq
        rw [List.take_of_length_le (by rw [List.length_drop]; have := HX.out; omega)] at h1
        by_cases hz : 0 < N - n
        · rw [hq hz] at h1 ⊢
          exact h1.keep hk1 (fun a ha h => by
            obtain ⟨b, hb, rfl⟩ := Option.map_eq_some_iff.1 ha
            exact HNE.out (by omega) b hb (by rw [← addBlock b n]; exact h))
        · exact fun h => absurd h (by rw [List.length_drop]; have := HX.out; omega)
      have HBp := Lib.hid hbp
      clear hbp hk1
      by_cases hf : r + n < 32
      · have hdf : decide ((r : Int) + (n : Int) < 32) = true := decide_eq_true (by omega)
        have HH : Hid (Holds W1 g s all) := Lib.hid (by
          obtain ⟨e1, e2⟩ := HPS.out (by have := HN3.out; omega)
          refine ⟨_, ?_, e1⟩
          rw [e2, HAL.out]
          exact HS2.out)
        go_wp2_with fail
        all_goals
          go_ret
          exact ⟨rfl, HH.out, HK2.out⟩
      · have hdf : decide ((r : Int) + (n : Int) < 32) = false := decide_eq_false (by omega)
        obtain ⟨e1, e2⟩ := HPF.out (by omega)
        obtain ⟨P, hP⟩ : ∃ P, P = ps.take r ++ ys.take n ++ ps.drop (r + n) := ⟨_, rfl⟩
        rw [← hP] at e1 HS2
        have HT := Lib.hid (take_wide g s v P ((L : Int) + (N : Int)) (some ⟨g, 5, none⟩) 32 32 P W1 HS2.out HV0.out HS2.out.1.symm (Nat.le_refl _) (Nat.le_refl _) (by decide) HS2.out.2.1 HS2.out.bytes (fun a ha i j _ hj => part_apart g a ha i j hj))
        have HE1 := Lib.hid e1
        have HE2 := Lib.hid e2
        clear e1 e2 hP
        go_wp2_with fail
        all_goals
          refine HT.out.mono ?_
          rintro e w2 ⟨rfl, hst2, hk2⟩
          have HS3 := Lib.hid hst2
          have HK3 := Lib.hid hk2
          clear hst2 hk2
          go_wp2_with fail
          go_meet
          case rel =>
            refine ⟨kq + 1, _, _, _, P, rfl, by rw [← HE2.out, List.length_drop, HX.out], by omega, by omega, ?_, ?_, ?_, ?_, ?_, HK2.out.trans HK3.out⟩
            · intro hq
              have h0 := HN0.out (by simpa using hq)
              omega
            · have h2 : (all.length : Int) = L + N := HAL.out
              have := HLR.out
              omega
            · rw [← HE2.out]
              refine Bytes8.keepPos (HBp.out _ (fun h => by first | rfl | omega)) HK3.out ?_
              intro h a ha hj
              have h0N : 0 < N := by rw [List.length_drop] at h; have := HX.out; omega
              first
                | exact HNE.out h0N a ha hj
                | (obtain ⟨b, hb, rfl⟩ := Option.map_eq_some_iff.1 ha
                   exact HNE.out h0N b hb (by rw [← addBlock b n]; exact hj))
            · intro h a ha
              have h0N : 0 < N := by omega
              first
                | exact HNE.out h0N a ha
                | (obtain ⟨b, hb, rfl⟩ := Option.map_eq_some_iff.1 ha
                   rw [addBlock]
                   exact HNE.out h0N b hb)
            · rw [HAL.out, ← HE1.out]
              exact HS3.out
    · have hr00 : r = 0 := by omega
      have HD := Lib.hid (HD0.out hr00)
      have hdn : decide ((0 : Int) < (r : Int)) = false := decide_eq_false (by omega)
      go_wp2_with fail
      go_meet
      case rel =>
        refine ⟨kq, _, _, _, ps, rfl, by rw [HD.out, HX.out], hc, Nat.le_refl _, HN0.out, HKQ.out, by rw [HD.out]; exact HB0.out, HNE.out, ?_, HK1.out⟩
        rw [HW0.out, HAL.out]
        exact HS1.out
  case rest =>
    obtain ⟨k, m, d, q, ps1, rfl, hm, hmd, hdc, hq0, hka, hb1, hqg, hst1, hk1⟩ := hcut
    have HK := Lib.hid hk1
    clear hk1 HS1 HK1 HPS HPF HD0 HW0 HN0 HNE HKQ HST HB
    obtain ⟨W1, rfl⟩ : ∃ W1, W1 = wc := ⟨_, rfl⟩
    obtain ⟨M, hM⟩ : ∃ M, M = all.length := ⟨_, rfl⟩
    have HMM := Lib.hid hM
    rw [← hM] at hka hst1
    clear hM c37 f37 hrem hr31 hr0 hr32 hr32'
    have HH : Hid (Wrote w g s all c (.slice q m d) W1) := Lib.hid ⟨k, m, d, q, ps1, rfl, hm, hmd, hdc, hq0, by rw [← HMM.out]; exact hka, hb1, hqg, by rw [← HMM.out]; exact hst1, HK.out⟩
    clear hm hmd hdc hq0 hka hb1 hqg hst1 HK
    go_wp2_with fail
    go_loopw [1] (fun s1 wr => Wrote w g s all c s1 wr) (fun s1 _ => lenOf s1)
    case atStart => exact HH.out
    case round =>
      clear HH
      obtain ⟨k, m, d, q, ps1, rfl, hm, hmd, hdc, hq0, hka, hb1, hqg, hst1, hk1⟩ := hrel
      have HK := Lib.hid hk1
      have HM := Lib.hid hm
      have HS := Lib.hid hst1
      have HQ0 := Lib.hid hq0
      have HQG := Lib.hid hqg
      have HB := Lib.hid hb1
      have HKA := Lib.hid hka
      obtain ⟨v1, hv1⟩ : ∃ v1, v1 = wnums (wseed s) all k := ⟨_, rfl⟩
      have HV1 : Hid (∀ j, j < 4 → U64 (v1 j)) := Lib.hid (by rw [hv1]; exact fun j hj => HVB.out k j hj)
      have HE1 := Lib.hid hv1
      clear hk1 hm hst1 hq0 hqg hb1 hka hv1
      by_cases h32 : 32 ≤ m
      · have hdm : decide ((32 : Int) ≤ (m : Int)) = true := decide_eq_true (by omega)
        have HT := Lib.hid (take_wide g s v1 ps1 (all.length : Int) q m d (all.drop (32 * k)) wr (by rw [HE1.out]; exact HS.out) HV1.out HM.out h32 hmd (by omega) (HAO.out.drop _) HB.out (fun a ha i j hi _ => block_apart (HQG.out (by omega)) a ha i j))
        have hnx : wtaken v1 (all.drop (32 * k)) 4 = wnums (wseed s) all (k + 1) := by rw [HE1.out]; rfl
        rw [hnx] at HT
        clear hnx
        have hm32 : (32 : Int) ≤ (m : Int) := by omega
        have hd32 : (32 : Int) ≤ (d : Int) := by omega
        go_wp2_with fail
        refine HT.out.mono ?_
        rintro e w2 ⟨rfl, hst2, hk2⟩
        have HS3 := Lib.hid hst2
        have HK3 := Lib.hid hk2
        have HB3 := Lib.hid (HB.out.keepPos hk2 (fun h a ha hj => HQG.out (by omega) a ha hj))
        clear hst2 hk2
        go_wp2_with fail
        refine ⟨⟨k + 1, m - 32, _, _, ps1, rfl, ?_, by omega, by omega, ?_, ?_, ?_, ?_, HS3.out, HK.out.trans HK3.out⟩, ?_⟩
        · have := HM.out
          rw [List.length_drop] at this ⊢
          omega
        · intro hq
          have h0 := HQ0.out (by
            revert hq
            split
            · exact id
            · simp)
          omega
        · have := HM.out
          rw [List.length_drop] at this
          omega
        · have hbk := (HB3.out.piece (q := if d = 32 then q else Option.map (fun x => { block := x.block, off := x.off + 32 }) q) 32 (m - 32) (by have := HM.out; omega) (fun h => by rw [if_neg (by omega)]; cases q <;> simp [Addr.add]))
          rw [List.take_of_length_le (by rw [List.length_drop]; have := HM.out; omega), List.drop_drop] at hbk
          exact hbk
        · intro h a ha
          revert ha
          split
          · exact HQG.out (by omega) a
          · intro ha
            obtain ⟨b, hb, rfl⟩ := Option.map_eq_some_iff.1 ha
            exact HQG.out (by omega) b hb
        · show m - 32 < m
          omega
      · have hdm : decide ((32 : Int) ≤ (m : Int)) = false := decide_eq_false (by omega)
        obtain ⟨W2, hcp, hst2, hk2⟩ := copy_part (v := v1) (by rw [HE1.out]; exact HS.out) 0 32 5 rfl (by omega) q m d (all.drop (32 * k)) HM.out HQ0.out HB.out (HAO.out.drop _)
        obtain ⟨e1, e2⟩ := part_end all ps1 k m HM.out HKA.out (by omega)
        have HH : Hid (Holds W2 g s all) := Lib.hid ⟨_, by rw [← e2, ← HE1.out]; exact hst2, e1⟩
        have HKZ := Lib.hid (HK.out.trans hk2)
        clear hst2 hk2 e1 e2
        go_wp2_with fail
        go_ret
        exact ⟨rfl, HH.out, HKZ.out⟩
end Go.Proofs.YtlejobomjgccnaaGreat

namespace Go.Proofs.YtlejobomjgccnaaGreat
open Go.RowKit

set_option maxRecDepth 100000 in
theorem index_row4 (v : Nat → Int) {j : Nat} (hj : j < 4) (w : World) :
    (Instr.index 141 (.agg #[Value.int .u64 (v 0), Value.int .u64 (v 1), Value.int .u64 (v 2), Value.int .u64 (v 3)]) (.int .i64 (j : Int))).run Tryz.prog w = .ok (.int .u64 (v j)) w := by
  have : j = 0 ∨ j = 1 ∨ j = 2 ∨ j = 3 := by omega
  rcases this with rfl | rfl | rfl | rfl <;> rfl

set_option maxHeartbeats 2000000 in
set_option maxRecDepth 10000 in
theorem blocks_wide (g : Nat) (s : Int) (xs : List Int) (w : World) (hh : Holds w g s xs) (hs : U64 s) (hlen : xs.length ≤ 140737488355328) :
    Calls Tryz.prog 142 #[.pointer (some ⟨g, 0, none⟩)] w fun e w' => e = .returned (.int .u64 (wblocks s xs)) ∧ ∃ n, w' = w.drewN n := by
  obtain ⟨ps, ⟨hl, _, hwh⟩, _⟩ := hh
  obtain ⟨L, hL⟩ : ∃ L, L = xs.length := ⟨_, rfl⟩
  have hwb : wblocks s xs = if L < 32 then IntKind.u64.wrap (s + 2870177450012600261) else wmerged (wnums (wseed s) xs (L / 32)) 4 := by rw [hL]; rfl
  have hvb : ∀ j, j < 4 → U64 (wnums (wseed s) xs (xs.length / 32) j) := fun j hj => wnums_bound (fun j _ => wseed_bound hs j) xs _ j hj
  rw [← hL] at hwh hlen hvb
  obtain ⟨v, hv⟩ : ∃ v, v = wnums (wseed s) xs (L / 32) := ⟨_, rfl⟩
  rw [← hv] at hwh hvb hwb
  rw [hwb]
  have c37 := hwh.cell 37 (scells_size _ _ _ hl)
  have c0 := hwh.cell 0 (scells_seed _ _ _ _)
  have hs0 := hs.1
  have hs1 := hs.2
  have HW := Lib.hid hwh
  have HV := Lib.hid hvb
  clear hwb hvb hv hL hwh hs
  by_cases h32 : L < 32
  · rw [if_pos h32]
    have hdl : decide ((L : Int) < 32) = true := decide_eq_true (by omega)
    go_enter Tryz.func142, Tryz.ntmps142
    go_wp2_with fail
    go_ret
    exact ⟨rfl, 0, rfl⟩
  · rw [if_neg h32]
    have hdl : decide ((L : Int) < 32) = false := decide_eq_false (by omega)
    have d0 := HW.out.cell 1 (scells_num s v ps L (j := 0) (by decide))
    have d1 := HW.out.cell 2 (scells_num s v ps L (j := 1) (by decide))
    have d2 := HW.out.cell 3 (scells_num s v ps L (j := 2) (by decide))
    have d3 := HW.out.cell 4 (scells_num s v ps L (j := 3) (by decide))
    have HT0 := Lib.hid (fun w => wrotl (v 0) 1 1 (by decide) (by decide) rfl (HV.out 0 (by decide)) w)
    have HT1 := Lib.hid (fun w => wrotl (v 1) 7 7 (by decide) (by decide) rfl (HV.out 1 (by decide)) w)
    have HT2 := Lib.hid (fun w => wrotl (v 2) 12 12 (by decide) (by decide) rfl (HV.out 2 (by decide)) w)
    have HT3 := Lib.hid (fun w => wrotl (v 3) 18 18 (by decide) (by decide) rfl (HV.out 3 (by decide)) w)
    go_enter Tryz.func142, Tryz.ntmps142
    go_wp2_with fail
    refine wp_region_still_lit (by kernel_rfl) (by kernel_rfl) ?_
    still_step
    still_step
    still_step
    still_step
    still_step
    still_call ((HT0.out _).mono fun e w5 h => ⟨h.1, h.2.symm⟩)
    still_step
    still_step
    still_step
    still_step
    still_step
    still_call ((HT1.out _).mono fun e w5 h => ⟨h.1, h.2.symm⟩)
    still_step
    still_step
    still_step
    still_step
    still_step
    still_step
    still_call ((HT2.out _).mono fun e w5 h => ⟨h.1, h.2.symm⟩)
    still_step
    still_step
    still_step
    still_step
    still_step
    still_step
    still_call ((HT3.out _).mono fun e w5 h => ⟨h.1, h.2.symm⟩)
    still_step
    still_step
    refine wpStill_nil ?_
    change Exit.then _ _ _ _ w.drew
    obtain ⟨W0, hW0⟩ : ∃ W0, W0 = w.drew := ⟨_, rfl⟩
    rw [← hW0]
    have HWE := Lib.hid hW0
    have d0 : W0.cell? ⟨g, 1, none⟩ = some (.int .u64 (v 0)) := by rw [hW0]; exact d0
    have d1 : W0.cell? ⟨g, 2, none⟩ = some (.int .u64 (v 1)) := by rw [hW0]; exact d1
    have d2 : W0.cell? ⟨g, 3, none⟩ = some (.int .u64 (v 2)) := by rw [hW0]; exact d2
    have d3 : W0.cell? ⟨g, 4, none⟩ = some (.int .u64 (v 3)) := by rw [hW0]; exact d3
    clear hW0
    go_wp2_with fail
    go_loop [3, 47] (fun h i => ∃ j : Nat, j ≤ 4 ∧ i = .int .i64 (j : Int) ∧ h = .int .u64 (wmerged v j)) (fun _ i => 4 - (intOf i).toNat)
    case atStart => exact ⟨0, by omega, rfl, rfl⟩
    case round =>
      obtain ⟨j, hj4, rfl, rfl⟩ := hrel
      by_cases hlt4 : j < 4
      · have HI := Lib.hid (fun w => winto_wide 0 (v j) ⟨by decide, by decide⟩ (HV.out j hlt4) w)
        have ha1 : (0 : Int) ≤ (j : Int) := by omega
        have ha2 : (j : Int) < 4 := by omega
        have hg := index_row4 v hlt4 W0
        go_wp2_with fail
        refine (HI.out _).mono ?_
        rintro e w' ⟨rfl, rfl⟩
        go_wp2_with fail
        go_round
        case rel => exact ⟨j + 1, by omega, rfl, rfl⟩
        case measure => simp [intOf]; omega
      · obtain rfl : j = 4 := by omega
        go_wp2_with fail
        go_ret
        exact ⟨rfl, 1, HWE.out⟩

set_option maxHeartbeats 2000000 in
set_option maxRecDepth 10000 in
theorem ssum_wide (g : Nat) (s : Int) (xs : List Int) (w : World) (hh : Holds w g s xs) (hs : U64 s) (ho : Octets xs) (hlen : xs.length ≤ 140737488355328) :
    Calls Tryz.prog 112 #[.pointer (some ⟨g, 0, none⟩)] w fun e w' => e = .returned (.int .u64 (wxxh s xs)) ∧ Keeps NoBlock w w' := by
  have HBl := Lib.hid (fun w hh => blocks_wide g s xs w hh hs hlen)
  have HHo := Lib.hid hh
  obtain ⟨ps, ⟨hl, hpo, hwh⟩, htk⟩ := hh
  have hspec : wxxh s xs = wend (weights (IntKind.u64.wrap (wblocks s xs + (xs.length : Int))) (wleft xs)) := rfl
  have hb0 := wblocks_bound s xs
  have hll := wleft_length xs
  have hlo := ho.wleft
  have hb1 : Bytes8 w (some ⟨g, 5, none⟩) (wleft xs) := by
    have h1 := (show StAt w g s (wnums (wseed s) xs (xs.length / 32)) ps xs.length from ⟨hl, hpo, hwh⟩).bytes.piece (q := some ⟨g, 5, none⟩) 0 (xs.length % 32) (by omega) (fun _ => rfl)
    rw [List.drop_zero, htk] at h1
    exact h1
  obtain ⟨L, hL⟩ : ∃ L, L = xs.length := ⟨_, rfl⟩
  obtain ⟨r, hr⟩ : ∃ r, r = L % 32 := ⟨_, rfl⟩
  have c37 := hwh.cell 37 (scells_size _ _ _ hl)
  rw [← hL] at hspec hll hlen c37
  rw [← hr] at hll
  obtain ⟨B, hB⟩ : ∃ B, B = wblocks s xs := ⟨_, rfl⟩
  obtain ⟨Y, hY⟩ : ∃ Y, Y = wleft xs := ⟨_, rfl⟩
  rw [← hB] at hspec hb0 HBl
  rw [← hY] at hspec hll hlo hb1
  obtain ⟨h1, hh1⟩ : ∃ h1, h1 = IntKind.u64.wrap (B + (L : Int)) := ⟨_, rfl⟩
  have hu1 := wmod_bound (B + (L : Int))
  rw [← hh1] at hspec hu1
  have HS0 := Lib.hid hspec
  have HB1 := Lib.hid hb1
  have HLo := Lib.hid hlo
  have HLl := Lib.hid hll
  have HU1 := Lib.hid hu1
  have HH1 := Lib.hid hh1
  have B0 := hb0.1
  have B1 := hb0.2
  have hrem : (L : Int) % 32 = (r : Int) := by omega
  have hr31 : r ≤ 31 := by omega
  have hr0 : (0 : Int) ≤ (r : Int) := by omega
  have hr32 : (r : Int) ≤ 32 := by omega
  clear hspec hb1 hlo hll hu1 hh1 hb0 hB hY hL hr hwh hl hpo htk hs ho
  go_enter Tryz.func112, Tryz.ntmps112
  go_wp2_with fail
  go_quiet ((go_at_call 142; exact Calls.quiet_of (HBl.out _ (by exact HHo.out))))
  obtain ⟨n1, hn1⟩ : ∃ n1, n1 = nq := ⟨_, rfl⟩
  rw [← hn1]
  clear hn1
  go_wp2_with fail
  go_quiet (fail)
  go_wp2_with fail
  obtain ⟨W1, hW1⟩ : ∃ W1, W1 = (w.drewN n1).drewN nq := ⟨_, rfl⟩
  have HK1 : Hid (Keeps NoBlock w W1) := Lib.hid (by rw [hW1]; exact ((Keeps.refl _ w).drewN _).drewN _)
  have HBy : Hid (Bytes8 W1 (some ⟨g, 5, none⟩) Y) := Lib.hid (by rw [hW1]; exact HB1.out)
  rw [← hW1, ← HH1.out]
  clear hW1 c37
  go_loopw [3, 4] (fun s3 s4 wr => ∃ (h : Int) (ys : List Int) (q : Option Addr) (m d : Nat), s4 = .slice q m d ∧ s3 = .int .u64 h ∧ m = ys.length ∧ m ≤ d ∧ d ≤ 32 ∧ Hid (U64 h) ∧ Hid (Octets ys) ∧ Hid (Bytes8 W1 q ys) ∧ Hid (weights h ys = weights h1 Y) ∧ Keeps NoBlock W1 wr) (fun _ s4 _ => lenOf s4)
  case atStart => exact ⟨_, Y, _, r, 32, rfl, rfl, HLl.out.symm, by omega, Nat.le_refl _, HU1, HLo, HBy, Lib.hid rfl, Keeps.refl _ _⟩
  case round =>
    clear HBy hrem hr31 hr0 hr32 B0 B1
    obtain ⟨h, ys, q, m, d, rfl, rfl, hm, hmd, hdc, hu, hy, hyb, ht, hk⟩ := hrel
    have HM := Lib.hid hm
    have HK2 := Lib.hid hk
    clear hm hk
    have hu0 := hu.out.1
    have hu1 := hu.out.2
    by_cases h8 : 8 ≤ m
    · have hdm : decide ((8 : Int) ≤ (m : Int)) = true := decide_eq_true (by omega)
      have HF := Lib.hid (fun w' (hb : Bytes8 w' q ys) => eight_wide q m d ys HM.out h8 hmd hy.out w' hb)
      obtain ⟨y, hyd⟩ : ∃ y, y = four8 ys 0 := ⟨_, rfl⟩
      have hyb8 := four8_bound hy.out 0
      have HG := Lib.hid (weights_go (h := h) (xs := ys) (by have := HM.out; omega))
      rw [← hyd] at hyb8 HF HG
      have HI := Lib.hid (fun w => winto_wide 0 y ⟨by decide, by decide⟩ hyb8 w)
      have HT := Lib.hid (fun w => wrotl (xr h (win 0 y)) 27 27 (by decide) (by decide) rfl (xr_bound _ _) w)
      have he : weight h y = IntKind.u64.wrap (IntKind.u64.wrap (wrot 27 (xr h (win 0 y)) * 11400714785074694791) + 9650029242287828579) := rfl
      have HE := Lib.hid he
      have hbk := (hyb.out.piece (q := if d = 8 then q else Option.map (fun x => { block := x.block, off := x.off + 8 }) q) 8 (m - 8) (by have := HM.out; omega) (fun h => by rw [if_neg (by omega)]; cases q <;> simp [Addr.add]))
      rw [List.take_of_length_le (by rw [List.length_drop]; have := HM.out; omega)] at hbk
      have HBk := Lib.hid hbk
      clear hyd hyb8 he hbk
      go_wp2_with fail
      refine (HF.out _ (hyb.out.keep HK2.out (fun _ _ h => h))).mono ?_
      rintro e w' ⟨rfl, n5, rfl⟩
      go_wp2_with fail
      refine (HI.out _).mono ?_
      rintro e w' ⟨rfl, rfl⟩
      go_wp2_with fail
      refine (HT.out _).mono ?_
      rintro e w' ⟨rfl, rfl⟩
      go_wp2_with fail
      refine ⟨⟨_, ys.drop 8, _, _, _, rfl, rfl, by rw [List.length_drop, HM.out], by omega, by omega, Lib.hid (wmod_bound _), Lib.hid (hy.out.drop 8), HBk, Lib.hid ?_, HK2.out.drewN _⟩, ?_⟩
      · rw [← HE.out, ← HG.out]
        exact ht.out
      · show m - 8 < m
        omega
    · have HG := Lib.hid (weights_end (h := h) (xs := ys) (by have := HM.out; omega))
      obtain ⟨T, hT⟩ : ∃ T, T = weights h1 Y := ⟨_, rfl⟩
      rw [← hT] at HS0 ht
      rw [HG.out] at ht
      have hdm : decide ((8 : Int) ≤ (m : Int)) = false := decide_eq_false (by omega)
      clear hT HG
      obtain ⟨W2, rfl⟩ : ∃ W2, W2 = wr := ⟨_, rfl⟩
      go_wp2_with fail
      go_loopw [3, 4] (fun s3 s4 wr => ∃ (h : Int) (ys : List Int) (q : Option Addr) (m d : Nat), s4 = .slice q m d ∧ s3 = .int .u64 h ∧ m = ys.length ∧ m ≤ d ∧ d ≤ 32 ∧ Hid (U64 h) ∧ Hid (Octets ys) ∧ Hid (Bytes8 W1 q ys) ∧ Hid (wfours h ys = T) ∧ Keeps NoBlock W1 wr) (fun _ s4 _ => lenOf s4)
      case atStart => exact ⟨_, ys, _, m, d, rfl, rfl, HM.out, hmd, hdc, hu, hy, hyb, ht, HK2.out⟩
      case round =>
        clear hdm h8 ht hyb hy hu hu0 hu1 HM HK2 hmd hdc
        obtain ⟨h, ys, q, m, d, rfl, rfl, hm, hmd, hdc, hu, hy, hyb, ht, hk⟩ := hrel
        have HM := Lib.hid hm
        have HK2 := Lib.hid hk
        clear hm hk
        have hu0 := hu.out.1
        have hu1 := hu.out.2
        by_cases h4 : 4 ≤ m
        · have hdm : decide ((4 : Int) ≤ (m : Int)) = true := decide_eq_true (by omega)
          have HF := Lib.hid (fun w' (hb : Bytes8 w' q ys) => four_wide q m d ys HM.out h4 hy.out w' hb)
          obtain ⟨y, hyd⟩ : ∃ y, y = four4 ys 0 := ⟨_, rfl⟩
          have hyb8 := four4_u64 hy.out 0
          have HG := Lib.hid (wfours_go (h := h) (xs := ys) (by have := HM.out; omega))
          rw [← hyd] at hyb8 HF HG
          have hy0 := hyb8.1
          have hy1 := hyb8.2
          have HT := Lib.hid (fun w => wrotl (xr h (IntKind.u64.wrap (y * 11400714785074694791))) 23 23 (by decide) (by decide) rfl (xr_bound _ _) w)
          have he : wfour h y = IntKind.u64.wrap (IntKind.u64.wrap (wrot 23 (xr h (IntKind.u64.wrap (y * 11400714785074694791))) * 14029467366897019727) + 1609587929392839161) := rfl
          have HE := Lib.hid he
          have hbk := (hyb.out.piece (q := if d = 4 then q else Option.map (fun x => { block := x.block, off := x.off + 4 }) q) 4 (m - 4) (by have := HM.out; omega) (fun h => by rw [if_neg (by omega)]; cases q <;> simp [Addr.add]))
          rw [List.take_of_length_le (by rw [List.length_drop]; have := HM.out; omega)] at hbk
          have HBk := Lib.hid hbk
          clear hyd hyb8 he hbk
          go_wp2_with fail
          refine (HF.out _ (hyb.out.keep HK2.out (fun _ _ h => h))).mono ?_
          rintro e w' ⟨rfl, n5, rfl⟩
          go_wp2_with fail
          refine (HT.out _).mono ?_
          rintro e w' ⟨rfl, rfl⟩
          go_wp2_with fail
          refine ⟨⟨_, ys.drop 4, _, _, _, rfl, rfl, by rw [List.length_drop, HM.out], by omega, by omega, Lib.hid (wmod_bound _), Lib.hid (hy.out.drop 4), HBk, Lib.hid ?_, HK2.out.drewN _⟩, ?_⟩
          · rw [← HE.out, ← HG.out]
            exact ht.out
          · show m - 4 < m
            omega
        · have HG := Lib.hid (wfours_end (h := h) (xs := ys) (by have := HM.out; omega))
          rw [HG.out] at ht
          have hdm : decide ((4 : Int) ≤ (m : Int)) = false := decide_eq_false (by omega)
          obtain ⟨W3, rfl⟩ : ∃ W3, W3 = wr := ⟨_, rfl⟩
          have HBz := Lib.hid (hyb.out.keep HK2.out (fun _ _ h => h))
          go_wp2_with fail
          go_loop [3, 51] (fun s3 i => ∃ k : Nat, k ≤ m ∧ i = .int .i64 (k : Int) ∧ s3 = .int .u64 ((ys.take k).foldl wone h)) (fun _ i => m - (intOf i).toNat)
          case atStart => exact ⟨0, Nat.zero_le _, rfl, rfl⟩
          case round =>
            obtain ⟨k, hk, rfl, rfl⟩ := hrel
            have hfb := fold_wone (ys.take k) h hu.out
            by_cases hlt : k < m
            · have HN2 := Lib.hid (fold_wnext ys h k (by have := HM.out; omega))
              have hgb := hy.out.getD k
              obtain ⟨a, rfl, hcell⟩ := HBz.out (by have := HM.out; omega)
              have c0 := hcell k (by have := HM.out; omega)
              obtain ⟨z, hq⟩ : ∃ z, z = (ys.take k).foldl wone h := ⟨_, rfl⟩
              obtain ⟨b, hb⟩ : ∃ b, b = ys.getD k 0 := ⟨_, rfl⟩
              rw [← hq] at hfb HN2 ⊢
              rw [← hb] at hgb HN2 c0
              have hq0 := hfb.1
              have hq1 := hfb.2
              have hb0 := hgb.1
              have hb1 := hgb.2
              have HT := Lib.hid (fun w => wrotl (xr z (IntKind.u64.wrap (b * 2870177450012600261))) 11 11 (by decide) (by decide) rfl (xr_bound _ _) w)
              have he : wone z b = IntKind.u64.wrap (wrot 11 (xr z (IntKind.u64.wrap (b * 2870177450012600261))) * 11400714785074694791) := rfl
              have HE := Lib.hid he
              have hdk : decide ((k : Int) < (m : Int)) = true := decide_eq_true (by omega)
              clear hq hb hfb hgb he hcell
              go_wp2_with fail
              refine (HT.out _).mono ?_
              rintro e w' ⟨rfl, rfl⟩
              go_wp2_with fail
              exact ⟨⟨k + 1, by omega, rfl, by rw [HN2.out, HE.out]⟩, by simp [intOf]; omega⟩
            · obtain rfl : k = m := by omega
              rw [List.take_of_length_le (Nat.le_of_eq HM.out.symm), ht.out] at hfb ⊢
              have HX := Lib.hid (fun w => wmix_wide T hfb w)
              have HK3 := Lib.hid (HK1.out.trans HK2.out)
              clear hfb
              go_wp2_with fail
              refine (HX.out _).mono ?_
              rintro e w' ⟨rfl, rfl⟩
              go_wp2_with fail
              go_ret
              exact ⟨by rw [HS0.out]; rfl, HK3.out⟩

/-- Sum of bytes, by a seed. -/
theorem sum_wide (s : Int) (hs : U64 s) (p : Option Addr) (N c : Nat) (xs : List Int) (hx : N = xs.length) (hc : N ≤ c) (hc' : c ≤ 9223372036854775807) (hn0 : p = none → N = 0 ∧ c = 0) (ho : Octets xs) (hl : N ≤ 140737488355328) (w : World) (hb : Bytes8 w p xs) :
    Calls Tryz.prog 83 #[.int .u64 s, .slice p N c] w fun e w' => e = .returned (.int .u64 (wxxh s xs)) ∧ Keeps NoBlock w w' := by
  have HN := Lib.hid (new_wide s hs w)
  have HWr := Lib.hid (fun w1 (hh : Holds w1 w.heap.size s []) (hb1 : Bytes8 w1 p xs) => write_wide w.heap.size s [] p N c xs w1 hh hs (fun b hb => by simp at hb) hx hc hc' hn0 ho hb1 (fun hp a ha h => by
      obtain ⟨a', ha', hc⟩ := hb (by omega)
      obtain rfl := Option.some.inj (ha'.symm.trans ha)
      have := ltOfCell (hc 0 (by omega))
      rw [addBlock] at this
      omega) (by simp; omega))
  have HSu := Lib.hid (fun w1 (hh : Holds w1 w.heap.size s xs) => ssum_wide w.heap.size s xs w1 hh hs ho (by omega))
  have HB := Lib.hid hb
  clear hb ho hn0 hs hx hc hc' hl
  go_enter Tryz.func83, Tryz.ntmps83
  go_wp2_with fail
  refine HN.out.mono ?_
  rintro e w1 ⟨rfl, hh1, hk1⟩
  have HK1 := Lib.hid hk1
  have HH1 := Lib.hid hh1
  have HB1 := Lib.hid (HB.out.keep hk1 (fun _ _ h => h))
  clear hk1 hh1
  go_wp2_with fail
  refine (HWr.out _ HH1.out HB1.out).mono ?_
  rintro e w2 ⟨rfl, hh2, hk2⟩
  have HH2 : Hid (Holds w2 w.heap.size s xs) := Lib.hid hh2
  have HK2 := Lib.hid (HK1.out.then hk2 (fun i hi h => by unfold Just at h; omega))
  clear hk2 hh2
  go_wp2_with fail
  refine (HSu.out _ HH2.out).mono ?_
  rintro e w3 ⟨rfl, hk3⟩
  have HK3 := Lib.hid (HK2.out.trans hk3)
  clear hk3
  go_wp2_with fail
  go_ret
  exact ⟨rfl, HK3.out⟩
end Go.Proofs.YtlejobomjgccnaaGreat

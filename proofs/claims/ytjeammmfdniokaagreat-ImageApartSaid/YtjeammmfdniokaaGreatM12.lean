/-
  ThinLives; ChecksWalk; Copied; SumsWalk; RecRef3; RecRef4.
-/
import Derived.Lib.SlBytesConst
import Derived.Deep.RegionHeld3
import Derived.Deep.CutRange
import Derived.Deep.DeepCutAuto
import Derived.Test.YtjeammmfdniokaaGreatM02
import Derived.Test.YtjeammmfdniokaaGreatM11
namespace Go.Proofs.YtjeammmfdniokaaGreat
open Go.RowKit

end Go.Proofs.YtjeammmfdniokaaGreat

namespace Go.Proofs.YtjeammmfdniokaaGreat
open Go.RowKit

end Go.Proofs.YtjeammmfdniokaaGreat

namespace Go.Proofs.YtjeammmfdniokaaGreat
open Go.RowKit

/-- A copy of bytes in new memory. -/
def Copied (w0 : World) (N : Nat) (xs : List Int) (v : Value) (wx : World) : Prop :=
  wx.ownsRow w0.heap.size 5 1 v N (xs.map (Value.int .u8)) ∧ Below w0.heap.size w0 wx

theorem Copied.read {w0 wx : World} {N : Nat} {xs : List Int} {v : Value} (h : Copied w0 N xs v wx) (hn : N = xs.length) : ∃ q d, v = .slice q N d ∧ N ≤ d ∧ d ≤ 9223372036854775807 ∧ Bytes8 wx q xs := by
  obtain ⟨⟨_, ⟨rfl, rfl⟩ | ⟨g, cap, cur, rfl, hg, hh, hc1, hc2, hc3, hc4⟩⟩, _⟩ := h
  · exact ⟨none, 0, rfl, Nat.le_refl _, by omega, fun h => by omega⟩
  · unfold maxLen at hc2
    refine ⟨_, cap, rfl, hc1, by omega, fun hx => ⟨_, rfl, fun i hi => ?_⟩⟩
    have hw : Whole wx g 5 cur := hh
    have hcell : cur[i]? = some (.int .u8 (xs.getD i 0)) := by
      have e : (cur.toList.take (N * 1))[i]? = (xs.map (Value.int .u8))[i]? := by rw [hc4]
      rw [List.getElem?_take, if_pos (by omega)] at e
      rw [← Array.getElem?_toList, e]
      simp [hi]
    rw [addZero]
    exact hw.cell i hcell

theorem Copied.read2 {w0 wx : World} {N : Nat} {xs : List Int} {v : Value} (h : Copied w0 N xs v wx) (hn : N = xs.length) : ∃ q d, v = .slice q N d ∧ N ≤ d ∧ d ≤ 9223372036854775807 ∧ Bytes8 wx q xs ∧ (q = none → N = 0 ∧ d = 0) := by
  obtain ⟨q, d, hv, h1, h2, h3⟩ := h.read hn
  cases q with
  | some a => exact ⟨_, d, hv, h1, h2, h3, fun h => by simp at h⟩
  | none =>
    have hN : N = 0 := by
      rcases Nat.eq_zero_or_pos N with h0 | h0
      · exact h0
      · obtain ⟨a, ha, _⟩ := h3 (by omega)
        simp at ha
    obtain ⟨⟨_, ⟨rfl, _⟩ | ⟨g, cap, cur, rfl, _⟩⟩, _⟩ := h
    · exact ⟨none, 0, by rw [hN], by omega, by omega, h3, fun _ => ⟨hN, rfl⟩⟩
    · simp at hv

theorem Copied.whole {w0 wx : World} {N : Nat} {xs : List Int} {v : Value} (h : Copied w0 N xs v wx) (hn : N = xs.length) (h0 : 0 < N) :
    ∃ g d cur, v = .slice (some ⟨g, 0, none⟩) N d ∧ N ≤ d ∧ d ≤ 9223372036854775807 ∧ w0.heap.size ≤ g ∧ Whole wx g 5 cur ∧ ∀ i, i < N → cur[i]? = some (.int .u8 (xs.getD i 0)) := by
  obtain ⟨⟨_, ⟨rfl, rfl⟩ | ⟨g, cap, cur, rfl, hg, hh, hc1, hc2, hc3, hc4⟩⟩, _⟩ := h
  · omega
  · unfold maxLen at hc2
    refine ⟨g, cap, cur, rfl, hc1, by omega, hg, hh, fun i hi => ?_⟩
    have e : (cur.toList.take (N * 1))[i]? = (xs.map (Value.int .u8))[i]? := by rw [hc4]
    rw [List.getElem?_take, if_pos (by omega)] at e
    rw [← Array.getElem?_toList, e]
    simp [show i < xs.length by omega]

end Go.Proofs.YtjeammmfdniokaaGreat

namespace Go.Proofs.YtjeammmfdniokaaGreat
open Go.RowKit

end Go.Proofs.YtjeammmfdniokaaGreat

namespace Go.Proofs.YtjeammmfdniokaaGreat
open Go.RowKit

/-- The cells of a record that lies in block g. -/
def RecAt (w : World) (g : Nat) (r : Rec) : Prop :=
  w.cell? ⟨g, 0, none⟩ = some (.bool r.del) ∧ w.cell? ⟨g, 1, none⟩ = some (.int .u64 (r.seq : Int)) ∧ w.cell? ⟨g, 2, none⟩ = some (.string (strOfNums r.key)) ∧ w.cell? ⟨g, 3, none⟩ = some (.string (strOfNums r.val))
theorem RecAt.ofWhole {w : World} {g : Nat} {t : TypeId} {r : Rec} (h : Whole w g t (recCells r)) : RecAt w g r :=
  ⟨h.cell 0 rfl, h.cell 1 rfl, h.cell 2 rfl, h.cell 3 rfl⟩

theorem str_cons (b : Int) (xs : List Int) (c : UInt8) (h : UInt8.ofNat b.toNat = c) : (⟨#[c]⟩ : ByteArray) ++ strOfNums xs = strOfNums (b :: xs) := by
  have e : (⟨#[c]⟩ : ByteArray) = strOfNums [b] := by
    apply ByteArray.ext
    simp [strOfNums, h]
  rw [e, str_append]
  rfl

set_option maxHeartbeats 4000000 in
set_option maxRecDepth 10000 in
theorem body7_ref (r : Rec) (hf : r.Fine) (h1 : r.key.length ≤ 100000000) (h2 : r.val.length ≤ 100000000) (w : World) :
    Calls Tryz.prog 26 #[recV r] w fun e w' => e = .returned (.string (strOfNums (bodyR r))) ∧ Keeps NoBlock w w' := by
  obtain ⟨del, seq, key, val⟩ := r
  have h64 := hf.seq
  simp only at h1 h2 h64
  have HN := Lib.hid (fun w => num_bytes seq (seq : Int) rfl h64 w)
  have HT := Lib.hid (fun (xs : List Int) (w : World) (h : xs = key ∨ xs = val) => text_ref xs (by rcases h with rfl | rfl <;> omega) w)
  have hten := vnum_ten h64
  have htk : (textB key).length ≤ 100000010 := by
    unfold textB
    rw [List.length_append]
    have := vnum_ten (x := key.length) (by omega)
    omega
  have htv : (textB val).length ≤ 100000010 := by
    unfold textB
    rw [List.length_append]
    have := vnum_ten (x := val.length) (by omega)
    omega
  cases del with
  | true =>
    have hdef : bodyR ⟨true, seq, key, val⟩ = 3 :: (vnum seq ++ textB key) := rfl
    rw [hdef]
    have HTK := Lib.hid (fun w => HT.out key w (.inl rfl))
    have a1 := str_cons 3 (vnum seq) 3 rfl
    have a2 := str_append (3 :: vnum seq) (textB key)
    have z1 := str_size (vnum seq)
    have z2 : (strOfNums (3 :: vnum seq)).size = (vnum seq).length + 1 := str_size (3 :: vnum seq)
    have z3 := str_size (textB key)
    rw [List.cons_append] at a2
    obtain ⟨V, hV⟩ : ∃ V, V = vnum seq := ⟨_, rfl⟩
    obtain ⟨TK, hTK⟩ : ∃ TK, TK = textB key := ⟨_, rfl⟩
    rw [← hV] at HN a1 a2 z1 z2 hten ⊢
    rw [← hTK] at HTK a2 z3 htk ⊢
    have zz : (⟨#[3]⟩ : ByteArray).size = 1 := rfl
    have r1 : ¬ 9223372036854775807 < 1 + V.length := by omega
    have r2 : ¬ 9223372036854775807 < V.length + 1 + TK.length := by omega
    have HB := Lib.hid (Whole.new w 46 (recCells ⟨true, seq, key, val⟩))
    clear hdef hV hTK HT hf h1 h2 htv
    unfold recV
    simp only
    go_enter Tryz.func26, Tryz.ntmps26
    go_wp2_with fail
    obtain ⟨W, hW⟩ : ∃ W, W = w.alloc (.cells #[.bool true, .int .u64 (seq : Int), .string (strOfNums key), .string (strOfNums val)] 46) := ⟨_, rfl⟩
    have HBW : Hid (Whole W w.heap.size 46 (recCells ⟨true, seq, key, val⟩)) := by rw [hW]; exact HB
    have HK0 : Hid (Keeps NoBlock w W) := Lib.hid (by rw [hW]; exact (Keeps.refl _ _).alloc _)
    rw [← hW]
    clear hW HB
    have s0 := RecAt.ofWhole (w := W.drew) HBW.out
    have sN := RecAt.ofWhole HBW.out
    unfold RecAt at s0 sN
    go_region_held3 (fun w' => w'.cell? ⟨w.heap.size, 0, none⟩ = some (.bool true) ∧ w'.cell? ⟨w.heap.size, 1, none⟩ = some (.int .u64 (seq : Int)) ∧ w'.cell? ⟨w.heap.size, 2, none⟩ = some (.string (strOfNums key)) ∧ w'.cell? ⟨w.heap.size, 3, none⟩ = some (.string (strOfNums val)))
      (first | exact s5 | exact s0 | exact sN)
      (first | (go_at_call 44; refine (HN.out _).mono ?_; rintro e w5 ⟨rfl, hk⟩; have HK0 := Lib.hid (HK0.out.trans (c := w5) (by first | exact hk | exact hk.ofDrew | exact hk.ofDrewN)); have HBW := Lib.hid (HBW.out.keep (w' := w5) (S := NoBlock) (by first | exact hk | exact hk.ofDrew | exact hk.ofDrewN) (fun h => h)); have s5 := RecAt.ofWhole HBW.out; unfold RecAt at s5; clear hk) | (go_at_call 45; refine (HTK.out _).mono ?_; rintro e w5 ⟨rfl, hk⟩; have HK0 := Lib.hid (HK0.out.trans (c := w5) (by first | exact hk | exact hk.ofDrew | exact hk.ofDrewN)); have HBW := Lib.hid (HBW.out.keep (w' := w5) (S := NoBlock) (by first | exact hk | exact hk.ofDrew | exact hk.ofDrewN) (fun h => h)); have s5 := RecAt.ofWhole HBW.out; unfold RecAt at s5; clear hk))
    all_goals
      go_wp2_with fail
      go_ret
      exact ⟨rfl, HK0.out⟩
  | false =>
    have hdef : bodyR ⟨false, seq, key, val⟩ = 2 :: (vnum seq ++ (textB key ++ textB val)) := by rw [← List.append_assoc]; rfl
    rw [hdef]
    have HTK := Lib.hid (fun w => HT.out key w (.inl rfl))
    have HTV := Lib.hid (fun w => HT.out val w (.inr rfl))
    have a1 := str_cons 2 (vnum seq) 2 rfl
    have a2 := str_append (2 :: vnum seq) (textB key)
    have z1 := str_size (vnum seq)
    have z2 : (strOfNums (2 :: vnum seq)).size = (vnum seq).length + 1 := str_size (2 :: vnum seq)
    have z3 := str_size (textB key)
    have a3 := str_append (2 :: (vnum seq ++ textB key)) (textB val)
    have z4 : (strOfNums (2 :: (vnum seq ++ textB key))).size = (vnum seq).length + (textB key).length + 1 := by rw [str_size]; simp
    have z5 := str_size (textB val)
    rw [List.cons_append] at a2 a3
    obtain ⟨V, hV⟩ : ∃ V, V = vnum seq := ⟨_, rfl⟩
    obtain ⟨TK, hTK⟩ : ∃ TK, TK = textB key := ⟨_, rfl⟩
    obtain ⟨TV, hTV⟩ : ∃ TV, TV = textB val := ⟨_, rfl⟩
    rw [← hV] at HN a1 a2 a3 z1 z2 z4 hten ⊢
    rw [← hTK] at HTK a2 a3 z3 z4 htk ⊢
    rw [← hTV] at HTV a3 z5 htv ⊢
    have zz : (⟨#[2]⟩ : ByteArray).size = 1 := rfl
    have r1 : ¬ 9223372036854775807 < 1 + V.length := by omega
    have r2 : ¬ 9223372036854775807 < V.length + 1 + TK.length := by omega
    have r3 : ¬ 9223372036854775807 < V.length + TK.length + 1 + TV.length := by omega
    have HB := Lib.hid (Whole.new w 46 (recCells ⟨false, seq, key, val⟩))
    clear hdef hV hTK hTV HT hf h1 h2
    unfold recV
    simp only
    go_enter Tryz.func26, Tryz.ntmps26
    go_wp2_with fail
    obtain ⟨W, hW⟩ : ∃ W, W = w.alloc (.cells #[.bool false, .int .u64 (seq : Int), .string (strOfNums key), .string (strOfNums val)] 46) := ⟨_, rfl⟩
    have HBW : Hid (Whole W w.heap.size 46 (recCells ⟨false, seq, key, val⟩)) := by rw [hW]; exact HB
    have HK0 : Hid (Keeps NoBlock w W) := Lib.hid (by rw [hW]; exact (Keeps.refl _ _).alloc _)
    rw [← hW]
    clear hW HB
    have s0 := RecAt.ofWhole (w := W.drew) HBW.out
    have sN := RecAt.ofWhole HBW.out
    unfold RecAt at s0 sN
    go_region_held3 (fun w' => w'.cell? ⟨w.heap.size, 0, none⟩ = some (.bool false) ∧ w'.cell? ⟨w.heap.size, 1, none⟩ = some (.int .u64 (seq : Int)) ∧ w'.cell? ⟨w.heap.size, 2, none⟩ = some (.string (strOfNums key)) ∧ w'.cell? ⟨w.heap.size, 3, none⟩ = some (.string (strOfNums val)))
      (first | exact s5 | exact s0 | exact sN)
      (first | (go_at_call 44; refine (HN.out _).mono ?_; rintro e w5 ⟨rfl, hk⟩; have HK0 := Lib.hid (HK0.out.trans (c := w5) (by first | exact hk | exact hk.ofDrew | exact hk.ofDrewN)); have HBW := Lib.hid (HBW.out.keep (w' := w5) (S := NoBlock) (by first | exact hk | exact hk.ofDrew | exact hk.ofDrewN) (fun h => h)); have s5 := RecAt.ofWhole HBW.out; unfold RecAt at s5; clear hk) | (go_at_call 45; (first | refine (HTK.out _).mono ?_ | refine (HTV.out _).mono ?_); rintro e w5 ⟨rfl, hk⟩; have HK0 := Lib.hid (HK0.out.trans (c := w5) (by first | exact hk | exact hk.ofDrew | exact hk.ofDrewN)); have HBW := Lib.hid (HBW.out.keep (w' := w5) (S := NoBlock) (by first | exact hk | exact hk.ofDrew | exact hk.ofDrewN) (fun h => h)); have s5 := RecAt.ofWhole HBW.out; unfold RecAt at s5; clear hk))
    all_goals
      go_wp2_with fail
      go_ret
      exact ⟨rfl, HK0.out⟩
end Go.Proofs.YtjeammmfdniokaaGreat

namespace Go.Proofs.YtjeammmfdniokaaGreat
open Go.RowKit

end Go.Proofs.YtjeammmfdniokaaGreat

/-
  RecRef5; FrRef; FtRef; FrRef2; Swap; FrHead.
-/
import Derived.IntWalk
import Derived.Deep.RegionWith
import Derived.Deep.RegionHeld3
import Derived.BigQuiet
import Derived.Test.YtjeammmfdniokaaGreatM02
import Derived.Test.YtjeammmfdniokaaGreatM03
import Derived.Test.YtjeammmfdniokaaGreatM04
import Derived.Test.YtjeammmfdniokaaGreatM07
import Derived.Test.YtjeammmfdniokaaGreatM09
import Derived.Test.YtjeammmfdniokaaGreatM10
import Derived.Test.YtjeammmfdniokaaGreatM11
import Derived.Test.YtjeammmfdniokaaGreatM12
namespace Go.Proofs.YtjeammmfdniokaaGreat
open Go.RowKit

end Go.Proofs.YtjeammmfdniokaaGreat

namespace Go.Proofs.YtjeammmfdniokaaGreat
open Go.RowKit

theorem u64_zero : U64 0 := by constructor <;> decide

set_option maxHeartbeats 800000 in
set_option maxRecDepth 10000 in
theorem seal9_ref (xs : List Int) (ho : Octets xs) (hl : xs.length ≤ 10000000) (w : World) :
    Calls Tryz.prog 25 #[.string (strOfNums xs)] w fun e w' => e = .returned (.string (strOfNums (sealN xs))) ∧ Keeps NoBlock w w' := by
  have HS := Lib.hid (fun w => wsum_ref 0 xs u64_zero ho (by omega) w)
  have hu := wxxh_u64 0 xs
  have HN := Lib.hid (fun w => num_any (wxxh 0 xs) 8 8 rfl (by decide) hu.1 hu.2 w)
  have hol : (xs ++ sumB xs).length ≤ 140737488355328 := by rw [List.length_append, sumB_length]; omega
  have HT := Lib.hid (fun w => stuff_ref (xs ++ sumB xs) (ho.app (sumB_octets xs)) hol w)
  have a1 := str_append xs (sumB xs)
  have z1 := str_size xs
  have z2 := str_size (sumB xs)
  rw [sumB_length] at z2
  have a2 : strOfNums (chunkN xs) ++ (⟨#[0]⟩ : ByteArray) = strOfNums (sealN xs) := str_append (chunkN xs) [0]
  have z3 := str_size (chunkN xs)
  have hmost := (seal_length xs).2
  have hlen := (seal_length xs).1
  have z4 : (⟨#[0]⟩ : ByteArray).size = 1 := rfl
  have hcl : (chunkN xs).length ≤ 100000000 := by
    unfold sizeN mostOf at hmost
    rw [if_neg (by omega)] at hmost
    omega
  rw [show stuff (xs ++ sumB xs) = chunkN xs from rfl] at HT
  rw [show digits (wxxh 0 xs) 8 = sumB xs from rfl] at HN
  obtain ⟨x, hx⟩ : ∃ x, x = wxxh 0 xs := ⟨_, rfl⟩
  rw [← hx] at HS HN
  obtain ⟨B, hB⟩ : ∃ B, B = sumB xs := ⟨_, rfl⟩
  rw [← hB] at HN HT a1 z2
  obtain ⟨C, hC⟩ : ∃ C, C = chunkN xs := ⟨_, rfl⟩
  rw [← hC] at HT a2 z3 hcl
  obtain ⟨F, hF⟩ : ∃ F, F = sealN xs := ⟨_, rfl⟩
  rw [← hF] at a2 ⊢
  obtain ⟨L, hL⟩ : ∃ L, L = xs.length := ⟨_, rfl⟩
  rw [← hL] at z1 hl
  obtain ⟨M, hM⟩ : ∃ M, M = C.length := ⟨_, rfl⟩
  rw [← hM] at z3 hcl
  have r1 : ¬ 9223372036854775807 < L + 8 := by omega
  have r2 : ¬ 9223372036854775807 < M + 1 := by omega
  clear hx hB hC hF hL hM hu hol hmost hlen ho
  go_enter Tryz.func25, Tryz.ntmps25
  go_wp2_with fail
  refine (HS.out _).mono ?_
  rintro e w1 ⟨rfl, hk⟩
  have HK := Lib.hid hk
  clear hk
  go_wp2_with fail
  refine (HN.out _).mono ?_
  rintro e w2 ⟨rfl, hk⟩
  have HK := Lib.hid (HK.out.trans hk)
  clear hk
  go_wp2_with fail
  refine (HT.out _).mono ?_
  rintro e w3 ⟨rfl, hk⟩
  have HK := Lib.hid (HK.out.trans hk)
  clear hk
  go_wp2_with fail
  go_ret
  exact ⟨rfl, HK.out⟩

end Go.Proofs.YtjeammmfdniokaaGreat

namespace Go.Proofs.YtjeammmfdniokaaGreat
open Go.RowKit

def ftV (u : Nat) (q : Option Addr) (n c : Nat) : Value := .agg #[.int .u32 (u : Int), .slice q n c]
def ftCells (u : Nat) (q : Option Addr) (n c : Nat) : Array Value := #[.int .u32 (u : Int), .slice q n c]

set_option maxRecDepth 10000 in
theorem most13_ref (k : Nat) (hk : k ≤ 1000000) (w : World) : Calls Tryz.prog 70 #[.int .i64 (k : Int)] w fun e w' => e = .returned (.int .i64 (mostFt k : Int)) ∧ Keeps NoBlock w w' := by
  have hq : ((k : Int) + 15).tdiv 16 = (((k + 15) / 16 : Nat) : Int) := by rw [Int.tdiv_eq_ediv_of_nonneg (by omega)]; omega
  have hm : mostFt k = bodyLen k + 8 + 1 + (bodyLen k + 8 - 1) / 254 + 1 := by
    unfold mostFt sizeN mostOf
    rw [if_neg (by omega)]
  have hb : bodyLen k = 9 + 12 * k + 8 * ((k + 15) / 16) := by unfold bodyLen countF; rw [Int.toNat_natCast]
  obtain ⟨D, hD⟩ : ∃ D, D = (k + 15) / 16 := ⟨_, rfl⟩
  rw [← hD] at hq hb
  obtain ⟨B, hB⟩ : ∃ B, B = bodyLen k := ⟨_, rfl⟩
  rw [← hB] at hm hb
  have hB9 : B ≤ 100000000 := by omega
  have hq2 : ((B : Int) + 8 - 1).tdiv 254 = (((B + 8 - 1) / 254 : Nat) : Int) := by rw [Int.tdiv_eq_ediv_of_nonneg (by omega)]; omega
  obtain ⟨E, hE⟩ : ∃ E, E = (B + 8 - 1) / 254 := ⟨_, rfl⟩
  rw [← hE] at hq2 hm
  have hE9 : E ≤ 100000000 := by omega
  have hsum : 9 + 12 * (k : Int) + 8 * (D : Int) = (B : Int) := by omega
  have hc : ((B + 8 + 1 + E + 1 : Nat) : Int) = (B : Int) + 8 + 1 + (E : Int) + 1 := by omega
  rw [hm, hc]
  have w1 : IntKind.i64.wrap (12 * (k : Int)) = 12 * (k : Int) := IntWalk.i64_in _ (by omega)
  have w2 : IntKind.i64.wrap (9 + 12 * (k : Int)) = 9 + 12 * (k : Int) := IntWalk.i64_in _ (by omega)
  have w3 : IntKind.i64.wrap ((k : Int) + 15) = (k : Int) + 15 := IntWalk.i64_in _ (by omega)
  have w4 : IntKind.i64.wrap (8 * (D : Int)) = 8 * (D : Int) := IntWalk.i64_in _ (by omega)
  clear hD hB hE hb hc hm
  go_enter Tryz.func70, Tryz.ntmps70
  go_wp2_with fail
  go_ret
  exact ⟨rfl, Keeps.refl _ _⟩

theorem bodyFt_flat (u : Nat) (l : List En) : bodyFt ⟨u, l⟩ = (((4 :: digits (l.length : Int) 4) ++ digits (u : Int) 4) ++ textE l) ++ textF (ofF l) := by simp [bodyFt]

set_option maxHeartbeats 4000000 in
set_option maxRecDepth 10000 in
theorem text13_ref (u : Nat) (hu : u < 4294967296) (q : Option Addr) (n c : Nat) (l : List En) (hn : n = l.length) (hn9 : n ≤ 100000) (hf : ∀ e ∈ l, e.Fine) (w : World) (hl : EnsAt w q l) :
    Calls Tryz.prog 38 #[ftV u q n c] w fun e w' => e = .returned (.string (strOfNums (sealN (bodyFt ⟨u, l⟩)))) ∧ Keeps NoBlock w w' := by
  have wn : IntKind.u64.wrap (n : Int) = (n : Int) := by rw [IntKind.wrap_u64]; omega
  have wu : IntKind.u64.wrap (u : Int) = (u : Int) := by rw [IntKind.wrap_u64]; omega
  have HN4 := Lib.hid (fun w => num_any (n : Int) 4 4 rfl (by decide) (by omega) (by omega) w)
  have HU4 := Lib.hid (fun w => num_any (u : Int) 4 4 rfl (by decide) (by omega) (by omega) w)
  have HTE := Lib.hid (fun W h => text11_ref q n c l hn (by omega) hf W h)
  have HOf := Lib.hid (fun W h => of12_ref q n c l hn (by omega) W h)
  have hfl := ofF_length l
  have hff := ofF_fine hf
  have HTF := Lib.hid (fun q m d W (hm : m = (ofF l).length) h => text12_ref q m d (ofF l) hm (by omega) hff W h)
  have hbl := bodyFt_length ⟨u, l⟩
  have hble := bodyLen_le l.length
  have hfl2 := bodyFt_flat u l
  have HSl := Lib.hid (fun w => seal9_ref (bodyFt ⟨u, l⟩) bodyFt_octets (by simp only at hbl; omega) w)
  have z1 := str_size (digits (n : Int) 4)
  have z2 := str_size (digits (u : Int) 4)
  have z3 := str_size (textE l)
  have z4 := str_size (textF (ofF l))
  rw [digits_length] at z1 z2
  rw [textE_length] at z3
  rw [textF_length, hfl] at z4
  rw [← hn] at hfl2 z3 z4
  have hl1 : ((4 : Int) :: digits (n : Int) 4).length = 5 := by rw [List.length_cons, digits_length]
  have hl2 : (((4 : Int) :: digits (n : Int) 4) ++ digits (u : Int) 4).length = 9 := by rw [List.length_append, hl1, digits_length]
  have hl3 : ((((4 : Int) :: digits (n : Int) 4) ++ digits (u : Int) 4) ++ textE l).length = 9 + 12 * n := by rw [List.length_append, hl2, textE_length, ← hn]
  have a1 : (⟨#[4]⟩ : ByteArray) ++ strOfNums (digits (n : Int) 4) = strOfNums (4 :: digits (n : Int) 4) := str_append [4] _
  have a2 := str_append (4 :: digits (n : Int) 4) (digits (u : Int) 4)
  have a3 := str_append ((4 :: digits (n : Int) 4) ++ digits (u : Int) 4) (textE l)
  have a4 := str_append (((4 :: digits (n : Int) 4) ++ digits (u : Int) 4) ++ textE l) (textF (ofF l))
  rw [← hfl2] at a4
  have z0 : (⟨#[4]⟩ : ByteArray).size = 1 := rfl
  have z5 := str_size (4 :: digits (n : Int) 4)
  have z6 := str_size ((4 :: digits (n : Int) 4) ++ digits (u : Int) 4)
  have z7 := str_size (((4 :: digits (n : Int) 4) ++ digits (u : Int) 4) ++ textE l)
  rw [hl1] at z5
  rw [hl2] at z6
  rw [hl3] at z7
  obtain ⟨X1, hX1⟩ : ∃ X, X = 4 :: digits (n : Int) 4 := ⟨_, rfl⟩
  rw [← hX1] at a1 a2 a3 a4 z5 z6 z7
  obtain ⟨D1, hD1⟩ : ∃ X, X = digits (n : Int) 4 := ⟨_, rfl⟩
  obtain ⟨D2, hD2⟩ : ∃ X, X = digits (u : Int) 4 := ⟨_, rfl⟩
  rw [← hD1] at a1 z1 HN4
  rw [← hD2] at a2 a3 a4 z2 z6 z7 HU4
  obtain ⟨X2, hX2⟩ : ∃ X, X = X1 ++ D2 := ⟨_, rfl⟩
  rw [← hX2] at a2 a3 a4 z6 z7
  obtain ⟨TE, hTE⟩ : ∃ X, X = textE l := ⟨_, rfl⟩
  rw [← hTE] at a3 a4 z3 z7 HTE
  obtain ⟨X3, hX3⟩ : ∃ X, X = X2 ++ TE := ⟨_, rfl⟩
  rw [← hX3] at a3 a4 z7
  obtain ⟨TF, hTF⟩ : ∃ X, X = textF (ofF l) := ⟨_, rfl⟩
  rw [← hTF] at a4 z4 HTF
  obtain ⟨B, hB⟩ : ∃ B, B = bodyFt ⟨u, l⟩ := ⟨_, rfl⟩
  rw [← hB] at a4 HSl ⊢
  obtain ⟨T, hT⟩ : ∃ T, T = sealN B := ⟨_, rfl⟩
  rw [← hT] at HSl ⊢
  obtain ⟨Cn, hC⟩ : ∃ C, C = (n + 15) / 16 := ⟨_, rfl⟩
  rw [← hC] at z4
  have hC9 : Cn ≤ 100000 := by omega
  have r1 : ¬ 9223372036854775807 < 1 + 4 := by decide
  have r2 : ¬ 9223372036854775807 < 5 + 4 := by decide
  have r3 : ¬ 9223372036854775807 < 9 + 12 * n := by omega
  have r4 : ¬ 9223372036854775807 < 9 + 12 * n + 8 * Cn := by omega
  have HW0 := Lib.hid (Whole.new w 82 (ftCells u q n c))
  have HL := Lib.hid hl
  clear hn hX1 hD1 hD2 hX2 hTE hX3 hTF hB hT hC hl1 hl2 hl3 hbl hble hfl hff hfl2 hl hf hu
  unfold ftV
  go_enter Tryz.func38, Tryz.ntmps38
  go_wp2_with fail
  obtain ⟨W, hW⟩ : ∃ W, W = w.alloc (.cells #[.int .u32 (u : Int), .slice q n c] 82) := ⟨_, rfl⟩
  have HR : Hid (Whole W w.heap.size 82 (ftCells u q n c)) := by rw [hW]; exact HW0
  have HK : Hid (Keeps NoBlock w W) := Lib.hid (by rw [hW]; exact (Keeps.refl _ _).alloc _)
  rw [← hW]
  clear hW HW0
  have s0 := And.intro ((Whole.drewN HR.out 1).cell 0 rfl) ((Whole.drewN HR.out 1).cell 1 rfl)
  have sN := And.intro (HR.out.cell 0 rfl) (HR.out.cell 1 rfl)
  simp only [ftCells, List.getElem_toArray, List.getElem_cons_zero, List.getElem_cons_succ] at s0 sN
  go_region_held3 (fun w' => w'.cell? ⟨w.heap.size, 0, none⟩ = some (.int .u32 (u : Int)) ∧ w'.cell? ⟨w.heap.size, 1, none⟩ = some (.slice q n c))
    (first | exact s5 | exact s0 | exact sN)
    (first | (go_at_call 42; (first | (with_reducible refine (HN4.out _).mono ?_) | (with_reducible refine (HU4.out _).mono ?_)); rintro e w5 ⟨rfl, hk⟩; have hk' : Keeps NoBlock W w5 := (by first | exact hk | exact hk.ofDrew | exact hk.ofDrewN); have HK := Lib.hid (HK.out.trans hk'); have HR := Lib.hid (HR.out.keep hk' (fun h => h)); have s5 := And.intro (HR.out.cell 0 rfl) (HR.out.cell 1 rfl); simp only [ftCells, List.getElem_toArray, List.getElem_cons_zero, List.getElem_cons_succ] at s5; clear hk hk'; obtain ⟨W, rfl⟩ : ∃ x, x = w5 := ⟨_, rfl⟩))
  clear s0 sN s5
  go_wp2_with fail
  have s0 := And.intro ((Whole.drewN HR.out 1).cell 0 rfl) ((Whole.drewN HR.out 1).cell 1 rfl)
  have sN := And.intro (HR.out.cell 0 rfl) (HR.out.cell 1 rfl)
  simp only [ftCells, List.getElem_toArray, List.getElem_cons_zero, List.getElem_cons_succ] at s0 sN
  go_region_held3 (fun w' => w'.cell? ⟨w.heap.size, 0, none⟩ = some (.int .u32 (u : Int)) ∧ w'.cell? ⟨w.heap.size, 1, none⟩ = some (.slice q n c))
    (first | exact s5 | exact s0 | exact sN)
    (first | (go_at_call 62; refine (HTE.out _ (by first | exact EnsAt.keep HL.out HK.out | exact EnsAt.keep HL.out HK.out.drew | exact EnsAt.keep HL.out (HK.out.drewN _))).mono ?_; rintro e w5 ⟨rfl, hk⟩; have hk' : Keeps NoBlock W w5 := (by first | exact hk | exact hk.ofDrew | exact hk.ofDrewN); have HK := Lib.hid (HK.out.trans hk'); have HR := Lib.hid (HR.out.keep hk' (fun h => h)); have s5 := And.intro (HR.out.cell 0 rfl) (HR.out.cell 1 rfl); simp only [ftCells, List.getElem_toArray, List.getElem_cons_zero, List.getElem_cons_succ] at s5; clear hk hk'; obtain ⟨W, rfl⟩ : ∃ x, x = w5 := ⟨_, rfl⟩) | (go_at_call 64; refine (HOf.out _ (by first | exact EnsAt.keep HL.out HK.out | exact EnsAt.keep HL.out HK.out.drew | exact EnsAt.keep HL.out (HK.out.drewN _))).mono ?_; rintro e w5 ⟨v5, rfl, hnum⟩; obtain ⟨q9, m9, d9, rfl, hbare9, hm9, hc9⟩ := own_nums hnum.1; have hk := Keeps.ofBelow (S := NoBlock) hnum.2; have hk' : Keeps NoBlock W w5 := (by first | exact hk | exact hk.ofDrew | exact hk.ofDrewN); have HK := Lib.hid (HK.out.trans hk'); have HR := Lib.hid (HR.out.keep hk' (fun h => h)); have HRw := Lib.hid (cells_rowN hm9 hbare9 hc9); have HM9 := Lib.hid hm9; have s5 := And.intro (HR.out.cell 0 rfl) (HR.out.cell 1 rfl); simp only [ftCells, List.getElem_toArray, List.getElem_cons_zero, List.getElem_cons_succ] at s5; clear hk hk' hnum hbare9 hm9 hc9; obtain ⟨W, rfl⟩ : ∃ x, x = w5 := ⟨_, rfl⟩) | (go_at_call 63; refine (HTF.out _ _ _ _ HM9.out (by exact HRw.out)).mono ?_; rintro e w5 ⟨rfl, hk⟩; have hk' : Keeps NoBlock W w5 := (by first | exact hk | exact hk.ofDrew | exact hk.ofDrewN); have HK := Lib.hid (HK.out.trans hk'); have HR := Lib.hid (HR.out.keep hk' (fun h => h)); have s5 := And.intro (HR.out.cell 0 rfl) (HR.out.cell 1 rfl); simp only [ftCells, List.getElem_toArray, List.getElem_cons_zero, List.getElem_cons_succ] at s5; clear hk hk' HRw; obtain ⟨W, rfl⟩ : ∃ x, x = w5 := ⟨_, rfl⟩) | (go_at_call 25; refine (HSl.out _).mono ?_; rintro e w5 ⟨rfl, hk⟩; have hk' : Keeps NoBlock W w5 := (by first | exact hk | exact hk.ofDrew | exact hk.ofDrewN); have HK := Lib.hid (HK.out.trans hk'); have HR := Lib.hid (HR.out.keep hk' (fun h => h)); have s5 := And.intro (HR.out.cell 0 rfl) (HR.out.cell 1 rfl); simp only [ftCells, List.getElem_toArray, List.getElem_cons_zero, List.getElem_cons_succ] at s5; clear hk hk'; obtain ⟨W, rfl⟩ : ∃ x, x = w5 := ⟨_, rfl⟩))
  go_wp2_with fail
  go_ret
  exact ⟨rfl, HK.out⟩

end Go.Proofs.YtjeammmfdniokaaGreat

namespace Go.Proofs.YtjeammmfdniokaaGreat
open Go.RowKit

theorem bodyR_length {r : Rec} (h : r.Fine) (h1 : r.key.length ≤ 2000000) (h2 : r.val.length ≤ 2000000) : (bodyR r).length ≤ 31 + r.key.length + r.val.length := by
  have a := vnum_ten h.seq
  have b := vnum_ten (x := r.key.length) (by omega)
  have c := vnum_ten (x := r.val.length) (by omega)
  unfold bodyR textB
  split
  · simp only [List.length_cons, List.length_append]; omega
  · simp only [List.length_cons, List.length_append]; omega

set_option maxHeartbeats 800000 in
set_option maxRecDepth 10000 in
theorem record9_ref (r : Rec) (hf : r.Fine) (h1 : r.key.length ≤ 2000000) (h2 : r.val.length ≤ 2000000) (w : World) :
    Calls Tryz.prog 14 #[recV r] w fun e w' => e = .returned (.string (strOfNums (sealN (bodyR r)))) ∧ Keeps NoBlock w w' := by
  have HB := Lib.hid (fun w => body7_ref r hf (by omega) (by omega) w)
  have HS := Lib.hid (fun w => seal9_ref (bodyR r) (bodyR_octets hf) (by have := bodyR_length hf h1 h2; omega) w)
  clear hf h1 h2
  unfold recV at *
  go_enter Tryz.func14, Tryz.ntmps14
  go_wp2_with fail
  refine (HB.out _).mono ?_
  rintro e w1 ⟨rfl, hk⟩
  have HK := Lib.hid (((Keeps.refl NoBlock w).alloc _).trans hk)
  clear hk
  go_wp2_with fail
  refine (HS.out _).mono ?_
  rintro e w2 ⟨rfl, hk⟩
  have HK := Lib.hid (HK.out.trans hk)
  clear hk
  go_wp2_with fail
  go_ret
  exact ⟨rfl, HK.out⟩

end Go.Proofs.YtjeammmfdniokaaGreat

namespace Go.Proofs.YtjeammmfdniokaaGreat
open Go.RowKit

/-- A region's condition may be made stronger on the way. -/
theorem wpAnyH_swap {P : Program} {md : Region.Mode} {ops : Array Oper} {Q : Exit → Act → World → Prop} {S S' : World → Prop} (h : ∀ w, S' w → S w) : ∀ (fuel : Nat) (listed : Array Bool) (a : Act) (w : World), wpAnyH P md ops Q S' fuel listed a w → wpAnyH P md ops Q S fuel listed a w
  | 0, _, _, _, hh => hh
  | fuel + 1, _, _, _, hh => ⟨hh.1, fun i hi => wpOp_mono (fun _ _ h' => ⟨h _ h'.1, wpAnyH_swap h fuel _ _ _ h'.2⟩) (hh.2 i hi)⟩
end Go.Proofs.YtjeammmfdniokaaGreat

namespace Go.Proofs.YtjeammmfdniokaaGreat
open Go.RowKit

set_option maxHeartbeats 4000000 in
set_option maxRecDepth 10000 in
theorem head9_ref (e s n : Nat) (he : e < 256) (hs : s < 4294967296) (hn : n < 18446744073709551616) (w : World) :
    Calls Tryz.prog 60 #[confV e s, .int .u64 (n : Int)] w fun r w' => r = .returned (.string (strOfNums (sealN (headB e s n)))) ∧ Keeps NoBlock w w' := by
  have HNs := Lib.hid (fun w => num_bytes s (IntKind.u64.wrap (s : Int)) (by rw [IntKind.wrap_u64]; omega) (by omega) w)
  have HNn := Lib.hid (fun w => num_bytes n (n : Int) rfl hn w)
  have HSl := Lib.hid (fun w => seal9_ref (headB e s n) (headB_octets he) (by have := headB_length (e := e) (s := s) (n := n) (by omega) hn; omega) w)
  have t1 := vnum_ten (x := s) (by omega)
  have t2 := vnum_ten hn
  have z1 := str_size (vnum s)
  have z2 := str_size (vnum n)
  have a1 : (⟨#[1, 2]⟩ : ByteArray) ++ strOfNums [(e : Int)] = strOfNums [1, 2, (e : Int)] := str_append [1, 2] [(e : Int)]
  have a2 : strOfNums [1, 2, (e : Int)] ++ strOfNums (vnum s) = strOfNums (1 :: 2 :: (e : Int) :: vnum s) := str_append [1, 2, (e : Int)] (vnum s)
  have a3 : strOfNums (1 :: 2 :: (e : Int) :: vnum s) ++ strOfNums (vnum n) = strOfNums (headB e s n) := str_append (1 :: 2 :: (e : Int) :: vnum s) (vnum n)
  have z3 : (⟨#[1, 2]⟩ : ByteArray).size = 2 := rfl
  have z4 : (strOfNums [(e : Int)]).size = 1 := str_size _
  have z5 : (strOfNums [1, 2, (e : Int)]).size = 3 := str_size _
  have z6 : (strOfNums (1 :: 2 :: (e : Int) :: vnum s)).size = 3 + (vnum s).length := by rw [str_size]; simp; omega
  have HWc := Lib.hid (Whole.new w 27 (confCells e s))
  obtain ⟨S, hS⟩ : ∃ S, S = vnum s := ⟨_, rfl⟩
  obtain ⟨N, hN⟩ : ∃ N, N = vnum n := ⟨_, rfl⟩
  obtain ⟨B, hB⟩ : ∃ B, B = headB e s n := ⟨_, rfl⟩
  rw [← hS] at HNs t1 z1 a2 a3 z6
  rw [← hN] at HNn t2 z2 a3
  rw [← hB] at HSl a3 ⊢
  clear hS hN hB he hs hn
  have r1 : ¬ 9223372036854775807 < 2 + 1 := by decide
  have r2 : ¬ 9223372036854775807 < 3 + S.length := by omega
  have r3 : ¬ 9223372036854775807 < 3 + S.length + N.length := by omega
  unfold confV
  go_enter Tryz.func60, Tryz.ntmps60
  go_wp2_with fail
  obtain ⟨W, hW⟩ : ∃ W, W = w.alloc (.cells #[.int .u8 (e : Int), .int .u32 (s : Int)] 27) := ⟨_, rfl⟩
  have HC : Hid (Whole W w.heap.size 27 (confCells e s)) := Lib.hid (by rw [hW]; exact HWc.out)
  have HK : Hid (Keeps NoBlock w W) := Lib.hid (by rw [hW]; exact (Keeps.refl _ _).alloc _)
  rw [← hW]
  clear hW HWc
  have HC : Hid (Whole W.drew w.heap.size 27 (confCells e s)) := Lib.hid (HC.out.drewN 1)
  have HK : Hid (Keeps NoBlock w W.drew) := Lib.hid (HK.out.drewN 1)
  have s0 := And.intro (HC.out.cell 0 rfl) (HC.out.cell 1 rfl)
  simp only [confCells, List.getElem_toArray, List.getElem_cons_zero, List.getElem_cons_succ] at s0
  refine wp_region_held_drew (S := fun w' => w'.cell? ⟨w.heap.size, 0, none⟩ = some (.int .u8 (e : Int)) ∧ w'.cell? ⟨w.heap.size, 1, none⟩ = some (.int .u32 (s : Int))) (by kernel_rfl) s0 (fun hHeld => ?_)
  refine wpAnyH_take (i := 0) (v := ?vT1) rfl ?aT1 ?bT1 ?cT1 ?dT1 (Or.inl ⟨?eT1, ?fT1⟩) hHeld ?gT1
  case fT1 => intro w hSw; (try dsimp only at hSw); go_simp; (try with_reducible rfl)
  case aT1 => kernel_rfl
  case bT1 => kernel_rfl
  case cT1 => kernel_rfl
  case dT1 => exact fun _ _ _ h => h
  case eT1 => rfl
  simp only [Act.put, List.getElem_toArray, List.getElem_cons_zero, List.setIfInBounds_toArray, List.set_cons_zero, List.set_cons_succ]
  refine wpAnyH_take (i := 1) (v := ?vT2) rfl ?aT2 ?bT2 ?cT2 ?dT2 (Or.inl ⟨?eT2, ?fT2⟩) hHeld ?gT2
  case fT2 => intro w hSw; (try dsimp only at hSw); go_simp; (try with_reducible rfl)
  case aT2 => kernel_rfl
  case bT2 => kernel_rfl
  case cT2 => kernel_rfl
  case dT2 => exact fun _ _ _ h => h
  case eT2 => rfl
  simp only [Act.put, List.getElem_toArray, List.getElem_cons_zero, List.getElem_cons_succ, List.setIfInBounds_toArray, List.set_cons_zero, List.set_cons_succ]
  refine wpAnyH_take (i := 5) (v := ?vT3) rfl ?aT3 ?bT3 ?cT3 ?dT3 (Or.inl ⟨?eT3, ?fT3⟩) hHeld ?gT3
  case fT3 => intro w hSw; (try dsimp only at hSw); go_simp; (try with_reducible rfl)
  case aT3 => kernel_rfl
  case bT3 => kernel_rfl
  case cT3 => kernel_rfl
  case dT3 => exact fun _ _ _ h => h
  case eT3 => rfl
  simp only [Act.put, List.getElem_toArray, List.getElem_cons_zero, List.getElem_cons_succ, List.setIfInBounds_toArray, List.set_cons_zero, List.set_cons_succ]
  refine wpAnyH_take (i := 6) (v := ?vT4) rfl ?aT4 ?bT4 ?cT4 ?dT4 (Or.inl ⟨?eT4, ?fT4⟩) hHeld ?gT4
  case fT4 => intro w hSw; (try dsimp only at hSw); go_simp; (try with_reducible rfl)
  case aT4 => kernel_rfl
  case bT4 => kernel_rfl
  case cT4 => kernel_rfl
  case dT4 => exact fun _ _ _ h => h
  case eT4 => rfl
  simp only [Act.put, List.getElem_toArray, List.getElem_cons_zero, List.getElem_cons_succ, List.setIfInBounds_toArray, List.set_cons_zero, List.set_cons_succ]
  refine wpAnyH_take (i := 7) (v := ?vT5) rfl ?aT5 ?bT5 ?cT5 ?dT5 (Or.inl ⟨?eT5, ?fT5⟩) hHeld ?gT5
  case fT5 => intro w hSw; (try dsimp only at hSw); go_simp; (try with_reducible rfl)
  case aT5 => kernel_rfl
  case bT5 => kernel_rfl
  case cT5 => kernel_rfl
  case dT5 => exact fun _ _ _ h => h
  case eT5 => rfl
  simp only [Act.put, List.getElem_toArray, List.getElem_cons_zero, List.getElem_cons_succ, List.setIfInBounds_toArray, List.set_cons_zero, List.set_cons_succ]
  refine wpAnyH_take (i := 10) (v := ?vT6) rfl ?aT6 ?bT6 ?cT6 ?dT6 (Or.inl ⟨?eT6, ?fT6⟩) hHeld ?gT6
  case fT6 => intro w hSw; (try dsimp only at hSw); go_simp; (try with_reducible rfl)
  case aT6 => kernel_rfl
  case bT6 => kernel_rfl
  case cT6 => kernel_rfl
  case dT6 => exact fun _ _ _ h => h
  case eT6 => rfl
  simp only [Act.put, List.getElem_toArray, List.getElem_cons_zero, List.getElem_cons_succ, List.setIfInBounds_toArray, List.set_cons_zero, List.set_cons_succ]
  refine wpAnyH_ready (rs := [2, 8]) (by kernel_rfl) (by simp) ?_
  refine (AllReadyH.cons (o := _) rfl (fun K hK => ?_) (AllReadyH.cons (o := _) rfl (fun K hK => ?_) AllReadyH.nil))
  · go_simp
    have HC := Lib.hid (HC.out.alloc (.cells #[.int .u8 (e : Int)] 5))
    have HK := Lib.hid (HK.out.alloc (.cells #[.int .u8 (e : Int)] 5))
    have HNB : Hid (Whole (W.drew.alloc (.cells #[.int .u8 (e : Int)] 5)) W.heap.size 5 #[.int .u8 (e : Int)]) := Lib.hid (Whole.new _ _ _)
    refine hK.out _ _ (And.intro (HC.out.cell 0 rfl) (HC.out.cell 1 rfl)) (fun _ => ?_)
    clear hK K
    refine wpAnyH_swap (S' := fun w' => (w'.cell? ⟨w.heap.size, 0, none⟩ = some (.int .u8 (e : Int)) ∧ w'.cell? ⟨w.heap.size, 1, none⟩ = some (.int .u32 (s : Int))) ∧ (convert 29 9 (.slice (some ⟨W.heap.size, 0, none⟩) 1 1)).run Tryz.prog w' = .ok (.string (strOfNums [(e : Int)])) w') (fun _ h => h.1) _ _ _ _ ?_
    have hS : ((fun w' => w'.cell? ⟨w.heap.size, 0, none⟩ = some (.int .u8 (e : Int)) ∧ w'.cell? ⟨w.heap.size, 1, none⟩ = some (.int .u32 (s : Int))) (W.drew.alloc (.cells #[.int .u8 (e : Int)] 5))) ∧ ((fun w' => (convert 29 9 (.slice (some ⟨W.heap.size, 0, none⟩) 1 1)).run Tryz.prog w' = .ok (.string (strOfNums [(e : Int)])) w') (W.drew.alloc (.cells #[.int .u8 (e : Int)] 5))) := And.intro (And.intro (HC.out.cell 0 rfl) (HC.out.cell 1 rfl)) (one_conv HNB.out)
    refine wpAnyH_take (i := 3) (v := ?vT7) rfl ?aT7 ?bT7 ?cT7 ?dT7 (Or.inl ⟨?eT7, ?fT7⟩) hS ?gT7
    case fT7 => intro w hSw; (try dsimp only at hSw); go_simp; (try with_reducible rfl)
    case aT7 => kernel_rfl
    case bT7 => kernel_rfl
    case cT7 => kernel_rfl
    case dT7 => exact fun _ _ _ h => h
    case eT7 => rfl
    simp only [Act.put, List.getElem_toArray, List.getElem_cons_zero, List.getElem_cons_succ, List.setIfInBounds_toArray, List.set_cons_zero, List.set_cons_succ]
    refine wpAnyH_take (i := 4) (v := ?vT8) rfl ?aT8 ?bT8 ?cT8 ?dT8 (Or.inl ⟨?eT8, ?fT8⟩) hS ?gT8
    case fT8 => intro w hSw; (try dsimp only at hSw); go_simp; (try with_reducible rfl)
    case aT8 => kernel_rfl
    case bT8 => kernel_rfl
    case cT8 => kernel_rfl
    case dT8 => exact fun _ _ _ h => h
    case eT8 => rfl
    simp only [Act.put, List.getElem_toArray, List.getElem_cons_zero, List.getElem_cons_succ, List.setIfInBounds_toArray, List.set_cons_zero, List.set_cons_succ]
    refine wpAnyH_ready (rs := [8]) (by kernel_rfl) (by simp) ?_
    refine (AllReadyH.cons (o := _) rfl (fun K hK => ?_) AllReadyH.nil)
    go_simp
    refine (HNs.out _).mono ?_
    rintro r w5 ⟨rfl, hk⟩
    have hk2 : Keeps NoBlock (W.drew.alloc (.cells #[.int .u8 (e : Int)] 5)) w5 := by first | exact hk | exact hk.ofDrew | exact hk.ofDrewN
    have HC := Lib.hid (HC.out.keep hk2 (fun h => h))
    have HK := Lib.hid (HK.out.trans hk2)
    have HNB := Lib.hid (HNB.out.keep hk2 (fun h => h))
    have hS : ((fun w' => w'.cell? ⟨w.heap.size, 0, none⟩ = some (.int .u8 (e : Int)) ∧ w'.cell? ⟨w.heap.size, 1, none⟩ = some (.int .u32 (s : Int))) w5) ∧ ((fun w' => (convert 29 9 (.slice (some ⟨W.heap.size, 0, none⟩) 1 1)).run Tryz.prog w' = .ok (.string (strOfNums [(e : Int)])) w') w5) := And.intro (And.intro (HC.out.cell 0 rfl) (HC.out.cell 1 rfl)) (one_conv HNB.out)
    clear hk hk2
    go_wp2_with fail
    refine hK.out _ _ hS (fun _ => ?_)
    clear hK K
    refine wpAnyH_take (i := 9) (v := ?vT9) rfl ?aT9 ?bT9 ?cT9 ?dT9 (Or.inl ⟨?eT9, ?fT9⟩) hS ?gT9
    case fT9 => intro w hSw; (try dsimp only at hSw); go_simp; (try with_reducible rfl)
    case aT9 => kernel_rfl
    case bT9 => kernel_rfl
    case cT9 => kernel_rfl
    case dT9 => exact fun _ _ _ h => h
    case eT9 => rfl
    simp only [Act.put, List.getElem_toArray, List.getElem_cons_zero, List.getElem_cons_succ, List.setIfInBounds_toArray, List.set_cons_zero, List.set_cons_succ]
    refine wpAnyH_ready (rs := [11]) (by kernel_rfl) (by simp) ?_
    refine (AllReadyH.cons (o := _) rfl (fun K hK => ?_) AllReadyH.nil)
    go_simp
    refine (HNn.out _).mono ?_
    rintro r w6 ⟨rfl, hk⟩
    have hk2 : Keeps NoBlock w5 w6 := by first | exact hk | exact hk.ofDrew | exact hk.ofDrewN
    have HC := Lib.hid (HC.out.keep hk2 (fun h => h))
    have HK := Lib.hid (HK.out.trans hk2)
    have HNB := Lib.hid (HNB.out.keep hk2 (fun h => h))
    have hS : ((fun w' => w'.cell? ⟨w.heap.size, 0, none⟩ = some (.int .u8 (e : Int)) ∧ w'.cell? ⟨w.heap.size, 1, none⟩ = some (.int .u32 (s : Int))) w6) ∧ ((fun w' => (convert 29 9 (.slice (some ⟨W.heap.size, 0, none⟩) 1 1)).run Tryz.prog w' = .ok (.string (strOfNums [(e : Int)])) w') w6) := And.intro (And.intro (HC.out.cell 0 rfl) (HC.out.cell 1 rfl)) (one_conv HNB.out)
    clear hk hk2
    go_wp2_with fail
    refine hK.out _ _ hS (fun _ => ?_)
    clear hK K
    refine wpAnyH_take (i := 12) (v := ?vT10) rfl ?aT10 ?bT10 ?cT10 ?dT10 (Or.inl ⟨?eT10, ?fT10⟩) hS ?gT10
    case fT10 => intro w hSw; (try dsimp only at hSw); go_simp; (try with_reducible rfl)
    case aT10 => kernel_rfl
    case bT10 => kernel_rfl
    case cT10 => kernel_rfl
    case dT10 => exact fun _ _ _ h => h
    case eT10 => rfl
    simp only [Act.put, List.getElem_toArray, List.getElem_cons_zero, List.getElem_cons_succ, List.setIfInBounds_toArray, List.set_cons_zero, List.set_cons_succ]
    refine wpAnyH_ready (rs := [13]) (by kernel_rfl) (by simp) ?_
    refine (AllReadyH.cons (o := _) rfl (fun K hK => ?_) AllReadyH.nil)
    go_simp
    refine (HSl.out _).mono ?_
    rintro r w7 ⟨rfl, hk⟩
    have hk2 : Keeps NoBlock w6 w7 := by first | exact hk | exact hk.ofDrew | exact hk.ofDrewN
    have HC := Lib.hid (HC.out.keep hk2 (fun h => h))
    have HK := Lib.hid (HK.out.trans hk2)
    have HNB := Lib.hid (HNB.out.keep hk2 (fun h => h))
    have hS : ((fun w' => w'.cell? ⟨w.heap.size, 0, none⟩ = some (.int .u8 (e : Int)) ∧ w'.cell? ⟨w.heap.size, 1, none⟩ = some (.int .u32 (s : Int))) w7) ∧ ((fun w' => (convert 29 9 (.slice (some ⟨W.heap.size, 0, none⟩) 1 1)).run Tryz.prog w' = .ok (.string (strOfNums [(e : Int)])) w') w7) := And.intro (And.intro (HC.out.cell 0 rfl) (HC.out.cell 1 rfl)) (one_conv HNB.out)
    clear hk hk2
    go_wp2_with fail
    refine hK.out _ _ hS (fun _ => ?_)
    clear hK K
    refine wpAnyH_take (i := 14) (v := ?vT11) rfl ?aT11 ?bT11 ?cT11 ?dT11 (Or.inl ⟨?eT11, ?fT11⟩) hS ?gT11
    case fT11 => intro w hSw; (try dsimp only at hSw); go_simp; (try with_reducible rfl)
    case aT11 => kernel_rfl
    case bT11 => kernel_rfl
    case cT11 => kernel_rfl
    case dT11 => exact fun _ _ _ h => h
    case eT11 => rfl
    simp only [Act.put, List.getElem_toArray, List.getElem_cons_zero, List.getElem_cons_succ, List.setIfInBounds_toArray, List.set_cons_zero, List.set_cons_succ]
    refine wpAnyH_done (by kernel_rfl) ?_ _
    go_wp2_with fail
    go_ret
    exact ⟨rfl, HK.out⟩
  · go_simp
    refine (HNs.out _).mono ?_
    rintro r w8 ⟨rfl, hk⟩
    have hk2 : Keeps NoBlock W.drew w8 := by first | exact hk | exact hk.ofDrew | exact hk.ofDrewN
    have HC := Lib.hid (HC.out.keep hk2 (fun h => h))
    have HK := Lib.hid (HK.out.trans hk2)
    have hS : (fun w' => w'.cell? ⟨w.heap.size, 0, none⟩ = some (.int .u8 (e : Int)) ∧ w'.cell? ⟨w.heap.size, 1, none⟩ = some (.int .u32 (s : Int))) w8 := And.intro (HC.out.cell 0 rfl) (HC.out.cell 1 rfl)
    clear hk hk2
    go_wp2_with fail
    refine hK.out _ _ hS (fun _ => ?_)
    clear hK K
    refine wpAnyH_ready (rs := [2, 11]) (by kernel_rfl) (by simp) ?_
    refine (AllReadyH.cons (o := _) rfl (fun K hK => ?_) (AllReadyH.cons (o := _) rfl (fun K hK => ?_) AllReadyH.nil))
    · go_simp
      have HC := Lib.hid (HC.out.alloc (.cells #[.int .u8 (e : Int)] 5))
      have HK := Lib.hid (HK.out.alloc (.cells #[.int .u8 (e : Int)] 5))
      have HNB : Hid (Whole (w8.alloc (.cells #[.int .u8 (e : Int)] 5)) w8.heap.size 5 #[.int .u8 (e : Int)]) := Lib.hid (Whole.new _ _ _)
      refine hK.out _ _ (And.intro (HC.out.cell 0 rfl) (HC.out.cell 1 rfl)) (fun _ => ?_)
      clear hK K
      refine wpAnyH_swap (S' := fun w' => (w'.cell? ⟨w.heap.size, 0, none⟩ = some (.int .u8 (e : Int)) ∧ w'.cell? ⟨w.heap.size, 1, none⟩ = some (.int .u32 (s : Int))) ∧ (convert 29 9 (.slice (some ⟨w8.heap.size, 0, none⟩) 1 1)).run Tryz.prog w' = .ok (.string (strOfNums [(e : Int)])) w') (fun _ h => h.1) _ _ _ _ ?_
      have hS : ((fun w' => w'.cell? ⟨w.heap.size, 0, none⟩ = some (.int .u8 (e : Int)) ∧ w'.cell? ⟨w.heap.size, 1, none⟩ = some (.int .u32 (s : Int))) (w8.alloc (.cells #[.int .u8 (e : Int)] 5))) ∧ ((fun w' => (convert 29 9 (.slice (some ⟨w8.heap.size, 0, none⟩) 1 1)).run Tryz.prog w' = .ok (.string (strOfNums [(e : Int)])) w') (w8.alloc (.cells #[.int .u8 (e : Int)] 5))) := And.intro (And.intro (HC.out.cell 0 rfl) (HC.out.cell 1 rfl)) (one_conv HNB.out)
      refine wpAnyH_take (i := 3) (v := ?vT12) rfl ?aT12 ?bT12 ?cT12 ?dT12 (Or.inl ⟨?eT12, ?fT12⟩) hS ?gT12
      case fT12 => intro w hSw; (try dsimp only at hSw); go_simp; (try with_reducible rfl)
      case aT12 => kernel_rfl
      case bT12 => kernel_rfl
      case cT12 => kernel_rfl
      case dT12 => exact fun _ _ _ h => h
      case eT12 => rfl
      simp only [Act.put, List.getElem_toArray, List.getElem_cons_zero, List.getElem_cons_succ, List.setIfInBounds_toArray, List.set_cons_zero, List.set_cons_succ]
      refine wpAnyH_take (i := 4) (v := ?vT13) rfl ?aT13 ?bT13 ?cT13 ?dT13 (Or.inl ⟨?eT13, ?fT13⟩) hS ?gT13
      case fT13 => intro w hSw; (try dsimp only at hSw); go_simp; (try with_reducible rfl)
      case aT13 => kernel_rfl
      case bT13 => kernel_rfl
      case cT13 => kernel_rfl
      case dT13 => exact fun _ _ _ h => h
      case eT13 => rfl
      simp only [Act.put, List.getElem_toArray, List.getElem_cons_zero, List.getElem_cons_succ, List.setIfInBounds_toArray, List.set_cons_zero, List.set_cons_succ]
      refine wpAnyH_take (i := 9) (v := ?vT14) rfl ?aT14 ?bT14 ?cT14 ?dT14 (Or.inl ⟨?eT14, ?fT14⟩) hS ?gT14
      case fT14 => intro w hSw; (try dsimp only at hSw); go_simp; (try with_reducible rfl)
      case aT14 => kernel_rfl
      case bT14 => kernel_rfl
      case cT14 => kernel_rfl
      case dT14 => exact fun _ _ _ h => h
      case eT14 => rfl
      simp only [Act.put, List.getElem_toArray, List.getElem_cons_zero, List.getElem_cons_succ, List.setIfInBounds_toArray, List.set_cons_zero, List.set_cons_succ]
      refine wpAnyH_ready (rs := [11]) (by kernel_rfl) (by simp) ?_
      refine (AllReadyH.cons (o := _) rfl (fun K hK => ?_) AllReadyH.nil)
      go_simp
      refine (HNn.out _).mono ?_
      rintro r w9 ⟨rfl, hk⟩
      have hk2 : Keeps NoBlock (w8.alloc (.cells #[.int .u8 (e : Int)] 5)) w9 := by first | exact hk | exact hk.ofDrew | exact hk.ofDrewN
      have HC := Lib.hid (HC.out.keep hk2 (fun h => h))
      have HK := Lib.hid (HK.out.trans hk2)
      have HNB := Lib.hid (HNB.out.keep hk2 (fun h => h))
      have hS : ((fun w' => w'.cell? ⟨w.heap.size, 0, none⟩ = some (.int .u8 (e : Int)) ∧ w'.cell? ⟨w.heap.size, 1, none⟩ = some (.int .u32 (s : Int))) w9) ∧ ((fun w' => (convert 29 9 (.slice (some ⟨w8.heap.size, 0, none⟩) 1 1)).run Tryz.prog w' = .ok (.string (strOfNums [(e : Int)])) w') w9) := And.intro (And.intro (HC.out.cell 0 rfl) (HC.out.cell 1 rfl)) (one_conv HNB.out)
      clear hk hk2
      go_wp2_with fail
      refine hK.out _ _ hS (fun _ => ?_)
      clear hK K
      refine wpAnyH_take (i := 12) (v := ?vT15) rfl ?aT15 ?bT15 ?cT15 ?dT15 (Or.inl ⟨?eT15, ?fT15⟩) hS ?gT15
      case fT15 => intro w hSw; (try dsimp only at hSw); go_simp; (try with_reducible rfl)
      case aT15 => kernel_rfl
      case bT15 => kernel_rfl
      case cT15 => kernel_rfl
      case dT15 => exact fun _ _ _ h => h
      case eT15 => rfl
      simp only [Act.put, List.getElem_toArray, List.getElem_cons_zero, List.getElem_cons_succ, List.setIfInBounds_toArray, List.set_cons_zero, List.set_cons_succ]
      refine wpAnyH_ready (rs := [13]) (by kernel_rfl) (by simp) ?_
      refine (AllReadyH.cons (o := _) rfl (fun K hK => ?_) AllReadyH.nil)
      go_simp
      refine (HSl.out _).mono ?_
      rintro r w10 ⟨rfl, hk⟩
      have hk2 : Keeps NoBlock w9 w10 := by first | exact hk | exact hk.ofDrew | exact hk.ofDrewN
      have HC := Lib.hid (HC.out.keep hk2 (fun h => h))
      have HK := Lib.hid (HK.out.trans hk2)
      have HNB := Lib.hid (HNB.out.keep hk2 (fun h => h))
      have hS : ((fun w' => w'.cell? ⟨w.heap.size, 0, none⟩ = some (.int .u8 (e : Int)) ∧ w'.cell? ⟨w.heap.size, 1, none⟩ = some (.int .u32 (s : Int))) w10) ∧ ((fun w' => (convert 29 9 (.slice (some ⟨w8.heap.size, 0, none⟩) 1 1)).run Tryz.prog w' = .ok (.string (strOfNums [(e : Int)])) w') w10) := And.intro (And.intro (HC.out.cell 0 rfl) (HC.out.cell 1 rfl)) (one_conv HNB.out)
      clear hk hk2
      go_wp2_with fail
      refine hK.out _ _ hS (fun _ => ?_)
      clear hK K
      refine wpAnyH_take (i := 14) (v := ?vT16) rfl ?aT16 ?bT16 ?cT16 ?dT16 (Or.inl ⟨?eT16, ?fT16⟩) hS ?gT16
      case fT16 => intro w hSw; (try dsimp only at hSw); go_simp; (try with_reducible rfl)
      case aT16 => kernel_rfl
      case bT16 => kernel_rfl
      case cT16 => kernel_rfl
      case dT16 => exact fun _ _ _ h => h
      case eT16 => rfl
      simp only [Act.put, List.getElem_toArray, List.getElem_cons_zero, List.getElem_cons_succ, List.setIfInBounds_toArray, List.set_cons_zero, List.set_cons_succ]
      refine wpAnyH_done (by kernel_rfl) ?_ _
      go_wp2_with fail
      go_ret
      exact ⟨rfl, HK.out⟩
    · go_simp
      refine (HNn.out _).mono ?_
      rintro r w11 ⟨rfl, hk⟩
      have hk2 : Keeps NoBlock w8 w11 := by first | exact hk | exact hk.ofDrew | exact hk.ofDrewN
      have HC := Lib.hid (HC.out.keep hk2 (fun h => h))
      have HK := Lib.hid (HK.out.trans hk2)
      have hS : (fun w' => w'.cell? ⟨w.heap.size, 0, none⟩ = some (.int .u8 (e : Int)) ∧ w'.cell? ⟨w.heap.size, 1, none⟩ = some (.int .u32 (s : Int))) w11 := And.intro (HC.out.cell 0 rfl) (HC.out.cell 1 rfl)
      clear hk hk2
      go_wp2_with fail
      refine hK.out _ _ hS (fun _ => ?_)
      clear hK K
      refine wpAnyH_ready (rs := [2]) (by kernel_rfl) (by simp) ?_
      refine (AllReadyH.cons (o := _) rfl (fun K hK => ?_) AllReadyH.nil)
      go_simp
      have HC := Lib.hid (HC.out.alloc (.cells #[.int .u8 (e : Int)] 5))
      have HK := Lib.hid (HK.out.alloc (.cells #[.int .u8 (e : Int)] 5))
      have HNB : Hid (Whole (w11.alloc (.cells #[.int .u8 (e : Int)] 5)) w11.heap.size 5 #[.int .u8 (e : Int)]) := Lib.hid (Whole.new _ _ _)
      refine hK.out _ _ (And.intro (HC.out.cell 0 rfl) (HC.out.cell 1 rfl)) (fun _ => ?_)
      clear hK K
      refine wpAnyH_swap (S' := fun w' => (w'.cell? ⟨w.heap.size, 0, none⟩ = some (.int .u8 (e : Int)) ∧ w'.cell? ⟨w.heap.size, 1, none⟩ = some (.int .u32 (s : Int))) ∧ (convert 29 9 (.slice (some ⟨w11.heap.size, 0, none⟩) 1 1)).run Tryz.prog w' = .ok (.string (strOfNums [(e : Int)])) w') (fun _ h => h.1) _ _ _ _ ?_
      have hS : ((fun w' => w'.cell? ⟨w.heap.size, 0, none⟩ = some (.int .u8 (e : Int)) ∧ w'.cell? ⟨w.heap.size, 1, none⟩ = some (.int .u32 (s : Int))) (w11.alloc (.cells #[.int .u8 (e : Int)] 5))) ∧ ((fun w' => (convert 29 9 (.slice (some ⟨w11.heap.size, 0, none⟩) 1 1)).run Tryz.prog w' = .ok (.string (strOfNums [(e : Int)])) w') (w11.alloc (.cells #[.int .u8 (e : Int)] 5))) := And.intro (And.intro (HC.out.cell 0 rfl) (HC.out.cell 1 rfl)) (one_conv HNB.out)
      refine wpAnyH_take (i := 3) (v := ?vT17) rfl ?aT17 ?bT17 ?cT17 ?dT17 (Or.inl ⟨?eT17, ?fT17⟩) hS ?gT17
      case fT17 => intro w hSw; (try dsimp only at hSw); go_simp; (try with_reducible rfl)
      case aT17 => kernel_rfl
      case bT17 => kernel_rfl
      case cT17 => kernel_rfl
      case dT17 => exact fun _ _ _ h => h
      case eT17 => rfl
      simp only [Act.put, List.getElem_toArray, List.getElem_cons_zero, List.getElem_cons_succ, List.setIfInBounds_toArray, List.set_cons_zero, List.set_cons_succ]
      refine wpAnyH_take (i := 4) (v := ?vT18) rfl ?aT18 ?bT18 ?cT18 ?dT18 (Or.inl ⟨?eT18, ?fT18⟩) hS ?gT18
      case fT18 => intro w hSw; (try dsimp only at hSw); go_simp; (try with_reducible rfl)
      case aT18 => kernel_rfl
      case bT18 => kernel_rfl
      case cT18 => kernel_rfl
      case dT18 => exact fun _ _ _ h => h
      case eT18 => rfl
      simp only [Act.put, List.getElem_toArray, List.getElem_cons_zero, List.getElem_cons_succ, List.setIfInBounds_toArray, List.set_cons_zero, List.set_cons_succ]
      refine wpAnyH_take (i := 9) (v := ?vT19) rfl ?aT19 ?bT19 ?cT19 ?dT19 (Or.inl ⟨?eT19, ?fT19⟩) hS ?gT19
      case fT19 => intro w hSw; (try dsimp only at hSw); go_simp; (try with_reducible rfl)
      case aT19 => kernel_rfl
      case bT19 => kernel_rfl
      case cT19 => kernel_rfl
      case dT19 => exact fun _ _ _ h => h
      case eT19 => rfl
      simp only [Act.put, List.getElem_toArray, List.getElem_cons_zero, List.getElem_cons_succ, List.setIfInBounds_toArray, List.set_cons_zero, List.set_cons_succ]
      refine wpAnyH_take (i := 12) (v := ?vT20) rfl ?aT20 ?bT20 ?cT20 ?dT20 (Or.inl ⟨?eT20, ?fT20⟩) hS ?gT20
      case fT20 => intro w hSw; (try dsimp only at hSw); go_simp; (try with_reducible rfl)
      case aT20 => kernel_rfl
      case bT20 => kernel_rfl
      case cT20 => kernel_rfl
      case dT20 => exact fun _ _ _ h => h
      case eT20 => rfl
      simp only [Act.put, List.getElem_toArray, List.getElem_cons_zero, List.getElem_cons_succ, List.setIfInBounds_toArray, List.set_cons_zero, List.set_cons_succ]
      refine wpAnyH_ready (rs := [13]) (by kernel_rfl) (by simp) ?_
      refine (AllReadyH.cons (o := _) rfl (fun K hK => ?_) AllReadyH.nil)
      go_simp
      refine (HSl.out _).mono ?_
      rintro r w12 ⟨rfl, hk⟩
      have hk2 : Keeps NoBlock (w11.alloc (.cells #[.int .u8 (e : Int)] 5)) w12 := by first | exact hk | exact hk.ofDrew | exact hk.ofDrewN
      have HC := Lib.hid (HC.out.keep hk2 (fun h => h))
      have HK := Lib.hid (HK.out.trans hk2)
      have HNB := Lib.hid (HNB.out.keep hk2 (fun h => h))
      have hS : ((fun w' => w'.cell? ⟨w.heap.size, 0, none⟩ = some (.int .u8 (e : Int)) ∧ w'.cell? ⟨w.heap.size, 1, none⟩ = some (.int .u32 (s : Int))) w12) ∧ ((fun w' => (convert 29 9 (.slice (some ⟨w11.heap.size, 0, none⟩) 1 1)).run Tryz.prog w' = .ok (.string (strOfNums [(e : Int)])) w') w12) := And.intro (And.intro (HC.out.cell 0 rfl) (HC.out.cell 1 rfl)) (one_conv HNB.out)
      clear hk hk2
      go_wp2_with fail
      refine hK.out _ _ hS (fun _ => ?_)
      clear hK K
      refine wpAnyH_take (i := 14) (v := ?vT21) rfl ?aT21 ?bT21 ?cT21 ?dT21 (Or.inl ⟨?eT21, ?fT21⟩) hS ?gT21
      case fT21 => intro w hSw; (try dsimp only at hSw); go_simp; (try with_reducible rfl)
      case aT21 => kernel_rfl
      case bT21 => kernel_rfl
      case cT21 => kernel_rfl
      case dT21 => exact fun _ _ _ h => h
      case eT21 => rfl
      simp only [Act.put, List.getElem_toArray, List.getElem_cons_zero, List.getElem_cons_succ, List.setIfInBounds_toArray, List.set_cons_zero, List.set_cons_succ]
      refine wpAnyH_done (by kernel_rfl) ?_ _
      go_wp2_with fail
      go_ret
      exact ⟨rfl, HK.out⟩
end Go.Proofs.YtjeammmfdniokaaGreat

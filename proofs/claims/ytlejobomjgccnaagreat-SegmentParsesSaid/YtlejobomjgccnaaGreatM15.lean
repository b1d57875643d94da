/-
  FtRef; SgText; SgScan; SgParse; PkRef; FenGet.
-/
import Derived.IntWalk
import Derived.Deep.Cut
import Derived.Test.YtlejobomjgccnaaGreatM03
import Derived.Test.YtlejobomjgccnaaGreatM04
import Derived.Test.YtlejobomjgccnaaGreatM07
import Derived.Test.YtlejobomjgccnaaGreatM09
import Derived.Test.YtlejobomjgccnaaGreatM10
import Derived.Test.YtlejobomjgccnaaGreatM11
import Derived.Test.YtlejobomjgccnaaGreatM13
import Derived.Test.YtlejobomjgccnaaGreatM14
namespace Go.Proofs.YtlejobomjgccnaaGreat
open Go.RowKit

def ftV (u : Nat) (q : Option Addr) (n c : Nat) : Value := .agg #[.int .u32 (u : Int), .slice q n c]
def ftCells (u : Nat) (q : Option Addr) (n c : Nat) : Array Value := #[.int .u32 (u : Int), .slice q n c]

set_option maxRecDepth 10000 in
theorem most13_ref (k : Nat) (hk : k ≤ 1000000) (w : World) : Calls Tryz.prog 36 #[.int .i64 (k : Int)] w fun e w' => e = .returned (.int .i64 (mostFt k : Int)) ∧ Keeps NoBlock w w' := by
  have hq : ((k : Int) + 15).tdiv 16 = (((k + 15) / 16 : Nat) : Int) := by rw [Int.tdiv_eq_ediv_of_nonneg (by omega)]; omega
  have hm : mostFt k = bodyLen k + 8 + 1 + (bodyLen k + 8 - 1) / 254 + 1 := by
    unfold mostFt sizeN mostOf
    rw [if_neg (by omega)]
  have hb : bodyLen k = 9 + 12 * k + 8 * ((k + 15) / 16) := by unfold bodyLen countF; rw [Int.toNat_natCast]
  obtain ⟨D, hD⟩ : ∃ D, D = (k + 15) / 16 := ⟨_, rfl⟩
  rw [← hD] at hq hb
  obtain ⟨B, hB⟩ : ∃ B, B = bodyLen k := ⟨_, rfl⟩
  rw [← hB] at hm hb
  have hB9 : B ≤ 100000000 := by omega
  have hq2 : ((B : Int) + 8 - 1).tdiv 254 = (((B + 8 - 1) / 254 : Nat) : Int) := by rw [Int.tdiv_eq_ediv_of_nonneg (by omega)]; omega
  obtain ⟨E, hE⟩ : ∃ E, E = (B + 8 - 1) / 254 := ⟨_, rfl⟩
  rw [← hE] at hq2 hm
  have hE9 : E ≤ 100000000 := by omega
  have hsum : 9 + 12 * (k : Int) + 8 * (D : Int) = (B : Int) := by omega
  have hc : ((B + 8 + 1 + E + 1 : Nat) : Int) = (B : Int) + 8 + 1 + (E : Int) + 1 := by omega
  rw [hm, hc]
  have w1 : IntKind.i64.wrap (12 * (k : Int)) = 12 * (k : Int) := IntWalk.i64_in _ (by omega)
  have w2 : IntKind.i64.wrap (9 + 12 * (k : Int)) = 9 + 12 * (k : Int) := IntWalk.i64_in _ (by omega)
  have w3 : IntKind.i64.wrap ((k : Int) + 15) = (k : Int) + 15 := IntWalk.i64_in _ (by omega)
  have w4 : IntKind.i64.wrap (8 * (D : Int)) = 8 * (D : Int) := IntWalk.i64_in _ (by omega)
  clear hD hB hE hb hc hm
  go_enter Tryz.func36, Tryz.ntmps36
  go_wp2_with fail
  go_ret
  exact ⟨rfl, Keeps.refl _ _⟩

theorem bodyFt_flat (u : Nat) (l : List En) : bodyFt ⟨u, l⟩ = (((4 :: digits (l.length : Int) 4) ++ digits (u : Int) 4) ++ textE l) ++ textF (ofF l) := by simp [bodyFt]

set_option maxHeartbeats 4000000 in
set_option maxRecDepth 10000 in
theorem text13_ref (u : Nat) (hu : u < 4294967296) (q : Option Addr) (n c : Nat) (l : List En) (hn : n = l.length) (hn9 : n ≤ 100000) (hf : ∀ e ∈ l, e.Fine) (w : World) (hl : EnsAt w q l) :
    Calls Tryz.prog 42 #[ftV u q n c] w fun e w' => e = .returned (.string (strOfNums (sealN (bodyFt ⟨u, l⟩)))) ∧ Keeps NoBlock w w' := by
  have wn : IntKind.u64.wrap (n : Int) = (n : Int) := by rw [IntKind.wrap_u64]; omega
  have wu : IntKind.u64.wrap (u : Int) = (u : Int) := by rw [IntKind.wrap_u64]; omega
  have HN4 := Lib.hid (fun w => num_any (n : Int) 4 4 rfl (by decide) (by omega) (by omega) w)
  have HU4 := Lib.hid (fun w => num_any (u : Int) 4 4 rfl (by decide) (by omega) (by omega) w)
  have HTE := Lib.hid (fun W h => text11_ref q n c l hn (by omega) hf W h)
  have HOf := Lib.hid (fun W h => of12_ref q n c l hn (by omega) W h)
  have hfl := ofF_length l
  have hff := ofF_fine hf
  have HTF := Lib.hid (fun q m d W (hm : m = (ofF l).length) h => text12_ref q m d (ofF l) hm (by omega) hff W h)
  have hbl := bodyFt_length ⟨u, l⟩
  have hble := bodyLen_le l.length
  have hfl2 := bodyFt_flat u l
  have HSl := Lib.hid (fun w => seal9_ref (bodyFt ⟨u, l⟩) bodyFt_octets (by simp only at hbl; omega) w)
  have z1 := str_size (digits (n : Int) 4)
  have z2 := str_size (digits (u : Int) 4)
  have z3 := str_size (textE l)
  have z4 := str_size (textF (ofF l))
  rw [digits_length] at z1 z2
  rw [textE_length] at z3
  rw [textF_length, hfl] at z4
  rw [← hn] at hfl2 z3 z4
  have hl1 : ((4 : Int) :: digits (n : Int) 4).length = 5 := by rw [List.length_cons, digits_length]
  have hl2 : (((4 : Int) :: digits (n : Int) 4) ++ digits (u : Int) 4).length = 9 := by rw [List.length_append, hl1, digits_length]
  have hl3 : ((((4 : Int) :: digits (n : Int) 4) ++ digits (u : Int) 4) ++ textE l).length = 9 + 12 * n := by rw [List.length_append, hl2, textE_length, ← hn]
  have a1 : (⟨#[4]⟩ : ByteArray) ++ strOfNums (digits (n : Int) 4) = strOfNums (4 :: digits (n : Int) 4) := str_append [4] _
  have a2 := str_append (4 :: digits (n : Int) 4) (digits (u : Int) 4)
  have a3 := str_append ((4 :: digits (n : Int) 4) ++ digits (u : Int) 4) (textE l)
  have a4 := str_append (((4 :: digits (n : Int) 4) ++ digits (u : Int) 4) ++ textE l) (textF (ofF l))
  rw [← hfl2] at a4
  have z0 : (⟨#[4]⟩ : ByteArray).size = 1 := rfl
  have z5 := str_size (4 :: digits (n : Int) 4)
  have z6 := str_size ((4 :: digits (n : Int) 4) ++ digits (u : Int) 4)
  have z7 := str_size (((4 :: digits (n : Int) 4) ++ digits (u : Int) 4) ++ textE l)
  rw [hl1] at z5
  rw [hl2] at z6
  rw [hl3] at z7
  obtain ⟨X1, hX1⟩ : ∃ X, X = 4 :: digits (n : Int) 4 := ⟨_, rfl⟩
  rw [← hX1] at a1 a2 a3 a4 z5 z6 z7
  obtain ⟨D1, hD1⟩ : ∃ X, X = digits (n : Int) 4 := ⟨_, rfl⟩
  obtain ⟨D2, hD2⟩ : ∃ X, X = digits (u : Int) 4 := ⟨_, rfl⟩
  rw [← hD1] at a1 z1 HN4
  rw [← hD2] at a2 a3 a4 z2 z6 z7 HU4
  obtain ⟨X2, hX2⟩ : ∃ X, X = X1 ++ D2 := ⟨_, rfl⟩
  rw [← hX2] at a2 a3 a4 z6 z7
  obtain ⟨TE, hTE⟩ : ∃ X, X = textE l := ⟨_, rfl⟩
  rw [← hTE] at a3 a4 z3 z7 HTE
  obtain ⟨X3, hX3⟩ : ∃ X, X = X2 ++ TE := ⟨_, rfl⟩
  rw [← hX3] at a3 a4 z7
  obtain ⟨TF, hTF⟩ : ∃ X, X = textF (ofF l) := ⟨_, rfl⟩
  rw [← hTF] at a4 z4 HTF
  obtain ⟨B, hB⟩ : ∃ B, B = bodyFt ⟨u, l⟩ := ⟨_, rfl⟩
  rw [← hB] at a4 HSl ⊢
  obtain ⟨T, hT⟩ : ∃ T, T = sealN B := ⟨_, rfl⟩
  rw [← hT] at HSl ⊢
  obtain ⟨Cn, hC⟩ : ∃ C, C = (n + 15) / 16 := ⟨_, rfl⟩
  rw [← hC] at z4
  have hC9 : Cn ≤ 100000 := by omega
  have r1 : ¬ 9223372036854775807 < 1 + 4 := by decide
  have r2 : ¬ 9223372036854775807 < 5 + 4 := by decide
  have r3 : ¬ 9223372036854775807 < 9 + 12 * n := by omega
  have r4 : ¬ 9223372036854775807 < 9 + 12 * n + 8 * Cn := by omega
  have HW0 := Lib.hid (Whole.new w 92 (ftCells u q n c))
  have HL := Lib.hid hl
  clear hn hX1 hD1 hD2 hX2 hTE hX3 hTF hB hT hC hl1 hl2 hl3 hbl hble hfl hff hfl2 hl hf hu
  unfold ftV
  go_enter Tryz.func42, Tryz.ntmps42
  go_wp2_with fail
  obtain ⟨W, hW⟩ : ∃ W, W = w.alloc (.cells #[.int .u32 (u : Int), .slice q n c] 92) := ⟨_, rfl⟩
  have HR : Hid (Whole W w.heap.size 92 (ftCells u q n c)) := by rw [hW]; exact HW0
  have HK : Hid (Keeps NoBlock w W) := Lib.hid (by rw [hW]; exact (Keeps.refl _ _).alloc _)
  rw [← hW]
  clear hW HW0
  have s0 := And.intro ((Whole.drewN HR.out 1).cell 0 rfl) ((Whole.drewN HR.out 1).cell 1 rfl)
  have sN := And.intro (HR.out.cell 0 rfl) (HR.out.cell 1 rfl)
  simp only [ftCells, List.getElem_toArray, List.getElem_cons_zero, List.getElem_cons_succ] at s0 sN
  go_region_held3 (fun w' => w'.cell? ⟨w.heap.size, 0, none⟩ = some (.int .u32 (u : Int)) ∧ w'.cell? ⟨w.heap.size, 1, none⟩ = some (.slice q n c))
    (first | exact s5 | exact s0 | exact sN)
    (first | (go_at_call 59; (first | (with_reducible refine (HN4.out _).mono ?_) | (with_reducible refine (HU4.out _).mono ?_)); rintro e w5 ⟨rfl, hk⟩; have hk' : Keeps NoBlock W w5 := (by first | exact hk | exact hk.ofDrew | exact hk.ofDrewN); have HK := Lib.hid (HK.out.trans hk'); have HR := Lib.hid (HR.out.keep hk' (fun h => h)); have s5 := And.intro (HR.out.cell 0 rfl) (HR.out.cell 1 rfl); simp only [ftCells, List.getElem_toArray, List.getElem_cons_zero, List.getElem_cons_succ] at s5; clear hk hk'; obtain ⟨W, rfl⟩ : ∃ x, x = w5 := ⟨_, rfl⟩))
  clear s0 sN s5
  go_wp2_with fail
  have s0 := And.intro ((Whole.drewN HR.out 1).cell 0 rfl) ((Whole.drewN HR.out 1).cell 1 rfl)
  have sN := And.intro (HR.out.cell 0 rfl) (HR.out.cell 1 rfl)
  simp only [ftCells, List.getElem_toArray, List.getElem_cons_zero, List.getElem_cons_succ] at s0 sN
  go_region_held3 (fun w' => w'.cell? ⟨w.heap.size, 0, none⟩ = some (.int .u32 (u : Int)) ∧ w'.cell? ⟨w.heap.size, 1, none⟩ = some (.slice q n c))
    (first | exact s5 | exact s0 | exact sN)
    (first | (go_at_call 70; refine (HTE.out _ (by first | exact EnsAt.keep HL.out HK.out | exact EnsAt.keep HL.out HK.out.drew | exact EnsAt.keep HL.out (HK.out.drewN _))).mono ?_; rintro e w5 ⟨rfl, hk⟩; have hk' : Keeps NoBlock W w5 := (by first | exact hk | exact hk.ofDrew | exact hk.ofDrewN); have HK := Lib.hid (HK.out.trans hk'); have HR := Lib.hid (HR.out.keep hk' (fun h => h)); have s5 := And.intro (HR.out.cell 0 rfl) (HR.out.cell 1 rfl); simp only [ftCells, List.getElem_toArray, List.getElem_cons_zero, List.getElem_cons_succ] at s5; clear hk hk'; obtain ⟨W, rfl⟩ : ∃ x, x = w5 := ⟨_, rfl⟩) | (go_at_call 72; refine (HOf.out _ (by first | exact EnsAt.keep HL.out HK.out | exact EnsAt.keep HL.out HK.out.drew | exact EnsAt.keep HL.out (HK.out.drewN _))).mono ?_; rintro e w5 ⟨v5, rfl, hnum⟩; obtain ⟨q9, m9, d9, rfl, hbare9, hm9, hc9⟩ := own_nums hnum.1; have hk := Keeps.ofBelow (S := NoBlock) hnum.2; have hk' : Keeps NoBlock W w5 := (by first | exact hk | exact hk.ofDrew | exact hk.ofDrewN); have HK := Lib.hid (HK.out.trans hk'); have HR := Lib.hid (HR.out.keep hk' (fun h => h)); have HRw := Lib.hid (cells_rowN hm9 hbare9 hc9); have HM9 := Lib.hid hm9; have s5 := And.intro (HR.out.cell 0 rfl) (HR.out.cell 1 rfl); simp only [ftCells, List.getElem_toArray, List.getElem_cons_zero, List.getElem_cons_succ] at s5; clear hk hk' hnum hbare9 hm9 hc9; obtain ⟨W, rfl⟩ : ∃ x, x = w5 := ⟨_, rfl⟩) | (go_at_call 71; refine (HTF.out _ _ _ _ HM9.out (by exact HRw.out)).mono ?_; rintro e w5 ⟨rfl, hk⟩; have hk' : Keeps NoBlock W w5 := (by first | exact hk | exact hk.ofDrew | exact hk.ofDrewN); have HK := Lib.hid (HK.out.trans hk'); have HR := Lib.hid (HR.out.keep hk' (fun h => h)); have s5 := And.intro (HR.out.cell 0 rfl) (HR.out.cell 1 rfl); simp only [ftCells, List.getElem_toArray, List.getElem_cons_zero, List.getElem_cons_succ] at s5; clear hk hk' HRw; obtain ⟨W, rfl⟩ : ∃ x, x = w5 := ⟨_, rfl⟩) | (go_at_call 33; refine (HSl.out _).mono ?_; rintro e w5 ⟨rfl, hk⟩; have hk' : Keeps NoBlock W w5 := (by first | exact hk | exact hk.ofDrew | exact hk.ofDrewN); have HK := Lib.hid (HK.out.trans hk'); have HR := Lib.hid (HR.out.keep hk' (fun h => h)); have s5 := And.intro (HR.out.cell 0 rfl) (HR.out.cell 1 rfl); simp only [ftCells, List.getElem_toArray, List.getElem_cons_zero, List.getElem_cons_succ] at s5; clear hk hk'; obtain ⟨W, rfl⟩ : ∃ x, x = w5 := ⟨_, rfl⟩))
  go_wp2_with fail
  go_ret
  exact ⟨rfl, HK.out⟩

end Go.Proofs.YtlejobomjgccnaaGreat

namespace Go.Proofs.YtlejobomjgccnaaGreat
open Go.RowKit

theorem entsGo_fine : ∀ (l : List Rec) (k : Nat), k + (recsB l).length ≤ 4000000000 → ∀ x ∈ entsGo k l, x.Fine
  | [], _, _, x, hx => by simp [entsGo] at hx
  | r :: l, k, h, x, hx => by
    have e : recsB (r :: l) = recB r ++ recsB l := by unfold recsB; rw [List.flatMap_cons]
    rw [e, List.length_append] at h
    rw [entsGo, List.mem_cons] at hx
    rcases hx with rfl | hx
    · refine ⟨?_, by show k < 4294967296; omega⟩
      have hu := wxxh_u64 0 r.key
      unfold U64 at hu
      show (wxxh 0 r.key).toNat < 18446744073709551616
      omega
    · exact entsGo_fine l _ (by omega) x hx
theorem ents_fine {e s n : Nat} {l : List Rec} (h : (outS e s n l).length ≤ 100000000) : ∀ x ∈ entsS e s n l, x.Fine := by
  unfold entsS
  refine entsGo_fine l _ ?_
  unfold outS at h
  rw [List.length_append] at h
  unfold headLen
  omega

set_option maxHeartbeats 4000000 in
set_option maxRecDepth 10000 in
theorem text15_ref (e s n : Nat) (he : e ≤ 24) (p : Option Addr) (m c : Nat) (l : List Rec) (b : Bool) (hi : SegIn e s n l) (hm : m = l.length) (w : World) (hl : RecsAt w p l) :
    Calls Tryz.prog 22 #[confV e s, .int .u64 (n : Int), .slice p m c, .bool b] w fun r w' => r = .returned (.string (strOfNums (textS e s n l b))) ∧ Keeps NoBlock w w' := by
  have HW0 := Lib.hid (Whole.new w 27 (confCells e s))
  have HFr := Lib.hid (fun w hl => frames15_ref e s n p m c l hi hm w hl)
  have HL := Lib.hid hl
  have HSz := Lib.hid (fun w => size8_ref e s he w)
  have HEr := Lib.hid (fun z h1 h2 w => erased15_ref z h1 h2 w)
  have hlong := hi.long
  have hfew := hi.few
  have h2e := two_e he
  have hsl := sortE_len (entsS e s n l)
  have hel : (entsS e s n l).length = l.length := entsGo_length l _
  have hfn := sortE_fine (ents_fine hlong)
  have HTx := Lib.hid (fun q d w h => text13_ref (outS e s n l).length (by omega) q (sortE (entsS e s n l)).length d (sortE (entsS e s n l)) rfl (by omega) hfn w h)
  have hfl : (footS e s n l).length ≤ 10000000 := by
    have h1 := foot_most e s n l
    have h2 : mostFt l.length ≤ 10000000 := by
      unfold mostFt
      have h3 := sizeN_bound (bodyLen l.length)
      have h4 := bodyLen_le l.length
      omega
    omega
  have hdef : textS e s n l b = framesS e s n l b ++ List.replicate (((2 ^ e : Nat) : Int) - ((framesS e s n l b).length : Int)).toNat 255 := by
    unfold textS
    congr 2
    omega
  rw [hdef]
  clear hdef hi hm hl hfn hsl hel
  have hF : footS e s n l = sealN (bodyFt ⟨(outS e s n l).length, sortE (entsS e s n l)⟩) := rfl
  rw [← hF] at HTx
  clear hF
  obtain ⟨F, hF⟩ : ∃ F, F = footS e s n l := ⟨_, rfl⟩
  obtain ⟨O, hO⟩ : ∃ O, O = outS e s n l := ⟨_, rfl⟩
  obtain ⟨Sr, hS⟩ : ∃ Sr, Sr = sortE (entsS e s n l) := ⟨_, rfl⟩
  have hfr : framesS e s n l b = O ++ (if b = true then F else []) := by rw [hO, hF]; rfl
  rw [hfr]
  rw [← hF] at hfl HTx
  rw [← hO] at hlong HTx HFr
  rw [← hS] at HTx HFr
  clear hF hO hS hfr
  obtain ⟨Z, hZ⟩ : ∃ Z : Nat, Z = 2 ^ e := ⟨_, rfl⟩
  rw [← hZ] at HSz h2e ⊢
  clear hZ
  have z1 := str_size O
  have z2 := str_size F
  have hap := str_append O F
  have r1 : ¬ 9223372036854775807 < O.length + F.length := by omega
  have hu : IntKind.u32.wrap ((O.length : Nat) : Int) = ((O.length : Nat) : Int) := by rw [IntKind.wrap_u32]; omega
  have hz : IntKind.i64.wrap ((Z : Nat) : Int) = ((Z : Nat) : Int) := by rw [IntKind.wrap_i64]; omega
  unfold confV at *
  cases b with
  | true =>
    rw [if_pos rfl]
    obtain ⟨G, hG⟩ : ∃ G, G = O ++ F := ⟨_, rfl⟩
    have hGl : G.length ≤ 110000000 := by rw [hG, List.length_append]; omega
    rw [← hG] at hap ⊢
    have z3 := str_size G
    clear hG
    have HEz := Lib.hid (fun w => HEr.out ((Z : Int) - (G.length : Int)) (by omega) (by omega) w)
    obtain ⟨D, hD⟩ : ∃ D, D = List.replicate ((Z : Int) - (G.length : Int)).toNat (255 : Int) := ⟨_, rfl⟩
    have hDl : D.length ≤ 20000000 := by rw [hD, List.length_replicate]; omega
    rw [← hD] at HEz ⊢
    have z4 := str_size D
    have hap2 := str_append G D
    have r2 : ¬ 9223372036854775807 < G.length + D.length := by omega
    clear hD
    go_enter Tryz.func22, Tryz.ntmps22
    go_wp2_with fail
    refine (HFr.out _ (HL.out.keep ((Keeps.refl NoBlock w).alloc _) (fun _ _ h => h))).mono ?_
    rintro e1 w1 ⟨v, rfl, q, k, d, rfl, hk1, hk2, hk3, hq, hat, hkk⟩
    subst hk1
    have HK := Lib.hid (((Keeps.refl NoBlock w).alloc (.cells #[.int .u8 (e : Int), .int .u32 (s : Int)] 27)).trans hkk)
    have HW1 := Lib.hid (HW0.out.keep hkk (fun h => h))
    have HTq := Lib.hid (HTx.out q d w1 hat)
    clear hkk hat HW0 HFr HTx hq hk2 hk3
    unfold ftV at HTq
    go_wp2_with fail
    refine HTq.out.mono ?_
    rintro e2 w2 ⟨rfl, hk⟩
    have HK2 := Lib.hid (HK.out.trans hk)
    have HW2 := Lib.hid (HW1.out.keep hk (fun h => h))
    have g0 := HW2.out.cell 0 rfl
    have g1 := HW2.out.cell 1 rfl
    simp only [confCells, List.getElem_toArray, List.getElem_cons_zero, List.getElem_cons_succ] at g0 g1
    clear hk HTq HW1 HK
    go_wp2_with fail
    refine (HSz.out _).mono ?_
    rintro e3 w3 ⟨rfl, hk⟩
    have HK3 := Lib.hid (HK2.out.trans hk)
    clear hk HK2 HW2 g0 g1
    go_wp2_with fail
    refine (HEz.out _).mono ?_
    rintro e4 w4 ⟨rfl, hk⟩
    have HK4 := Lib.hid (HK3.out.trans hk)
    clear hk
    go_wp2_with fail
    go_ret
    exact ⟨rfl, HK4.out⟩
  | false =>
    rw [if_neg (by simp), List.append_nil]
    have HEz := Lib.hid (fun w => HEr.out ((Z : Int) - (O.length : Int)) (by omega) (by omega) w)
    obtain ⟨D, hD⟩ : ∃ D, D = List.replicate ((Z : Int) - (O.length : Int)).toNat (255 : Int) := ⟨_, rfl⟩
    have hDl : D.length ≤ 20000000 := by rw [hD, List.length_replicate]; omega
    rw [← hD] at HEz ⊢
    have z4 := str_size D
    have hap2 := str_append O D
    have r2 : ¬ 9223372036854775807 < O.length + D.length := by omega
    clear hD
    go_enter Tryz.func22, Tryz.ntmps22
    go_wp2_with fail
    refine (HFr.out _ (HL.out.keep ((Keeps.refl NoBlock w).alloc _) (fun _ _ h => h))).mono ?_
    rintro e1 w1 ⟨v, rfl, q, k, d, rfl, hk1, hk2, hk3, hq, hat, hkk⟩
    subst hk1
    have HK := Lib.hid (((Keeps.refl NoBlock w).alloc (.cells #[.int .u8 (e : Int), .int .u32 (s : Int)] 27)).trans hkk)
    have HW1 := Lib.hid (HW0.out.keep hkk (fun h => h))
    clear hkk hat HW0 HFr HTx hq hk2 hk3
    have g0 := HW1.out.cell 0 rfl
    have g1 := HW1.out.cell 1 rfl
    simp only [confCells, List.getElem_toArray, List.getElem_cons_zero, List.getElem_cons_succ] at g0 g1
    go_wp2_with fail
    refine (HSz.out _).mono ?_
    rintro e3 w3 ⟨rfl, hk⟩
    have HK3 := Lib.hid (HK.out.trans hk)
    clear hk HK HW1 g0 g1
    go_wp2_with fail
    refine (HEz.out _).mono ?_
    rintro e4 w4 ⟨rfl, hk⟩
    have HK4 := Lib.hid (HK3.out.trans hk)
    clear hk
    go_wp2_with fail
    go_ret
    exact ⟨rfl, HK4.out⟩
end Go.Proofs.YtlejobomjgccnaaGreat

namespace Go.Proofs.YtlejobomjgccnaaGreat

theorem getR_only {ys : List Int} (ho : Octets ys) {r : Rec} (h : getR ys = (0, r)) : r.Fine ∧ checkR r = 0 ∧ ys = chunkN (bodyR r) := by
  unfold getR at h
  by_cases h0 : (openN ys).1 = 0
  · rw [if_neg (by simpa using h0)] at h
    have ⟨h1, h2⟩ := open_only ho (b := (openN ys).2) (by rw [← h0])
    have ⟨h3, h4, h5⟩ := readR_only h2 h
    exact ⟨h3, h4, by rw [h5]; exact h1⟩
  · rw [if_pos h0] at h
    exact absurd (Prod.mk.inj h).1 h0
theorem recsB_snoc (l : List Rec) (r : Rec) : recsB (l ++ [r]) = recsB l ++ recB r := by
  unfold recsB
  rw [List.flatMap_append]
  simp
theorem recsB_many : ∀ l : List Rec, l.length ≤ (recsB l).length
  | [] => by simp [recsB]
  | r :: l => by
    have e : recsB (r :: l) = recB r ++ recsB l := by unfold recsB; rw [List.flatMap_cons]
    have h1 := recsB_many l
    have h2 := recB_pos r
    rw [e, List.length_append, List.length_cons]
    omega

structure ScanSt (ys : List Int) (i : Nat) (z : Int) (l : List Rec) : Prop where
  le : i ≤ ys.length
  at_ : (z = -1 ∧ l = [] ∧ scanS ys = recsTake ((chunksGo (ys.take i) (ys.drop i)).drop 1)) ∨ ∃ f : Nat, z = (f : Int) ∧ f ≤ i ∧ (recsB l).length ≤ f ∧ scanS ys = l ++ recsTake (chunksGo ((ys.take i).drop f) (ys.drop i))
  fine : ∀ r ∈ l, r.Fine ∧ checkR r = 0

theorem ScanSt.start (ys : List Int) : ScanSt ys 0 (-1) [] := ⟨Nat.zero_le _, .inl ⟨rfl, rfl, by simp [scanS]⟩, fun r hr => by simp at hr⟩
theorem drop_all (ys : List Int) (i : Nat) : (ys.take (i + 1)).drop (i + 1) = [] := List.drop_eq_nil_of_le (by rw [List.length_take]; omega)
theorem take_one {ys : List Int} {i : Nat} (hi : i < ys.length) : ys.take (i + 1) = ys.take i ++ [ys.getD i 0] := by
  rw [List.take_succ_eq_append_getElem hi]
  simp [hi]
theorem ScanSt.other {ys : List Int} {i : Nat} {z : Int} {l : List Rec} (h : ScanSt ys i z l) (hi : i < ys.length) (hb : ys.getD i 0 ≠ 0) : ScanSt ys (i + 1) z l := by
  have hd := drop_cons_getD ys i hi
  refine ⟨by omega, ?_, h.fine⟩
  rcases h.at_ with ⟨h1, h2, h3⟩ | ⟨f, h1, h2, h3, h4⟩
  · refine .inl ⟨h1, h2, ?_⟩
    rw [h3, hd, chunksGo, if_neg hb, take_one hi]
  · refine .inr ⟨f, h1, by omega, h3, ?_⟩
    rw [h4, hd, chunksGo, if_neg hb, take_one hi, List.drop_append_of_le_length (by rw [List.length_take]; omega)]
theorem ScanSt.first {ys : List Int} {i : Nat} {l : List Rec} (h : ScanSt ys i (-1) l) (hi : i < ys.length) (hb : ys.getD i 0 = 0) : ScanSt ys (i + 1) ((i + 1 : Nat) : Int) l := by
  have hd := drop_cons_getD ys i hi
  refine ⟨by omega, .inr ⟨i + 1, rfl, Nat.le_refl _, ?_, ?_⟩, h.fine⟩
  · rcases h.at_ with ⟨_, h2, _⟩ | ⟨f, h1, _⟩
    · rw [h2]; simp [recsB]
    · omega
  · rcases h.at_ with ⟨_, h2, h3⟩ | ⟨f, h1, _⟩
    · rw [h3, hd, chunksGo, if_pos hb, h2, drop_all ys i]
      simp
    · omega
theorem ScanSt.chunk {ys : List Int} {i f : Nat} {l : List Rec} (h : ScanSt ys i (f : Int) l) (hi : i < ys.length) (hb : ys.getD i 0 = 0) :
    f ≤ i ∧ (recsB l).length ≤ f ∧ scanS ys = l ++ recsTake (((ys.take i).drop f) :: chunksGo [] (ys.drop (i + 1))) := by
  have hd := drop_cons_getD ys i hi
  rcases h.at_ with ⟨h1, _⟩ | ⟨f', h1, h2, h3, h4⟩
  · omega
  · obtain rfl : f' = f := by omega
    refine ⟨h2, h3, ?_⟩
    rw [h4, hd, chunksGo, if_pos hb]
theorem ScanSt.good {ys : List Int} {i f : Nat} {l : List Rec} (h : ScanSt ys i (f : Int) l) (ho : Octets ys) (hi : i < ys.length) (hb : ys.getD i 0 = 0) (hg : (getR ((ys.take i).drop f)).1 = 0) :
    ScanSt ys (i + 1) ((i + 1 : Nat) : Int) (l ++ [(getR ((ys.take i).drop f)).2]) := by
  obtain ⟨h1, h2, h3⟩ := h.chunk hi hb
  have hoc : Octets ((ys.take i).drop f) := fun b hb => ho b (List.mem_of_mem_take (List.mem_of_mem_drop hb))
  obtain ⟨g1, g2, g3⟩ := getR_only hoc (r := (getR ((ys.take i).drop f)).2) (by rw [← hg])
  refine ⟨by omega, .inr ⟨i + 1, rfl, Nat.le_refl _, ?_, ?_⟩, fun r hr => ?_⟩
  · rw [recsB_snoc, List.length_append]
    have e : (recB (getR ((ys.take i).drop f)).2).length = ((ys.take i).drop f).length + 1 := by
      unfold recB
      rw [(seal_length _).1, ← g3]
    rw [e, List.length_drop, List.length_take]
    omega
  · rw [h3, recsTake, if_pos hg, List.append_assoc, drop_all ys i]
    rfl
  · rcases List.mem_append.1 hr with hr | hr
    · exact h.fine r hr
    · obtain rfl := List.mem_singleton.1 hr
      exact ⟨g1, g2⟩
theorem ScanSt.bad {ys : List Int} {i f : Nat} {l : List Rec} (h : ScanSt ys i (f : Int) l) (hi : i < ys.length) (hb : ys.getD i 0 = 0) (hg : (getR ((ys.take i).drop f)).1 ≠ 0) : scanS ys = l ∧ (recsB l).length ≤ ys.length := by
  obtain ⟨h1, h2, h3⟩ := h.chunk hi hb
  exact ⟨by rw [h3, recsTake, if_neg hg, List.append_nil], by omega⟩
theorem ScanSt.done {ys : List Int} {i : Nat} {z : Int} {l : List Rec} (h : ScanSt ys i z l) (hi : ¬ i < ys.length) : scanS ys = l ∧ (recsB l).length ≤ ys.length := by
  have hd : ys.drop i = [] := List.drop_eq_nil_of_le (by omega)
  have hle := h.le
  rcases h.at_ with ⟨_, h2, h3⟩ | ⟨f, h1, h2, h3, h4⟩
  · rw [h3, h2, hd]
    simp [chunksGo, recsTake, recsB]
  · rw [h4, hd]
    exact ⟨by simp [chunksGo, recsTake], by omega⟩
theorem ScanSt.place {ys : List Int} {i : Nat} {z : Int} {l : List Rec} (h : ScanSt ys i z l) : z = -1 ∨ ∃ f : Nat, z = (f : Int) ∧ f ≤ i := by
  rcases h.at_ with ⟨h1, _⟩ | ⟨f, h1, h2, _⟩
  · exact .inl h1
  · exact .inr ⟨f, h1, h2⟩
end Go.Proofs.YtlejobomjgccnaaGreat

namespace Go.Proofs.YtlejobomjgccnaaGreat
open Go.RowKit

theorem recsB_octets {l : List Rec} (h : ∀ r ∈ l, r.Fine) : Octets (recsB l) := fun b hb => by
  unfold recsB at hb
  obtain ⟨r, hr, hb⟩ := List.mem_flatMap.1 hb
  exact seal_octets (bodyR_octets (h r hr)) b hb
theorem outS_octets {e s n : Nat} (he : e < 256) {l : List Rec} (h : ∀ r ∈ l, r.Fine) : Octets (outS e s n l) := (seal_octets (headB_octets he)).app (recsB_octets h)
theorem textS_octets {e s n : Nat} (he : e < 256) {l : List Rec} (h : ∀ r ∈ l, r.Fine) (b : Bool) : Octets (textS e s n l b) := by
  unfold textS framesS
  refine ((outS_octets he h).app ?_).app (fun x hx => ?_)
  · cases b with
    | false => rw [if_neg (by simp)]; exact fun x hx => by simp at hx
    | true => rw [if_pos rfl]; unfold footS; exact seal_octets bodyFt_octets
  · rw [(List.mem_replicate.1 hx).2]
    decide
theorem str_part (xs : List Int) (a b : Nat) : (strOfNums xs).extract a b = strOfNums ((xs.drop a).take (b - a)) := by
  apply ByteArray.ext
  simp [strOfNums, List.map_drop, List.map_take]
theorem str_same {a b : List Int} (ha : Octets a) (hb : Octets b) : ((strOfNums a).toList == (strOfNums b).toList) = decide (a = b) := by
  rw [text_beq]
  congr 1
  exact propext ⟨fun h => strOf_inj ha hb h, fun h => by rw [h]⟩
theorem checkR_room {r : Rec} (h : checkR r = 0) : r.key.length ≤ 4096 ∧ r.val.length ≤ 1048576 := by
  unfold checkR at h
  split at h
  · omega
  · split at h
    · omega
    · split at h
      · omega
      · split at h
        · omega
        · omega
/-- Records that were scanned can be asked for. -/
theorem seg_scan {e s n : Nat} (he : e ≤ 24) (hs : s < 4294967296) (hn : n < 18446744073709551616) {ys : List Int} (hl : ys.length ≤ 100000) {l : List Rec} (hf : ∀ r ∈ l, r.Fine ∧ checkR r = 0) (hr : (recsB l).length ≤ ys.length) : SegIn e s n l :=
  ⟨by omega, hs, hn, fun r hm => (hf r hm).1, fun r hm => by have := (checkR_room (hf r hm).2).1; omega, fun r hm => by have := (checkR_room (hf r hm).2).2; omega, by have := recsB_many l; omega, by
    unfold outS
    rw [List.length_append]
    have := (headLen_le (e := e) (s := s) (n := n) (by omega) (by omega)).2
    unfold headLen at this
    omega⟩

def Parsed15 (t : Option (List Rec × Bool)) (w : World) (r : Ending) (w' : World) : Prop :=
  match t with
  | some (l, b) => ∃ v, r = .returned (.tuple #[v, .bool b, .bool true]) ∧ NewRecs w l v w'
  | none => r = .returned (.tuple #[.slice none 0 0, .bool false, .bool false]) ∧ Keeps NoBlock w w'

set_option maxHeartbeats 8000000 in
set_option maxRecDepth 10000 in
theorem parse15_ref (e s n : Nat) (he : e ≤ 24) (hs : s < 4294967296) (hn : n < 18446744073709551616) (ys : List Int) (ho : Octets ys) (hl : ys.length ≤ 100000) (w : World) :
    Calls Tryz.prog 24 #[confV e s, .int .u64 (n : Int), .string (strOfNums ys)] w (Parsed15 (parseS e s n ys) w) := by
  have HC0 := Lib.hid (Whole.new w 27 (confCells e s))
  have HGr := Lib.hid (fun c h1 h2 w => getrec9_ref c h1 h2 w)
  have HO := Lib.hid ho
  have HL := Lib.hid hl
  have HK0 := Lib.hid ((Keeps.refl NoBlock w).alloc (.cells (confCells e s) 27))
  have HTx := Lib.hid (fun q m d l b (hi : SegIn e s n l) hm w h => text15_ref e s n he q m d l b hi hm w h)
  have HSg := Lib.hid (fun (l : List Rec) (hf : ∀ r ∈ l, r.Fine ∧ checkR r = 0) (hr : (recsB l).length ≤ ys.length) => seg_scan (e := e) (s := s) (n := n) he hs hn hl hf hr)
  have HT8 := Lib.hid (fun (l : List Rec) (b : Bool) (hf : ∀ r ∈ l, r.Fine ∧ checkR r = 0) => str_same (textS_octets (e := e) (s := s) (n := n) (by omega) (fun r hr => (hf r hr).1) b) ho)
  have hsz := str_size ys
  obtain ⟨P, hP⟩ : ∃ P, P = parseS e s n ys := ⟨_, rfl⟩
  have HP := Lib.hid hP
  rw [← hP]
  clear hP ho he hs hn
  unfold confV at *
  unfold readOut7 recV at HGr
  go_enter Tryz.func24, Tryz.ntmps24
  go_wp2_with fail
  obtain ⟨w0, hw0⟩ : ∃ w0, w0 = w.alloc (.cells #[.int .u8 (e : Int), .int .u32 (s : Int)] 27) := ⟨_, rfl⟩
  have HC : Hid (Whole w0 w.heap.size 27 (confCells e s)) := Lib.hid (by rw [hw0]; exact HC0.out)
  have HK : Hid (Keeps NoBlock w w0) := Lib.hid (by rw [hw0]; exact HK0.out)
  rw [← hw0]
  clear hw0 HC0 HK0
  go_loopw [9, 10, 11] (fun v z i wr => ∃ (j : Nat) (zf : Int) (l : List Rec), i = .int .i64 (j : Int) ∧ z = .int .i64 zf ∧ Hid (ScanSt ys j zf l) ∧ Hid (RecsSoFar w0 l v wr)) (fun _ _ i _ => ys.length + 1 - (intOf i).toNat)
  case atStart => exact ⟨0, -1, [], rfl, rfl, Lib.hid (ScanSt.start ys), Lib.hid (RecsSoFar.start w0)⟩
  case round =>
    obtain ⟨j, zf, l, rfl, rfl, HSt, HS⟩ := hrel
    have hle := HSt.out.le
    have hL := HL.out
    by_cases hlt : j < ys.length
    · have hdj : decide ((j : Int) < (ys.length : Int)) = true := decide_eq_true (by omega)
      have hdj2 : decide (j < ys.length) = true := decide_eq_true hlt
      have hjz : j < (strOfNums ys).size := by omega
      have hsg := str_get ys HO.out j hjz
      have hb8 := HO.out.getD j
      obtain ⟨b, hb⟩ : ∃ b, b = ys.getD j 0 := ⟨_, rfl⟩
      rw [← hb] at hsg hb8
      have HBd := Lib.hid hb
      obtain ⟨hb0, hb1⟩ := hb8
      clear hb
      by_cases hbz : b = 0
      · have HB0 : Hid (ys.getD j 0 = 0) := Lib.hid (by rw [← HBd.out]; exact hbz)
        subst hbz
        have hplace := HSt.out.place
        by_cases hz1 : zf = -1
        · subst hz1
          have HNx := Lib.hid (HSt.out.first hlt HB0.out)
          clear hplace HBd
          go_wp2_with fail
          go_roundw
          case rel => exact ⟨j + 1, _, l, by go_num, by go_num, HNx, HS⟩
          case measure => simp [intOf]; omega
        · obtain ⟨f, rfl, hfj⟩ := hplace.resolve_left hz1
          have hf0 : decide (0 ≤ (f : Int)) = true := decide_eq_true (by omega)
          have hcut := str_part ys f j
          have hce : (ys.drop f).take (j - f) = (ys.take j).drop f := by rw [List.drop_take]
          rw [hce] at hcut
          have HCh := Lib.hid (fun w => HGr.out ((ys.take j).drop f) (fun x hx => HO.out x (List.mem_of_mem_take (List.mem_of_mem_drop hx))) (by rw [List.length_drop, List.length_take]; omega) w)
          have HNx := Lib.hid (fun h => HSt.out.good HO.out hlt HB0.out h)
          have HBd2 := Lib.hid (fun h => HSt.out.bad hlt HB0.out h)
          obtain ⟨C, hC⟩ : ∃ C, C = (ys.take j).drop f := ⟨_, rfl⟩
          rw [← hC] at hcut HCh HNx HBd2
          obtain ⟨y, hy⟩ : ∃ y, y = (getR C).1 := ⟨_, rfl⟩
          obtain ⟨r, hr⟩ : ∃ r, r = (getR C).2 := ⟨_, rfl⟩
          rw [← hy] at HCh HNx HBd2
          rw [← hr] at HCh HNx
          have hfj2 : (f : Int) ≤ (j : Int) := by omega
          clear hC hy hr hce HBd hplace hz1
          by_cases hy0 : y = 0
          · have hyb : (y != 0) = false := by simpa using hy0
            have HNy := Lib.hid (HNx.out hy0)
            clear HNx HBd2
            have HY := Lib.hid hy0
            clear hy0
            go_wp2_with fail
            refine (HCh.out _).mono ?_
            rintro e1 w1 ⟨rfl, hk⟩
            have HS1 := Lib.hid (HS.out.keep hk)
            have HS2 := Lib.hid ((HS1.out.alloc (.cells (recCells r) 39)).alloc (.cells (recCells r) 39))
            have HBx := Lib.hid (Whole.newAt (w1.alloc (.cells (recCells r) 39)) 39 (recCells r) (w1.heap.size + 1) (by simp))
            have hlfew : l.length ≤ 100000 := by
              have h1 := recsB_many l
              have h2 := HSt.out.chunk hlt HB0.out
              omega
            have HFw := Lib.hid hlfew
            clear hk hlfew
            go_wp2_with (at_builtin; refine wpList_append_rec rfl _ _ rfl _ l rfl HS2.out (w1.heap.size + 1) r rfl HBx.out (by have := HFw.out; omega) ?_)
            intro v5 w5 h5 g5
            have HS5 := Lib.hid h5
            clear h5 g5
            go_wp2_with fail
            go_roundw
            case rel => exact ⟨j + 1, _, l ++ [r], by go_num, by go_num, HNy, HS5⟩
            case measure => simp [intOf]; omega
          · have hyb : (y != 0) = true := by simpa using hy0
            have HDn := Lib.hid (HBd2.out hy0)
            clear HNx HBd2 hy0
            go_wp2_with fail
            refine (HCh.out _).mono ?_
            rintro e1 w1 ⟨rfl, hk⟩
            have HS := Lib.hid ((HS.out.keep hk).alloc (.cells (recCells r) 39))
            have HWn : Hid (∃ W, W = w1.alloc (.cells (recCells r) 39)) := Lib.hid ⟨_, rfl⟩
            clear hk
            have HFi := Lib.hid HSt.out.fine
            have HSeg := Lib.hid (HSg.out l HFi.out HDn.out.2)
            have HSc := Lib.hid HDn.out.1
            have HT8f := Lib.hid (HT8.out l false HFi.out)
            have HT8t := Lib.hid (HT8.out l true HFi.out)
            obtain ⟨q, k, d, rfl, hk1, hk2, hk3, hq, hat, hkk⟩ := HS.out.new
            subst hk1
            have HAt := Lib.hid hat
            have HKk := Lib.hid hkk
            have HNr := Lib.hid (And.intro hk2 (And.intro hk3 hq))
            clear hat hkk hk2 hk3 hq HS HSt HDn
            have HTf := Lib.hid (fun w h => HTx.out q l.length d l false HSeg.out rfl w h)
            have HTt := Lib.hid (fun w h => HTx.out q l.length d l true HSeg.out rfl w h)
            have HCw := Lib.hid (HC.out.keep HKk.out (fun h => h))
            have g0 := HCw.out.cell 0 rfl
            have g1 := HCw.out.cell 1 rfl
            simp only [confCells, List.getElem_toArray, List.getElem_cons_zero, List.getElem_cons_succ] at g0 g1
            (try unfold recCells at g0 g1)
            by_cases hA : textS e s n l false = ys
            · have HPe : Hid (P = some (l, false)) := Lib.hid (by rw [HP.out]; unfold parseS; rw [HSc.out, if_pos hA])
              rw [hA] at HTf HT8f
              rw [decide_eq_true rfl] at HT8f
              have hbe := HT8f.out
              clear hA
              go_wp2_with fail
              refine (HTf.out _ HAt.out).mono ?_
              rintro e3 w3 ⟨rfl, hk⟩
              have HK3 := Lib.hid (HKk.out.trans hk)
              have HA3 := Lib.hid (HAt.out.keep hk (fun _ _ h => h))
              clear hk g0 g1
              go_wp2_with fail
              refine bodyPost_ret (v := .tuple #[.slice q l.length d, .bool false, .bool true]) (by simp [results, Tryz.results24, go_sem]) rfl ?_
              rw [HPe.out]
              exact ⟨_, rfl, _, _, _, rfl, rfl, HNr.out.1, HNr.out.2.1, HNr.out.2.2, HA3.out, HK.out.trans HK3.out⟩
            · obtain ⟨A, hAd⟩ : ∃ A, A = textS e s n l false := ⟨_, rfl⟩
              rw [← hAd] at hA HTf HT8f
              rw [decide_eq_false hA] at HT8f
              have hbe := HT8f.out
              have HAd := Lib.hid hAd
              have HAn := Lib.hid hA
              clear hA hAd
              go_wp2_with fail
              refine (HTf.out _ HAt.out).mono ?_
              rintro e3 w3 ⟨rfl, hk⟩
              have HK3 := Lib.hid (HKk.out.trans hk)
              have HA3 := Lib.hid (HAt.out.keep hk (fun _ _ h => h))
              have HC3 := Lib.hid (HCw.out.keep hk (fun h => h))
              clear hk g0 g1
              by_cases h0 : 0 < l.length
              · have d0 : decide (0 < l.length) = true := decide_eq_true h0
                have d1 : decide ((0 : Int) < (l.length : Int)) = true := decide_eq_true (by omega)
                have g0 := HC3.out.cell 0 rfl
                have g1 := HC3.out.cell 1 rfl
                simp only [confCells, List.getElem_toArray, List.getElem_cons_zero, List.getElem_cons_succ] at g0 g1
                by_cases hB : textS e s n l true = ys
                · have HPe : Hid (P = some (l, true)) := Lib.hid (by rw [HP.out]; unfold parseS; rw [HSc.out, if_neg (by rw [← HAd.out]; exact HAn.out), if_pos ⟨h0, hB⟩])
                  rw [hB] at HTt HT8t
                  rw [decide_eq_true rfl] at HT8t
                  have hbe2 := HT8t.out
                  clear hB
                  go_wp2_with fail
                  refine (HTt.out _ HA3.out).mono ?_
                  rintro e4 w4 ⟨rfl, hk⟩
                  have HK4 := Lib.hid (HK3.out.trans hk)
                  have HA4 := Lib.hid (HA3.out.keep hk (fun _ _ h => h))
                  clear hk g0 g1
                  go_wp2_with fail
                  refine bodyPost_ret (v := .tuple #[.slice q l.length d, .bool true, .bool true]) (by simp [results, Tryz.results24, go_sem]) rfl ?_
                  rw [HPe.out]
                  exact ⟨_, rfl, _, _, _, rfl, rfl, HNr.out.1, HNr.out.2.1, HNr.out.2.2, HA4.out, HK.out.trans HK4.out⟩
                · have HPe : Hid (P = none) := Lib.hid (by rw [HP.out]; unfold parseS; rw [HSc.out, if_neg (by rw [← HAd.out]; exact HAn.out), if_neg (fun h => hB h.2)])
                  obtain ⟨B, hBd⟩ : ∃ B, B = textS e s n l true := ⟨_, rfl⟩
                  rw [← hBd] at hB HTt HT8t
                  rw [decide_eq_false hB] at HT8t
                  have hbe2 := HT8t.out
                  clear hB hBd
                  go_wp2_with fail
                  refine (HTt.out _ HA3.out).mono ?_
                  rintro e4 w4 ⟨rfl, hk⟩
                  have HK4 := Lib.hid (HK3.out.trans hk)
                  clear hk g0 g1
                  go_wp2_with fail
                  refine bodyPost_ret (v := .tuple #[.slice none 0 0, .bool false, .bool false]) (by simp [results, Tryz.results24, go_sem]) rfl ?_
                  rw [HPe.out]
                  exact ⟨rfl, HK.out.trans HK4.out⟩
              · have d0 : decide (0 < l.length) = false := decide_eq_false h0
                have d1 : decide ((0 : Int) < (l.length : Int)) = false := decide_eq_false (by omega)
                have hl0 : l.length = 0 := by omega
                have HPe : Hid (P = none) := Lib.hid (by rw [HP.out]; unfold parseS; rw [HSc.out, if_neg (by rw [← HAd.out]; exact HAn.out), if_neg (fun h => h0 h.1)])
                go_wp2_with fail
                refine bodyPost_ret (v := .tuple #[.slice none 0 0, .bool false, .bool false]) (by simp [results, Tryz.results24, go_sem]) rfl ?_
                rw [HPe.out]
                exact ⟨rfl, HK.out.trans HK3.out⟩
      · have HNx := Lib.hid (HSt.out.other hlt (by rw [← HBd.out]; exact hbz))
        have hbb : (b != 0) = true := by simpa using hbz
        clear HBd
        go_wp2_with fail
        go_roundw
        case rel => exact ⟨j + 1, zf, l, by go_num, rfl, HNx, HS⟩
        case measure => simp [intOf]; omega
    · have hdj : decide ((j : Int) < (ys.length : Int)) = false := decide_eq_false (by omega)
      have hdj2 : decide (j < ys.length) = false := decide_eq_false hlt
      have HDn := Lib.hid (HSt.out.done hlt)
      have HFi := Lib.hid HSt.out.fine
      have HSeg := Lib.hid (HSg.out l HFi.out HDn.out.2)
      have HSc := Lib.hid HDn.out.1
      have HT8f := Lib.hid (HT8.out l false HFi.out)
      have HT8t := Lib.hid (HT8.out l true HFi.out)
      obtain ⟨q, k, d, rfl, hk1, hk2, hk3, hq, hat, hkk⟩ := HS.out.new
      subst hk1
      have HAt := Lib.hid hat
      have HKk := Lib.hid hkk
      have HNr := Lib.hid (And.intro hk2 (And.intro hk3 hq))
      clear hat hkk hk2 hk3 hq HS HSt HDn
      have HTf := Lib.hid (fun w h => HTx.out q l.length d l false HSeg.out rfl w h)
      have HTt := Lib.hid (fun w h => HTx.out q l.length d l true HSeg.out rfl w h)
      have HCw := Lib.hid (HC.out.keep HKk.out (fun h => h))
      have g0 := HCw.out.cell 0 rfl
      have g1 := HCw.out.cell 1 rfl
      simp only [confCells, List.getElem_toArray, List.getElem_cons_zero, List.getElem_cons_succ] at g0 g1
      (try unfold recCells at g0 g1)
      by_cases hA : textS e s n l false = ys
      · have HPe : Hid (P = some (l, false)) := Lib.hid (by rw [HP.out]; unfold parseS; rw [HSc.out, if_pos hA])
        rw [hA] at HTf HT8f
        rw [decide_eq_true rfl] at HT8f
        have hbe := HT8f.out
        clear hA
        go_wp2_with fail
        refine (HTf.out _ HAt.out).mono ?_
        rintro e3 w3 ⟨rfl, hk⟩
        have HK3 := Lib.hid (HKk.out.trans hk)
        have HA3 := Lib.hid (HAt.out.keep hk (fun _ _ h => h))
        clear hk g0 g1
        go_wp2_with fail
        refine bodyPost_ret (v := .tuple #[.slice q l.length d, .bool false, .bool true]) (by simp [results, Tryz.results24, go_sem]) rfl ?_
        rw [HPe.out]
        exact ⟨_, rfl, _, _, _, rfl, rfl, HNr.out.1, HNr.out.2.1, HNr.out.2.2, HA3.out, HK.out.trans HK3.out⟩
      · obtain ⟨A, hAd⟩ : ∃ A, A = textS e s n l false := ⟨_, rfl⟩
        rw [← hAd] at hA HTf HT8f
        rw [decide_eq_false hA] at HT8f
        have hbe := HT8f.out
        have HAd := Lib.hid hAd
        have HAn := Lib.hid hA
        clear hA hAd
        go_wp2_with fail
        refine (HTf.out _ HAt.out).mono ?_
        rintro e3 w3 ⟨rfl, hk⟩
        have HK3 := Lib.hid (HKk.out.trans hk)
        have HA3 := Lib.hid (HAt.out.keep hk (fun _ _ h => h))
        have HC3 := Lib.hid (HCw.out.keep hk (fun h => h))
        clear hk g0 g1
        by_cases h0 : 0 < l.length
        · have d0 : decide (0 < l.length) = true := decide_eq_true h0
          have d1 : decide ((0 : Int) < (l.length : Int)) = true := decide_eq_true (by omega)
          have g0 := HC3.out.cell 0 rfl
          have g1 := HC3.out.cell 1 rfl
          simp only [confCells, List.getElem_toArray, List.getElem_cons_zero, List.getElem_cons_succ] at g0 g1
          by_cases hB : textS e s n l true = ys
          · have HPe : Hid (P = some (l, true)) := Lib.hid (by rw [HP.out]; unfold parseS; rw [HSc.out, if_neg (by rw [← HAd.out]; exact HAn.out), if_pos ⟨h0, hB⟩])
            rw [hB] at HTt HT8t
            rw [decide_eq_true rfl] at HT8t
            have hbe2 := HT8t.out
            clear hB
            go_wp2_with fail
            refine (HTt.out _ HA3.out).mono ?_
            rintro e4 w4 ⟨rfl, hk⟩
            have HK4 := Lib.hid (HK3.out.trans hk)
            have HA4 := Lib.hid (HA3.out.keep hk (fun _ _ h => h))
            clear hk g0 g1
            go_wp2_with fail
            refine bodyPost_ret (v := .tuple #[.slice q l.length d, .bool true, .bool true]) (by simp [results, Tryz.results24, go_sem]) rfl ?_
            rw [HPe.out]
            exact ⟨_, rfl, _, _, _, rfl, rfl, HNr.out.1, HNr.out.2.1, HNr.out.2.2, HA4.out, HK.out.trans HK4.out⟩
          · have HPe : Hid (P = none) := Lib.hid (by rw [HP.out]; unfold parseS; rw [HSc.out, if_neg (by rw [← HAd.out]; exact HAn.out), if_neg (fun h => hB h.2)])
            obtain ⟨B, hBd⟩ : ∃ B, B = textS e s n l true := ⟨_, rfl⟩
            rw [← hBd] at hB HTt HT8t
            rw [decide_eq_false hB] at HT8t
            have hbe2 := HT8t.out
            clear hB hBd
            go_wp2_with fail
            refine (HTt.out _ HA3.out).mono ?_
            rintro e4 w4 ⟨rfl, hk⟩
            have HK4 := Lib.hid (HK3.out.trans hk)
            clear hk g0 g1
            go_wp2_with fail
            refine bodyPost_ret (v := .tuple #[.slice none 0 0, .bool false, .bool false]) (by simp [results, Tryz.results24, go_sem]) rfl ?_
            rw [HPe.out]
            exact ⟨rfl, HK.out.trans HK4.out⟩
        · have d0 : decide (0 < l.length) = false := decide_eq_false h0
          have d1 : decide ((0 : Int) < (l.length : Int)) = false := decide_eq_false (by omega)
          have hl0 : l.length = 0 := by omega
          have HPe : Hid (P = none) := Lib.hid (by rw [HP.out]; unfold parseS; rw [HSc.out, if_neg (by rw [← HAd.out]; exact HAn.out), if_neg (fun h => h0 h.1)])
          go_wp2_with fail
          refine bodyPost_ret (v := .tuple #[.slice none 0 0, .bool false, .bool false]) (by simp [results, Tryz.results24, go_sem]) rfl ?_
          rw [HPe.out]
          exact ⟨rfl, HK.out.trans HK3.out⟩
end Go.Proofs.YtlejobomjgccnaaGreat

namespace Go.Proofs.YtlejobomjgccnaaGreat
open Go.RowKit

def roomV (r : Rm) : Value := .agg #[.int .u8 (r.e : Int), .int .u32 (r.s : Int), .int .u32 (r.num : Int), .int .i64 (r.used : Int), .int .i64 (r.count : Int)]
def roomCells (r : Rm) : Array Value := #[.int .u8 (r.e : Int), .int .u32 (r.s : Int), .int .u32 (r.num : Int), .int .i64 (r.used : Int), .int .i64 (r.count : Int)]
def room14V (r : Rm) : Value := .agg #[.int .u8 (r.e : Int), .int .u32 (r.s : Int), .int .u64 (r.num : Int), .int .i64 (r.used : Int), .int .i64 (r.count : Int)]
def room14Cells (r : Rm) : Array Value := #[.int .u8 (r.e : Int), .int .u32 (r.s : Int), .int .u64 (r.num : Int), .int .i64 (r.used : Int), .int .i64 (r.count : Int)]
theorem room14_at {w : World} {g : Nat} {t : TypeId} {r : Rm} (h : Whole w g t (room14Cells r)) :
    w.cell? ⟨g, 0, none⟩ = some (.int .u8 (r.e : Int)) ∧ w.cell? ⟨g, 1, none⟩ = some (.int .u32 (r.s : Int)) ∧ w.cell? ⟨g, 2, none⟩ = some (.int .u64 (r.num : Int)) ∧ w.cell? ⟨g, 3, none⟩ = some (.int .i64 (r.used : Int)) ∧ w.cell? ⟨g, 4, none⟩ = some (.int .i64 (r.count : Int)) :=
  ⟨h.cell 0 rfl, h.cell 1 rfl, h.cell 2 rfl, h.cell 3 rfl, h.cell 4 rfl⟩
theorem room_at {w : World} {g : Nat} {t : TypeId} {r : Rm} (h : Whole w g t (roomCells r)) :
    w.cell? ⟨g, 0, none⟩ = some (.int .u8 (r.e : Int)) ∧ w.cell? ⟨g, 1, none⟩ = some (.int .u32 (r.s : Int)) ∧ w.cell? ⟨g, 2, none⟩ = some (.int .u32 (r.num : Int)) ∧ w.cell? ⟨g, 3, none⟩ = some (.int .i64 (r.used : Int)) ∧ w.cell? ⟨g, 4, none⟩ = some (.int .i64 (r.count : Int)) :=
  ⟨h.cell 0 rfl, h.cell 1 rfl, h.cell 2 rfl, h.cell 3 rfl, h.cell 4 rfl⟩
theorem room_free {w : World} {g : Nat} {t : TypeId} {cs : Array Value} (h : Whole w g t cs) :
    w.frozen? ⟨g, 0, none⟩ = false ∧ w.frozen? ⟨g, 1, none⟩ = false ∧ w.frozen? ⟨g, 2, none⟩ = false ∧ w.frozen? ⟨g, 3, none⟩ = false ∧ w.frozen? ⟨g, 4, none⟩ = false :=
  ⟨h.free 0, h.free 1, h.free 2, h.free 3, h.free 4⟩

set_option maxHeartbeats 4000000 in
set_option maxRecDepth 10000 in
theorem fits14_ref (r : Rm) (z : Int) (hr : r.Real) (h1 : -9223372036854775808 ≤ z) (h2 : z ≤ 9223372036854775807) (w : World) :
    Calls Tryz.prog 15 #[room14V r, .int .i64 z] w fun e w' => e = .returned (.bool (fitsP r z)) ∧ Keeps NoBlock w w' := by
  obtain ⟨he, hu, hs, hn⟩ := hr.small
  have hc := hr.few
  have HSz := Lib.hid (fun w => size8_ref r.e r.s he w)
  have HMo := Lib.hid (fun w => most13_ref (r.count + 1) (by omega) w)
  have hlin := mostFt_lin (r.count + 1)
  have hp := two_e he
  have HW := Lib.hid (Whole.new w 36 (room14Cells r))
  have HK := Lib.hid ((Keeps.refl NoBlock w).alloc (.cells (room14Cells r) 36))
  have hdef : fitsP r z = (decide (1 ≤ z) && decide ((r.used : Int) + z + (mostFt (r.count + 1) : Int) ≤ ((2 ^ r.e : Nat) : Int))) := rfl
  obtain ⟨p, hpp⟩ : ∃ p, p = 2 ^ r.e := ⟨_, rfl⟩
  obtain ⟨m, hm⟩ : ∃ m, m = mostFt (r.count + 1) := ⟨_, rfl⟩
  rw [← hpp] at HSz hp hdef
  rw [← hm] at HMo hlin hdef
  rw [show ((r.count + 1 : Nat) : Int) = (r.count : Int) + 1 by omega] at HMo
  have HD := Lib.hid hdef
  obtain ⟨e, s, num, used, count⟩ := r
  simp only at hu hs hn hc hlin HSz HMo HD hp
  clear hr hpp hm hdef
  unfold room14V
  unfold room14Cells at HW HK
  simp only at HW HK ⊢
  by_cases z1 : z < 1
  · have hf : fitsP ⟨e, s, num, used, count⟩ z = false := by rw [HD.out, decide_eq_false (by omega)]; rfl
    have d1 : decide (z < 1) = true := decide_eq_true z1
    rw [hf]
    go_enter Tryz.func15, Tryz.ntmps15
    go_wp2_with fail
    go_ret
    exact ⟨rfl, HK.out⟩
  have d1 : decide (z < 1) = false := decide_eq_false z1
  have wz : IntKind.u64.wrap z = z := by rw [IntKind.wrap_u64]; omega
  by_cases z2 : (p : Int) < z
  · have hf : fitsP ⟨e, s, num, used, count⟩ z = false := by rw [HD.out, decide_eq_false (by omega : ¬ (used : Int) + z + (m : Int) ≤ (p : Int))]; simp
    have d2 : decide ((p : Int) < z) = true := decide_eq_true z2
    rw [hf]
    have c := room14_at (r := ⟨e, s, num, used, count⟩) HW.out
    obtain ⟨c0, c1, c2, c3, c4⟩ := c
    go_enter Tryz.func15, Tryz.ntmps15
    go_wp2_with fail
    refine (HSz.out _).mono ?_
    rintro e w1 ⟨rfl, hk⟩
    have HK := Lib.hid (HK.out.trans hk)
    clear hk
    go_wp2_with fail
    go_ret
    exact ⟨rfl, HK.out⟩
  have d2 : decide ((p : Int) < z) = false := decide_eq_false z2
  have hf : fitsP ⟨e, s, num, used, count⟩ z = decide ((used : Int) + z + (m : Int) ≤ (p : Int)) := by rw [HD.out, decide_eq_true (by omega)]; rfl
  rw [hf]
  obtain ⟨zn, rfl⟩ : ∃ zn : Nat, z = (zn : Int) := ⟨z.toNat, by omega⟩
  obtain ⟨c0, c1, c2, c3, c4⟩ := room14_at (r := ⟨e, s, num, used, count⟩) HW.out
  go_enter Tryz.func15, Tryz.ntmps15
  go_wp2_with fail
  refine (HSz.out _).mono ?_
  rintro e9 w1 ⟨rfl, hk⟩
  have HW := Lib.hid (HW.out.keep hk (fun h => h))
  have HK := Lib.hid (HK.out.trans hk)
  clear hk c0 c1 c2 c3 c4
  go_upto_region 3 with (fail)
  have w3 : IntKind.i64.wrap ((used : Int) + (zn : Int)) = (used : Int) + (zn : Int) := IntWalk.i64_in _ (by omega)
  have w4 : IntKind.i64.wrap ((used : Int) + (zn : Int) + (m : Int)) = (used : Int) + (zn : Int) + (m : Int) := IntWalk.i64_in _ (by omega)
  have w5 : IntKind.u64.wrap ((used : Int) + (zn : Int) + (m : Int)) = (used : Int) + (zn : Int) + (m : Int) := by rw [IntKind.wrap_u64]; omega
  have w6 : IntKind.i64.wrap ((count : Int) + 1) = (count : Int) + 1 := IntWalk.i64_in _ (by omega)
  have s0 := room14_at (r := ⟨e, s, num, used, count⟩) (Whole.drewN HW.out 1)
  have sN := room14_at (r := ⟨e, s, num, used, count⟩) HW.out
  have g1 : decide ((used : Int) + (zn : Int) + (m : Int) ≤ (p : Int)) = decide (used + zn + m ≤ p) := by rw [decide_eq_decide]; omega
  go_region_held3 (fun w' => w'.cell? ⟨w.heap.size, 0, none⟩ = some (.int .u8 (e : Int)) ∧ w'.cell? ⟨w.heap.size, 1, none⟩ = some (.int .u32 (s : Int)) ∧ w'.cell? ⟨w.heap.size, 2, none⟩ = some (.int .u64 (num : Int)) ∧ w'.cell? ⟨w.heap.size, 3, none⟩ = some (.int .i64 (used : Int)) ∧ w'.cell? ⟨w.heap.size, 4, none⟩ = some (.int .i64 (count : Int)))
    (first | exact s5 | exact s0 | exact sN)
    (first | (go_at_call 36; refine (HMo.out _).mono ?_; rintro e9 w5 ⟨rfl, hk⟩; have hk' : Keeps NoBlock w1 w5 := (by first | exact hk | exact hk.ofDrew | exact hk.ofDrewN); have HK := Lib.hid (HK.out.trans hk'); have HW := Lib.hid (HW.out.keep hk' (fun h => h)); have s5 := room14_at (r := ⟨e, s, num, used, count⟩) HW.out; clear hk hk'; obtain ⟨w1, rfl⟩ : ∃ x, x = w5 := ⟨_, rfl⟩) | (go_at_call 35; refine (HSz.out _).mono ?_; rintro e9 w5 ⟨rfl, hk⟩; have hk' : Keeps NoBlock w1 w5 := (by first | exact hk | exact hk.ofDrew | exact hk.ofDrewN); have HK := Lib.hid (HK.out.trans hk'); have HW := Lib.hid (HW.out.keep hk' (fun h => h)); have s5 := room14_at (r := ⟨e, s, num, used, count⟩) HW.out; clear hk hk'; obtain ⟨w1, rfl⟩ : ∃ x, x = w5 := ⟨_, rfl⟩))
  go_wp2_with fail
  go_ret
  exact ⟨by rw [g1]; rfl, HK.out⟩

theorem Whole.far5 {w : World} {g k : Nat} {t : TypeId} {cs : Array Value} (h : Whole w g t cs) (hk : g ≠ k) (a b c d e : Value) :
    Whole (((((w.setCell ⟨k, 0, none⟩ a).setCell ⟨k, 1, none⟩ b).setCell ⟨k, 2, none⟩ c).setCell ⟨k, 3, none⟩ d).setCell ⟨k, 4, none⟩ e) g t cs :=
  ((((h.setOther (p := ⟨k, 0, none⟩) hk a).setOther (p := ⟨k, 1, none⟩) hk b).setOther (p := ⟨k, 2, none⟩) hk c).setOther (p := ⟨k, 3, none⟩) hk d).setOther (p := ⟨k, 4, none⟩) hk e
theorem Whole.set5 {w : World} {k : Nat} {t : TypeId} {x0 x1 x2 x3 x4 : Value} (h : Whole w k t #[x0, x1, x2, x3, x4]) (a b c d e : Value) :
    Whole (((((w.setCell ⟨k, 0, none⟩ a).setCell ⟨k, 1, none⟩ b).setCell ⟨k, 2, none⟩ c).setCell ⟨k, 3, none⟩ d).setCell ⟨k, 4, none⟩ e) k t #[a, b, c, d, e] :=
  ((((h.set 0 a).set 1 b).set 2 c).set 3 d).set 4 e
theorem Keeps.new5 {S : Nat → Prop} {w0 w : World} (h : Keeps S w0 w) {k : Nat} (hk : w0.heap.size ≤ k) (a b c d e : Value) :
    Keeps S w0 (((((w.setCell ⟨k, 0, none⟩ a).setCell ⟨k, 1, none⟩ b).setCell ⟨k, 2, none⟩ c).setCell ⟨k, 3, none⟩ d).setCell ⟨k, 4, none⟩ e) :=
  ((((h.setNew hk 0 a).setNew hk 1 b).setNew hk 2 c).setNew hk 3 d).setNew hk 4 e

set_option maxHeartbeats 4000000 in
set_option maxRecDepth 10000 in
theorem empty14_ref (e s n : Nat) (he : e < 256) (hs : s < 4294967296) (hn : n < 18446744073709551616) (w : World) :
    Calls Tryz.prog 11 #[confV e s, .int .u64 (n : Int)] w fun r w' => r = .returned (room14V (emptyP e s n)) ∧ Keeps NoBlock w w' := by
  have HHd := Lib.hid (fun w => head9_ref e s n he hs hn w)
  have z1 := str_size (sealN (headB e s n))
  have hb := (headLen_le (e := e) (s := s) (n := n) (by omega) hn).2
  have HE := Lib.hid (show room14V (emptyP e s n) = .agg #[.int .u8 (e : Int), .int .u32 (s : Int), .int .u64 (n : Int), .int .i64 ((headLen e s n : Nat) : Int), .int .i64 0] from rfl)
  have hl : headLen e s n = (sealN (headB e s n)).length := rfl
  rw [← hl] at z1
  obtain ⟨L, hL⟩ : ∃ L, L = headLen e s n := ⟨_, rfl⟩
  rw [← hL] at z1 hb HE
  obtain ⟨T, hT⟩ : ∃ T, T = sealN (headB e s n) := ⟨_, rfl⟩
  rw [← hT] at z1 HHd
  have HC := Lib.hid ((Whole.new w 27 (confCells e s)).alloc (.cells (room14Cells Rm.none) 36))
  have HZ := Lib.hid (Whole.newAt (w.alloc (.cells (confCells e s) 27)) 36 (room14Cells Rm.none) (w.heap.size + 1) (by simp))
  have HK := Lib.hid (((Keeps.refl NoBlock w).alloc (.cells (confCells e s) 27)).alloc (.cells (room14Cells Rm.none) 36))
  clear hL hT hl he hs hn
  unfold confV at HHd ⊢
  go_enter Tryz.func11, Tryz.ntmps11
  go_wp2_with fail
  obtain ⟨W, hW⟩ : ∃ W, W = (w.alloc (.cells #[.int .u8 (e : Int), .int .u32 (s : Int)] 27)).alloc (.cells #[.int .u8 0, .int .u32 0, .int .u64 0, .int .i64 0, .int .i64 0] 36) := ⟨_, rfl⟩
  have HC : Hid (Whole W w.heap.size 27 (confCells e s)) := by rw [hW]; exact HC
  have HZ : Hid (Whole W (w.heap.size + 1) 36 (room14Cells Rm.none)) := by rw [hW]; exact HZ
  have HK : Hid (Keeps NoBlock w W) := by rw [hW]; exact HK
  rw [← hW]
  clear hW
  have s0 := And.intro ((Whole.drewN HC.out 1).cell 0 rfl) ((Whole.drewN HC.out 1).cell 1 rfl)
  have sN := And.intro (HC.out.cell 0 rfl) (HC.out.cell 1 rfl)
  simp only [confCells, List.getElem_toArray, List.getElem_cons_zero, List.getElem_cons_succ] at s0 sN
  -- REGION
  refine wp_region_held_drew (S := fun w' => w'.cell? ⟨w.heap.size, 0, none⟩ = some (.int .u8 (e : Int)) ∧ w'.cell? ⟨w.heap.size, 1, none⟩ = some (.int .u32 (s : Int))) (by kernel_rfl) s0 (fun hHeld => ?_)
  refine wpAnyH_take (i := 0) (v := ?vT1) rfl ?aT1 ?bT1 ?cT1 ?dT1 (Or.inl ⟨?eT1, ?fT1⟩) hHeld ?gT1
  case fT1 => intro w hSw; (try dsimp only at hSw); go_simp; (try with_reducible rfl)
  case aT1 => kernel_rfl
  case bT1 => kernel_rfl
  case cT1 => kernel_rfl
  case dT1 => exact fun _ _ _ h => h
  case eT1 => rfl
  simp only [Act.put, List.getElem_toArray, List.getElem_cons_zero, List.setIfInBounds_toArray, List.set_cons_zero, List.set_cons_succ]
  refine wpAnyH_take (i := 1) (v := ?vT2) rfl ?aT2 ?bT2 ?cT2 ?dT2 (Or.inl ⟨?eT2, ?fT2⟩) hHeld ?gT2
  case fT2 => intro w hSw; (try dsimp only at hSw); go_simp; (try with_reducible rfl)
  case aT2 => kernel_rfl
  case bT2 => kernel_rfl
  case cT2 => kernel_rfl
  case dT2 => exact fun _ _ _ h => h
  case eT2 => rfl
  simp only [Act.put, List.getElem_toArray, List.getElem_cons_zero, List.getElem_cons_succ, List.setIfInBounds_toArray, List.set_cons_zero, List.set_cons_succ]
  refine wpAnyH_take (i := 2) (v := ?vT3) rfl ?aT3 ?bT3 ?cT3 ?dT3 (Or.inl ⟨?eT3, ?fT3⟩) hHeld ?gT3
  case fT3 => intro w hSw; (try dsimp only at hSw); go_simp; (try with_reducible rfl)
  case aT3 => kernel_rfl
  case bT3 => kernel_rfl
  case cT3 => kernel_rfl
  case dT3 => exact fun _ _ _ h => h
  case eT3 => rfl
  simp only [Act.put, List.getElem_toArray, List.getElem_cons_zero, List.getElem_cons_succ, List.setIfInBounds_toArray, List.set_cons_zero, List.set_cons_succ]
  refine wpAnyH_take (i := 3) (v := ?vT4) rfl ?aT4 ?bT4 ?cT4 ?dT4 (Or.inl ⟨?eT4, ?fT4⟩) hHeld ?gT4
  case fT4 => intro w hSw; (try dsimp only at hSw); go_simp; (try with_reducible rfl)
  case aT4 => kernel_rfl
  case bT4 => kernel_rfl
  case cT4 => kernel_rfl
  case dT4 => exact fun _ _ _ h => h
  case eT4 => rfl
  simp only [Act.put, List.getElem_toArray, List.getElem_cons_zero, List.getElem_cons_succ, List.setIfInBounds_toArray, List.set_cons_zero, List.set_cons_succ]
  refine wpAnyH_ready (rs := [4]) (by kernel_rfl) (by simp) ?_
  refine (AllReadyH.cons (o := _) rfl (fun K hK => ?_) AllReadyH.nil)
  go_simp
  refine (HHd.out _).mono ?_
  rintro e9 w5 ⟨rfl, hk⟩
  have hk' : Keeps NoBlock W w5 := by first | exact hk | exact hk.ofDrew | exact hk.ofDrewN
  have HK := Lib.hid (HK.out.trans hk')
  have HC := Lib.hid (HC.out.keep hk' (fun h => h))
  have HZ := Lib.hid (HZ.out.keep hk' (fun h => h))
  have hS : (fun w' => w'.cell? ⟨w.heap.size, 0, none⟩ = some (.int .u8 (e : Int)) ∧ w'.cell? ⟨w.heap.size, 1, none⟩ = some (.int .u32 (s : Int))) w5 := And.intro (HC.out.cell 0 rfl) (HC.out.cell 1 rfl)
  clear hk hk'
  go_wp2_with fail
  refine hK.out _ _ hS (fun _ => ?_)
  clear hK K
  refine wpAnyH_take (i := 5) (v := ?vT5) rfl ?aT5 ?bT5 ?cT5 ?dT5 (Or.inl ⟨?eT5, ?fT5⟩) hS ?gT5
  case fT5 => intro w hSw; (try dsimp only at hSw); go_simp; (try with_reducible rfl)
  case aT5 => kernel_rfl
  case bT5 => kernel_rfl
  case cT5 => kernel_rfl
  case dT5 => exact fun _ _ _ h => h
  case eT5 => rfl
  simp only [Act.put, List.getElem_toArray, List.getElem_cons_zero, List.getElem_cons_succ, List.setIfInBounds_toArray, List.set_cons_zero, List.set_cons_succ]
  refine wpAnyH_take (i := 6) (v := ?vT6) rfl ?aT6 ?bT6 ?cT6 ?dT6 (Or.inl ⟨?eT6, ?fT6⟩) hS ?gT6
  case fT6 => intro w hSw; (try dsimp only at hSw); go_simp; (try with_reducible rfl)
  case aT6 => kernel_rfl
  case bT6 => kernel_rfl
  case cT6 => kernel_rfl
  case dT6 => exact fun _ _ _ h => h
  case eT6 => rfl
  simp only [Act.put, List.getElem_toArray, List.getElem_cons_zero, List.getElem_cons_succ, List.setIfInBounds_toArray, List.set_cons_zero, List.set_cons_succ]
  refine wpAnyH_ready (rs := [7]) (by kernel_rfl) (by simp) ?_
  refine (AllReadyH.cons (o := _) rfl (fun K hK => ?_) AllReadyH.nil)
  obtain ⟨z0, zz1, zz2, zz3, zz4⟩ := room14_at HZ.out
  obtain ⟨q0, q1, q2, q3, q4⟩ := room_free HZ.out
  go_simp
  refine hK.out _ _ (And.intro ((HC.out.far5 (by omega) _ _ _ _ _).cell 0 rfl) ((HC.out.far5 (by omega) _ _ _ _ _).cell 1 rfl)) (fun _ => ?_)
  clear hK K
  refine wpAnyH_done (by kernel_rfl) ?_ _
  -- BEHIND
  have hf := Whole.set5 (show Whole _ (w.heap.size + 1) 36 #[.int .u8 0, .int .u32 0, .int .u64 0, .int .i64 0, .int .i64 0] from HZ.out) (.int .u8 (e : Int)) (.int .u32 (s : Int)) (.int .u64 (n : Int)) (.int .i64 (L : Int)) (.int .i64 0)
  have k0 := hf.cell 0 rfl
  have k1 := hf.cell 1 rfl
  have k2 := hf.cell 2 rfl
  have k3 := hf.cell 3 rfl
  have k4 := hf.cell 4 rfl
  simp only [List.getElem_toArray, List.getElem_cons_zero, List.getElem_cons_succ] at k0 k1 k2 k3 k4
  go_wp2_with fail
  exact bodyPost_ret (v := room14V (emptyP e s n)) (by rw [HE.out]; simp [results, Tryz.results11, go_sem, k0, k1, k2, k3, k4]) rfl ⟨rfl, HK.out.new5 (Nat.le_succ _) _ _ _ _ _⟩

set_option maxHeartbeats 4000000 in
set_option maxRecDepth 10000 in
theorem take14_ref (r : Rm) (z : Int) (hr : r.Real) (h1 : 1 ≤ z) (h2 : z ≤ 16777216) (w : World) :
    Calls Tryz.prog 16 #[room14V r, .int .i64 z] w fun e w' => e = .returned (room14V (takeP r z)) ∧ Keeps NoBlock w w' := by
  obtain ⟨he, hu, hs, hn⟩ := hr.small
  have hc := hr.few
  obtain ⟨e, s, num, used, count⟩ := r
  simp only at hu hs hn hc he
  obtain ⟨zn, rfl⟩ : ∃ zn : Nat, z = (zn : Int) := ⟨z.toNat, by omega⟩
  have HE := Lib.hid (show room14V (takeP ⟨e, s, num, used, count⟩ (zn : Int)) = .agg #[.int .u8 (e : Int), .int .u32 (s : Int), .int .u64 (num : Int), .int .i64 ((used : Int) + (zn : Int)), .int .i64 ((count : Int) + 1)] from by unfold room14V takeP; simp only [Int.toNat_natCast]; rfl)
  have w3 : IntKind.i64.wrap ((used : Int) + (zn : Int)) = (used : Int) + (zn : Int) := IntWalk.i64_in _ (by omega)
  have w6 : IntKind.i64.wrap ((count : Int) + 1) = (count : Int) + 1 := IntWalk.i64_in _ (by omega)
  rw [HE.out]
  clear hr h1 h2 HE
  unfold room14V
  simp only
  go_enter Tryz.func16, Tryz.ntmps16
  go_wp2_with fail
  have hf := Whole.newAt (w.alloc (.cells #[.int .u8 (e : Int), .int .u32 (s : Int), .int .u64 (num : Int), .int .i64 ((used : Int) + (zn : Int)), .int .i64 ((count : Int) + 1)] 36)) 36 #[.int .u8 (e : Int), .int .u32 (s : Int), .int .u64 (num : Int), .int .i64 ((used : Int) + (zn : Int)), .int .i64 ((count : Int) + 1)] (w.heap.size + 1) (by simp)
  have k0 := hf.cell 0 rfl
  have k1 := hf.cell 1 rfl
  have k2 := hf.cell 2 rfl
  have k3 := hf.cell 3 rfl
  have k4 := hf.cell 4 rfl
  simp only [List.getElem_toArray, List.getElem_cons_zero, List.getElem_cons_succ] at k0 k1 k2 k3 k4
  exact bodyPost_ret (v := .agg #[.int .u8 (e : Int), .int .u32 (s : Int), .int .u64 (num : Int), .int .i64 ((used : Int) + (zn : Int)), .int .i64 ((count : Int) + 1)]) (by simp [results, Tryz.results16, go_sem, k0, k1, k2, k3, k4]) rfl ⟨rfl, ((Keeps.refl _ _).alloc _).alloc _⟩
end Go.Proofs.YtlejobomjgccnaaGreat

namespace Go.Proofs.YtlejobomjgccnaaGreat
open Go.RowKit

theorem NumsSoFar.cell {w0 wr : World} {l : List Nat} {ad : Addr} {m d : Nat} (h : NumsSoFar w0 l (.slice (some ad) m d) wr) {j : Nat} (hj : j < l.length) : wr.cell? (ad.add j) = some (.int .u64 ((l.getD j 0 : Nat) : Int)) := by
  obtain ⟨q', m', d', e, _, _, hc⟩ := own_nums h.1
  injection e with e1 e2 e3
  rw [hc ad e1.symm j (numV (l.getD j 0)) (by simp [hj])]
  rfl
theorem NumsSoFar.nil {w0 wr : World} (h : Below w0.heap.size w0 wr) : NumsSoFar w0 [] (.slice none 0 0) wr := ⟨World.ownsRow_nil _ _ _ _, h⟩
end Go.Proofs.YtlejobomjgccnaaGreat

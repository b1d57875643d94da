/-
  FtPuWalk; TabCmp; TabCmp2; TabRis; FtBelow.
-/
import Derived.Sort.Grow
import Derived.Shelf.SlSortCmp.InsertionK
import Derived.Shelf.SlSortCmp.QuietGrown
import Derived.Test.YtmifbohdepejaaaM05
import Derived.Test.YtmifbohdepejaaaM14
import Derived.Test.YtmifbohdepejaaaM19
import Derived.Test.YtmifbohdepejaaaM20
namespace Go.Proofs.Ytmifbohdepejaaa
open Go.RowKit

/-- A footer in memory, its entries beside it. -/
theorem ftcells (w : World) (g : Nat) (t : TypeId) (u : Nat) (q : Option Addr) (n c : Nat) (h : Whole w g t (ftCells u q n c)) : w.cell? ⟨g, 0, none⟩ = some (.int .u32 (u : Int)) ∧ w.cell? ⟨g, 1, none⟩ = some (.slice q n c) := ⟨h.cell 0 rfl, h.cell 1 rfl⟩

set_option maxHeartbeats 4000000 in
set_option maxRecDepth 10000 in
theorem ftputs_big (HM : FtMostOk) (u : Nat) (q : Option Addr) (n c : Nat) (w : World) (hg : 100 < n) :
    Calls Try.prog 3 #[ftV u q n c] w fun e w' => e = .returned (.bool true) ∧ Keeps NoBlock w w' := by
  have HLv := Lib.hid (fun w => lives13_true HM w)
  have HF0 := Lib.hid (Whole.new w 25 (ftCells u q n c))
  have HK0 := Lib.hid ((Keeps.refl NoBlock w).alloc (.cells (ftCells u q n c) 25))
  have hgd : decide ((100 : Int) < (n : Int)) = true := decide_eq_true (by omega)
  have hgd2 : decide (100 < n) = true := decide_eq_true hg
  clear HM
  unfold ftV
  go_enter Try.func3, Try.ntmps3
  go_wp2_with fail
  refine (HLv.out _).mono ?_
  rintro e w1 ⟨rfl, hk⟩
  have HK := Lib.hid (HK0.out.trans hk)
  obtain ⟨f0, f1⟩ := ftcells _ _ _ _ _ _ _ (HF0.out.keep hk (fun h => h))
  clear hk
  go_wp2_with fail
  refine (HLv.out _).mono ?_
  rintro e w2 ⟨rfl, hk⟩
  have HK := Lib.hid (HK.out.trans hk)
  clear hk
  go_wp2_with fail
  go_ret
  exact ⟨rfl, HK.out⟩

set_option maxHeartbeats 4000000 in
set_option maxRecDepth 10000 in
theorem ftputs_bad (HM : FtMostOk) (HC : FtCkOk) (HP : FtPutOk) (u : Nat) (q : Option Addr) (n c : Nat) (l : List En) (w : World) (hu : u < 4294967296) (h : InE w q n c l) (hg : n ≤ 100) (hc : checkFt ⟨u, l⟩ ≠ 0) :
    Calls Try.prog 3 #[ftV u q n c] w fun e w' => e = .returned (.bool true) ∧ Keeps NoBlock w w' := by
  have HLv := Lib.hid (fun w => lives13_true HM w)
  have HF0 := Lib.hid (Whole.new w 25 (ftCells u q n c))
  have hk0 : Keeps NoBlock w (w.alloc (.cells (ftCells u q n c) 25)) := (Keeps.refl NoBlock w).alloc _
  have HK0 := Lib.hid hk0
  have hgd : decide ((100 : Int) < (n : Int)) = false := decide_eq_false (by omega)
  have hgd2 : decide (100 < n) = false := decide_eq_false (by omega)
  have HIn := Lib.hid (fun w2 (hk : Keeps NoBlock w w2) => (show InE w2 q n c l from ⟨h.len, h.cap, h.room, h.bare, h.fine, EnsAt.keep h.at_ hk⟩))
  have HPu := Lib.hid (fun w h => HP.put u q n c l w hu h (by omega))
  have HCk := Lib.hid (fun w h => HC.check u q n c l w hu h (by omega))
  have HRf := Lib.hid (fun w h => ref13_go u q n c l h.len (by omega) w (h : InE w q n c l).at_)
  have HCr := Lib.hid (fun q2 d w hl => check13_ref u q2 l.length d l rfl (by have := h.len; omega) w hl)
  have hpe : putFt ⟨u, l⟩ = [] := by unfold putFt; rw [if_neg hc]
  rw [hpe] at HPu
  obtain ⟨z, hz⟩ : ∃ z, z = checkFt ⟨u, l⟩ := ⟨_, rfl⟩
  rw [← hz] at HPu HCk HCr hc
  have hzb : (z == 0) = false := beq_eq_false_iff_ne.2 hc
  have hzn : (z != 0) = true := by rw [bne_iff_ne]; exact hc
  have hzz : (z != z) = false := by simp
  clear HM HC HP h hz hpe hc
  unfold ftV at HPu HCk HRf HCr ⊢
  go_enter Try.func3, Try.ntmps3
  go_wp2_with fail
  refine (HLv.out _).mono ?_
  rintro e w1 ⟨rfl, hk⟩
  have HK := Lib.hid (HK0.out.trans hk)
  have HF := Lib.hid (HF0.out.keep hk (fun h => h))
  obtain ⟨f0, f1⟩ := ftcells _ _ _ _ _ _ _ HF.out
  clear hk
  go_wp2_with fail
  refine (HPu.out _ (HIn.out _ HK.out)).mono ?_
  rintro e w2 ⟨v, rfl, qb, m, d, rfl, hm, hmd, hd, hq, hb8, hk⟩
  have hm0 : m = 0 := hm
  subst hm0
  have HK := Lib.hid (HK.out.trans hk)
  have HF := Lib.hid (HF.out.keep hk (fun h => h))
  clear f0 f1 hk hq hb8 hm
  obtain ⟨f0, f1⟩ := ftcells _ _ _ _ _ _ _ HF.out
  go_wp2_with fail
  refine (HRf.out _ (HIn.out _ HK.out)).mono ?_
  rintro e w3 ⟨q2, m2, d2, rfl, hm2, _, _, _, hat, hk⟩
  subst hm2
  have HK := Lib.hid (HK.out.trans hk)
  have HF := Lib.hid (HF.out.keep hk (fun h => h))
  have HE := Lib.hid hat
  clear f0 f1 hk hat
  obtain ⟨f0, f1⟩ := ftcells _ _ _ _ _ _ _ HF.out
  go_wp2_with fail
  refine (HCr.out q2 d2 _ HE.out).mono ?_
  rintro e w4 ⟨rfl, hk⟩
  have HK := Lib.hid (HK.out.trans hk)
  have HF := Lib.hid (HF.out.keep hk (fun h => h))
  clear f0 f1 hk HE
  obtain ⟨f0, f1⟩ := ftcells _ _ _ _ _ _ _ HF.out
  go_wp2_with fail
  refine (HCk.out _ (HIn.out _ HK.out)).mono ?_
  rintro e w5 ⟨rfl, hk⟩
  have HK := Lib.hid (HK.out.trans hk)
  clear f0 f1 hk
  go_wp2_with fail
  go_ret
  exact ⟨rfl, HK.out⟩

set_option maxHeartbeats 8000000 in
set_option maxRecDepth 10000 in
theorem ftputs_good (HM : FtMostOk) (HC : FtCkOk) (HP : FtPutOk) (HG : FtGetOk) (u : Nat) (q : Option Addr) (n c : Nat) (l : List En) (w : World) (hu : u < 4294967296) (h : InE w q n c l) (hg : n ≤ 100) (hc : checkFt ⟨u, l⟩ = 0) :
    Calls Try.prog 3 #[ftV u q n c] w fun e w' => e = .returned (.bool true) ∧ Keeps NoBlock w w' := by
  have HLv := Lib.hid (fun w => lives13_true HM w)
  have HF0 := Lib.hid (Whole.new w 25 (ftCells u q n c))
  have HK0 := Lib.hid ((Keeps.refl NoBlock w).alloc (.cells (ftCells u q n c) 25))
  have hgd : decide ((100 : Int) < (n : Int)) = false := decide_eq_false (by omega)
  have hgd2 : decide (100 < n) = false := decide_eq_false (by omega)
  have hff : (Ft.mk u l).Fine := ⟨hu, h.fine⟩
  have HIn := Lib.hid (fun w2 (hk : Keeps NoBlock w w2) => (show InE w2 q n c l from ⟨h.len, h.cap, h.room, h.bare, h.fine, EnsAt.keep h.at_ hk⟩))
  have HPu := Lib.hid (fun w h => HP.put u q n c l w hu h (by omega))
  have HCk := Lib.hid (fun w h => HC.check u q n c l w hu h (by omega))
  have HRf := Lib.hid (fun w h => ref13_go u q n c l h.len (by omega) w (h : InE w q n c l).at_)
  have HCr := Lib.hid (fun q2 d w hl => check13_ref u q2 l.length d l rfl (by have := h.len; omega) w hl)
  have HTx := Lib.hid (fun q2 d w hl => text13_ref u hu q2 l.length d l rfl (by have := h.len; omega) h.fine w hl)
  have HSa := Lib.hid (fun q q2 d d2 w h1 h2 => same13_go u q q2 l.length d d2 l w rfl (by have := h.len; omega) h1 h2)
  have HMo := Lib.hid (fun w => HM.most (n : Int) w (by omega) (by omega))
  rw [Int.toNat_natCast] at HMo
  have hpe : putFt ⟨u, l⟩ = sealN (bodyFt ⟨u, l⟩) := by unfold putFt; rw [if_pos hc]
  have hmost := putFt_most ⟨u, l⟩
  rw [hpe] at HPu hmost
  simp only at hmost
  rw [← h.len] at hmost
  have hbig : mostFt n ≤ 100000 := by
    unfold mostFt sizeN mostOf bodyLen countF
    simp only [Int.toNat_natCast]
    rw [if_neg (by omega)]
    omega
  rw [hc] at HPu HCk HCr
  have hgp := getFt_put hff hc
  have HGe := Lib.hid (fun q m d w hi hm => HG.get q m d (chunkN (bodyFt ⟨u, l⟩)) w hi hm)
  rw [hgp] at HGe
  have hbo : Octets (bodyFt ⟨u, l⟩) := bodyFt_octets
  obtain ⟨hlen, _⟩ := seal_length (bodyFt ⟨u, l⟩)
  have hco := (chunk_solid hbo).octets
  have hFC : sealN (bodyFt ⟨u, l⟩) = chunkN (bodyFt ⟨u, l⟩) ++ [0] := rfl
  have hpos := chunk_pos (bodyFt ⟨u, l⟩)
  obtain ⟨C, hC⟩ : ∃ C, C = chunkN (bodyFt ⟨u, l⟩) := ⟨_, rfl⟩
  rw [← hC] at hlen HGe hco hFC hpos
  obtain ⟨F, hF⟩ : ∃ F, F = sealN (bodyFt ⟨u, l⟩) := ⟨_, rfl⟩
  rw [← hF] at HPu HTx hlen hmost hFC
  obtain ⟨Z, hZ⟩ : ∃ Z, Z = mostFt n := ⟨_, rfl⟩
  rw [← hZ] at HMo hmost hbig
  have HFC := Lib.hid hFC
  have HLen := Lib.hid hlen
  have HCo := Lib.hid hco
  have HN := Lib.hid h.len
  have hzz : ((0 : Int) != 0) = false := by simp
  clear HM HC HP HG h hpe hc hff hgp hbo hC hF hco hFC hlen hZ
  unfold ftV at HPu HCk HRf HCr HTx HSa ⊢
  go_enter Try.func3, Try.ntmps3
  go_wp2_with fail
  refine (HLv.out _).mono ?_
  rintro e w1 ⟨rfl, hk⟩
  have HK := Lib.hid (HK0.out.trans hk)
  have HF := Lib.hid (HF0.out.keep hk (fun h => h))
  obtain ⟨f0, f1⟩ := ftcells _ _ _ _ _ _ _ HF.out
  clear hk
  go_wp2_with fail
  refine (HPu.out _ (HIn.out _ HK.out)).mono ?_
  rintro e w2 ⟨v, rfl, qb, m, d, rfl, hm, hmd, hd, hqb, hb8, hk⟩
  have HK := Lib.hid (HK.out.trans hk)
  have HF := Lib.hid (HF.out.keep hk (fun h => h))
  have HBy := Lib.hid hb8
  have HM := Lib.hid hm
  have hmZ : m ≤ Z := by rw [hm]; exact hmost
  clear f0 f1 hk hb8 hmost hm
  obtain ⟨f0, f1⟩ := ftcells _ _ _ _ _ _ _ HF.out
  go_wp2_with fail
  refine (HRf.out _ (HIn.out _ HK.out)).mono ?_
  rintro e w3 ⟨q2, m2, d2, rfl, hm2, _, _, _, hat, hk⟩
  subst hm2
  have HK := Lib.hid (HK.out.trans hk)
  have HF := Lib.hid (HF.out.keep hk (fun h => h))
  have HBy := Lib.hid (HBy.out.keep hk (fun _ _ h => h))
  have HE := Lib.hid hat
  clear f0 f1 hk hat
  obtain ⟨f0, f1⟩ := ftcells _ _ _ _ _ _ _ HF.out
  go_wp2_with fail
  refine (HCr.out q2 d2 _ HE.out).mono ?_
  rintro e w4 ⟨rfl, hk⟩
  have HK := Lib.hid (HK.out.trans hk)
  have HF := Lib.hid (HF.out.keep hk (fun h => h))
  have HBy := Lib.hid (HBy.out.keep hk (fun _ _ h => h))
  clear f0 f1 hk HE
  obtain ⟨f0, f1⟩ := ftcells _ _ _ _ _ _ _ HF.out
  go_wp2_with fail
  refine (HCk.out _ (HIn.out _ HK.out)).mono ?_
  rintro e w5 ⟨rfl, hk⟩
  have HK := Lib.hid (HK.out.trans hk)
  have HF := Lib.hid (HF.out.keep hk (fun h => h))
  have HBy := Lib.hid (HBy.out.keep hk (fun _ _ h => h))
  clear f0 f1 hk
  obtain ⟨f0, f1⟩ := ftcells _ _ _ _ _ _ _ HF.out
  obtain ⟨M, hM⟩ : ∃ M, M = C.length := ⟨_, rfl⟩
  have HMC := Lib.hid hM
  have hML : m = M + 1 := by rw [HM.out, HLen.out, hM]
  have hsub : (m : Int) - 1 = (M : Int) := by omega
  have hm3 : m ≤ 100000 := by omega
  have hM1 : 1 ≤ M := by omega
  have hM2 : ¬ M = 0 := by omega
  have hMm : M ≤ m := by omega
  have hMd : M ≤ d := by omega
  clear hM hML
  obtain ⟨a, rfl, hcell⟩ := HBy.out (by rw [HLen.out]; omega)
  clear hcell
  go_wp2_with fail
  refine (HGe.out (some a) M d _ (by exact ⟨HMC.out, hMd, hd, fun h => by simp at h, HCo.out, Bytes8.left (ys := [0]) (by rw [← HFC.out]; exact HBy.out)⟩) (by omega)).mono ?_
  rintro e w6 ⟨q6, m6, d6, rfl, hm6, _, _, _, hat6, hk⟩
  simp only at hm6 hat6
  subst hm6
  have HK := Lib.hid (HK.out.trans hk)
  have HF := Lib.hid (HF.out.keep hk (fun h => h))
  have HBy := Lib.hid (HBy.out.keep hk (fun _ _ h => h))
  clear f0 f1 hk
  obtain ⟨W, hW⟩ : ∃ W, W = w6.alloc (.cells #[.int .u32 (u : Int), .slice q6 l.length d6] 25) := ⟨_, rfl⟩
  have hk : Keeps NoBlock w6 W := by rw [hW]; exact (Keeps.refl _ _).alloc _
  have HX : Hid (Whole W w6.heap.size 25 (ftCells u q6 l.length d6)) := Lib.hid (by rw [hW]; exact Whole.new w6 _ (ftCells u q6 l.length d6))
  have HE6 := Lib.hid (EnsAt.keep hat6 hk)
  have HK := Lib.hid (HK.out.trans hk)
  have HF := Lib.hid (HF.out.keep hk (fun h => h))
  have HBy := Lib.hid (HBy.out.keep hk (fun _ _ h => h))
  have f := ftcells _ _ _ _ _ _ _ HF.out
  clear hat6 hk
  unfold ftV
  go_upto_region 9 with (fail)
  rw [← hW]
  clear hW
  have hgz : decide ((m : Int) ≤ (Z : Int)) = true := decide_eq_true (by omega)
  have hgz2 : decide (m ≤ Z) = true := decide_eq_true hmZ
  have s0 := And.intro (textOf (some a) m d F W.drew HM.out HBy.out) (And.intro (ftcells _ _ _ _ _ _ _ (Whole.drewN HF.out 1)) (ftcells _ _ _ _ _ _ _ (Whole.drewN HX.out 1)))
  have sN := And.intro (textOf (some a) m d F W HM.out HBy.out) (And.intro (ftcells _ _ _ _ _ _ _ HF.out) (ftcells _ _ _ _ _ _ _ HX.out))
  clear f
  go_wp2_with fail
  go_region_held3 (fun w' => (convert 27 9 (.slice (some a) m d)).run Try.prog w' = .ok (.string (strOfNums F)) w' ∧ (w'.cell? ⟨w.heap.size, 0, none⟩ = some (.int .u32 (u : Int)) ∧ w'.cell? ⟨w.heap.size, 1, none⟩ = some (.slice q n c)) ∧ (w'.cell? ⟨w6.heap.size, 0, none⟩ = some (.int .u32 (u : Int)) ∧ w'.cell? ⟨w6.heap.size, 1, none⟩ = some (.slice q6 l.length d6)))
    (first | exact s5 | exact s0 | exact sN)
    (first | (go_at_call 11; refine (HRf.out _ (by first | exact HIn.out _ HK.out | exact HIn.out _ HK.out.drew | exact HIn.out _ (HK.out.drewN _))).mono ?_; rintro e w5 ⟨q2, m2, d2, rfl, hm2, _, _, _, hat, hk⟩; subst hm2; have hk' : Keeps NoBlock W w5 := (by first | exact hk | exact hk.ofDrew | exact hk.ofDrewN); have HK := Lib.hid (HK.out.trans hk'); have HF := Lib.hid (HF.out.keep hk' (fun h => h)); have HX := Lib.hid (HX.out.keep hk' (fun h => h)); have HBy := Lib.hid (HBy.out.keep hk' (fun _ _ h => h)); have HE6 := Lib.hid (EnsAt.keep HE6.out hk'); have HE := Lib.hid hat; have s5 := And.intro (textOf (some a) m d F w5 HM.out HBy.out) (And.intro (ftcells _ _ _ _ _ _ _ HF.out) (ftcells _ _ _ _ _ _ _ HX.out)); clear hk hk' hat; obtain ⟨W, rfl⟩ : ∃ x, x = w5 := ⟨_, rfl⟩) | (go_at_call 14; refine (HTx.out q2 d2 _ (by exact HE.out)).mono ?_; rintro e w5 ⟨rfl, hk⟩; have hk' : Keeps NoBlock W w5 := (by first | exact hk | exact hk.ofDrew | exact hk.ofDrewN); have HK := Lib.hid (HK.out.trans hk'); have HF := Lib.hid (HF.out.keep hk' (fun h => h)); have HX := Lib.hid (HX.out.keep hk' (fun h => h)); have HBy := Lib.hid (HBy.out.keep hk' (fun _ _ h => h)); have HE6 := Lib.hid (EnsAt.keep HE6.out hk'); have s5 := And.intro (textOf (some a) m d F w5 HM.out HBy.out) (And.intro (ftcells _ _ _ _ _ _ _ HF.out) (ftcells _ _ _ _ _ _ _ HX.out)); clear hk hk' HE; obtain ⟨W, rfl⟩ : ∃ x, x = w5 := ⟨_, rfl⟩) | (go_at_call 15; refine (HMo.out _).mono ?_; rintro e w5 ⟨rfl, hk⟩; have hk' : Keeps NoBlock W w5 := (by first | exact hk | exact hk.ofDrew | exact hk.ofDrewN); have HK := Lib.hid (HK.out.trans hk'); have HF := Lib.hid (HF.out.keep hk' (fun h => h)); have HX := Lib.hid (HX.out.keep hk' (fun h => h)); have HBy := Lib.hid (HBy.out.keep hk' (fun _ _ h => h)); have HE6 := Lib.hid (EnsAt.keep HE6.out hk'); have s5 := And.intro (textOf (some a) m d F w5 HM.out HBy.out) (And.intro (ftcells _ _ _ _ _ _ _ HF.out) (ftcells _ _ _ _ _ _ _ HX.out)); clear hk hk'; obtain ⟨W, rfl⟩ : ∃ x, x = w5 := ⟨_, rfl⟩) | (go_at_call 16; refine (HSa.out q6 q2 d6 d2 _ (by exact HE6.out) (by exact HE.out)).mono ?_; rintro e w5 ⟨rfl, hk⟩; have hk' : Keeps NoBlock W w5 := (by first | exact hk | exact hk.ofDrew | exact hk.ofDrewN); have HK := Lib.hid (HK.out.trans hk'); have HF := Lib.hid (HF.out.keep hk' (fun h => h)); have HX := Lib.hid (HX.out.keep hk' (fun h => h)); have HBy := Lib.hid (HBy.out.keep hk' (fun _ _ h => h)); have s5 := And.intro (textOf (some a) m d F w5 HM.out HBy.out) (And.intro (ftcells _ _ _ _ _ _ _ HF.out) (ftcells _ _ _ _ _ _ _ HX.out)); clear hk hk'; obtain ⟨W, rfl⟩ : ∃ x, x = w5 := ⟨_, rfl⟩))
  go_wp2_with fail
  go_ret
  exact ⟨by first | rfl | simp, HK.out⟩

theorem ftputs_walk (HM : FtMostOk) (HC : FtCkOk) (HP : FtPutOk) (HG : FtGetOk) (u : Nat) (q : Option Addr) (n c : Nat) (l : List En) (w : World) (hu : u < 4294967296) (h : InE w q n c l) :
    Calls Try.prog 3 #[ftV u q n c] w fun e w' => e = .returned (.bool true) ∧ Keeps NoBlock w w' := by
  by_cases hg : n ≤ 100
  · by_cases hc : checkFt ⟨u, l⟩ = 0
    · exact ftputs_good HM HC HP HG u q n c l w hu h hg hc
    · exact ftputs_bad HM HC HP u q n c l w hu h hg hc
  · exact ftputs_big HM u q n c w (by omega)
end Go.Proofs.Ytmifbohdepejaaa

namespace Go.Proofs.Ytmifbohdepejaaa
open Go.RowKit Go.Sort

/-- Nothing but draws, and blocks behind those that were there. -/
def Grown (w w' : World) : Prop := ∃ q os, w' = grow (w.drewN q) os
theorem Grown.refl (w : World) : Grown w w := ⟨0, #[], by rw [grow_empty]; rfl⟩
theorem Grown.drewN {w w' : World} (h : Grown w w') (n : Nat) : Grown w (w'.drewN n) := by
  obtain ⟨q, os, rfl⟩ := h
  exact ⟨q + n, os, by show grow ((w.drewN q).drewN n) os = _; rw [World.drewN_drewN]⟩
theorem Grown.drew {w w' : World} (h : Grown w w') : Grown w w'.drew := h.drewN 1
theorem Grown.alloc {w w' : World} (h : Grown w w') (o : Obj) : Grown w (w'.alloc o) := by
  obtain ⟨q, os, rfl⟩ := h
  exact ⟨q, os ++ #[o], by rw [alloc_eq_grow, grow_grow]⟩
theorem Grown.trans {a b c : World} (h : Grown a b) (g : Grown b c) : Grown a c := by
  obtain ⟨q, os, rfl⟩ := h
  obtain ⟨q', os', rfl⟩ := g
  exact ⟨q + q', os ++ os', by show grow (grow ((a.drewN q).drewN q') os) os' = _; rw [grow_grow, World.drewN_drewN]⟩
theorem Grown.keeps {w w' : World} (h : Grown w w') : Keeps NoBlock w w' := by
  obtain ⟨q, os, rfl⟩ := h
  refine ⟨rfl, rfl, rfl, by simp [grow], fun k hk _ => ?_⟩
  show ((w.drewN q).heap ++ os)[k]? = _
  rw [Array.getElem?_append_left (by show k < w.heap.size; exact hk)]
  rfl

/-- The order of two numbers. -/
def cmpN (x y : Nat) : Int := if x < y then -1 else if y < x then 1 else 0

theorem nan64_own (x : Nat) (w : World) : Calls Try.prog 123 #[.int .u64 (x : Int)] w fun e w' => e = .returned (.bool false) ∧ w' = w := by
  have h : ((x : Int) != (x : Int)) = false := by simp
  go_enter Try.func123, Try.ntmps123
  go_wp2_with fail
  go_ret
  exact ⟨rfl, rfl⟩
theorem nan32_own (x : Nat) (w : World) : Calls Try.prog 124 #[.int .u32 (x : Int)] w fun e w' => e = .returned (.bool false) ∧ w' = w := by
  have h : ((x : Int) != (x : Int)) = false := by simp
  go_enter Try.func124, Try.ntmps124
  go_wp2_with fail
  go_ret
  exact ⟨rfl, rfl⟩

set_option maxHeartbeats 1000000 in
theorem cmp64_own (x y : Nat) (w : World) : Calls Try.prog 91 #[.int .u64 (x : Int), .int .u64 (y : Int)] w fun e w' => e = .returned (.int .i64 (cmpN x y)) ∧ w' = w := by
  have HA := Lib.hid (fun w => nan64_own x w)
  have HB := Lib.hid (fun w => nan64_own y w)
  unfold cmpN
  by_cases h1 : x < y
  · rw [if_pos h1]
    have d1 : decide ((x : Int) < (y : Int)) = true := decide_eq_true (by omega)
    have d2 : decide (x < y) = true := decide_eq_true h1
    go_enter Try.func91, Try.ntmps91
    go_wp2_with fail
    refine (HA.out _).mono ?_
    rintro e w1 ⟨rfl, rfl⟩
    go_wp2_with fail
    refine (HB.out _).mono ?_
    rintro e w1 ⟨rfl, rfl⟩
    go_wp2_with fail
    go_ret
    exact ⟨rfl, rfl⟩
  · rw [if_neg h1]
    have d1 : decide ((x : Int) < (y : Int)) = false := decide_eq_false (by omega)
    have d2 : decide (x < y) = false := decide_eq_false h1
    by_cases h2 : y < x
    · rw [if_pos h2]
      have d3 : decide ((y : Int) < (x : Int)) = true := decide_eq_true (by omega)
      have d4 : decide (y < x) = true := decide_eq_true h2
      go_enter Try.func91, Try.ntmps91
      go_wp2_with fail
      refine (HA.out _).mono ?_
      rintro e w1 ⟨rfl, rfl⟩
      go_wp2_with fail
      refine (HB.out _).mono ?_
      rintro e w1 ⟨rfl, rfl⟩
      go_wp2_with fail
      go_ret
      exact ⟨rfl, rfl⟩
    · rw [if_neg h2]
      have d3 : decide ((y : Int) < (x : Int)) = false := decide_eq_false (by omega)
      have d4 : decide (y < x) = false := decide_eq_false h2
      go_enter Try.func91, Try.ntmps91
      go_wp2_with fail
      refine (HA.out _).mono ?_
      rintro e w1 ⟨rfl, rfl⟩
      go_wp2_with fail
      refine (HB.out _).mono ?_
      rintro e w1 ⟨rfl, rfl⟩
      go_wp2_with fail
      go_ret
      exact ⟨rfl, rfl⟩

set_option maxHeartbeats 1000000 in
theorem cmp32_own (x y : Nat) (w : World) : Calls Try.prog 92 #[.int .u32 (x : Int), .int .u32 (y : Int)] w fun e w' => e = .returned (.int .i64 (cmpN x y)) ∧ w' = w := by
  have HA := Lib.hid (fun w => nan32_own x w)
  have HB := Lib.hid (fun w => nan32_own y w)
  unfold cmpN
  by_cases h1 : x < y
  · rw [if_pos h1]
    have d1 : decide ((x : Int) < (y : Int)) = true := decide_eq_true (by omega)
    have d2 : decide (x < y) = true := decide_eq_true h1
    go_enter Try.func92, Try.ntmps92
    go_wp2_with fail
    refine (HA.out _).mono ?_
    rintro e w1 ⟨rfl, rfl⟩
    go_wp2_with fail
    refine (HB.out _).mono ?_
    rintro e w1 ⟨rfl, rfl⟩
    go_wp2_with fail
    go_ret
    exact ⟨rfl, rfl⟩
  · rw [if_neg h1]
    have d1 : decide ((x : Int) < (y : Int)) = false := decide_eq_false (by omega)
    have d2 : decide (x < y) = false := decide_eq_false h1
    by_cases h2 : y < x
    · rw [if_pos h2]
      have d3 : decide ((y : Int) < (x : Int)) = true := decide_eq_true (by omega)
      have d4 : decide (y < x) = true := decide_eq_true h2
      go_enter Try.func92, Try.ntmps92
      go_wp2_with fail
      refine (HA.out _).mono ?_
      rintro e w1 ⟨rfl, rfl⟩
      go_wp2_with fail
      refine (HB.out _).mono ?_
      rintro e w1 ⟨rfl, rfl⟩
      go_wp2_with fail
      go_ret
      exact ⟨rfl, rfl⟩
    · rw [if_neg h2]
      have d3 : decide ((y : Int) < (x : Int)) = false := decide_eq_false (by omega)
      have d4 : decide (y < x) = false := decide_eq_false h2
      go_enter Try.func92, Try.ntmps92
      go_wp2_with fail
      refine (HA.out _).mono ?_
      rintro e w1 ⟨rfl, rfl⟩
      go_wp2_with fail
      refine (HB.out _).mono ?_
      rintro e w1 ⟨rfl, rfl⟩
      go_wp2_with fail
      go_ret
      exact ⟨rfl, rfl⟩

set_option maxHeartbeats 1000000 in
/-- cmp.Or of two numbers: the first one, if it isn't 0. -/
theorem or_own (g : Nat) (x y : Int) (w : World) (h0 : w.cell? ⟨g, 0, none⟩ = some (.int .i64 x)) (h1 : w.cell? ⟨g, 1, none⟩ = some (.int .i64 y)) :
    Calls Try.prog 90 #[.slice (some ⟨g, 0, none⟩) 2 2] w fun e w' => e = .returned (.int .i64 (if x = 0 then y else x)) ∧ w' = w := by
  have G0 := Lib.hid h0
  have G1 := Lib.hid h1
  clear h0 h1
  by_cases hx : x = 0
  · have b1 : (x != 0) = false := by simpa using hx
    rw [if_pos hx]
    clear hx
    by_cases hy : y = 0
    · have b2 : (y != 0) = false := by simpa using hy
      have HY := Lib.hid hy
      clear hy
      go_enter Try.func90, Try.ntmps90
      go_wp2_with fail
      refine wp_loop_rounds 3 ?_
      rw [rounds_succ]
      have g0 := G0.out
      go_wp2_with fail
      rw [rounds_succ]
      have g1 := G1.out
      go_wp2_with fail
      rw [rounds_succ]
      go_wp2_with fail
      go_ret
      exact ⟨by rw [HY.out]; rfl, rfl⟩
    · have b2 : (y != 0) = true := by simpa using hy
      go_enter Try.func90, Try.ntmps90
      go_wp2_with fail
      refine wp_loop_rounds 3 ?_
      rw [rounds_succ]
      have g0 := G0.out
      go_wp2_with fail
      rw [rounds_succ]
      have g1 := G1.out
      go_wp2_with fail
      go_ret
      exact ⟨rfl, rfl⟩
  · have b1 : (x != 0) = true := by simpa using hx
    rw [if_neg hx]
    go_enter Try.func90, Try.ntmps90
    go_wp2_with fail
    refine wp_loop_rounds 3 ?_
    rw [rounds_succ]
    have g0 := G0.out
    go_wp2_with fail
    go_ret
    exact ⟨rfl, rfl⟩
end Go.Proofs.Ytmifbohdepejaaa

namespace Go.Proofs.Ytmifbohdepejaaa
open Go.RowKit Go.Sort

theorem cmpE_of (a b : En) : (if cmpN a.hash b.hash = 0 then cmpN a.at_ b.at_ else cmpN a.hash b.hash) = cmpE a b := by
  unfold cmpN cmpE
  have L1 : LessE a b ↔ (a.hash < b.hash ∨ a.hash = b.hash ∧ a.at_ < b.at_) := Iff.rfl
  by_cases h1 : a.hash < b.hash
  · have hne : ¬ a = b := fun e => by rw [e] at h1; omega
    rw [if_pos h1, if_neg (by omega), if_neg hne, if_pos (L1.2 (.inl h1))]
  · by_cases h2 : b.hash < a.hash
    · have hne : ¬ a = b := fun e => by rw [e] at h2; omega
      rw [if_neg h1, if_pos h2, if_neg (by omega), if_neg hne, if_neg (fun h => by have := L1.1 h; omega)]
    · have he : a.hash = b.hash := by omega
      rw [if_neg h1, if_neg h2, if_pos rfl]
      by_cases h3 : a.at_ < b.at_
      · have hne : ¬ a = b := fun e => by rw [e] at h3; omega
        rw [if_pos h3, if_neg hne, if_pos (L1.2 (.inr ⟨he, h3⟩))]
      · by_cases h4 : b.at_ < a.at_
        · have hne : ¬ a = b := fun e => by rw [e] at h4; omega
          rw [if_neg h3, if_pos h4, if_neg hne, if_neg (fun h => by have := L1.1 h; omega)]
        · rw [if_neg h3, if_neg h4, if_pos (En.ext' he (by omega))]

set_option maxHeartbeats 4000000 in
set_option maxRecDepth 10000 in
/-- Compare, whatever the numbers are: nothing but draws and new blocks. -/
theorem compare_grown (a b : En) (w : World) : Calls Try.prog 52 #[enV a, enV b] w fun e w' => e = .returned (.int .i64 (cmpE a b)) ∧ Grown w w' := by
  have H64 := Lib.hid (fun w => cmp64_own a.hash b.hash w)
  have H32 := Lib.hid (fun w => cmp32_own a.at_ b.at_ w)
  obtain ⟨R, hR⟩ : ∃ R, R = cmpE a b := ⟨_, rfl⟩
  have HO : Hid ((if cmpN a.hash b.hash = 0 then cmpN a.at_ b.at_ else cmpN a.hash b.hash) = R) := Lib.hid ((cmpE_of a b).trans hR.symm)
  rw [← hR]
  clear hR
  obtain ⟨X, hX⟩ : ∃ X, X = cmpN a.hash b.hash := ⟨_, rfl⟩
  obtain ⟨Y, hY⟩ : ∃ Y, Y = cmpN a.at_ b.at_ := ⟨_, rfl⟩
  rw [← hX] at H64 HO
  rw [← hY] at H32 HO
  clear hX hY
  have HWa := Lib.hid ((Whole.new w 49 (enCells a)).alloc (.cells (enCells b) 49))
  have HWb := Lib.hid (Whole.newAt (w.alloc (.cells (enCells a) 49)) 49 (enCells b) (w.heap.size + 1) (by simp))
  have HGw := Lib.hid (((Grown.refl w).alloc (.cells (enCells a) 49)).alloc (.cells (enCells b) 49))
  unfold enV
  go_enter Try.func52, Try.ntmps52
  go_wp2_with fail
  obtain ⟨W0, hW⟩ : ∃ W0, W0 = (w.alloc (.cells #[.int .u64 (a.hash : Int), .int .u32 (a.at_ : Int)] 49)).alloc (.cells #[.int .u64 (b.hash : Int), .int .u32 (b.at_ : Int)] 49) := ⟨_, rfl⟩
  have HA : Hid (Whole W0.drew w.heap.size 49 (enCells a)) := Lib.hid (by rw [hW]; exact HWa.out)
  have HB : Hid (Whole W0.drew (w.heap.size + 1) 49 (enCells b)) := Lib.hid (by rw [hW]; exact HWb.out)
  have HG : Hid (Grown w W0.drew) := Lib.hid (by rw [hW]; exact HGw.out.drew)
  rw [← hW]
  clear hW HWa HWb HGw
  obtain ⟨W, hWd⟩ : ∃ W, W = W0.drew := ⟨_, rfl⟩
  rw [← hWd] at HA HB HG
  have s0 := And.intro (And.intro (HA.out.cell 0 rfl) (HA.out.cell 1 rfl)) (And.intro (HB.out.cell 0 rfl) (HB.out.cell 1 rfl))
  simp only [enCells, List.getElem_toArray, List.getElem_cons_zero, List.getElem_cons_succ] at s0
  refine wp_region_held_drew (S := fun w' => ((w'.cell? ⟨w.heap.size, 0, none⟩ = some (.int .u64 (a.hash : Int)) ∧ w'.cell? ⟨w.heap.size, 1, none⟩ = some (.int .u32 (a.at_ : Int))) ∧ (w'.cell? ⟨w.heap.size + 1, 0, none⟩ = some (.int .u64 (b.hash : Int)) ∧ w'.cell? ⟨w.heap.size + 1, 1, none⟩ = some (.int .u32 (b.at_ : Int))))) (by kernel_rfl) (by rw [← hWd]; exact s0) (fun hHeld => ?_)
  rw [← hWd]
  rw [← hWd] at hHeld
  clear hWd
  refine wpAnyH_take (i := 0) (v := ?vT1) rfl ?aT1 ?bT1 ?cT1 ?dT1 (Or.inl ⟨?eT1, ?fT1⟩) hHeld ?gT1
  case fT1 => intro w hSw; (try dsimp only at hSw); go_simp; (try with_reducible rfl)
  case aT1 => kernel_rfl
  case bT1 => kernel_rfl
  case cT1 => kernel_rfl
  case dT1 => exact fun _ _ _ h => h
  case eT1 => rfl
  simp only [Act.put, List.getElem_toArray, List.getElem_cons_zero, List.setIfInBounds_toArray, List.set_cons_zero, List.set_cons_succ]
  refine wpAnyH_take (i := 1) (v := ?vT2) rfl ?aT2 ?bT2 ?cT2 ?dT2 (Or.inl ⟨?eT2, ?fT2⟩) hHeld ?gT2
  case fT2 => intro w hSw; (try dsimp only at hSw); go_simp; (try with_reducible rfl)
  case aT2 => kernel_rfl
  case bT2 => kernel_rfl
  case cT2 => kernel_rfl
  case dT2 => exact fun _ _ _ h => h
  case eT2 => rfl
  simp only [Act.put, List.getElem_toArray, List.getElem_cons_zero, List.getElem_cons_succ, List.setIfInBounds_toArray, List.set_cons_zero, List.set_cons_succ]
  refine wpAnyH_take (i := 2) (v := ?vT3) rfl ?aT3 ?bT3 ?cT3 ?dT3 (Or.inl ⟨?eT3, ?fT3⟩) hHeld ?gT3
  case fT3 => intro w hSw; (try dsimp only at hSw); go_simp; (try with_reducible rfl)
  case aT3 => kernel_rfl
  case bT3 => kernel_rfl
  case cT3 => kernel_rfl
  case dT3 => exact fun _ _ _ h => h
  case eT3 => rfl
  simp only [Act.put, List.getElem_toArray, List.getElem_cons_zero, List.getElem_cons_succ, List.setIfInBounds_toArray, List.set_cons_zero, List.set_cons_succ]
  refine wpAnyH_take (i := 3) (v := ?vT4) rfl ?aT4 ?bT4 ?cT4 ?dT4 (Or.inl ⟨?eT4, ?fT4⟩) hHeld ?gT4
  case fT4 => intro w hSw; (try dsimp only at hSw); go_simp; (try with_reducible rfl)
  case aT4 => kernel_rfl
  case bT4 => kernel_rfl
  case cT4 => kernel_rfl
  case dT4 => exact fun _ _ _ h => h
  case eT4 => rfl
  simp only [Act.put, List.getElem_toArray, List.getElem_cons_zero, List.getElem_cons_succ, List.setIfInBounds_toArray, List.set_cons_zero, List.set_cons_succ]
  refine wpAnyH_take (i := 5) (v := ?vT5) rfl ?aT5 ?bT5 ?cT5 ?dT5 (Or.inl ⟨?eT5, ?fT5⟩) hHeld ?gT5
  case fT5 => intro w hSw; (try dsimp only at hSw); go_simp; (try with_reducible rfl)
  case aT5 => kernel_rfl
  case bT5 => kernel_rfl
  case cT5 => kernel_rfl
  case dT5 => exact fun _ _ _ h => h
  case eT5 => rfl
  simp only [Act.put, List.getElem_toArray, List.getElem_cons_zero, List.getElem_cons_succ, List.setIfInBounds_toArray, List.set_cons_zero, List.set_cons_succ]
  refine wpAnyH_take (i := 6) (v := ?vT6) rfl ?aT6 ?bT6 ?cT6 ?dT6 (Or.inl ⟨?eT6, ?fT6⟩) hHeld ?gT6
  case fT6 => intro w hSw; (try dsimp only at hSw); go_simp; (try with_reducible rfl)
  case aT6 => kernel_rfl
  case bT6 => kernel_rfl
  case cT6 => kernel_rfl
  case dT6 => exact fun _ _ _ h => h
  case eT6 => rfl
  simp only [Act.put, List.getElem_toArray, List.getElem_cons_zero, List.getElem_cons_succ, List.setIfInBounds_toArray, List.set_cons_zero, List.set_cons_succ]
  refine wpAnyH_take (i := 7) (v := ?vT7) rfl ?aT7 ?bT7 ?cT7 ?dT7 (Or.inl ⟨?eT7, ?fT7⟩) hHeld ?gT7
  case fT7 => intro w hSw; (try dsimp only at hSw); go_simp; (try with_reducible rfl)
  case aT7 => kernel_rfl
  case bT7 => kernel_rfl
  case cT7 => kernel_rfl
  case dT7 => exact fun _ _ _ h => h
  case eT7 => rfl
  simp only [Act.put, List.getElem_toArray, List.getElem_cons_zero, List.getElem_cons_succ, List.setIfInBounds_toArray, List.set_cons_zero, List.set_cons_succ]
  refine wpAnyH_take (i := 8) (v := ?vT8) rfl ?aT8 ?bT8 ?cT8 ?dT8 (Or.inl ⟨?eT8, ?fT8⟩) hHeld ?gT8
  case fT8 => intro w hSw; (try dsimp only at hSw); go_simp; (try with_reducible rfl)
  case aT8 => kernel_rfl
  case bT8 => kernel_rfl
  case cT8 => kernel_rfl
  case dT8 => exact fun _ _ _ h => h
  case eT8 => rfl
  simp only [Act.put, List.getElem_toArray, List.getElem_cons_zero, List.getElem_cons_succ, List.setIfInBounds_toArray, List.set_cons_zero, List.set_cons_succ]
  refine wpAnyH_ready (rs := [4]) (by kernel_rfl) (by simp) ?_
  refine (AllReadyH.cons (o := _) rfl (fun K hK => ?_) AllReadyH.nil)
  go_simp
  refine (H64.out _).mono ?_
  rintro e9 w9 ⟨rfl, hw9⟩
  have hw9' : W = w9 := hw9.symm
  subst hw9'
  clear hw9
  go_wp2_with fail
  refine hK.out _ _ s0 (fun _ => ?_)
  clear hK K
  refine wpAnyH_ready (rs := [9]) (by kernel_rfl) (by simp) ?_
  refine (AllReadyH.cons (o := _) rfl (fun K hK => ?_) AllReadyH.nil)
  go_simp
  refine (H32.out _).mono ?_
  rintro e9 w9 ⟨rfl, hw9⟩
  have hw9' : W = w9 := hw9.symm
  subst hw9'
  clear hw9
  go_wp2_with fail
  refine hK.out _ _ s0 (fun _ => ?_)
  clear hK K
  refine wpAnyH_ready (rs := [10]) (by kernel_rfl) (by simp) ?_
  refine (AllReadyH.cons (o := _) rfl (fun K hK => ?_) AllReadyH.nil)
  go_simp
  have s1 : (fun w' => ((w'.cell? ⟨w.heap.size, 0, none⟩ = some (.int .u64 (a.hash : Int)) ∧ w'.cell? ⟨w.heap.size, 1, none⟩ = some (.int .u32 (a.at_ : Int))) ∧ (w'.cell? ⟨w.heap.size + 1, 0, none⟩ = some (.int .u64 (b.hash : Int)) ∧ w'.cell? ⟨w.heap.size + 1, 1, none⟩ = some (.int .u32 (b.at_ : Int))))) (W.alloc (.cells #[.int .i64 X, .int .i64 Y] 3)) := And.intro (And.intro ((HA.out.alloc _).cell 0 rfl) ((HA.out.alloc _).cell 1 rfl)) (And.intro ((HB.out.alloc _).cell 0 rfl) ((HB.out.alloc _).cell 1 rfl))
  have HR := (or_own W.heap.size X Y (W.alloc (.cells #[.int .i64 X, .int .i64 Y] 3)) (Whole.cell (Whole.new W 3 #[.int .i64 X, .int .i64 Y]) 0 rfl) (Whole.cell (Whole.new W 3 #[.int .i64 X, .int .i64 Y]) 1 rfl))
  rw [HO.out] at HR
  have HR := Lib.hid HR
  have HG := Lib.hid (HG.out.alloc (.cells #[.int .i64 X, .int .i64 Y] 3))
  refine hK.out _ _ s1 (fun _ => ?_)
  clear hK K
  refine wpAnyH_ready (rs := [11]) (by kernel_rfl) (by simp) ?_
  refine (AllReadyH.cons (o := _) rfl (fun K hK => ?_) AllReadyH.nil)
  go_simp
  refine HR.out.mono ?_
  rintro e9 w9 ⟨rfl, hw9⟩
  subst hw9
  go_wp2_with fail
  refine hK.out _ _ s1 (fun _ => ?_)
  clear hK K
  refine wpAnyH_take (i := 12) (v := ?vT9) rfl ?aT9 ?bT9 ?cT9 ?dT9 (Or.inl ⟨?eT9, ?fT9⟩) s1 ?gT9
  case fT9 => intro w hSw; (try dsimp only at hSw); go_simp; (try with_reducible rfl)
  case aT9 => kernel_rfl
  case bT9 => kernel_rfl
  case cT9 => kernel_rfl
  case dT9 => exact fun _ _ _ h => h
  case eT9 => rfl
  simp only [Act.put, List.getElem_toArray, List.getElem_cons_zero, List.getElem_cons_succ, List.setIfInBounds_toArray, List.set_cons_zero, List.set_cons_succ]
  refine wpAnyH_done (by kernel_rfl) ?_ _
  go_wp2_with fail
  go_ret
  exact ⟨rfl, by first | exact HG.out | exact HG.out.drew⟩
theorem compare_own (a b : En) (w : World) : Calls Try.prog 52 #[enV a, enV b] w fun e w' => e = .returned (.int .i64 (cmpE a b)) ∧ Keeps NoBlock w w' :=
  (compare_grown a b w).mono fun _ _ ⟨h, g⟩ => ⟨h, g.keeps⟩
theorem cmp_ok : CmpOk := ⟨fun a b w _ _ => compare_own a b w⟩
end Go.Proofs.Ytmifbohdepejaaa

namespace Go.Proofs.Ytmifbohdepejaaa
open Go.RowKit Go.Sort

theorem ltOfCell' {w : World} {a : Addr} {v : Value} (h : w.cell? a = some v) : a.block < w.heap.size := World.block_lt_of_cell? _ _ h
theorem cellG {w : World} {a : Addr} {v : Value} (h : w.cell? a = some v) (n : Nat) (os : Array Obj) : (grow (w.drewN n) os).cell? a = some v := cell_grown (ltOfCell' h) h n os
theorem keepsG {S : Nat → Prop} {w w' : World} (h : Keeps S w w') (n : Nat) (os : Array Obj) : Keeps S w (grow (w'.drewN n) os) :=
  h.then (show Grown w' _ from ⟨n, os, rfl⟩).keeps (fun _ _ h => h.elim)

set_option maxHeartbeats 4000000 in
set_option maxRecDepth 10000 in
theorem rising_own (p : Option Addr) (n c : Nat) (l : List En) (hn : n = l.length) (hn9 : n ≤ 1000000) (w : World) (hl : EnsAt w p l) :
    Calls Try.prog 30 #[.slice p n c] w fun e w' => e = .returned (.bool (risesE l)) ∧ Keeps NoBlock w w' := by
  have HL := Lib.hid hl
  have HN := Lib.hid hn
  have HCmp := Lib.hid (fun a b w => compare_grown a b w)
  unfold enV Grown at HCmp
  have mixed : Try.prog.follows .mixedOrders = true := by kernel_rfl
  clear hl hn
  go_enter Try.func30, Try.ntmps30
  go_wp2_with fail
  go_loopw [3] (fun i wr => ∃ m : Nat, m ≤ n ∧ i = .int .i64 ((m + 1 : Nat) : Int) ∧ Hid (∀ i, i + 1 < m + 1 → i + 1 < n → LessE (l.getD i En.none) (l.getD (i + 1) En.none)) ∧ Keeps NoBlock w wr) (fun i _ => n + 1 - (intOf i).toNat)
  case atStart => exact ⟨0, Nat.zero_le _, rfl, Lib.hid (fun i h => by omega), Keeps.refl _ _⟩
  case round =>
    obtain ⟨m, hm, rfl, HA, hkk⟩ := hrel
    have HK := Lib.hid hkk
    clear hkk
    by_cases hlt : m + 1 < n
    · have hdk : decide (((m + 1 : Nat) : Int) < (n : Int)) = true := decide_eq_true (by omega)
      have hdk2 : decide ((m : Int) + 1 < (n : Int)) = true := decide_eq_true (by omega)
      obtain ⟨a, rfl, c0, c1⟩ := (HL.out.keep HK.out).at_ (m + 1) (by have := HN.out; omega)
      obtain ⟨b, hb, d0, d1⟩ := (HL.out.keep HK.out).at_ m (by have := HN.out; omega)
      obtain rfl := Option.some.inj hb
      obtain ⟨r, hr⟩ : ∃ r, r = l.getD (m + 1) En.none := ⟨_, rfl⟩
      obtain ⟨s, hs⟩ : ∃ s, s = l.getD m En.none := ⟨_, rfl⟩
      rw [← hr] at c0 c1
      rw [← hs] at d0 d1
      have HRr := Lib.hid hr
      have HSs := Lib.hid hs
      clear hr hs hb
      have C0 : ∀ n os, (grow (wr.drewN n) os).cell? _ = _ := fun n os => cellG c0 n os
      have C1 : ∀ n os, (grow (wr.drewN n) os).cell? _ = _ := fun n os => cellG c1 n os
      have D0 : ∀ n os, (grow (wr.drewN n) os).cell? _ = _ := fun n os => cellG d0 n os
      have D1 : ∀ n os, (grow (wr.drewN n) os).cell? _ = _ := fun n os => cellG d1 n os
      clear c0 c1 d0 d1
      have hmn : (m : Int) < (n : Int) := by omega
      have hmn2 : m < n := by omega
      have hmn3 : (m : Int) + 1 < (n : Int) := by omega
      have hm3 : (0 : Int) ≤ (m : Int) + 1 := by omega
      have hm4 : ((m : Int) + 1).toNat = m + 1 := by omega
      have w1 : IntKind.i64.wrap (m : Int) = (m : Int) := by rw [IntKind.wrap_i64]; omega
      have hm0 : (0 : Int) ≤ (m : Int) := by omega
      have hcall := fun n os => HCmp.out s r (grow (wr.drewN n) os)
      by_cases hls : LessE s r
      · have hc : cmpE s r < 0 := cmpE_less.2 hls
        have HLs := Lib.hid hls
        obtain ⟨z, hz⟩ : ∃ z, z = cmpE s r := ⟨_, rfl⟩
        rw [← hz] at hcall hc
        have hz0 : decide (0 ≤ z) = false := decide_eq_false (by omega)
        clear hls hz
        go_wp2_with fail
        go_quiet_grown ((go_at_call 52; exact Calls.grown_of (hcall _ _)))
        go_wp2_with fail
        go_roundw
        case rel =>
          refine ⟨m + 1, by omega, by go_num, Lib.hid (fun i h h2 => ?_), by first | exact keepsG HK.out _ _ | exact (keepsG HK.out _ _).drew⟩
          by_cases he : i = m
          · rw [he, ← HRr.out, ← HSs.out]
            exact HLs.out
          · exact HA.out i (by omega) h2
        case measure => simp [intOf]; omega
      · have hc : ¬ cmpE s r < 0 := fun h => hls (cmpE_less.1 h)
        have HB : Hid (risesE l = false) := Lib.hid (by
          cases hb : risesE l
          · rfl
          · have h := risesE_adj.1 hb m (by have := HN.out; omega)
            rw [← HRr.out, ← HSs.out] at h
            exact absurd h hls)
        obtain ⟨z, hz⟩ : ∃ z, z = cmpE s r := ⟨_, rfl⟩
        rw [← hz] at hcall hc
        have hz0 : decide (0 ≤ z) = true := decide_eq_true (by omega)
        clear hls hz
        go_wp2_with fail
        go_quiet_grown ((go_at_call 52; exact Calls.grown_of (hcall _ _)))
        go_wp2_with fail
        go_ret
        rw [HB.out]
        exact ⟨rfl, by first | exact keepsG HK.out _ _ | exact (keepsG HK.out _ _).drew⟩
    · have hdk : decide (((m + 1 : Nat) : Int) < (n : Int)) = false := decide_eq_false (by omega)
      have hdk2 : decide ((m : Int) + 1 < (n : Int)) = false := decide_eq_false (by omega)
      have HB : Hid (risesE l = true) := Lib.hid (risesE_adj.2 fun i hi => HA.out i (by have := HN.out; omega) (by have := HN.out; omega))
      go_wp2_with fail
      go_ret
      rw [HB.out]
      exact ⟨rfl, HK.out⟩
theorem ris_ok : RisOk := ⟨fun p n c l w h h9 => rising_own p n c l h.len (by omega) w h.at_⟩
end Go.Proofs.Ytmifbohdepejaaa

namespace Go.Proofs.Ytmifbohdepejaaa
open Go.RowKit

set_option maxHeartbeats 1000000 in
set_option maxRecDepth 10000 in
theorem above_own (r : En) (u b : Nat) (W : World) (hb : W.cell? ⟨b, 0, none⟩ = some (.int .u32 (u : Int))) :
    Calls Try.prog 63 #[enV r, .pointer (some ⟨b, 0, none⟩)] W fun e w' => e = .returned (.bool (decide (u ≤ r.at_))) ∧ Keeps NoBlock W w' := by
  have hlt := ltOfCell hb
  have HR := Lib.hid (Whole.new W 49 #[.int .u64 (r.hash : Int), .int .u32 (r.at_ : Int)])
  have HK := Lib.hid ((Keeps.refl NoBlock W).alloc (.cells #[.int .u64 (r.hash : Int), .int .u32 (r.at_ : Int)] 49))
  have b1 : (W.alloc (.cells #[.int .u64 (r.hash : Int), .int .u32 (r.at_ : Int)] 49)).cell? ⟨b, 0, none⟩ = some (.int .u32 (u : Int)) := HK.out.cell hb (fun h => h)
  have c1 := HR.out.cell 1 rfl
  simp only [List.getElem_toArray, List.getElem_cons_zero, List.getElem_cons_succ] at c1
  unfold enV
  go_enter Try.func63, Try.ntmps63
  go_wp2_with fail
  go_ret
  exact ⟨by first | rfl | simp, HK.out⟩

set_option maxHeartbeats 2000000 in
set_option maxRecDepth 10000 in
theorem indexf_own (u b : Nat) (p : Option Addr) (n c : Nat) (l : List En) (hn : n = l.length) (hn9 : n ≤ 1000000) (w : World)
    (hb : w.cell? ⟨b, 0, none⟩ = some (.int .u32 (u : Int))) (hat : EnsAt w p l) :
    Calls Try.prog 98 #[.slice p n c, .func (.func 63) #[] #[.pointer (some ⟨b, 0, none⟩)]] w fun e w' => ∃ z : Int, e = .returned (.int .i64 z) ∧ (0 ≤ z ↔ ∃ x ∈ l, u ≤ x.at_) ∧ Keeps NoBlock w w' := by
  have HL := Lib.hid hat
  have HB := Lib.hid hb
  have HN := Lib.hid hn
  have HA := Lib.hid (fun (r : En) (W : World) (h : W.cell? ⟨b, 0, none⟩ = some (.int .u32 (u : Int))) => above_own r u b W h)
  unfold enV at HA
  clear hat hb hn
  go_enter Try.func98, Try.ntmps98
  go_wp2_with fail
  go_loopw [8] (fun i wr => ∃ m : Nat, m ≤ n ∧ i = .int .i64 (m : Int) ∧ Hid (∀ i, i < m → (l.getD i En.none).at_ < u) ∧ Hid (Keeps NoBlock w wr)) (fun i _ => n - (intOf i).toNat)
  case atStart => exact ⟨0, Nat.zero_le _, rfl, Lib.hid (fun i h => by omega), Lib.hid (Keeps.refl _ _)⟩
  case round =>
    obtain ⟨m, hm, rfl, HS, HK⟩ := hrel
    by_cases hlt : m < n
    · have hd : decide ((m : Int) < (n : Int)) = true := decide_eq_true (by omega)
      have hin : (m : Int) < (n : Int) := by omega
      obtain ⟨a, rfl, c0, c1⟩ := (HL.out.keep HK.out).at_ m (by have := HN.out; omega)
      obtain ⟨r, hr⟩ : ∃ r, r = l.getD m En.none := ⟨_, rfl⟩
      rw [← hr] at c0 c1
      have HRr := Lib.hid hr
      clear hr
      have HC := Lib.hid (HA.out r wr (HK.out.cell HB.out (fun h => h)))
      by_cases hge : u ≤ r.at_
      · rw [decide_eq_true hge] at HC
        have HG := Lib.hid hge
        clear hge
        go_wp2_with fail
        refine HC.out.mono ?_
        rintro e w2 ⟨rfl, hk⟩
        have HKn := Lib.hid (HK.out.trans hk)
        clear hk
        go_wp2_with fail
        go_ret
        refine ⟨(m : Int), rfl, ⟨fun _ => ⟨r, ?_, HG.out⟩, fun _ => by omega⟩, HKn.out⟩
        rw [HRr.out, List.getD_eq_getElem?_getD, List.getElem?_eq_getElem (by have := HN.out; omega)]
        exact List.getElem_mem _
      · rw [decide_eq_false hge] at HC
        have HG := Lib.hid hge
        clear hge
        go_wp2_with fail
        refine HC.out.mono ?_
        rintro e w2 ⟨rfl, hk⟩
        have HKn := Lib.hid (HK.out.trans hk)
        clear hk
        go_wp2_with fail
        go_roundw
        case rel =>
          refine ⟨m + 1, by omega, by go_num, Lib.hid (fun i hi => ?_), HKn⟩
          by_cases e : i = m
          · subst e
            rw [← HRr.out]
            have := HG.out
            omega
          · exact HS.out i (by omega)
        case measure => simp [intOf]; omega
    · have hd : decide ((m : Int) < (n : Int)) = false := decide_eq_false (by omega)
      obtain rfl : m = n := by omega
      go_wp2_with fail
      go_ret
      refine ⟨-1, rfl, ⟨fun h => absurd h (by decide), fun ⟨x, hx, hu⟩ => ?_⟩, HK.out⟩
      obtain ⟨i, hi, rfl⟩ := List.getElem_of_mem hx
      have := HS.out i (by have := HN.out; omega)
      rw [List.getD_eq_getElem?_getD, List.getElem?_eq_getElem hi] at this
      exact absurd hu (by simpa using this)

theorem below_any (u : Nat) (l : List En) : belowFt ⟨u, l⟩ = false ↔ ∃ x ∈ l, u ≤ x.at_ := by
  unfold belowFt
  rw [List.all_eq_false]
  constructor
  · rintro ⟨x, hx, h⟩
    exact ⟨x, hx, by simpa using h⟩
  · rintro ⟨x, hx, h⟩
    exact ⟨x, hx, by simpa using h⟩

set_option maxHeartbeats 1000000 in
set_option maxRecDepth 10000 in
theorem containsf_own (u b : Nat) (p : Option Addr) (n c : Nat) (l : List En) (hn : n = l.length) (hn9 : n ≤ 1000000) (w : World)
    (hb : w.cell? ⟨b, 0, none⟩ = some (.int .u32 (u : Int))) (hat : EnsAt w p l) :
    Calls Try.prog 62 #[.slice p n c, .func (.func 63) #[] #[.pointer (some ⟨b, 0, none⟩)]] w fun e w' => e = .returned (.bool (!belowFt ⟨u, l⟩)) ∧ Keeps NoBlock w w' := by
  have HI := Lib.hid (indexf_own u b p n c l hn hn9 w hb hat)
  have hany := below_any u l
  obtain ⟨t, ht⟩ : ∃ t, t = belowFt ⟨u, l⟩ := ⟨_, rfl⟩
  rw [← ht] at hany ⊢
  have HA := Lib.hid hany
  clear hn hn9 hb hat ht hany
  go_enter Try.func62, Try.ntmps62
  go_wp2_with fail
  refine HI.out.mono ?_
  rintro e w1 ⟨z, rfl, hz, hk⟩
  have HK := Lib.hid hk
  have hd : decide (0 ≤ z) = !t := by
    cases t
    · exact decide_eq_true (hz.2 (HA.out.1 rfl))
    · exact decide_eq_false (fun h => by have := HA.out.2 (hz.1 h); simp at this)
  clear hz hk HI
  go_wp2_with fail
  go_ret
  exact ⟨by first | rfl | simp, HK.out⟩

set_option maxHeartbeats 1000000 in
set_option maxRecDepth 10000 in
theorem allbelow_own (u : Nat) (p : Option Addr) (n c : Nat) (l : List En) (hn : n = l.length) (hn9 : n ≤ 1000000) (w : World) (hat : EnsAt w p l) :
    Calls Try.prog 31 #[.slice p n c, .int .u32 (u : Int)] w fun e w' => e = .returned (.bool (belowFt ⟨u, l⟩)) ∧ Keeps NoBlock w w' := by
  have HW := Lib.hid (Whole.new w 22 #[.int .u32 (u : Int)])
  have HK := Lib.hid ((Keeps.refl NoBlock w).alloc (.cells #[.int .u32 (u : Int)] 22))
  have HC := Lib.hid (containsf_own u w.heap.size p n c l hn hn9 _ (HW.out.cell 0 rfl) (EnsAt.keep hat HK.out))
  obtain ⟨t, ht⟩ : ∃ t, t = belowFt ⟨u, l⟩ := ⟨_, rfl⟩
  rw [← ht] at HC ⊢
  clear hn hn9 hat ht
  go_enter Try.func31, Try.ntmps31
  go_wp2_with fail
  refine HC.out.mono ?_
  rintro e w1 ⟨rfl, hk⟩
  have HK1 := Lib.hid (HK.out.trans hk)
  clear hk HC
  go_wp2_with fail
  go_ret
  exact ⟨by first | rfl | simp, HK1.out⟩

set_option maxHeartbeats 2000000 in
set_option maxRecDepth 10000 in
theorem ftcheck_own (u : Nat) (q : Option Addr) (n c : Nat) (l : List En) (w : World) (hi : InE w q n c l) (hn9 : n ≤ 100000) :
    Calls Try.prog 12 #[ftV u q n c] w fun e w' => e = .returned (.int .i64 (checkFt ⟨u, l⟩)) ∧ Keeps NoBlock w w' := by
  have HR := Lib.hid (Whole.new w 25 #[.int .u32 (u : Int), .slice q n c])
  have HK := Lib.hid ((Keeps.refl NoBlock w).alloc (.cells #[.int .u32 (u : Int), .slice q n c] 25))
  have hat := EnsAt.keep hi.at_ HK.out
  have c0 := HR.out.cell 0 rfl
  have c1 := HR.out.cell 1 rfl
  simp only [List.getElem_toArray, List.getElem_cons_zero, List.getElem_cons_succ] at c0 c1
  have hdef : checkFt ⟨u, l⟩ = if n < 1 then 4 else if 1048576 < n then 3 else if risesE l = true then (if belowFt ⟨u, l⟩ = true then 0 else 4) else 8 := by rw [hi.len]; rfl
  rw [hdef, if_neg (show ¬ 1048576 < n by omega)]
  have hd3 : decide ((1048576 : Int) < (n : Int)) = false := decide_eq_false (by omega)
  have hd4 : decide (1048576 < n) = false := decide_eq_false (by omega)
  by_cases h0 : n < 1
  · obtain rfl : n = 0 := by omega
    rw [if_pos (by omega)]
    clear hi hat hdef hn9
    unfold ftV
    go_enter Try.func12, Try.ntmps12
    go_wp2_with fail
    go_ret
    exact ⟨rfl, HK.out⟩
  · rw [if_neg h0]
    have hn1 : decide (n = 0) = false := decide_eq_false (by omega)
    have hn2 : ¬ n = 0 := by omega
    have HRi := Lib.hid (rising_own q n c l hi.len (by omega) _ hat)
    cases hr : risesE l
    · rw [hr] at HRi
      rw [if_neg (by simp)]
      clear hi hat hdef hn9 h0 hr
      unfold ftV
      go_enter Try.func12, Try.ntmps12
      go_wp2_with fail
      refine HRi.out.mono ?_
      rintro e w1 ⟨rfl, hk⟩
      have HK1 := Lib.hid (HK.out.trans hk)
      clear hk
      go_wp2_with fail
      go_ret
      exact ⟨rfl, HK1.out⟩
    · rw [hr] at HRi
      rw [if_pos rfl]
      have HA := Lib.hid (fun w1 (hk : Keeps NoBlock (w.alloc (.cells #[.int .u32 (u : Int), .slice q n c] 25)) w1) => allbelow_own u q n c l hi.len (by omega) w1 (EnsAt.keep hat hk))
      obtain ⟨t, ht⟩ : ∃ t, t = belowFt ⟨u, l⟩ := ⟨_, rfl⟩
      rw [← ht] at HA ⊢
      clear hi hat hdef hn9 h0 hr ht
      unfold ftV
      go_enter Try.func12, Try.ntmps12
      go_wp2_with fail
      refine HRi.out.mono ?_
      rintro e w1 ⟨rfl, hk⟩
      have HW1 := Lib.hid (HR.out.keep hk (fun h => h))
      have HK1 := Lib.hid (HK.out.trans hk)
      have HA1 := Lib.hid (HA.out w1 hk)
      clear hk c0 c1 HA HRi
      have c0 := HW1.out.cell 0 rfl
      have c1 := HW1.out.cell 1 rfl
      simp only [List.getElem_toArray, List.getElem_cons_zero, List.getElem_cons_succ] at c0 c1
      go_wp2_with fail
      refine HA1.out.mono ?_
      rintro e w2 ⟨rfl, hk⟩
      have HK2 := Lib.hid (HK1.out.trans hk)
      clear hk HA1
      cases t
      · go_wp2_with fail
        go_ret
        exact ⟨rfl, HK2.out⟩
      · go_wp2_with fail
        go_ret
        exact ⟨rfl, HK2.out⟩
theorem ftck_ok : FtCkOk := ⟨fun u q n c l w _ h h9 => ftcheck_own u q n c l w h h9⟩
end Go.Proofs.Ytmifbohdepejaaa

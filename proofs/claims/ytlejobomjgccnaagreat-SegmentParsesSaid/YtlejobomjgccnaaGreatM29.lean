/-
  FrSeal; FtBelow; FtPut; SgPlace; PkPlan; PkLaws; FtMine.
-/
import Derived.Test.YtlejobomjgccnaaGreatM03
import Derived.Test.YtlejobomjgccnaaGreatM05
import Derived.Test.YtlejobomjgccnaaGreatM09
import Derived.Test.YtlejobomjgccnaaGreatM10
import Derived.Test.YtlejobomjgccnaaGreatM11
import Derived.Test.YtlejobomjgccnaaGreatM12
import Derived.Test.YtlejobomjgccnaaGreatM13
import Derived.Test.YtlejobomjgccnaaGreatM15
import Derived.Test.YtlejobomjgccnaaGreatM17
import Derived.Test.YtlejobomjgccnaaGreatM19
import Derived.Test.YtlejobomjgccnaaGreatM20
import Derived.Test.YtlejobomjgccnaaGreatM21
import Derived.Test.YtlejobomjgccnaaGreatM22
import Derived.Test.YtlejobomjgccnaaGreatM23
import Derived.Test.YtlejobomjgccnaaGreatM26
import Derived.Test.YtlejobomjgccnaaGreatM27
import Derived.Test.YtlejobomjgccnaaGreatM28
namespace Go.Proofs.YtlejobomjgccnaaGreat
open Go.RowKit

/-- Stuff's bytes are its own. -/
theorem stuff_own (p : Option Addr) (N c : Nat) (xs : List Int) (w : World) (h : In8 w p N c xs) (hN : N ≤ 1000000) :
    Calls Tryz.prog 84 #[.slice p N c] w fun e w' => ∃ v, e = .returned v ∧ Copied w (stuff xs).length (stuff xs) v w' := by
  refine (callsIn_wide.1 (stuff_in 3 (Nat.le_refl _) p N c xs w h.len h.cap h.room h.bare h.oct hN h.at_)).mono ?_
  rintro e w' ⟨v, rfl, h⟩
  rw [← stuff_groups] at h
  exact ⟨v, rfl, h⟩

/-- A row of bytes of one's own, made behind w. -/
def NewRow8 (w : World) (ys : List Int) (v : Value) (w' : World) : Prop := w'.ownsRow w.heap.size 5 1 v ys.length (ys.map (Value.int .u8))
theorem row_lower {w : World} {b1 b2 size n : Nat} {t : TypeId} {v : Value} {xs : List Value} (h : w.ownsRow b1 t size v n xs) (hb : b2 ≤ b1) : w.ownsRow b2 t size v n xs := by
  refine ⟨h.1, ?_⟩
  rcases h.2 with hn | ⟨g, cap, cur, rfl, hg, rest⟩
  · exact .inl hn
  · exact .inr ⟨g, cap, cur, rfl, Nat.le_trans hb hg, rest⟩

set_option maxHeartbeats 4000000 in
set_option maxRecDepth 10000 in
theorem seal_both (p : Option Addr) (N c : Nat) (xs : List Int) (w : World) (h : In8 w p N c xs) (hN : N ≤ 500000) :
    Calls Tryz.prog 51 #[.slice p N c] w fun e w' => ∃ v, e = .returned v ∧ NewBytes w (sealN xs) v w' ∧ NewRow8 w (sealN xs) v w' := by
  have hu := wxxh_u64 0 xs
  have hl := h.len
  have hSl : (xs ++ sumB xs).length = N + 8 := by rw [List.length_append, sumB_length]; omega
  have hso : Octets (xs ++ sumB xs) := h.oct.app (sumB_octets xs)
  have hcl : (stuff (xs ++ sumB xs)).length ≤ 2000000 := Nat.le_trans (stuff_most _) (Nat.le_trans (mostOf_le _) (by omega))
  have hcp : 0 < (stuff (xs ++ sumB xs)).length := List.length_pos_iff.2 (stuff_pos _)
  have HAt := Lib.hid h.at_
  have HRaw := Lib.hid (fun W (hb : BufAt W w.heap.size w.heap.size []) (h8 : Bytes8 W p xs) (hs : w.heap.size ≤ W.heap.size) =>
    (show Calls Tryz.prog 81 #[.pointer (some ⟨w.heap.size, 0, none⟩), .slice p N c] W (BufOk w.heap.size w.heap.size xs W) from bufRaw w.heap.size w.heap.size [] xs p N c W hb hl h8 h.bare (Nat.le_refl _) hs (by simp; omega)))
  have HSum := Lib.hid (fun W (h8 : Bytes8 W p xs) => sum_wide 0 u64_zero p N c xs hl h.cap h.room h.bare h.oct (by omega) W h8)
  have HEi := Lib.hid (fun W (hb : BufAt W w.heap.size w.heap.size xs) (hs : w.heap.size ≤ W.heap.size) =>
    (show Calls Tryz.prog 82 #[.pointer (some ⟨w.heap.size, 0, none⟩), .int .u64 (wxxh 0 xs)] W (BufOk w.heap.size w.heap.size (xs ++ sumB xs) W) from bufEight w.heap.size w.heap.size xs (wxxh 0 xs) W hb (Nat.le_refl _) hs (by omega) hu.1 hu.2))
  have HBy := Lib.hid (fun W (hb : BufAt W w.heap.size w.heap.size (xs ++ sumB xs)) => bufBytes w.heap.size w.heap.size (xs ++ sumB xs) W hb (by omega))
  rw [hSl] at HBy
  have HSt := Lib.hid (fun q d W (h8 : Bytes8 W q (xs ++ sumB xs)) (hd : N + 8 ≤ d) (hd' : d ≤ 9223372036854775807) (hq : q = none → N + 8 = 0 ∧ d = 0) => stuff_own q (N + 8) d (xs ++ sumB xs) W ⟨hSl.symm, hd, hd', hq, hso, h8⟩ (by omega))
  obtain ⟨z, hz⟩ : ∃ z, z = wxxh 0 xs := ⟨_, rfl⟩
  rw [← hz] at HSum HEi
  have hdef : sealN xs = stuff (xs ++ sumB xs) ++ [0] := rfl
  obtain ⟨T, hT⟩ : ∃ T, T = xs ++ sumB xs := ⟨_, rfl⟩
  rw [← hT] at HEi HBy HSt hdef hcl hcp
  have hT8 : 0 < T.length := by rw [hT, hSl]; omega
  obtain ⟨C, hC⟩ : ∃ C, C = stuff T := ⟨_, rfl⟩
  rw [← hC] at HSt hdef hcl hcp
  obtain ⟨M, hM⟩ : ∃ M, M = N + 8 := ⟨_, rfl⟩
  rw [← hM] at HBy HSt
  obtain ⟨L, hL⟩ : ∃ L, L = C.length := ⟨_, rfl⟩
  rw [← hL] at HSt hcl hcp
  have HDef := Lib.hid hdef
  have HL := Lib.hid hL
  clear h hu hl hSl hso hz hT hC hM hdef hL hN
  go_enter Tryz.func51, Tryz.ntmps51
  go_wp2_with fail
  refine (HRaw.out _ (bufNewB w w.heap.size) (HAt.out.keep ((Keeps.refl NoBlock w).alloc _) (fun _ _ h => h)) (by simp)).mono ?_
  rintro e w1 ⟨rfl, hb1, hk1⟩
  have HB1 := Lib.hid hb1
  have HK1 := Lib.hid (((Keeps.refl NoBlock w).alloc (.cells #[.slice none 0 0] 102)).then (Keeps.ofBelowAt hk1) (fun i hi h => by omega))
  clear hb1 hk1
  go_wp2_with fail
  refine (HSum.out _ (HAt.out.keep HK1.out (fun _ _ h => h))).mono ?_
  rintro e w2 ⟨rfl, hk2⟩
  have HB2 := Lib.hid (HB1.out.keepO hk2 (fun h => h) (fun _ _ _ _ h => h))
  have HK2 := Lib.hid (HK1.out.trans hk2)
  clear hk2
  go_wp2_with fail
  refine (HEi.out _ HB2.out HK2.out.size).mono ?_
  rintro e w3 ⟨rfl, hb3, hk3⟩
  have HB3 := Lib.hid hb3
  have HK3 := Lib.hid (HK2.out.then (Keeps.ofBelowAt hk3) (fun i hi h => by omega))
  clear hb3 hk3
  go_wp2_with fail
  refine (HBy.out _ HB3.out).mono ?_
  rintro e w4 ⟨v4, rfl, q, d, rfl, hd, hd', hby, hq, hk4⟩
  have HBy4 := Lib.hid hby
  have HK4 := Lib.hid (HK3.out.trans hk4)
  have HQ4 : Hid (q = none → M = 0 ∧ d = 0) := Lib.hid (fun h0 => by
    obtain ⟨a, ha, _⟩ := HBy4.out hT8
    rw [h0] at ha
    simp at ha)
  have hd9 : d ≤ 9223372036854775807 := by first | omega | (unfold maxLen at hd'; omega) | exact hd'
  clear hby hq hk4
  go_wp2_with fail
  refine (HSt.out q d _ HBy4.out hd hd9 HQ4.out).mono ?_
  rintro e w5 ⟨v5, rfl, hown, hbel⟩
  have HO5 := Lib.hid hown
  have HBel := Lib.hid hbel
  have hbs := hbel.size
  have HBs := Lib.hid hbs
  clear hown hbel hbs
  go_wp2_with (at_builtin; refine wpList_append_bytes rfl _ _ rfl w4.heap.size _ L C rfl (HO5.out.alloc _) (some ⟨w5.heap.size, 0, none⟩) 1 1 [0] rfl (fun h => by simp at h) rfl (Bytes8.ofNew1 _ _ _ _) (by omega) (by have := HBs.out; simp; omega) ?_)
  intro v6 w6 h6 hb6
  have hbe : Below w4.heap.size w4 w6 := (HBel.out.alloc HBs.out _).trans hb6
  obtain ⟨q6, d6, rfl, h61, h62, h63, h64⟩ := Copied.read2 (show Copied w4 (L + 1) (C ++ [0]) v6 w6 from ⟨by rw [List.map_append]; exact h6, hbe⟩) (by rw [List.length_append, ← HL.out]; rfl)
  have HR6 := Lib.hid (show NewRow8 w (C ++ [0]) (.slice q6 (L + 1) d6) w6 from by
    unfold NewRow8
    rw [List.length_append, ← HL.out, List.map_append]
    exact row_lower h6 HK4.out.size)
  have HN6 := Lib.hid (show NewBytes w (C ++ [0]) (.slice q6 (L + 1) d6) w6 from ⟨q6, L + 1, d6, rfl, by rw [List.length_append, ← HL.out]; rfl, h61, h62, h64, h63, HK4.out.then (Keeps.ofBelowAt hbe) (fun i hi h => by have := HK4.out.size; omega)⟩)
  clear h6 hb6 hbe h61 h62 h63 h64
  go_wp2_with fail
  go_ret
  rw [HDef.out]
  exact ⟨_, rfl, HN6.out, HR6.out⟩

theorem seal_own (p : Option Addr) (N c : Nat) (xs : List Int) (w : World) (h : In8 w p N c xs) (hN : N ≤ 500000) :
    Calls Tryz.prog 51 #[.slice p N c] w fun e w' => ∃ v, e = .returned v ∧ NewBytes w (sealN xs) v w' :=
  (seal_both p N c xs w h hN).mono fun _ _ ⟨v, h1, h2, _⟩ => ⟨v, h1, h2⟩

set_option maxHeartbeats 1000000 in
set_option maxRecDepth 10000 in
theorem fsize_own (z : Int) (w : World) (h0 : -50000000 ≤ z) (h1 : z ≤ 50000000) : Calls Tryz.prog 150 #[.int .i64 z] w fun e w' => e = .returned (.int .i64 ((sizeN z.toNat : Nat) : Int)) ∧ Keeps NoBlock w w' := by
  have hle := mostOf_le (z.toNat + 8)
  obtain ⟨k, hk⟩ : ∃ k, k = z.toNat := ⟨_, rfl⟩
  rw [← hk] at hle
  have HM := Lib.hid (fun (y : Int) (hy : y = (k : Int) + 8) w => most_cobs y w (by omega) (by omega))
  have HM := Lib.hid (fun (y : Int) (hy : y = (k : Int) + 8) w => (show Calls Tryz.prog 113 #[.int .i64 y] w fun e w' => e = .returned (.int .i64 ((mostOf (k + 8) : Nat) : Int)) ∧ w' = w from by
    have h := HM.out y hy w
    rwa [show y.toNat = k + 8 by omega] at h))
  rw [← hk]
  unfold sizeN
  obtain ⟨m, hm⟩ : ∃ m, m = mostOf (k + 8) := ⟨_, rfl⟩
  rw [← hm] at HM hle ⊢
  have w1 : IntKind.i64.wrap ((k : Int) + 8) = (k : Int) + 8 := by rw [IntKind.wrap_i64]; omega
  have w2 : IntKind.i64.wrap ((m : Int) + 1) = (m : Int) + 1 := by rw [IntKind.wrap_i64]; omega
  clear hm
  by_cases hz : z ≤ 0
  · obtain rfl : k = 0 := by omega
    clear hk
    go_enter Tryz.func150, Tryz.ntmps150
    go_wp2_with fail
    refine (HM.out _ (by first | rfl | omega | (simp; done)) _).mono ?_
    rintro e w3 ⟨rfl, rfl⟩
    go_wp2_with fail
    go_ret
    exact ⟨by first | rfl | (rw [w2]; push_cast; rfl), Keeps.refl _ _⟩
  · obtain rfl : z = (k : Int) := by omega
    have hz2 : ¬ (k : Int) ≤ 0 := hz
    clear hk
    go_enter Tryz.func150, Tryz.ntmps150
    go_wp2_with fail
    refine (HM.out _ (by first | rfl | omega | (simp; done)) _).mono ?_
    rintro e w3 ⟨rfl, rfl⟩
    go_wp2_with fail
    go_ret
    exact ⟨by first | rfl | (rw [w2]; push_cast; rfl), Keeps.refl _ _⟩
end Go.Proofs.YtlejobomjgccnaaGreat

namespace Go.Proofs.YtlejobomjgccnaaGreat
open Go.RowKit

set_option maxHeartbeats 1000000 in
set_option maxRecDepth 10000 in
theorem above_own (r : En) (u b : Nat) (W : World) (hb : W.cell? ⟨b, 0, none⟩ = some (.int .u32 (u : Int))) :
    Calls Tryz.prog 152 #[enV r, .pointer (some ⟨b, 0, none⟩)] W fun e w' => e = .returned (.bool (decide (u ≤ r.at_))) ∧ Keeps NoBlock W w' := by
  have hlt := ltOfCell hb
  have HR := Lib.hid (Whole.new W 80 #[.int .u64 (r.hash : Int), .int .u32 (r.at_ : Int)])
  have HK := Lib.hid ((Keeps.refl NoBlock W).alloc (.cells #[.int .u64 (r.hash : Int), .int .u32 (r.at_ : Int)] 80))
  have b1 : (W.alloc (.cells #[.int .u64 (r.hash : Int), .int .u32 (r.at_ : Int)] 80)).cell? ⟨b, 0, none⟩ = some (.int .u32 (u : Int)) := HK.out.cell hb (fun h => h)
  have c1 := HR.out.cell 1 rfl
  simp only [List.getElem_toArray, List.getElem_cons_zero, List.getElem_cons_succ] at c1
  unfold enV
  go_enter Tryz.func152, Tryz.ntmps152
  go_wp2_with fail
  go_ret
  exact ⟨by first | rfl | simp, HK.out⟩

set_option maxHeartbeats 2000000 in
set_option maxRecDepth 10000 in
theorem indexf_own (u b : Nat) (p : Option Addr) (n c : Nat) (l : List En) (hn : n = l.length) (hn9 : n ≤ 1000000) (w : World)
    (hb : w.cell? ⟨b, 0, none⟩ = some (.int .u32 (u : Int))) (hat : EnsAt w p l) :
    Calls Tryz.prog 178 #[.slice p n c, .func (.func 152) #[] #[.pointer (some ⟨b, 0, none⟩)]] w fun e w' => ∃ z : Int, e = .returned (.int .i64 z) ∧ (0 ≤ z ↔ ∃ x ∈ l, u ≤ x.at_) ∧ Keeps NoBlock w w' := by
  have HL := Lib.hid hat
  have HB := Lib.hid hb
  have HN := Lib.hid hn
  have HA := Lib.hid (fun (r : En) (W : World) (h : W.cell? ⟨b, 0, none⟩ = some (.int .u32 (u : Int))) => above_own r u b W h)
  unfold enV at HA
  clear hat hb hn
  go_enter Tryz.func178, Tryz.ntmps178
  go_wp2_with fail
  go_loopw [8] (fun i wr => ∃ m : Nat, m ≤ n ∧ i = .int .i64 (m : Int) ∧ Hid (∀ i, i < m → (l.getD i En.none).at_ < u) ∧ Hid (Keeps NoBlock w wr)) (fun i _ => n - (intOf i).toNat)
  case atStart => exact ⟨0, Nat.zero_le _, rfl, Lib.hid (fun i h => by omega), Lib.hid (Keeps.refl _ _)⟩
  case round =>
    obtain ⟨m, hm, rfl, HS, HK⟩ := hrel
    by_cases hlt : m < n
    · have hd : decide ((m : Int) < (n : Int)) = true := decide_eq_true (by omega)
      have hin : (m : Int) < (n : Int) := by omega
      obtain ⟨a, rfl, c0, c1⟩ := (HL.out.keep HK.out).at_ m (by have := HN.out; omega)
      obtain ⟨r, hr⟩ : ∃ r, r = l.getD m En.none := ⟨_, rfl⟩
      rw [← hr] at c0 c1
      have HRr := Lib.hid hr
      clear hr
      have HC := Lib.hid (HA.out r wr (HK.out.cell HB.out (fun h => h)))
      by_cases hge : u ≤ r.at_
      · rw [decide_eq_true hge] at HC
        have HG := Lib.hid hge
        clear hge
        go_wp2_with fail
        refine HC.out.mono ?_
        rintro e w2 ⟨rfl, hk⟩
        have HKn := Lib.hid (HK.out.trans hk)
        clear hk
        go_wp2_with fail
        go_ret
        refine ⟨(m : Int), rfl, ⟨fun _ => ⟨r, ?_, HG.out⟩, fun _ => by omega⟩, HKn.out⟩
        rw [HRr.out, List.getD_eq_getElem?_getD, List.getElem?_eq_getElem (by have := HN.out; omega)]
        exact List.getElem_mem _
      · rw [decide_eq_false hge] at HC
        have HG := Lib.hid hge
        clear hge
        go_wp2_with fail
        refine HC.out.mono ?_
        rintro e w2 ⟨rfl, hk⟩
        have HKn := Lib.hid (HK.out.trans hk)
        clear hk
        go_wp2_with fail
        go_roundw
        case rel =>
          refine ⟨m + 1, by omega, by go_num, Lib.hid (fun i hi => ?_), HKn⟩
          by_cases e : i = m
          · subst e
            rw [← HRr.out]
            have := HG.out
            omega
          · exact HS.out i (by omega)
        case measure => simp [intOf]; omega
    · have hd : decide ((m : Int) < (n : Int)) = false := decide_eq_false (by omega)
      obtain rfl : m = n := by omega
      go_wp2_with fail
      go_ret
      refine ⟨-1, rfl, ⟨fun h => absurd h (by decide), fun ⟨x, hx, hu⟩ => ?_⟩, HK.out⟩
      obtain ⟨i, hi, rfl⟩ := List.getElem_of_mem hx
      have := HS.out i (by have := HN.out; omega)
      rw [List.getD_eq_getElem?_getD, List.getElem?_eq_getElem hi] at this
      exact absurd hu (by simpa using this)

theorem below_any (u : Nat) (l : List En) : belowFt ⟨u, l⟩ = false ↔ ∃ x ∈ l, u ≤ x.at_ := by
  unfold belowFt
  rw [List.all_eq_false]
  constructor
  · rintro ⟨x, hx, h⟩
    exact ⟨x, hx, by simpa using h⟩
  · rintro ⟨x, hx, h⟩
    exact ⟨x, hx, by simpa using h⟩

set_option maxHeartbeats 1000000 in
set_option maxRecDepth 10000 in
theorem containsf_own (u b : Nat) (p : Option Addr) (n c : Nat) (l : List En) (hn : n = l.length) (hn9 : n ≤ 1000000) (w : World)
    (hb : w.cell? ⟨b, 0, none⟩ = some (.int .u32 (u : Int))) (hat : EnsAt w p l) :
    Calls Tryz.prog 151 #[.slice p n c, .func (.func 152) #[] #[.pointer (some ⟨b, 0, none⟩)]] w fun e w' => e = .returned (.bool (!belowFt ⟨u, l⟩)) ∧ Keeps NoBlock w w' := by
  have HI := Lib.hid (indexf_own u b p n c l hn hn9 w hb hat)
  have hany := below_any u l
  obtain ⟨t, ht⟩ : ∃ t, t = belowFt ⟨u, l⟩ := ⟨_, rfl⟩
  rw [← ht] at hany ⊢
  have HA := Lib.hid hany
  clear hn hn9 hb hat ht hany
  go_enter Tryz.func151, Tryz.ntmps151
  go_wp2_with fail
  refine HI.out.mono ?_
  rintro e w1 ⟨z, rfl, hz, hk⟩
  have HK := Lib.hid hk
  have hd : decide (0 ≤ z) = !t := by
    cases t
    · exact decide_eq_true (hz.2 (HA.out.1 rfl))
    · exact decide_eq_false (fun h => by have := HA.out.2 (hz.1 h); simp at this)
  clear hz hk HI
  go_wp2_with fail
  go_ret
  exact ⟨by first | rfl | simp, HK.out⟩

set_option maxHeartbeats 1000000 in
set_option maxRecDepth 10000 in
theorem allbelow_own (u : Nat) (p : Option Addr) (n c : Nat) (l : List En) (hn : n = l.length) (hn9 : n ≤ 1000000) (w : World) (hat : EnsAt w p l) :
    Calls Tryz.prog 117 #[.slice p n c, .int .u32 (u : Int)] w fun e w' => e = .returned (.bool (belowFt ⟨u, l⟩)) ∧ Keeps NoBlock w w' := by
  have HW := Lib.hid (Whole.new w 22 #[.int .u32 (u : Int)])
  have HK := Lib.hid ((Keeps.refl NoBlock w).alloc (.cells #[.int .u32 (u : Int)] 22))
  have HC := Lib.hid (containsf_own u w.heap.size p n c l hn hn9 _ (HW.out.cell 0 rfl) (EnsAt.keep hat HK.out))
  obtain ⟨t, ht⟩ : ∃ t, t = belowFt ⟨u, l⟩ := ⟨_, rfl⟩
  rw [← ht] at HC ⊢
  clear hn hn9 hat ht
  go_enter Tryz.func117, Tryz.ntmps117
  go_wp2_with fail
  refine HC.out.mono ?_
  rintro e w1 ⟨rfl, hk⟩
  have HK1 := Lib.hid (HK.out.trans hk)
  clear hk HC
  go_wp2_with fail
  go_ret
  exact ⟨by first | rfl | simp, HK1.out⟩

set_option maxHeartbeats 2000000 in
set_option maxRecDepth 10000 in
theorem ftcheck_own (u : Nat) (q : Option Addr) (n c : Nat) (l : List En) (w : World) (hi : InE w q n c l) (hn9 : n ≤ 100000) :
    Calls Tryz.prog 90 #[ftV u q n c] w fun e w' => e = .returned (.int .i64 (checkFt ⟨u, l⟩)) ∧ Keeps NoBlock w w' := by
  have HR := Lib.hid (Whole.new w 119 #[.int .u32 (u : Int), .slice q n c])
  have HK := Lib.hid ((Keeps.refl NoBlock w).alloc (.cells #[.int .u32 (u : Int), .slice q n c] 119))
  have hat := EnsAt.keep hi.at_ HK.out
  have c0 := HR.out.cell 0 rfl
  have c1 := HR.out.cell 1 rfl
  simp only [List.getElem_toArray, List.getElem_cons_zero, List.getElem_cons_succ] at c0 c1
  have hdef : checkFt ⟨u, l⟩ = if n < 1 then 4 else if 1048576 < n then 3 else if risesE l = true then (if belowFt ⟨u, l⟩ = true then 0 else 4) else 8 := by rw [hi.len]; rfl
  rw [hdef, if_neg (show ¬ 1048576 < n by omega)]
  have hd3 : decide ((1048576 : Int) < (n : Int)) = false := decide_eq_false (by omega)
  have hd4 : decide (1048576 < n) = false := decide_eq_false (by omega)
  by_cases h0 : n < 1
  · obtain rfl : n = 0 := by omega
    rw [if_pos (by omega)]
    clear hi hat hdef hn9
    unfold ftV
    go_enter Tryz.func90, Tryz.ntmps90
    go_wp2_with fail
    go_ret
    exact ⟨rfl, HK.out⟩
  · rw [if_neg h0]
    have hn1 : decide (n = 0) = false := decide_eq_false (by omega)
    have hn2 : ¬ n = 0 := by omega
    have HRi := Lib.hid (rising_own q n c l hi.len (by omega) _ hat)
    cases hr : risesE l
    · rw [hr] at HRi
      rw [if_neg (by simp)]
      clear hi hat hdef hn9 h0 hr
      unfold ftV
      go_enter Tryz.func90, Tryz.ntmps90
      go_wp2_with fail
      refine HRi.out.mono ?_
      rintro e w1 ⟨rfl, hk⟩
      have HK1 := Lib.hid (HK.out.trans hk)
      clear hk
      go_wp2_with fail
      go_ret
      exact ⟨rfl, HK1.out⟩
    · rw [hr] at HRi
      rw [if_pos rfl]
      have HA := Lib.hid (fun w1 (hk : Keeps NoBlock (w.alloc (.cells #[.int .u32 (u : Int), .slice q n c] 119)) w1) => allbelow_own u q n c l hi.len (by omega) w1 (EnsAt.keep hat hk))
      obtain ⟨t, ht⟩ : ∃ t, t = belowFt ⟨u, l⟩ := ⟨_, rfl⟩
      rw [← ht] at HA ⊢
      clear hi hat hdef hn9 h0 hr ht
      unfold ftV
      go_enter Tryz.func90, Tryz.ntmps90
      go_wp2_with fail
      refine HRi.out.mono ?_
      rintro e w1 ⟨rfl, hk⟩
      have HW1 := Lib.hid (HR.out.keep hk (fun h => h))
      have HK1 := Lib.hid (HK.out.trans hk)
      have HA1 := Lib.hid (HA.out w1 hk)
      clear hk c0 c1 HA HRi
      have c0 := HW1.out.cell 0 rfl
      have c1 := HW1.out.cell 1 rfl
      simp only [List.getElem_toArray, List.getElem_cons_zero, List.getElem_cons_succ] at c0 c1
      go_wp2_with fail
      refine HA1.out.mono ?_
      rintro e w2 ⟨rfl, hk⟩
      have HK2 := Lib.hid (HK1.out.trans hk)
      clear hk HA1
      cases t
      · go_wp2_with fail
        go_ret
        exact ⟨rfl, HK2.out⟩
      · go_wp2_with fail
        go_ret
        exact ⟨rfl, HK2.out⟩
end Go.Proofs.YtlejobomjgccnaaGreat

namespace Go.Proofs.YtlejobomjgccnaaGreat
open Go.RowKit

set_option maxHeartbeats 4000000 in
set_option maxRecDepth 10000 in
theorem fput_ownT (base g : Nat) (xs : List Int) (p : Option Addr) (n c : Nat) (l : List Nat) (w : World) (h : BufAt w base g xs) (hs : base ≤ w.heap.size) (hn : n = l.length) (hn9 : n ≤ 100000) (hfine : ∀ x ∈ l, x < 18446744073709551616) (hrow : ∀ W, Stays w W → RowN W p l) (hx : xs.length ≤ 100000000) :
    Calls Tryz.prog 93 #[.pointer (some ⟨g, 0, none⟩), .slice p n c] w fun e w' => e = .returned (.tuple #[]) ∧ BufAt w' base g (xs ++ textF l) ∧ Keeps (OnBuf base g) w w' := by
  have H := Lib.hid h
  have HI := Lib.hid hn
  have HFi := Lib.hid hfine
  have HF := Lib.hid hrow
  have HX := Lib.hid hx
  clear h hrow hx hn hfine
  go_enter Tryz.func93, Tryz.ntmps93
  go_wp2_with fail
  go_loopw [10] (fun i wr => ∃ j : Nat, j ≤ n ∧ i = .int .i64 (j : Int) ∧ Hid (BufAt wr base g (xs ++ textF (l.take j))) ∧ Hid (Keeps (OnBuf base g) w wr) ∧ Hid (Stays w wr)) (fun i _ => n - (intOf i).toNat)
  case atStart => exact ⟨0, Nat.zero_le _, rfl, Lib.hid (by simpa [textF] using H.out), Lib.hid (Keeps.refl _ _), Lib.hid (Stays.refl _)⟩
  case round =>
    obtain ⟨j, hj, rfl, HB, HK, HS⟩ := hrel
    by_cases hlt : j < n
    · have hdj : decide ((j : Int) < (n : Int)) = true := decide_eq_true (by omega)
      have hjl : j < l.length := by rw [← HI.out]; exact hlt
      obtain ⟨a, rfl, c0⟩ := HF.out wr HS.out j hjl
      have hfn := HFi.out (l.getD j 0) (by simp [hjl])
      have HT := Lib.hid (textF_takeO hjl)
      obtain ⟨r, hr⟩ : ∃ r, r = l.getD j 0 := ⟨_, rfl⟩
      rw [← hr] at c0 hfn HT
      clear hr
      have HL : Hid ((xs ++ textF (l.take j)).length ≤ 110000000) := Lib.hid (by
        have := HX.out
        rw [List.length_append, textF_length, List.length_take]
        omega)
      have HE := Lib.hid (bufEightT base g (xs ++ textF (l.take j)) (r : Int) wr HB.out (by have := HK.out.size; omega) (by have := HL.out; omega) (by omega) (by omega))
      clear hfn hjl HB
      go_wp2_with fail
      refine HE.out.mono ?_
      rintro e w2 ⟨rfl, hb, hk, hst⟩
      have HB2 := Lib.hid hb
      have HK2 := Lib.hid (HK.out.trans hk)
      have HS2 := Lib.hid (HS.out.trans hst)
      clear hb hk hst HE
      go_wp2_with fail
      go_roundw
      case rel =>
        refine ⟨j + 1, by omega, by go_num, Lib.hid ?_, Lib.hid HK2.out, Lib.hid HS2.out⟩
        rw [HT.out, ← List.append_assoc]
        exact HB2.out
      case measure => simp [intOf]; omega
    · have hdj : decide ((j : Int) < (n : Int)) = false := decide_eq_false (by omega)
      have HE : Hid (l.take j = l) := Lib.hid (List.take_of_length_le (by have := HI.out; omega))
      rw [HE.out] at HB
      go_wp2_with fail
      go_returns
      exact ⟨rfl, HB.out, HK.out⟩

theorem nums_stay {w0 wr : World} {l : List Nat} {v : Value} (h : NumsSoFar w0 l v wr) : ∃ q d, v = .slice q l.length d ∧ ∀ W, Stays wr W → RowN W q l := by
  obtain ⟨h', hb⟩ := h
  rcases h' with ⟨h0, ⟨rfl, e⟩ | ⟨g, cap, cur, rfl, hg, hh, hr⟩⟩
  · exact ⟨none, 0, by rw [e], fun W _ i hi => by rw [e] at hi; omega⟩
  · refine ⟨_, cap, rfl, fun W hS i hi => ⟨_, rfl, ?_⟩⟩
    have hW : Whole W g 34 cur := hS g _ _ (by decide) (by decide) hh
    have h9 : W.ownsRow w0.heap.size 34 1 (.slice (some ⟨g, 0, none⟩) l.length cap) l.length (l.map numV) := ⟨h0, .inr ⟨g, cap, cur, rfl, hg, hW, hr⟩⟩
    exact h9.cells (g := g) rfl i _ (by simp [List.getElem?_eq_getElem hi, numV])

set_option maxHeartbeats 8000000 in
set_option maxRecDepth 10000 in
theorem ftput_own (u : Nat) (q : Option Addr) (n c : Nat) (l : List En) (w : World) (hu : u < 4294967296) (hi : InE w q n c l) (hn9 : n ≤ 10000) :
    Calls Tryz.prog 67 #[ftV u q n c] w fun e w' => ∃ v, e = .returned (.tuple #[v, .int .i64 (checkFt ⟨u, l⟩)]) ∧ NewBytes w (putFt ⟨u, l⟩) v w' := by
  have HR0 := Lib.hid (Whole.new w 119 #[.int .u32 (u : Int), .slice q n c])
  have HK0 := Lib.hid ((Keeps.refl NoBlock w).alloc (.cells #[.int .u32 (u : Int), .slice q n c] 119))
  have hs0 : (w.alloc (.cells #[.int .u32 (u : Int), .slice q n c] 119)).heap.size = w.heap.size + 1 := by simp
  have hat := EnsAt.keep hi.at_ HK0.out
  have HCk := Lib.hid (ftcheck_own u q n c l _ ⟨hi.len, hi.cap, hi.room, hi.bare, hi.fine, hat⟩ (by omega))
  have c0 := HR0.out.cell 0 rfl
  have c1 := HR0.out.cell 1 rfl
  simp only [List.getElem_toArray, List.getElem_cons_zero, List.getElem_cons_succ] at c0 c1
  unfold putFt
  by_cases hc : checkFt ⟨u, l⟩ = 0
  · rw [if_pos hc]
    rw [hc] at HCk ⊢
    have hbl := bodyFt_length ⟨u, l⟩
    have hbm := bodyLen_le l.length
    have hbo := bodyFt_octets (f := ⟨u, l⟩)
    have hbd : bodyFt ⟨u, l⟩ = ((([] ++ [(4 : Int)]) ++ digits (n : Int) 4) ++ digits (u : Int) 4) ++ textE l ++ textF (ofF l) := by unfold bodyFt; simp [hi.len]
    have hll := hi.len
    simp only at hbl
    have hel := textE_length l
    have HOld : Hid (0 < l.length → ∀ a, q = some a → a.block < w.heap.size) := Lib.hid (fun h0 a ha => EnsAt.old hi.at_ h0 a ha)
    have HOf := Lib.hid (fun W (h : EnsAt W q l) => callsIn_wide.1 (of_in 3 (Nat.le_refl _) q n c l W hi.len hi.cap hi.room (by omega) h))
    have HTp := Lib.hid (fun g X W (h : BufAt W g g X) (hs : g ≤ W.heap.size) (he : EnsAt W q l) (hf : w.heap.size ≤ g) (hx : X.length ≤ 100000000) => put_own g g X q n c l W h hs ⟨hi.len, hi.cap, hi.room, hi.bare, hi.fine, he⟩ (by omega) (fun h0 a ha => by have := HOld.out (by omega) a ha; unfold OnBuf; omega) hx)
    have HFp := Lib.hid (fun g X p m d W (h : BufAt W g g X) (hs : g ≤ W.heap.size) (hm : m = (ofF l).length) (hr : ∀ V, Stays W V → RowN V p (ofF l)) (hx : X.length ≤ 100000000) => fput_ownT g g X p m d (ofF l) W h hs hm (by rw [hm, ofF_length]; omega) (ofF_fine hi.fine) hr hx)
    obtain ⟨E, hE⟩ : ∃ E, E = textE l := ⟨_, rfl⟩
    rw [← hE] at HTp hbd hel
    obtain ⟨F, hF⟩ : ∃ F, F = ofF l := ⟨_, rfl⟩
    rw [← hF] at HOf HFp hbd
    obtain ⟨T, hT⟩ : ∃ T, T = textF F := ⟨_, rfl⟩
    rw [← hT] at HFp hbd
    obtain ⟨G, hG⟩ : ∃ G, G = bodyFt ⟨u, l⟩ := ⟨_, rfl⟩
    rw [← hG] at hbd hbl hbo ⊢
    obtain ⟨L, hL⟩ : ∃ L, L = G.length := ⟨_, rfl⟩
    have HS := Lib.hid (fun p d W (hd : L ≤ d) (hd' : d ≤ 9223372036854775807) (hq : p = none → L = 0 ∧ d = 0) (h8 : Bytes8 W p G) => seal_own p L d G W ⟨hL, hd, hd', hq, hbo, h8⟩ (by omega))
    have HBy := Lib.hid (fun g W (h : BufAt W g g G) => bufBytes g g G W h (by omega))
    rw [← hL] at HBy
    have HL := Lib.hid hL
    have HG0 : Hid (0 < G.length) := Lib.hid (by rw [hbd]; simp)
    have HBd := Lib.hid hbd
    have hE9 : E.length ≤ 200000 := by omega
    have wn : IntKind.u32.wrap (n : Int) = (n : Int) := by rw [IntKind.wrap_u32]; omega
    have HAt := Lib.hid hat
    have HS0 := Lib.hid hs0
    clear hbl hbm hbo hbd hll hel hi hat hE hF hT hG hL hs0 hc
    unfold ftV
    go_enter Tryz.func67, Tryz.ntmps67
    go_wp2_with fail
    refine HCk.out.mono ?_
    rintro e w1 ⟨rfl, hk⟩
    have hN := HR0.out.keep hk (fun h => h)
    have hE1 := EnsAt.keep HAt.out hk
    have HK := Lib.hid (HK0.out.trans hk)
    have HSz := Lib.hid (show w.heap.size + 1 ≤ w1.heap.size by have := hk.size; have := HS0.out; omega)
    obtain ⟨g, hg⟩ : ∃ g, g = w1.heap.size := ⟨_, rfl⟩
    have HGg := Lib.hid hg
    obtain ⟨W, hW⟩ : ∃ W, W = w1.alloc (.cells #[.slice none 0 0] 102) := ⟨_, rfl⟩
    have HB : Hid (BufAt W g g []) := Lib.hid (by rw [hW, hg]; exact bufNewB w1 w1.heap.size)
    have HR : Hid (Whole W w.heap.size 119 #[.int .u32 (u : Int), .slice q n c]) := Lib.hid (by rw [hW]; exact hN.alloc _)
    have HQ : Hid (Keeps (fun i => g ≤ i) w1 W) := Lib.hid (by rw [hW]; exact (Keeps.refl _ w1).alloc _)
    have HEn : Hid (EnsAt W q l) := Lib.hid (by rw [hW]; exact EnsAt.keep hE1 ((Keeps.refl NoBlock w1).alloc _))
    have HFar : Hid (w.heap.size < g) := Lib.hid (by have := HSz.out; omega)
    clear hk hN hE1 HCk HR0 HK0 HAt c0 c1
    go_wp2_with fail
    rw [← hW, ← hg]
    clear hW hg
    have s0 : W.drew.cell? ⟨w.heap.size, 0, none⟩ = some (.int .u32 (u : Int)) ∧ W.drew.cell? ⟨w.heap.size, 1, none⟩ = some (.slice q n c) := ⟨HR.out.cell 0 rfl, HR.out.cell 1 rfl⟩
    have sN : W.cell? ⟨w.heap.size, 0, none⟩ = some (.int .u32 (u : Int)) ∧ W.cell? ⟨w.heap.size, 1, none⟩ = some (.slice q n c) := ⟨HR.out.cell 0 rfl, HR.out.cell 1 rfl⟩
    have sz0 : Hid (g ≤ W.heap.size) := Lib.hid (by have := HQ.out.size; have := HGg.out; omega)
    go_region_held3 (fun w' => w'.cell? ⟨w.heap.size, 0, none⟩ = some (.int .u32 (u : Int)) ∧ w'.cell? ⟨w.heap.size, 1, none⟩ = some (.slice q n c))
      (first | exact s5 | exact s0 | exact sN)
      (first | (go_at_call 49; refine (bufByteK g g _ _ _ (by exact HB.out) (by exact sz0.out) (by simp)).mono ?_; rintro e w5 ⟨rfl, hb, hk⟩; have hk' : Keeps (fun i => g ≤ i) W w5 := (by first | exact hk.onBuf (Nat.le_refl _) | exact (hk.onBuf (Nat.le_refl _)).ofDrew | exact (hk.onBuf (Nat.le_refl _)).ofDrewN); have HB := Lib.hid hb; have HQ := Lib.hid (HQ.out.trans hk'); have HR := Lib.hid (HR.out.keep hk' (by have := HFar.out; omega)); have HEn := Lib.hid (EnsAt.keepFar HEn.out hk' (fun h0 a ha => by have := HOld.out h0 a ha; have := HFar.out; omega)); have sz0 : Hid (g ≤ w5.heap.size) := Lib.hid (by have := sz0.out; have := hk'.size; omega); have s5 : w5.cell? ⟨w.heap.size, 0, none⟩ = some (.int .u32 (u : Int)) ∧ w5.cell? ⟨w.heap.size, 1, none⟩ = some (.slice q n c) := ⟨HR.out.cell 0 rfl, HR.out.cell 1 rfl⟩; clear hb hk hk'; obtain ⟨W, rfl⟩ : ∃ x, x = w5 := ⟨_, rfl⟩) | (go_at_call 91; refine (bufFourK g g _ _ _ (by exact HB.out) (by exact sz0.out) (by simp [digits_length]) (by omega) (by omega)).mono ?_; rintro e w5 ⟨rfl, hb, hk⟩; have hk' : Keeps (fun i => g ≤ i) W w5 := (by first | exact hk.onBuf (Nat.le_refl _) | exact (hk.onBuf (Nat.le_refl _)).ofDrew | exact (hk.onBuf (Nat.le_refl _)).ofDrewN); have HB := Lib.hid hb; have HQ := Lib.hid (HQ.out.trans hk'); have HR := Lib.hid (HR.out.keep hk' (by have := HFar.out; omega)); have HEn := Lib.hid (EnsAt.keepFar HEn.out hk' (fun h0 a ha => by have := HOld.out h0 a ha; have := HFar.out; omega)); have sz0 : Hid (g ≤ w5.heap.size) := Lib.hid (by have := sz0.out; have := hk'.size; omega); have s5 : w5.cell? ⟨w.heap.size, 0, none⟩ = some (.int .u32 (u : Int)) ∧ w5.cell? ⟨w.heap.size, 1, none⟩ = some (.slice q n c) := ⟨HR.out.cell 0 rfl, HR.out.cell 1 rfl⟩; clear hb hk hk'; obtain ⟨W, rfl⟩ : ∃ x, x = w5 := ⟨_, rfl⟩))
    have HB3 : Hid (BufAt W g g ((([] ++ [(4 : Int)]) ++ digits (n : Int) 4) ++ digits (u : Int) 4)) := HB
    have HQ3 := HQ
    have HR3 := HR
    have HEn3 := HEn
    have HSz3 := sz0
    clear HB HQ HR HEn s0 sN s5 sz0
    have q1 : W.cell? ⟨w.heap.size, 1, none⟩ = some (.slice q n c) := HR3.out.cell 1 rfl
    go_wp2_with fail
    refine (HTp.out g _ W HB3.out HSz3.out HEn3.out (by have := HFar.out; omega) (by simp [digits_length])).mono ?_
    rintro e w6 ⟨rfl, hb, hk⟩
    have hk' : Keeps (fun i => g ≤ i) W w6 := hk.onBuf (Nat.le_refl _)
    have HB6 := Lib.hid hb
    have HQ6 := Lib.hid (HQ3.out.trans hk')
    have HR6 := Lib.hid (HR3.out.keep hk' (by have := HFar.out; omega))
    have HEn6 := Lib.hid (EnsAt.keepFar HEn3.out hk' (fun h0 a ha => by have := HOld.out h0 a ha; have := HFar.out; omega))
    have HSz6 : Hid (g ≤ w6.heap.size) := Lib.hid (by have := HSz3.out; have := hk'.size; omega)
    clear hb hk hk' q1 HB3 HQ3 HR3 HEn3 HSz3 HTp
    have q1 : w6.cell? ⟨w.heap.size, 1, none⟩ = some (.slice q n c) := HR6.out.cell 1 rfl
    go_wp2_with fail
    refine (HOf.out w6 HEn6.out).mono ?_
    rintro e w7 ⟨v, rfl, hns⟩
    have hk : Keeps NoBlock w6 w7 := Keeps.ofBelow hns.2
    obtain ⟨p, d, rfl, hst⟩ := nums_stay hns
    have HB7 := Lib.hid (BufAt.keepO HB6.out hk (fun h => h) (fun _ _ _ _ h => h))
    have HQ7 := Lib.hid (HQ6.out.trans (hk.wider (S' := fun i => g ≤ i) (fun _ _ h => h.elim)))
    have HSz7 : Hid (g ≤ w7.heap.size) := Lib.hid (by have := HSz6.out; have := hk.size; omega)
    have HSt := Lib.hid hst
    clear hk hns hst HB6 HQ6 HR6 HEn6 HSz6 HOf q1
    go_wp2_with fail
    refine (HFp.out g _ p _ d w7 HB7.out HSz7.out rfl HSt.out (by simp [digits_length]; omega)).mono ?_
    rintro e w8 ⟨rfl, hb, hk⟩
    have HB8 := Lib.hid hb
    rw [← HBd.out] at HB8
    have HQ8 := Lib.hid (HQ7.out.trans (hk.onBuf (Nat.le_refl _)))
    clear hb hk HB7 HQ7 HSz7 HSt HFp
    go_wp2_with fail
    refine (HBy.out g w8 HB8.out).mono ?_
    rintro e w9 ⟨v, rfl, q9, d9, rfl, hd, hd', hby, hq, hk⟩
    have HK9 := Lib.hid (HK.out.then (HQ8.out.trans (hk.wider (S' := fun i => g ≤ i) (fun _ _ h => h.elim))) (fun i hi h => by have := HFar.out; omega))
    have HB9 := Lib.hid hby
    have HQ9 : Hid (q9 = none → L = 0 ∧ d9 = 0) := Lib.hid (fun h0 => by
      obtain ⟨a, ha, _⟩ := HB9.out HG0.out
      rw [h0] at ha
      simp at ha)
    have hd9 : d9 ≤ 9223372036854775807 := by first | omega | (unfold maxLen at hd'; omega) | exact hd'
    clear hby hq hk hd'
    go_wp2_with fail
    refine (HS.out q9 d9 _ hd hd9 HQ9.out HB9.out).mono ?_
    rintro e w10 ⟨v2, rfl, q2, m2, d2, rfl, hm2, hmd2, hd2, hq2, hb2, hk2⟩
    have HN := Lib.hid (show NewBytes w (sealN G) (.slice q2 m2 d2) w10 from ⟨q2, m2, d2, rfl, hm2, hmd2, hd2, hq2, hb2, HK9.out.trans hk2⟩)
    clear hm2 hmd2 hd2 hq2 hb2 hk2
    go_wp2_with fail
    refine bodyPost_ret (results_tmp2 rfl _ _ _) rfl ?_
    exact ⟨_, rfl, HN.out⟩
  · rw [if_neg hc]
    obtain ⟨z, hz⟩ : ∃ z, z = checkFt ⟨u, l⟩ := ⟨_, rfl⟩
    rw [← hz] at HCk hc ⊢
    have hne : (z != 0) = true := by rw [bne_iff_ne]; exact hc
    clear hc hi hz hat hs0
    unfold ftV
    go_enter Tryz.func67, Tryz.ntmps67
    go_wp2_with fail
    refine HCk.out.mono ?_
    rintro e w1 ⟨rfl, hk⟩
    have HK := Lib.hid (HK0.out.trans hk)
    clear hk
    go_wp2_with fail
    refine bodyPost_ret (results_tmp2 rfl _ _ _) rfl ?_
    exact ⟨_, rfl, .ofNil _ _ HK.out⟩
theorem ftput_ok : FtPutOk := ⟨fun u q n c l w hu hi h9 => ftput_own u q n c l w hu hi h9⟩
end Go.Proofs.YtlejobomjgccnaaGreat

namespace Go.Proofs.YtlejobomjgccnaaGreat
open Go.RowKit

set_option maxHeartbeats 2000000 in
set_option maxRecDepth 10000 in
theorem place_own (r : Rec) (a : Nat) (w : World) (ho : Octets r.key) (hl : r.key.length ≤ 1000000) :
    Calls Tryz.prog 32 #[recV r, .int .u32 (a : Int)] w fun e w' => e = .returned (enV ⟨(wxxh 0 r.key).toNat, a⟩) ∧ Keeps NoBlock w w' := by
  have hu := wxxh_u64 0 r.key
  have HH := Lib.hid (fun w => hash_own r.key w ho hl)
  obtain ⟨h, hh⟩ : ∃ h : Nat, wxxh 0 r.key = (h : Int) := ⟨(wxxh 0 r.key).toNat, by unfold U64 at hu; omega⟩
  rw [hh] at HH ⊢
  rw [Int.toNat_natCast]
  clear hh hu ho hl
  obtain ⟨del, seq, key, val⟩ := r
  unfold recV at *
  simp only at HH ⊢
  have HW := Lib.hid ((Whole.new w 39 (recCells ⟨del, seq, key, val⟩)).alloc (.cells (enCells En.none) 80))
  have HZ := Lib.hid (Whole.newAt (w.alloc (.cells (recCells ⟨del, seq, key, val⟩) 39)) 80 (enCells En.none) (w.heap.size + 1) (by simp))
  have HK := Lib.hid (((Keeps.refl NoBlock w).alloc (.cells (recCells ⟨del, seq, key, val⟩) 39)).alloc (.cells (enCells En.none) 80))
  have c2 := HW.out.cell 2 rfl
  unfold recCells enCells En.none at HW HZ HK c2
  simp only [List.getElem_toArray, List.getElem_cons_zero, List.getElem_cons_succ] at c2
  simp only at HW HZ HK
  unfold enV
  go_enter Tryz.func32, Tryz.ntmps32
  go_wp2_with fail
  refine (HH.out _).mono ?_
  rintro e w1 ⟨rfl, hk⟩
  have HK1 := Lib.hid (HK.out.trans hk)
  have HZ1 := Lib.hid (HZ.out.keep hk (fun h => h))
  have f0 := HZ1.out.free 0
  have f1 := HZ1.out.free 1
  have z0 := HZ1.out.cell 0 rfl
  have z1 := HZ1.out.cell 1 rfl
  simp only [List.getElem_toArray, List.getElem_cons_zero, List.getElem_cons_succ] at z0 z1
  clear hk c2
  go_wp2_with fail
  have hN := (HZ1.out.set 0 (.int .u64 (h : Int))).set 1 (.int .u32 (a : Int))
  have g0 := hN.cell 0 rfl
  have g1 := hN.cell 1 rfl
  exact bodyPost_ret (v := .agg #[.int .u64 (h : Int), .int .u32 (a : Int)]) (by simp [results, Tryz.results32, go_sem, g0, g1]) rfl ⟨rfl, (HK1.out.setNew (by omega) 0 _).setNew (by omega) 1 _⟩

set_option maxHeartbeats 2000000 in
set_option maxRecDepth 10000 in
/-- The frame of the footer behind so many bytes. -/
theorem seal_places (u : Nat) (q : Option Addr) (n c : Nat) (l : List En) (w : World) (hu : u < 4294967296) (h : InE w q n c l) (hn : n ≤ 10000) :
    Calls Tryz.prog 39 #[.int .u32 (u : Int), .slice q n c] w fun e w' => ∃ v, e = .returned (.tuple #[v, .int .i64 (checkFt ⟨u, sortE l⟩)]) ∧ NewBytes w (putFt ⟨u, sortE l⟩) v w' := by
  have HSo := Lib.hid (fun w h => tsorted_own q n c l w h (by omega))
  have HIn := Lib.hid h
  have hsl := sortE_len l
  have hsf : ∀ x ∈ sortE l, x.Fine := fun x hx => h.fine x (sortE_mem.1 hx)
  have hln := h.len
  have HPt := Lib.hid (fun q' m' d' w (hi : InE w q' m' d' (sortE l)) => ftput_ok.put u q' m' d' (sortE l) w hu hi (by have := hi.len; omega))
  have HFi := Lib.hid hsf
  obtain ⟨T, hT⟩ : ∃ T, T = sortE l := ⟨_, rfl⟩
  rw [← hT] at HSo HPt HFi ⊢
  unfold ftV at HPt
  obtain ⟨y, hy⟩ : ∃ y, y = checkFt ⟨u, T⟩ := ⟨_, rfl⟩
  obtain ⟨ys, hys⟩ : ∃ ys, ys = putFt ⟨u, T⟩ := ⟨_, rfl⟩
  rw [← hy] at HPt ⊢
  rw [← hys] at HPt ⊢
  clear hT hy hys h hsl hsf hln hn
  go_enter Tryz.func39, Tryz.ntmps39
  go_wp2_with fail
  refine (HSo.out _ HIn.out).mono ?_
  rintro e w1 ⟨v, rfl, hs⟩
  have HK1 := Lib.hid hs.keeps
  obtain ⟨q1, m1, d1, rfl, hm1, hmd1, hd1, hq1, hat1, _⟩ := hs.new (dd := En.none)
  have HI1 := Lib.hid (show InE w1 q1 m1 d1 T from ⟨hm1, hmd1, hd1, hq1, HFi.out, hat1⟩)
  clear hs hm1 hmd1 hd1 hq1 hat1
  go_wp2_with fail
  refine (HPt.out _ _ _ _ HI1.out).mono ?_
  rintro e w2 ⟨v2, rfl, q2, m2, d2, rfl, hm2, hmd2, hd2, hq2, hb2, hk2⟩
  have HN := Lib.hid (show NewBytes w ys (.slice q2 m2 d2) w2 from ⟨q2, m2, d2, rfl, hm2, hmd2, hd2, hq2, hb2, HK1.out.trans hk2⟩)
  clear hm2 hmd2 hd2 hq2 hb2 hk2
  go_wp2_with fail
  refine bodyPost_ret (results_tmp2 rfl _ _ _) rfl ?_
  exact ⟨_, rfl, HN.out⟩
end Go.Proofs.YtlejobomjgccnaaGreat

namespace Go.Proofs.YtlejobomjgccnaaGreat
open Go.RowKit

def PlanPost (w : World) (t : Int × List Nat) (e : Ending) (w' : World) : Prop :=
  ∃ (q : Option Addr) (m d : Nat), e = .returned (.tuple #[.slice q m d, .int .i64 t.1]) ∧ m = t.2.length ∧ RowN w' q t.2 ∧ Keeps NoBlock w w'
theorem PlanPost.gone {w w' : World} {t : Int × List Nat} {y : Int} (h : t = (y, [])) (hk : Keeps NoBlock w w') : PlanPost w t (.returned (.tuple #[.slice none 0 0, .int .i64 y])) w' := by
  subst h
  exact ⟨none, 0, 0, rfl, rfl, fun i hi => by simp at hi, hk⟩
theorem NumsSoFar.set5 {w0 wr : World} {l : List Nat} {v : Value} (h : NumsSoFar w0 l v wr) {g : Nat} (hp : v.ownBlock ≠ some g) (hb : w0.heap.size ≤ g) (a b c d e : Value) :
    NumsSoFar w0 l v (((((wr.setCell ⟨g, 0, none⟩ a).setCell ⟨g, 1, none⟩ b).setCell ⟨g, 2, none⟩ c).setCell ⟨g, 3, none⟩ d).setCell ⟨g, 4, none⟩ e) :=
  ((((h.setOther (p := ⟨g, 0, none⟩) hp hb a).setOther (p := ⟨g, 1, none⟩) hp hb b).setOther (p := ⟨g, 2, none⟩) hp hb c).setOther (p := ⟨g, 3, none⟩) hp hb d).setOther (p := ⟨g, 4, none⟩) hp hb e
end Go.Proofs.YtlejobomjgccnaaGreat

namespace Go.Proofs.YtlejobomjgccnaaGreat
open Go.RowKit

end Go.Proofs.YtlejobomjgccnaaGreat

namespace Go.Proofs.YtlejobomjgccnaaGreat
open Go.RowKit

set_option maxHeartbeats 1000000 in
set_option maxRecDepth 10000 in
theorem ftmost_own (z : Int) (w : World) (h0 : -500000 ≤ z) (h1 : z ≤ 500000) :
    Calls Tryz.prog 115 #[.int .i64 z] w fun e w' => e = .returned (.int .i64 ((mostFt z.toNat : Nat) : Int)) ∧ Keeps NoBlock w w' := by
  obtain ⟨k, hk⟩ : ∃ k, k = z.toNat := ⟨_, rfl⟩
  rw [← hk]
  have hk9 : k ≤ 500000 := by omega
  obtain ⟨c, hc⟩ : ∃ c, c = countF (k : Int) := ⟨_, rfl⟩
  have hc9 : c ≤ 500000 := by rw [hc]; unfold countF; omega
  have HC := Lib.hid (fun (y : Int) (hy : y = (k : Int)) w => (show Calls Tryz.prog 118 #[.int .i64 y] w fun e w' => e = .returned (.int .i64 ((c : Nat) : Int)) ∧ Keeps NoBlock w w' from by
    subst hy
    rw [hc]
    exact fcount_own (k : Int) w (by omega) (by omega)))
  have hbl : mostFt k = sizeN (9 + 12 * k + 8 * c) := by unfold mostFt bodyLen; rw [hc]
  rw [hbl]
  obtain ⟨M, hM⟩ : ∃ M, M = 9 + 12 * k + 8 * c := ⟨_, rfl⟩
  rw [← hM]
  have HS := Lib.hid (fun (y : Int) (hy : y = 9 + 12 * (k : Int) + 8 * (c : Int)) w => (show Calls Tryz.prog 150 #[.int .i64 y] w fun e w' => e = .returned (.int .i64 ((sizeN M : Nat) : Int)) ∧ Keeps NoBlock w w' from by
    have h := fsize_own y w (by omega) (by omega)
    rwa [show y.toNat = M by omega] at h))
  have w1 : IntKind.i64.wrap (12 * (k : Int)) = 12 * (k : Int) := by rw [IntKind.wrap_i64]; omega
  have w2 : IntKind.i64.wrap (9 + 12 * (k : Int)) = 9 + 12 * (k : Int) := by rw [IntKind.wrap_i64]; omega
  have w3 : IntKind.i64.wrap (8 * (c : Int)) = 8 * (c : Int) := by rw [IntKind.wrap_i64]; omega
  have w4 : IntKind.i64.wrap (9 + 12 * (k : Int) + 8 * (c : Int)) = 9 + 12 * (k : Int) + 8 * (c : Int) := by rw [IntKind.wrap_i64]; omega
  have HZ := Lib.hid hc
  clear hc hbl hM
  by_cases hz : z ≤ 0
  · obtain rfl : k = 0 := by omega
    obtain rfl : c = 0 := by rw [HZ.out]; rfl
    clear hk w1 w2 w3 w4
    go_enter Tryz.func115, Tryz.ntmps115
    go_wp2_with fail
    refine (HC.out _ (by first | rfl | omega | (simp; done)) _).mono ?_
    rintro e w5 ⟨rfl, hk⟩
    have HK := Lib.hid hk
    clear hk
    go_wp2_with fail
    refine (HS.out _ (by first | rfl | omega | (simp; done)) _).mono ?_
    rintro e w6 ⟨rfl, hk⟩
    have HK := Lib.hid (HK.out.trans hk)
    clear hk
    go_wp2_with fail
    go_ret
    exact ⟨rfl, HK.out⟩
  · obtain rfl : z = (k : Int) := by omega
    have hz2 : ¬ (k : Int) ≤ 0 := hz
    clear hk
    go_enter Tryz.func115, Tryz.ntmps115
    go_wp2_with fail
    refine (HC.out _ (by first | rfl | omega | (simp; done)) _).mono ?_
    rintro e w5 ⟨rfl, hk⟩
    have HK := Lib.hid hk
    clear hk
    go_wp2_with fail
    refine (HS.out _ (by first | rfl | omega | (simp; done)) _).mono ?_
    rintro e w6 ⟨rfl, hk⟩
    have HK := Lib.hid (HK.out.trans hk)
    clear hk
    go_wp2_with fail
    go_ret
    exact ⟨rfl, HK.out⟩
end Go.Proofs.YtlejobomjgccnaaGreat

/-
  FrSeal; FtMine; Open16; FrRef2; FrStep; Swap.
-/
import Derived.Deep.RegionWith
import Derived.Deep.RegionHeld3
import Derived.BigQuiet
import Derived.Test.YtmifbohdepejaaaM02
import Derived.Test.YtmifbohdepejaaaM03
import Derived.Test.YtmifbohdepejaaaM05
import Derived.Test.YtmifbohdepejaaaM09
import Derived.Test.YtmifbohdepejaaaM11
import Derived.Test.YtmifbohdepejaaaM12
import Derived.Test.YtmifbohdepejaaaM13
import Derived.Test.YtmifbohdepejaaaM14
import Derived.Test.YtmifbohdepejaaaM15
import Derived.Test.YtmifbohdepejaaaM16
import Derived.Test.YtmifbohdepejaaaM18
namespace Go.Proofs.Ytmifbohdepejaaa
open Go.RowKit

/-- Stuff's bytes are its own. -/
theorem stuff_own (p : Option Addr) (N c : Nat) (xs : List Int) (w : World) (h : In8 w p N c xs) (hN : N ≤ 1000000) :
    Calls Try.prog 59 #[.slice p N c] w fun e w' => ∃ v, e = .returned v ∧ Copied w (stuff xs).length (stuff xs) v w' := by
  refine (callsIn_wide.1 (stuff_in 3 (Nat.le_refl _) p N c xs w h.len h.cap h.room h.bare h.oct hN h.at_)).mono ?_
  rintro e w' ⟨v, rfl, h⟩
  rw [← stuff_groups] at h
  exact ⟨v, rfl, h⟩

set_option maxHeartbeats 4000000 in
set_option maxRecDepth 10000 in
theorem seal_own (p : Option Addr) (N c : Nat) (xs : List Int) (w : World) (h : In8 w p N c xs) (hN : N ≤ 500000) :
    Calls Try.prog 26 #[.slice p N c] w fun e w' => ∃ v, e = .returned v ∧ NewBytes w (sealN xs) v w' := by
  have hu := wxxh_u64 0 xs
  have hl := h.len
  have hSl : (xs ++ sumB xs).length = N + 8 := by rw [List.length_append, sumB_length]; omega
  have hso : Octets (xs ++ sumB xs) := h.oct.app (sumB_octets xs)
  have hcl : (stuff (xs ++ sumB xs)).length ≤ 2000000 := Nat.le_trans (stuff_most _) (Nat.le_trans (mostOf_le _) (by omega))
  have hcp : 0 < (stuff (xs ++ sumB xs)).length := List.length_pos_iff.2 (stuff_pos _)
  have HAt := Lib.hid h.at_
  have HRaw := Lib.hid (fun W (hb : BufAt W w.heap.size w.heap.size []) (h8 : Bytes8 W p xs) (hs : w.heap.size ≤ W.heap.size) =>
    (show Calls Try.prog 57 #[.pointer (some ⟨w.heap.size, 0, none⟩), .slice p N c] W (BufOk w.heap.size w.heap.size xs W) from bufRaw w.heap.size w.heap.size [] xs p N c W hb hl h8 h.bare (Nat.le_refl _) hs (by simp; omega)))
  have HSum := Lib.hid (fun W (h8 : Bytes8 W p xs) => sum_wide 0 u64_zero p N c xs hl h.cap h.room h.bare h.oct (by omega) W h8)
  have HEi := Lib.hid (fun W (hb : BufAt W w.heap.size w.heap.size xs) (hs : w.heap.size ≤ W.heap.size) =>
    (show Calls Try.prog 55 #[.pointer (some ⟨w.heap.size, 0, none⟩), .int .u64 (wxxh 0 xs)] W (BufOk w.heap.size w.heap.size (xs ++ sumB xs) W) from bufEight w.heap.size w.heap.size xs (wxxh 0 xs) W hb (Nat.le_refl _) hs (by omega) hu.1 hu.2))
  have HBy := Lib.hid (fun W (hb : BufAt W w.heap.size w.heap.size (xs ++ sumB xs)) => bufBytes w.heap.size w.heap.size (xs ++ sumB xs) W hb (by omega))
  rw [hSl] at HBy
  have HSt := Lib.hid (fun q d W (h8 : Bytes8 W q (xs ++ sumB xs)) (hd : N + 8 ≤ d) (hd' : d ≤ 9223372036854775807) (hq : q = none → N + 8 = 0 ∧ d = 0) => stuff_own q (N + 8) d (xs ++ sumB xs) W ⟨hSl.symm, hd, hd', hq, hso, h8⟩ (by omega))
  obtain ⟨z, hz⟩ : ∃ z, z = wxxh 0 xs := ⟨_, rfl⟩
  rw [← hz] at HSum HEi
  have hdef : sealN xs = stuff (xs ++ sumB xs) ++ [0] := rfl
  obtain ⟨T, hT⟩ : ∃ T, T = xs ++ sumB xs := ⟨_, rfl⟩
  rw [← hT] at HEi HBy HSt hdef hcl hcp
  have hT8 : 0 < T.length := by rw [hT, hSl]; omega
  obtain ⟨C, hC⟩ : ∃ C, C = stuff T := ⟨_, rfl⟩
  rw [← hC] at HSt hdef hcl hcp
  obtain ⟨M, hM⟩ : ∃ M, M = N + 8 := ⟨_, rfl⟩
  rw [← hM] at HBy HSt
  obtain ⟨L, hL⟩ : ∃ L, L = C.length := ⟨_, rfl⟩
  rw [← hL] at HSt hcl hcp
  have HDef := Lib.hid hdef
  have HL := Lib.hid hL
  clear h hu hl hSl hso hz hT hC hM hdef hL hN
  go_enter Try.func26, Try.ntmps26
  go_wp2_with fail
  refine (HRaw.out _ (bufNewB w w.heap.size) (HAt.out.keep ((Keeps.refl NoBlock w).alloc _) (fun _ _ h => h)) (by simp)).mono ?_
  rintro e w1 ⟨rfl, hb1, hk1⟩
  have HB1 := Lib.hid hb1
  have HK1 := Lib.hid (((Keeps.refl NoBlock w).alloc (.cells #[.slice none 0 0] 58)).then (Keeps.ofBelowAt hk1) (fun i hi h => by omega))
  clear hb1 hk1
  go_wp2_with fail
  refine (HSum.out _ (HAt.out.keep HK1.out (fun _ _ h => h))).mono ?_
  rintro e w2 ⟨rfl, hk2⟩
  have HB2 := Lib.hid (HB1.out.keepO hk2 (fun h => h) (fun _ _ _ _ h => h))
  have HK2 := Lib.hid (HK1.out.trans hk2)
  clear hk2
  go_wp2_with fail
  refine (HEi.out _ HB2.out HK2.out.size).mono ?_
  rintro e w3 ⟨rfl, hb3, hk3⟩
  have HB3 := Lib.hid hb3
  have HK3 := Lib.hid (HK2.out.then (Keeps.ofBelowAt hk3) (fun i hi h => by omega))
  clear hb3 hk3
  go_wp2_with fail
  refine (HBy.out _ HB3.out).mono ?_
  rintro e w4 ⟨v4, rfl, q, d, rfl, hd, hd', hby, hq, hk4⟩
  have HBy4 := Lib.hid hby
  have HK4 := Lib.hid (HK3.out.trans hk4)
  have HQ4 : Hid (q = none → M = 0 ∧ d = 0) := Lib.hid (fun h0 => by
    obtain ⟨a, ha, _⟩ := HBy4.out hT8
    rw [h0] at ha
    simp at ha)
  have hd9 : d ≤ 9223372036854775807 := by first | omega | (unfold maxLen at hd'; omega) | exact hd'
  clear hby hq hk4
  go_wp2_with fail
  refine (HSt.out q d _ HBy4.out hd hd9 HQ4.out).mono ?_
  rintro e w5 ⟨v5, rfl, hown, hbel⟩
  have HO5 := Lib.hid hown
  have HBel := Lib.hid hbel
  have hbs := hbel.size
  have HBs := Lib.hid hbs
  clear hown hbel hbs
  go_wp2_with (at_builtin; refine wpList_append_bytes rfl _ _ rfl w4.heap.size _ L C rfl (HO5.out.alloc _) (some ⟨w5.heap.size, 0, none⟩) 1 1 [0] rfl (fun h => by simp at h) rfl (Bytes8.ofNew1 _ _ _ _) (by omega) (by have := HBs.out; simp; omega) ?_)
  intro v6 w6 h6 hb6
  have hbe : Below w4.heap.size w4 w6 := (HBel.out.alloc HBs.out _).trans hb6
  obtain ⟨q6, d6, rfl, h61, h62, h63, h64⟩ := Copied.read2 (show Copied w4 (L + 1) (C ++ [0]) v6 w6 from ⟨by rw [List.map_append]; exact h6, hbe⟩) (by rw [List.length_append, ← HL.out]; rfl)
  have HN6 := Lib.hid (show NewBytes w (C ++ [0]) (.slice q6 (L + 1) d6) w6 from ⟨q6, L + 1, d6, rfl, by rw [List.length_append, ← HL.out]; rfl, h61, h62, h64, h63, HK4.out.then (Keeps.ofBelowAt hbe) (fun i hi h => by have := HK4.out.size; omega)⟩)
  clear h6 hb6 hbe h61 h62 h63 h64
  go_wp2_with fail
  go_ret
  rw [HDef.out]
  exact ⟨_, rfl, HN6.out⟩

set_option maxHeartbeats 1000000 in
set_option maxRecDepth 10000 in
theorem fsize_own (z : Int) (w : World) (h0 : -50000000 ≤ z) (h1 : z ≤ 50000000) : Calls Try.prog 40 #[.int .i64 z] w fun e w' => e = .returned (.int .i64 ((sizeN z.toNat : Nat) : Int)) ∧ Keeps NoBlock w w' := by
  have hle := mostOf_le (z.toNat + 8)
  obtain ⟨k, hk⟩ : ∃ k, k = z.toNat := ⟨_, rfl⟩
  rw [← hk] at hle
  have HM := Lib.hid (fun (y : Int) (hy : y = (k : Int) + 8) w => most_cobs y w (by omega) (by omega))
  have HM := Lib.hid (fun (y : Int) (hy : y = (k : Int) + 8) w => (show Calls Try.prog 76 #[.int .i64 y] w fun e w' => e = .returned (.int .i64 ((mostOf (k + 8) : Nat) : Int)) ∧ w' = w from by
    have h := HM.out y hy w
    rwa [show y.toNat = k + 8 by omega] at h))
  rw [← hk]
  unfold sizeN
  obtain ⟨m, hm⟩ : ∃ m, m = mostOf (k + 8) := ⟨_, rfl⟩
  rw [← hm] at HM hle ⊢
  have w1 : IntKind.i64.wrap ((k : Int) + 8) = (k : Int) + 8 := by rw [IntKind.wrap_i64]; omega
  have w2 : IntKind.i64.wrap ((m : Int) + 1) = (m : Int) + 1 := by rw [IntKind.wrap_i64]; omega
  clear hm
  by_cases hz : z ≤ 0
  · obtain rfl : k = 0 := by omega
    clear hk
    go_enter Try.func40, Try.ntmps40
    go_wp2_with fail
    refine (HM.out _ (by first | rfl | omega | (simp; done)) _).mono ?_
    rintro e w3 ⟨rfl, rfl⟩
    go_wp2_with fail
    go_ret
    exact ⟨by first | rfl | (rw [w2]; push_cast; rfl), Keeps.refl _ _⟩
  · obtain rfl : z = (k : Int) := by omega
    have hz2 : ¬ (k : Int) ≤ 0 := hz
    clear hk
    go_enter Try.func40, Try.ntmps40
    go_wp2_with fail
    refine (HM.out _ (by first | rfl | omega | (simp; done)) _).mono ?_
    rintro e w3 ⟨rfl, rfl⟩
    go_wp2_with fail
    go_ret
    exact ⟨by first | rfl | (rw [w2]; push_cast; rfl), Keeps.refl _ _⟩
end Go.Proofs.Ytmifbohdepejaaa

namespace Go.Proofs.Ytmifbohdepejaaa
open Go.RowKit

set_option maxHeartbeats 1000000 in
set_option maxRecDepth 10000 in
theorem ftmost_own (z : Int) (w : World) (h0 : -500000 ≤ z) (h1 : z ≤ 500000) :
    Calls Try.prog 15 #[.int .i64 z] w fun e w' => e = .returned (.int .i64 ((mostFt z.toNat : Nat) : Int)) ∧ Keeps NoBlock w w' := by
  obtain ⟨k, hk⟩ : ∃ k, k = z.toNat := ⟨_, rfl⟩
  rw [← hk]
  have hk9 : k ≤ 500000 := by omega
  obtain ⟨c, hc⟩ : ∃ c, c = countF (k : Int) := ⟨_, rfl⟩
  have hc9 : c ≤ 500000 := by rw [hc]; unfold countF; omega
  have HC := Lib.hid (fun (y : Int) (hy : y = (k : Int)) w => (show Calls Try.prog 41 #[.int .i64 y] w fun e w' => e = .returned (.int .i64 ((c : Nat) : Int)) ∧ Keeps NoBlock w w' from by
    subst hy
    rw [hc]
    exact fcount_own (k : Int) w (by omega) (by omega)))
  have hbl : mostFt k = sizeN (9 + 12 * k + 8 * c) := by unfold mostFt bodyLen; rw [hc]
  rw [hbl]
  obtain ⟨M, hM⟩ : ∃ M, M = 9 + 12 * k + 8 * c := ⟨_, rfl⟩
  rw [← hM]
  have HS := Lib.hid (fun (y : Int) (hy : y = 9 + 12 * (k : Int) + 8 * (c : Int)) w => (show Calls Try.prog 40 #[.int .i64 y] w fun e w' => e = .returned (.int .i64 ((sizeN M : Nat) : Int)) ∧ Keeps NoBlock w w' from by
    have h := fsize_own y w (by omega) (by omega)
    rwa [show y.toNat = M by omega] at h))
  have w1 : IntKind.i64.wrap (12 * (k : Int)) = 12 * (k : Int) := by rw [IntKind.wrap_i64]; omega
  have w2 : IntKind.i64.wrap (9 + 12 * (k : Int)) = 9 + 12 * (k : Int) := by rw [IntKind.wrap_i64]; omega
  have w3 : IntKind.i64.wrap (8 * (c : Int)) = 8 * (c : Int) := by rw [IntKind.wrap_i64]; omega
  have w4 : IntKind.i64.wrap (9 + 12 * (k : Int) + 8 * (c : Int)) = 9 + 12 * (k : Int) + 8 * (c : Int) := by rw [IntKind.wrap_i64]; omega
  have HZ := Lib.hid hc
  clear hc hbl hM
  by_cases hz : z ≤ 0
  · obtain rfl : k = 0 := by omega
    obtain rfl : c = 0 := by rw [HZ.out]; rfl
    clear hk w1 w2 w3 w4
    go_enter Try.func15, Try.ntmps15
    go_wp2_with fail
    refine (HC.out _ (by first | rfl | omega | (simp; done)) _).mono ?_
    rintro e w5 ⟨rfl, hk⟩
    have HK := Lib.hid hk
    clear hk
    go_wp2_with fail
    refine (HS.out _ (by first | rfl | omega | (simp; done)) _).mono ?_
    rintro e w6 ⟨rfl, hk⟩
    have HK := Lib.hid (HK.out.trans hk)
    clear hk
    go_wp2_with fail
    go_ret
    exact ⟨rfl, HK.out⟩
  · obtain rfl : z = (k : Int) := by omega
    have hz2 : ¬ (k : Int) ≤ 0 := hz
    clear hk
    go_enter Try.func15, Try.ntmps15
    go_wp2_with fail
    refine (HC.out _ (by first | rfl | omega | (simp; done)) _).mono ?_
    rintro e w5 ⟨rfl, hk⟩
    have HK := Lib.hid hk
    clear hk
    go_wp2_with fail
    refine (HS.out _ (by first | rfl | omega | (simp; done)) _).mono ?_
    rintro e w6 ⟨rfl, hk⟩
    have HK := Lib.hid (HK.out.trans hk)
    clear hk
    go_wp2_with fail
    go_ret
    exact ⟨rfl, HK.out⟩
theorem ftmost_ok : FtMostOk := ⟨fun z w h0 h1 => ftmost_own z w h0 h1⟩
end Go.Proofs.Ytmifbohdepejaaa

namespace Go.Proofs.Ytmifbohdepejaaa

theorem u16_in {n : Int} (h : (Lit.int .u16 n).wf = true) : 0 ≤ n ∧ n < 65536 := by
  have : 0 ≤ n ∧ n ≤ 65535 := by simpa [Lit.wf, IntKind.min, IntKind.max, IntKind.signed, IntKind.bits] using h
  omega
end Go.Proofs.Ytmifbohdepejaaa

namespace Go.Proofs.Ytmifbohdepejaaa
open Go.RowKit

theorem bodyR_length {r : Rec} (h : r.Fine) (h1 : r.key.length ≤ 2000000) (h2 : r.val.length ≤ 2000000) : (bodyR r).length ≤ 31 + r.key.length + r.val.length := by
  have a := vnum_ten h.seq
  have b := vnum_ten (x := r.key.length) (by omega)
  have c := vnum_ten (x := r.val.length) (by omega)
  unfold bodyR textB
  split
  · simp only [List.length_cons, List.length_append]; omega
  · simp only [List.length_cons, List.length_append]; omega

end Go.Proofs.Ytmifbohdepejaaa

namespace Go.Proofs.Ytmifbohdepejaaa
open Go.RowKit

def d1 (X : List Int) (E : Int) : Nat := if E = 0 then (if X = [] then 0 else 1) else 0
def f1 (X : List Int) (E : Int) : Int := if E = 0 then (if X = [] then 2 else 0) else E
def b1 (X : List Int) (E : Int) : Int := if E = 0 then X.headD 0 else 0
def get1Out (X : List Int) (A E : Int) : Value := .tuple #[rdr (X.drop (d1 X E)) (A + (d1 X E : Int)) (f1 X E), .int .u64 (b1 X E)]
theorem d1_le (X : List Int) (E : Int) : d1 X E ≤ X.length := by
  unfold d1
  split
  · split
    · omega
    · rename_i h
      exact List.length_pos_iff.2 h
  · omega
theorem b1_bound {X : List Int} (h : Octets X) (E : Int) : 0 ≤ b1 X E ∧ b1 X E < 256 := by
  unfold b1
  split
  · cases X with
    | nil => simp
    | cons x r => exact h x List.mem_cons_self
  · omega
theorem get1_all (X : List Int) (A E : Int) (hl : X.length ≤ 140737488355328) (ha : 0 ≤ A ∧ A ≤ 140737488355328) (ho : Octets X) (w : World) :
    Calls Try.prog 44 #[rdr X A E, .int .i64 1] w fun e w' => e = .returned (get1Out X A E) ∧ Keeps NoBlock w w' := by
  unfold get1Out d1 f1 b1
  by_cases hE : E = 0
  · subst hE
    simp only [if_true]
    cases X with
    | nil =>
      have h := get1_ref_short [] A 1 1 rfl (by decide) (by decide) w
      simpa using h
    | cons x r =>
      have h := get1_ref (x :: r) A 1 1 rfl (by decide) (by simp) (by decide) hl ha ho w
      have hle : le ((x :: r).take 1) = x := by simp [le]
      rw [hle] at h
      simp only [reduceCtorEq, if_false]
      exact h
  · simp only [if_neg hE]
    have h := get1_gone X A E 1 hE w
    simpa using h

def dv (X : List Int) (E : Int) : Nat := if E = 0 then (vget X).n else 0
def fv (X : List Int) (E : Int) : Int := if E = 0 then (vget X).e else E
def bv (X : List Int) (E : Int) : Int := if E = 0 then (if (vget X).e = 0 then (vget X).x else 0) else 0
def getvOut (X : List Int) (A E : Int) : Value := .tuple #[rdr (X.drop (dv X E)) (A + (dv X E : Int)) (fv X E), .int .u64 (bv X E)]
theorem dv_le (X : List Int) (E : Int) : dv X E ≤ X.length := by
  unfold dv
  split
  · exact vread_n 10 true X
  · omega
theorem bv_bound {X : List Int} (h : Octets X) (E : Int) : 0 ≤ bv X E ∧ bv X E < 18446744073709551616 := by
  unfold bv
  split
  · split
    · rename_i h1
      have := vread_bound 9 true X h h1
      exact ⟨this.1, this.2⟩
    · omega
  · omega
/-- The readings of a head, one behind the other. -/
structure HS where
  X : List Int
  E : Int
  v : Int
def s1 (X : List Int) (E : Int) : HS := ⟨X.drop (d1 X E), f1 X E, b1 X E⟩
def sv (X : List Int) (E : Int) : HS := ⟨X.drop (dv X E), fv X E, bv X E⟩
def lastH (a b c : Int) : Int × Nat × Nat × Nat :=
  if b ≤ 4294967295 ∧ c ≤ 4294967295 ∧ mayHead a.toNat b.toNat c.toNat = true then (0, a.toNat, b.toNat, c.toNat) else (1, 0, 0, 0)
def behindH (a : HS) (b : HS) (c : HS) : Int × Nat × Nat × Nat := if endE c.X c.E ≠ 0 then (endE c.X c.E, 0, 0, 0) else lastH a.v b.v c.v
def numsH (a : HS) : Int × Nat × Nat × Nat := behindH a (sv a.X a.E) (sv (sv a.X a.E).X (sv a.X a.E).E)
def verH (a : HS) : Int × Nat × Nat × Nat := if a.E = 0 ∧ a.v ≠ 2 then (4, 0, 0, 0) else numsH (s1 a.X a.E)
def kindH (a : HS) : Int × Nat × Nat × Nat := if a.E = 0 ∧ a.v ≠ 1 then (4, 0, 0, 0) else verH (s1 a.X a.E)
def stepsH (T : List Int) : Int × Nat × Nat × Nat := kindH (s1 T 0)

theorem endE_bad {X : List Int} {E : Int} (h : E ≠ 0) : endE X E = E := by unfold endE; rw [if_neg h]
theorem numsH_bad {a : HS} (h : a.E ≠ 0) : numsH a = (a.E, 0, 0, 0) := by
  have h1 : (sv a.X a.E).E = a.E := by unfold sv fv; rw [if_neg h]
  have h2 : (sv (sv a.X a.E).X (sv a.X a.E).E).E = a.E := by
    rw [h1]
    exact if_neg h
  unfold numsH behindH
  rw [h2, endE_bad h, if_pos h]
theorem verH_bad {a : HS} (h : a.E ≠ 0) : verH a = (a.E, 0, 0, 0) := by
  have h1 : (s1 a.X a.E).E = a.E := by unfold s1 f1; rw [if_neg h]
  unfold verH
  rw [if_neg (fun hh => h hh.1), numsH_bad (by rw [h1]; exact h), h1]
theorem numsH_read (e : Nat) (r : List Int) (hr : Octets r) : numsH ⟨r, 0, (e : Int)⟩ = headNums e r := by
  unfold numsH headNums
  by_cases h1 : (vget r).e ≠ 0
  · rw [if_pos h1]
    have e1 : sv r 0 = ⟨r.drop (vget r).n, (vget r).e, 0⟩ := by unfold sv dv fv bv; simp only [if_true]; rw [if_neg h1]
    simp only [e1]
    have e2 : (sv (r.drop (vget r).n) (vget r).e).E = (vget r).e := by unfold sv fv; rw [if_neg h1]
    unfold behindH
    rw [e2, endE_bad h1, if_pos h1]
  · have h1' : (vget r).e = 0 := by simpa using h1
    rw [if_neg h1]
    have e1 : sv r 0 = ⟨r.drop (vget r).n, 0, (vget r).x⟩ := by unfold sv dv fv bv; simp only [if_true]; rw [if_pos h1', h1']
    simp only [e1]
    have b1 := vread_bound 9 true r hr h1'
    rw [show vread (9 + 1) true r = vget r from rfl] at b1
    obtain ⟨s, hs⟩ := Int.eq_ofNat_of_zero_le b1.1
    have ho2 : Octets (r.drop (vget r).n) := hr.drop _
    obtain ⟨r2, hr2⟩ : ∃ r2, r2 = r.drop (vget r).n := ⟨_, rfl⟩
    rw [← hr2] at ho2 ⊢
    by_cases h2 : (vget r2).e ≠ 0
    · rw [if_pos h2]
      have e2 : (sv r2 0).E = (vget r2).e := by unfold sv fv; simp only [if_true]
      unfold behindH
      rw [e2, endE_bad h2, if_pos h2]
    · have h2' : (vget r2).e = 0 := by simpa using h2
      rw [if_neg h2]
      have e2 : sv r2 0 = ⟨r2.drop (vget r2).n, 0, (vget r2).x⟩ := by unfold sv dv fv bv; simp only [if_true]; rw [if_pos h2', h2']
      have b2 := vread_bound 9 true r2 ho2 h2'
      rw [show vread (9 + 1) true r2 = vget r2 from rfl] at b2
      obtain ⟨n, hn⟩ := Int.eq_ofNat_of_zero_le b2.1
      rw [e2]
      show (if endE (r2.drop (vget r2).n) 0 ≠ 0 then (endE (r2.drop (vget r2).n) 0, 0, 0, 0) else lastH (e : Int) (vget r).x (vget r2).x) = headLast e (vget r).x.toNat (vget r2).x.toNat (r2.drop (vget r2).n)
      unfold headLast
      by_cases h3 : r2.drop (vget r2).n = []
      · have e0 : endE (r2.drop (vget r2).n) 0 = 0 := by unfold endE; rw [if_pos rfl, if_pos h3]
        rw [e0, if_neg (by simp), if_neg (fun hh => hh h3)]
        unfold lastH
        rw [hs, hn]
        simp only [Int.toNat_natCast]
        have e3 : (((s : Int) ≤ 4294967295) ↔ s ≤ 4294967295) := by omega
        have e4 : (((n : Int) ≤ 4294967295) ↔ n ≤ 4294967295) := by omega
        simp only [e3, e4]
      · have e0 : endE (r2.drop (vget r2).n) 0 = 3 := by unfold endE; rw [if_pos rfl, if_neg h3]
        rw [e0, if_pos (by decide), if_pos h3]
theorem stepsH_read (T : List Int) (hT : Octets T) : stepsH T = headR T := by
  unfold stepsH
  cases T with
  | nil => rfl
  | cons b r =>
    have e1 : s1 (b :: r) 0 = ⟨r, 0, b⟩ := by simp [s1, d1, f1, b1]
    rw [e1]
    unfold kindH
    show _ = if b ≠ 1 then _ else headVer r
    by_cases h1 : b ≠ 1
    · rw [if_pos ⟨rfl, h1⟩, if_pos h1]
    · rw [if_neg (fun h => h1 h.2), if_neg h1]
      cases r with
      | nil =>
        have e2 : s1 [] 0 = ⟨[], 2, 0⟩ := rfl
        rw [e2, verH_bad (by decide)]
        rfl
      | cons b r =>
        have e2 : s1 (b :: r) 0 = ⟨r, 0, b⟩ := by simp [s1, d1, f1, b1]
        rw [e2]
        unfold verH
        show _ = if b ≠ 2 then _ else headExp r
        by_cases h2 : b ≠ 2
        · rw [if_pos ⟨rfl, h2⟩, if_pos h2]
        · rw [if_neg (fun h => h2 h.2), if_neg h2]
          cases r with
          | nil =>
            have e3 : s1 [] 0 = ⟨[], 2, 0⟩ := rfl
            rw [e3, numsH_bad (by decide)]
            rfl
          | cons x r =>
            have e3 : s1 (x :: r) 0 = ⟨r, 0, x⟩ := by simp [s1, d1, f1, b1]
            have hx := hT x (by simp)
            obtain ⟨e, he⟩ := Int.eq_ofNat_of_zero_le hx.1
            rw [e3, he]
            show numsH ⟨r, 0, (e : Int)⟩ = headNums (e : Int).toNat r
            rw [Int.toNat_natCast]
            exact numsH_read e r (fun b hb => hT b (by simp [hb]))
end Go.Proofs.Ytmifbohdepejaaa

namespace Go.Proofs.Ytmifbohdepejaaa
open Go.RowKit

/-- A region's condition may be made stronger on the way. -/
theorem wpAnyH_swap {P : Program} {md : Region.Mode} {ops : Array Oper} {Q : Exit → Act → World → Prop} {S S' : World → Prop} (h : ∀ w, S' w → S w) : ∀ (fuel : Nat) (listed : Array Bool) (a : Act) (w : World), wpAnyH P md ops Q S' fuel listed a w → wpAnyH P md ops Q S fuel listed a w
  | 0, _, _, _, hh => hh
  | fuel + 1, _, _, _, hh => ⟨hh.1, fun i hi => wpOp_mono (fun _ _ h' => ⟨h _ h'.1, wpAnyH_swap h fuel _ _ _ h'.2⟩) (hh.2 i hi)⟩
end Go.Proofs.Ytmifbohdepejaaa

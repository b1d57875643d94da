/-
  FrRef; FtRef; FenGet; FtGetN; VarRead; Lives2.
-/
import Derived.IntWalk
import Derived.Deep.Cut
import Derived.Test.YtmifbohdepejaaaM03
import Derived.Test.YtmifbohdepejaaaM04
import Derived.Test.YtmifbohdepejaaaM05
import Derived.Test.YtmifbohdepejaaaM06
import Derived.Test.YtmifbohdepejaaaM07
import Derived.Test.YtmifbohdepejaaaM08
import Derived.Test.YtmifbohdepejaaaM10
import Derived.Test.YtmifbohdepejaaaM11
import Derived.Test.YtmifbohdepejaaaM12
namespace Go.Proofs.Ytmifbohdepejaaa
open Go.RowKit

theorem u64_zero : U64 0 := by constructor <;> decide

set_option maxHeartbeats 800000 in
set_option maxRecDepth 10000 in
theorem seal9_ref (xs : List Int) (ho : Octets xs) (hl : xs.length ≤ 10000000) (w : World) :
    Calls Try.prog 36 #[.string (strOfNums xs)] w fun e w' => e = .returned (.string (strOfNums (sealN xs))) ∧ Keeps NoBlock w w' := by
  have HS := Lib.hid (fun w => wsum_ref 0 xs u64_zero ho (by omega) w)
  have hu := wxxh_u64 0 xs
  have HN := Lib.hid (fun w => num_any (wxxh 0 xs) 8 8 rfl (by decide) hu.1 hu.2 w)
  have hol : (xs ++ sumB xs).length ≤ 140737488355328 := by rw [List.length_append, sumB_length]; omega
  have HT := Lib.hid (fun w => stuff_ref (xs ++ sumB xs) (ho.app (sumB_octets xs)) hol w)
  have a1 := str_append xs (sumB xs)
  have z1 := str_size xs
  have z2 := str_size (sumB xs)
  rw [sumB_length] at z2
  have a2 : strOfNums (chunkN xs) ++ (⟨#[0]⟩ : ByteArray) = strOfNums (sealN xs) := str_append (chunkN xs) [0]
  have z3 := str_size (chunkN xs)
  have hmost := (seal_length xs).2
  have hlen := (seal_length xs).1
  have z4 : (⟨#[0]⟩ : ByteArray).size = 1 := rfl
  have hcl : (chunkN xs).length ≤ 100000000 := by
    unfold sizeN mostOf at hmost
    rw [if_neg (by omega)] at hmost
    omega
  rw [show stuff (xs ++ sumB xs) = chunkN xs from rfl] at HT
  rw [show digits (wxxh 0 xs) 8 = sumB xs from rfl] at HN
  obtain ⟨x, hx⟩ : ∃ x, x = wxxh 0 xs := ⟨_, rfl⟩
  rw [← hx] at HS HN
  obtain ⟨B, hB⟩ : ∃ B, B = sumB xs := ⟨_, rfl⟩
  rw [← hB] at HN HT a1 z2
  obtain ⟨C, hC⟩ : ∃ C, C = chunkN xs := ⟨_, rfl⟩
  rw [← hC] at HT a2 z3 hcl
  obtain ⟨F, hF⟩ : ∃ F, F = sealN xs := ⟨_, rfl⟩
  rw [← hF] at a2 ⊢
  obtain ⟨L, hL⟩ : ∃ L, L = xs.length := ⟨_, rfl⟩
  rw [← hL] at z1 hl
  obtain ⟨M, hM⟩ : ∃ M, M = C.length := ⟨_, rfl⟩
  rw [← hM] at z3 hcl
  have r1 : ¬ 9223372036854775807 < L + 8 := by omega
  have r2 : ¬ 9223372036854775807 < M + 1 := by omega
  clear hx hB hC hF hL hM hu hol hmost hlen ho
  go_enter Try.func36, Try.ntmps36
  go_wp2_with fail
  refine (HS.out _).mono ?_
  rintro e w1 ⟨rfl, hk⟩
  have HK := Lib.hid hk
  clear hk
  go_wp2_with fail
  refine (HN.out _).mono ?_
  rintro e w2 ⟨rfl, hk⟩
  have HK := Lib.hid (HK.out.trans hk)
  clear hk
  go_wp2_with fail
  refine (HT.out _).mono ?_
  rintro e w3 ⟨rfl, hk⟩
  have HK := Lib.hid (HK.out.trans hk)
  clear hk
  go_wp2_with fail
  go_ret
  exact ⟨rfl, HK.out⟩

def openOut (t : Int × List Int) : Value := .tuple #[.string (strOfNums t.2), .int .i64 t.1]

set_option maxHeartbeats 1600000 in
set_option maxRecDepth 10000 in
theorem open9_ref (ys : List Int) (ho : Octets ys) (hl : ys.length ≤ 10000000) (w : World) :
    Calls Try.prog 43 #[.string (strOfNums ys)] w fun e w' => e = .returned (openOut (openN ys)) ∧ Keeps NoBlock w w' := by
  have HU := Lib.hid (fun w => unstuff_ref ys ho (by omega) w)
  have hu := unst_octets ho
  unfold openN
  obtain ⟨y, hy⟩ : ∃ y, y = (unst ys).1 := ⟨_, rfl⟩
  obtain ⟨T, hT⟩ : ∃ T, T = (unst ys).2 := ⟨_, rfl⟩
  rw [← hy] at HU ⊢
  rw [← hT] at HU hu ⊢
  obtain ⟨hto, htl⟩ := hu
  have hsz := str_size T
  by_cases h0 : y = 0
  · subst h0
    clear hy
    rw [if_neg (by simp)]
    unfold openEnd
    obtain ⟨L, hL⟩ : ∃ L, L = T.length := ⟨_, rfl⟩
    rw [← hL] at hsz htl ⊢
    by_cases h8 : L < 8
    · rw [if_pos h8]
      have hd : decide ((L : Int) - 8 < 0) = true := decide_eq_true (by omega)
      unfold openOut
      clear hT hL hto htl ho hl
      go_enter Try.func43, Try.ntmps43
      go_wp2_with fail
      refine (HU.out _).mono ?_
      rintro e w1 ⟨rfl, hk⟩
      have HK := Lib.hid hk
      clear hk
      go_wp2_with fail
      go_ret2
      exact ⟨rfl, HK.out⟩
    · rw [if_neg h8]
      obtain ⟨m, hm⟩ : ∃ m, m = L - 8 := ⟨_, rfl⟩
      rw [← hm]
      have hd : decide ((m : Int) < 0) = false := decide_eq_false (by omega)
      have hi : (L : Int) - 8 = (m : Int) := by omega
      have e1 : (strOfNums T).extract m L = strOfNums (T.drop m) := by
        have := str_drop T m
        rw [hsz] at this
        exact this
      have e2 := str_take T m
      have hmL : m ≤ L := by omega
      have hmb : m ≤ 10000000 := by omega
      have HV := Lib.hid (fun w => value_ref (T.drop m) (hto.drop m) (by rw [List.length_drop]; omega) w)
      have HS := Lib.hid (fun w => wsum_ref 0 (T.take m) u64_zero (hto.take m) (by rw [List.length_take]; omega) w)
      by_cases hv : le (T.drop m) = wxxh 0 (T.take m)
      · rw [if_pos hv]
        have hne : (le (T.drop m) != wxxh 0 (T.take m)) = false := by rw [hv]; simp
        obtain ⟨a, ha⟩ : ∃ a, a = le (T.drop m) := ⟨_, rfl⟩
        obtain ⟨b, hb⟩ : ∃ b, b = wxxh 0 (T.take m) := ⟨_, rfl⟩
        rw [← ha] at HV hne
        rw [← hb] at HS hne
        unfold openOut
        clear hT hL hto htl ho hl ha hb hv hm h8
        go_enter Try.func43, Try.ntmps43
        go_wp2_with fail
        refine (HU.out _).mono ?_
        rintro e w1 ⟨rfl, hk⟩
        have HK := Lib.hid hk
        clear hk
        go_wp2_with fail
        go_region_with (first
          | (go_at_call 78; refine (HV.out _).mono ?_; rintro e w2 ⟨rfl, rfl⟩)
          | (go_at_call 75; refine (HS.out _).mono ?_; rintro e w2 ⟨rfl, hk⟩; have HK2 := Lib.hid ((HK.out.drewN _).trans hk); clear hk))
        all_goals
          go_wp2_with fail
          go_ret2
          first
            | exact ⟨rfl, HK2.out⟩
            | exact ⟨rfl, HK2.out.drewN _⟩
      · rw [if_neg hv]
        have hne : (le (T.drop m) != wxxh 0 (T.take m)) = true := by rw [bne_iff_ne]; exact hv
        obtain ⟨a, ha⟩ : ∃ a, a = le (T.drop m) := ⟨_, rfl⟩
        obtain ⟨b, hb⟩ : ∃ b, b = wxxh 0 (T.take m) := ⟨_, rfl⟩
        rw [← ha] at HV hne
        rw [← hb] at HS hne
        unfold openOut
        clear hT hL hto htl ho hl ha hb hv hm h8
        go_enter Try.func43, Try.ntmps43
        go_wp2_with fail
        refine (HU.out _).mono ?_
        rintro e w1 ⟨rfl, hk⟩
        have HK := Lib.hid hk
        clear hk
        go_wp2_with fail
        go_region_with (first
          | (go_at_call 78; refine (HV.out _).mono ?_; rintro e w2 ⟨rfl, rfl⟩)
          | (go_at_call 75; refine (HS.out _).mono ?_; rintro e w2 ⟨rfl, hk⟩; have HK2 := Lib.hid ((HK.out.drewN _).trans hk); clear hk))
        all_goals
          go_wp2_with fail
          go_ret2
          first
            | exact ⟨rfl, HK2.out⟩
            | exact ⟨rfl, HK2.out.drewN _⟩
  · rw [if_pos h0]
    have hne : (y != 0) = true := by rw [bne_iff_ne]; exact h0
    unfold openOut
    clear hT hto htl ho hl hy h0
    go_enter Try.func43, Try.ntmps43
    go_wp2_with fail
    refine (HU.out _).mono ?_
    rintro e w1 ⟨rfl, hk⟩
    have HK := Lib.hid hk
    clear hk
    go_wp2_with fail
    go_ret2
    exact ⟨rfl, HK.out⟩
end Go.Proofs.Ytmifbohdepejaaa

namespace Go.Proofs.Ytmifbohdepejaaa
open Go.RowKit

def ftV (u : Nat) (q : Option Addr) (n c : Nat) : Value := .agg #[.int .u32 (u : Int), .slice q n c]
def ftCells (u : Nat) (q : Option Addr) (n c : Nat) : Array Value := #[.int .u32 (u : Int), .slice q n c]

theorem belowFt_take {u : Nat} {l : List En} {j : Nat} (h : j < l.length) : belowFt ⟨u, l.take (j + 1)⟩ = (belowFt ⟨u, l.take j⟩ && decide ((l.getD j En.none).at_ < u)) := by
  have e : l.take (j + 1) = l.take j ++ [l.getD j En.none] := by rw [List.take_succ_eq_append_getElem h]; simp [h]
  unfold belowFt
  simp only
  rw [e, List.all_append]
  simp
theorem belowFt_not {u : Nat} {l : List En} {j : Nat} (h : j < l.length) (hn : ¬ (l.getD j En.none).at_ < u) : belowFt ⟨u, l⟩ = false := by
  rw [Bool.eq_false_iff]
  intro hb
  unfold belowFt at hb
  simp only at hb
  have := (List.all_eq_true.1 hb) (l.getD j En.none) (by simp [h])
  exact hn (by simpa using this)

set_option maxHeartbeats 4000000 in
set_option maxRecDepth 10000 in
theorem check13_ref (u : Nat) (q : Option Addr) (n c : Nat) (l : List En) (hn : n = l.length) (hn9 : n ≤ 1000000) (w : World) (hl : EnsAt w q l) :
    Calls Try.prog 10 #[ftV u q n c] w fun e w' => e = .returned (.int .i64 (checkFt ⟨u, l⟩)) ∧ Keeps NoBlock w w' := by
  have HL := Lib.hid hl
  have HN := Lib.hid hn
  have HB := Lib.hid (Whole.new w 34 (ftCells u q n c))
  have HK0 := Lib.hid ((Keeps.refl NoBlock w).alloc (.cells (ftCells u q n c) 34))
  have HR := Lib.hid (fun W h => rising11_ref q n c l hn hn9 W h)
  have hdef : checkFt ⟨u, l⟩ = if n < 1 then 4 else if 1048576 < n then 3 else if risesE l = true then (if belowFt ⟨u, l⟩ = true then 0 else 4) else 8 := by rw [hn]; rfl
  rw [hdef]
  have HT := Lib.hid (fun j (h : j < l.length) => belowFt_take (u := u) h)
  have HF := Lib.hid (fun j (h : j < l.length) hn => belowFt_not (u := u) h hn)
  clear hl hn hdef
  unfold ftV
  by_cases h0 : n < 1
  · rw [if_pos h0]
    obtain rfl : n = 0 := by omega
    go_enter Try.func10, Try.ntmps10
    go_wp2_with fail
    go_ret
    exact ⟨rfl, HK0.out⟩
  rw [if_neg h0, if_neg (by omega)]
  have d0 : decide ((n : Int) < 1) = false := decide_eq_false (by omega)
  have d1 : decide ((1048576 : Int) < (n : Int)) = false := decide_eq_false (by omega)
  have d2 : decide (1048576 < n) = false := decide_eq_false (by omega)
  by_cases hr : risesE l = true
  rotate_left
  · rw [if_neg hr]
    rw [Bool.eq_false_iff.2 hr] at HR
    go_enter Try.func10, Try.ntmps10
    go_wp2_with fail
    refine (HR.out _ (EnsAt.keep HL.out HK0.out)).mono ?_
    rintro e w1 ⟨rfl, hk⟩
    have HK := Lib.hid (HK0.out.trans hk)
    clear hk
    go_wp2_with fail
    go_ret
    exact ⟨rfl, HK.out⟩
  rw [if_pos hr]
  rw [hr] at HR
  obtain ⟨z, hz⟩ : ∃ z, z = (if belowFt ⟨u, l⟩ = true then (0 : Int) else 4) := ⟨_, rfl⟩
  rw [← hz]
  have HZ := Lib.hid hz
  clear hz
  go_enter Try.func10, Try.ntmps10
  go_wp2_with fail
  refine (HR.out _ (EnsAt.keep HL.out HK0.out)).mono ?_
  rintro e w1 ⟨rfl, hk⟩
  have HK1 := Lib.hid (HK0.out.trans hk)
  have HB1 := Lib.hid (HB.out.keep hk (fun h => h))
  have b0 := HB1.out.cell 0 rfl
  have b1 := HB1.out.cell 1 rfl
  simp only [ftCells, List.getElem_toArray, List.getElem_cons_zero, List.getElem_cons_succ] at b0 b1
  clear hk HB
  go_wp2_with fail
  clear b0 b1
  go_loopw [20] (fun i wr => ∃ j : Nat, j ≤ n ∧ i = .int .i64 (j : Int) ∧ belowFt ⟨u, l.take j⟩ = true ∧ Hid (Keeps NoBlock w1 wr)) (fun i _ => n - (intOf i).toNat)
  case atStart => exact ⟨0, Nat.zero_le _, rfl, rfl, Lib.hid (Keeps.refl _ _)⟩
  case round =>
    obtain ⟨j, hj, rfl, hbt, HK⟩ := hrel
    have HBt := Lib.hid hbt
    clear hbt
    by_cases hlt : j < n
    · have hdj : decide ((j : Int) < (n : Int)) = true := decide_eq_true (by omega)
      have hjl : j < l.length := by rw [← HN.out]; exact hlt
      obtain ⟨a, rfl, c0, c1⟩ := EnsAt.at_ (EnsAt.keep HL.out (HK1.out.trans HK.out)) j hjl
      have HB2 := Lib.hid (HB1.out.keep HK.out (fun h => h))
      have b0 := (HB2.out.alloc (.cells #[.int .u64 ((l.getD j En.none).hash : Int), .int .u32 ((l.getD j En.none).at_ : Int)] 68)).cell 0 rfl
      simp only [ftCells, List.getElem_toArray, List.getElem_cons_zero] at b0
      have hT := HT.out j hjl
      have hF := HF.out j hjl
      obtain ⟨r, hr⟩ : ∃ r, r = l.getD j En.none := ⟨_, rfl⟩
      rw [← hr] at c0 c1 b0 hT hF
      have hT2 := Lib.hid hT
      have hF2 := Lib.hid hF
      clear hr hjl hT hF
      by_cases hlu : r.at_ < u
      · have hg : decide ((u : Int) ≤ (r.at_ : Int)) = false := decide_eq_false (by omega)
        have hg2 : decide (u ≤ r.at_) = false := decide_eq_false (by omega)
        have HBt2 : Hid (belowFt ⟨u, l.take (j + 1)⟩ = true) := Lib.hid (by rw [hT2.out, HBt.out, decide_eq_true hlu]; rfl)
        go_wp2_with fail
        exact ⟨⟨j + 1, by omega, by go_num, HBt2.out, Lib.hid (HK.out.alloc _)⟩, by simp [intOf]; omega⟩
      · have hg : decide ((u : Int) ≤ (r.at_ : Int)) = true := decide_eq_true (by omega)
        have hg2 : decide (u ≤ r.at_) = true := decide_eq_true (by omega)
        have HZ2 : Hid (z = 4) := Lib.hid (by rw [HZ.out, hF2.out hlu]; rfl)
        go_wp2_with fail
        go_ret
        exact ⟨by rw [HZ2.out]; rfl, (HK1.out.trans HK.out).alloc _⟩
    · have hdj : decide ((j : Int) < (n : Int)) = false := decide_eq_false (by omega)
      have hT : l.take j = l := List.take_of_length_le (by have := HN.out; omega)
      have HZ2 : Hid (z = 0) := Lib.hid (by rw [HZ.out]; have h := HBt.out; rw [hT] at h; rw [if_pos h])
      clear hT
      go_wp2_with fail
      go_ret
      exact ⟨by rw [HZ2.out]; rfl, HK1.out.trans HK.out⟩

set_option maxRecDepth 10000 in
theorem most13_ref (k : Nat) (hk : k ≤ 1000000) (w : World) : Calls Try.prog 19 #[.int .i64 (k : Int)] w fun e w' => e = .returned (.int .i64 (mostFt k : Int)) ∧ Keeps NoBlock w w' := by
  have hq : ((k : Int) + 15).tdiv 16 = (((k + 15) / 16 : Nat) : Int) := by rw [Int.tdiv_eq_ediv_of_nonneg (by omega)]; omega
  have hm : mostFt k = bodyLen k + 8 + 1 + (bodyLen k + 8 - 1) / 254 + 1 := by
    unfold mostFt sizeN mostOf
    rw [if_neg (by omega)]
  have hb : bodyLen k = 9 + 12 * k + 8 * ((k + 15) / 16) := by unfold bodyLen countF; rw [Int.toNat_natCast]
  obtain ⟨D, hD⟩ : ∃ D, D = (k + 15) / 16 := ⟨_, rfl⟩
  rw [← hD] at hq hb
  obtain ⟨B, hB⟩ : ∃ B, B = bodyLen k := ⟨_, rfl⟩
  rw [← hB] at hm hb
  have hB9 : B ≤ 100000000 := by omega
  have hq2 : ((B : Int) + 8 - 1).tdiv 254 = (((B + 8 - 1) / 254 : Nat) : Int) := by rw [Int.tdiv_eq_ediv_of_nonneg (by omega)]; omega
  obtain ⟨E, hE⟩ : ∃ E, E = (B + 8 - 1) / 254 := ⟨_, rfl⟩
  rw [← hE] at hq2 hm
  have hE9 : E ≤ 100000000 := by omega
  have hsum : 9 + 12 * (k : Int) + 8 * (D : Int) = (B : Int) := by omega
  have hc : ((B + 8 + 1 + E + 1 : Nat) : Int) = (B : Int) + 8 + 1 + (E : Int) + 1 := by omega
  rw [hm, hc]
  have w1 : IntKind.i64.wrap (12 * (k : Int)) = 12 * (k : Int) := IntWalk.i64_in _ (by omega)
  have w2 : IntKind.i64.wrap (9 + 12 * (k : Int)) = 9 + 12 * (k : Int) := IntWalk.i64_in _ (by omega)
  have w3 : IntKind.i64.wrap ((k : Int) + 15) = (k : Int) + 15 := IntWalk.i64_in _ (by omega)
  have w4 : IntKind.i64.wrap (8 * (D : Int)) = 8 * (D : Int) := IntWalk.i64_in _ (by omega)
  clear hD hB hE hb hc hm
  go_enter Try.func19, Try.ntmps19
  go_wp2_with fail
  go_ret
  exact ⟨rfl, Keeps.refl _ _⟩

theorem bodyFt_flat (u : Nat) (l : List En) : bodyFt ⟨u, l⟩ = (((4 :: digits (l.length : Int) 4) ++ digits (u : Int) 4) ++ textE l) ++ textF (ofF l) := by simp [bodyFt]

set_option maxHeartbeats 4000000 in
set_option maxRecDepth 10000 in
theorem text13_ref (u : Nat) (hu : u < 4294967296) (q : Option Addr) (n c : Nat) (l : List En) (hn : n = l.length) (hn9 : n ≤ 100000) (hf : ∀ e ∈ l, e.Fine) (w : World) (hl : EnsAt w q l) :
    Calls Try.prog 14 #[ftV u q n c] w fun e w' => e = .returned (.string (strOfNums (sealN (bodyFt ⟨u, l⟩)))) ∧ Keeps NoBlock w w' := by
  have wn : IntKind.u64.wrap (n : Int) = (n : Int) := by rw [IntKind.wrap_u64]; omega
  have wu : IntKind.u64.wrap (u : Int) = (u : Int) := by rw [IntKind.wrap_u64]; omega
  have HN4 := Lib.hid (fun w => num_any (n : Int) 4 4 rfl (by decide) (by omega) (by omega) w)
  have HU4 := Lib.hid (fun w => num_any (u : Int) 4 4 rfl (by decide) (by omega) (by omega) w)
  have HTE := Lib.hid (fun W h => text11_ref q n c l hn (by omega) hf W h)
  have HOf := Lib.hid (fun W h => of12_ref q n c l hn (by omega) W h)
  have hfl := ofF_length l
  have hff := ofF_fine hf
  have HTF := Lib.hid (fun q m d W (hm : m = (ofF l).length) h => text12_ref q m d (ofF l) hm (by omega) hff W h)
  have hbl := bodyFt_length ⟨u, l⟩
  have hble := bodyLen_le l.length
  have hfl2 := bodyFt_flat u l
  have HSl := Lib.hid (fun w => seal9_ref (bodyFt ⟨u, l⟩) bodyFt_octets (by simp only at hbl; omega) w)
  have z1 := str_size (digits (n : Int) 4)
  have z2 := str_size (digits (u : Int) 4)
  have z3 := str_size (textE l)
  have z4 := str_size (textF (ofF l))
  rw [digits_length] at z1 z2
  rw [textE_length] at z3
  rw [textF_length, hfl] at z4
  rw [← hn] at hfl2 z3 z4
  have hl1 : ((4 : Int) :: digits (n : Int) 4).length = 5 := by rw [List.length_cons, digits_length]
  have hl2 : (((4 : Int) :: digits (n : Int) 4) ++ digits (u : Int) 4).length = 9 := by rw [List.length_append, hl1, digits_length]
  have hl3 : ((((4 : Int) :: digits (n : Int) 4) ++ digits (u : Int) 4) ++ textE l).length = 9 + 12 * n := by rw [List.length_append, hl2, textE_length, ← hn]
  have a1 : (⟨#[4]⟩ : ByteArray) ++ strOfNums (digits (n : Int) 4) = strOfNums (4 :: digits (n : Int) 4) := str_append [4] _
  have a2 := str_append (4 :: digits (n : Int) 4) (digits (u : Int) 4)
  have a3 := str_append ((4 :: digits (n : Int) 4) ++ digits (u : Int) 4) (textE l)
  have a4 := str_append (((4 :: digits (n : Int) 4) ++ digits (u : Int) 4) ++ textE l) (textF (ofF l))
  rw [← hfl2] at a4
  have z0 : (⟨#[4]⟩ : ByteArray).size = 1 := rfl
  have z5 := str_size (4 :: digits (n : Int) 4)
  have z6 := str_size ((4 :: digits (n : Int) 4) ++ digits (u : Int) 4)
  have z7 := str_size (((4 :: digits (n : Int) 4) ++ digits (u : Int) 4) ++ textE l)
  rw [hl1] at z5
  rw [hl2] at z6
  rw [hl3] at z7
  obtain ⟨X1, hX1⟩ : ∃ X, X = 4 :: digits (n : Int) 4 := ⟨_, rfl⟩
  rw [← hX1] at a1 a2 a3 a4 z5 z6 z7
  obtain ⟨D1, hD1⟩ : ∃ X, X = digits (n : Int) 4 := ⟨_, rfl⟩
  obtain ⟨D2, hD2⟩ : ∃ X, X = digits (u : Int) 4 := ⟨_, rfl⟩
  rw [← hD1] at a1 z1 HN4
  rw [← hD2] at a2 a3 a4 z2 z6 z7 HU4
  obtain ⟨X2, hX2⟩ : ∃ X, X = X1 ++ D2 := ⟨_, rfl⟩
  rw [← hX2] at a2 a3 a4 z6 z7
  obtain ⟨TE, hTE⟩ : ∃ X, X = textE l := ⟨_, rfl⟩
  rw [← hTE] at a3 a4 z3 z7 HTE
  obtain ⟨X3, hX3⟩ : ∃ X, X = X2 ++ TE := ⟨_, rfl⟩
  rw [← hX3] at a3 a4 z7
  obtain ⟨TF, hTF⟩ : ∃ X, X = textF (ofF l) := ⟨_, rfl⟩
  rw [← hTF] at a4 z4 HTF
  obtain ⟨B, hB⟩ : ∃ B, B = bodyFt ⟨u, l⟩ := ⟨_, rfl⟩
  rw [← hB] at a4 HSl ⊢
  obtain ⟨T, hT⟩ : ∃ T, T = sealN B := ⟨_, rfl⟩
  rw [← hT] at HSl ⊢
  obtain ⟨Cn, hC⟩ : ∃ C, C = (n + 15) / 16 := ⟨_, rfl⟩
  rw [← hC] at z4
  have hC9 : Cn ≤ 100000 := by omega
  have r1 : ¬ 9223372036854775807 < 1 + 4 := by decide
  have r2 : ¬ 9223372036854775807 < 5 + 4 := by decide
  have r3 : ¬ 9223372036854775807 < 9 + 12 * n := by omega
  have r4 : ¬ 9223372036854775807 < 9 + 12 * n + 8 * Cn := by omega
  have HW0 := Lib.hid (Whole.new w 34 (ftCells u q n c))
  have HL := Lib.hid hl
  clear hn hX1 hD1 hD2 hX2 hTE hX3 hTF hB hT hC hl1 hl2 hl3 hbl hble hfl hff hfl2 hl hf hu
  unfold ftV
  go_enter Try.func14, Try.ntmps14
  go_wp2_with fail
  obtain ⟨W, hW⟩ : ∃ W, W = w.alloc (.cells #[.int .u32 (u : Int), .slice q n c] 34) := ⟨_, rfl⟩
  have HR : Hid (Whole W w.heap.size 34 (ftCells u q n c)) := by rw [hW]; exact HW0
  have HK : Hid (Keeps NoBlock w W) := Lib.hid (by rw [hW]; exact (Keeps.refl _ _).alloc _)
  rw [← hW]
  clear hW HW0
  have s0 := And.intro ((Whole.drewN HR.out 1).cell 0 rfl) ((Whole.drewN HR.out 1).cell 1 rfl)
  have sN := And.intro (HR.out.cell 0 rfl) (HR.out.cell 1 rfl)
  simp only [ftCells, List.getElem_toArray, List.getElem_cons_zero, List.getElem_cons_succ] at s0 sN
  go_region_held3 (fun w' => w'.cell? ⟨w.heap.size, 0, none⟩ = some (.int .u32 (u : Int)) ∧ w'.cell? ⟨w.heap.size, 1, none⟩ = some (.slice q n c))
    (first | exact s5 | exact s0 | exact sN)
    (first | (go_at_call 35; (first | (with_reducible refine (HN4.out _).mono ?_) | (with_reducible refine (HU4.out _).mono ?_)); rintro e w5 ⟨rfl, hk⟩; have hk' : Keeps NoBlock W w5 := (by first | exact hk | exact hk.ofDrew | exact hk.ofDrewN); have HK := Lib.hid (HK.out.trans hk'); have HR := Lib.hid (HR.out.keep hk' (fun h => h)); have s5 := And.intro (HR.out.cell 0 rfl) (HR.out.cell 1 rfl); simp only [ftCells, List.getElem_toArray, List.getElem_cons_zero, List.getElem_cons_succ] at s5; clear hk hk'; obtain ⟨W, rfl⟩ : ∃ x, x = w5 := ⟨_, rfl⟩))
  clear s0 sN s5
  go_wp2_with fail
  have s0 := And.intro ((Whole.drewN HR.out 1).cell 0 rfl) ((Whole.drewN HR.out 1).cell 1 rfl)
  have sN := And.intro (HR.out.cell 0 rfl) (HR.out.cell 1 rfl)
  simp only [ftCells, List.getElem_toArray, List.getElem_cons_zero, List.getElem_cons_succ] at s0 sN
  go_region_held3 (fun w' => w'.cell? ⟨w.heap.size, 0, none⟩ = some (.int .u32 (u : Int)) ∧ w'.cell? ⟨w.heap.size, 1, none⟩ = some (.slice q n c))
    (first | exact s5 | exact s0 | exact sN)
    (first | (go_at_call 37; refine (HTE.out _ (by first | exact EnsAt.keep HL.out HK.out | exact EnsAt.keep HL.out HK.out.drew | exact EnsAt.keep HL.out (HK.out.drewN _))).mono ?_; rintro e w5 ⟨rfl, hk⟩; have hk' : Keeps NoBlock W w5 := (by first | exact hk | exact hk.ofDrew | exact hk.ofDrewN); have HK := Lib.hid (HK.out.trans hk'); have HR := Lib.hid (HR.out.keep hk' (fun h => h)); have s5 := And.intro (HR.out.cell 0 rfl) (HR.out.cell 1 rfl); simp only [ftCells, List.getElem_toArray, List.getElem_cons_zero, List.getElem_cons_succ] at s5; clear hk hk'; obtain ⟨W, rfl⟩ : ∃ x, x = w5 := ⟨_, rfl⟩) | (go_at_call 39; refine (HOf.out _ (by first | exact EnsAt.keep HL.out HK.out | exact EnsAt.keep HL.out HK.out.drew | exact EnsAt.keep HL.out (HK.out.drewN _))).mono ?_; rintro e w5 ⟨v5, rfl, hnum⟩; obtain ⟨q9, m9, d9, rfl, hbare9, hm9, hc9⟩ := own_nums hnum.1; have hk := Keeps.ofBelow (S := NoBlock) hnum.2; have hk' : Keeps NoBlock W w5 := (by first | exact hk | exact hk.ofDrew | exact hk.ofDrewN); have HK := Lib.hid (HK.out.trans hk'); have HR := Lib.hid (HR.out.keep hk' (fun h => h)); have HRw := Lib.hid (cells_rowN hm9 hbare9 hc9); have HM9 := Lib.hid hm9; have s5 := And.intro (HR.out.cell 0 rfl) (HR.out.cell 1 rfl); simp only [ftCells, List.getElem_toArray, List.getElem_cons_zero, List.getElem_cons_succ] at s5; clear hk hk' hnum hbare9 hm9 hc9; obtain ⟨W, rfl⟩ : ∃ x, x = w5 := ⟨_, rfl⟩) | (go_at_call 38; refine (HTF.out _ _ _ _ HM9.out (by exact HRw.out)).mono ?_; rintro e w5 ⟨rfl, hk⟩; have hk' : Keeps NoBlock W w5 := (by first | exact hk | exact hk.ofDrew | exact hk.ofDrewN); have HK := Lib.hid (HK.out.trans hk'); have HR := Lib.hid (HR.out.keep hk' (fun h => h)); have s5 := And.intro (HR.out.cell 0 rfl) (HR.out.cell 1 rfl); simp only [ftCells, List.getElem_toArray, List.getElem_cons_zero, List.getElem_cons_succ] at s5; clear hk hk' HRw; obtain ⟨W, rfl⟩ : ∃ x, x = w5 := ⟨_, rfl⟩) | (go_at_call 36; refine (HSl.out _).mono ?_; rintro e w5 ⟨rfl, hk⟩; have hk' : Keeps NoBlock W w5 := (by first | exact hk | exact hk.ofDrew | exact hk.ofDrewN); have HK := Lib.hid (HK.out.trans hk'); have HR := Lib.hid (HR.out.keep hk' (fun h => h)); have s5 := And.intro (HR.out.cell 0 rfl) (HR.out.cell 1 rfl); simp only [ftCells, List.getElem_toArray, List.getElem_cons_zero, List.getElem_cons_succ] at s5; clear hk hk'; obtain ⟨W, rfl⟩ : ∃ x, x = w5 := ⟨_, rfl⟩))
  go_wp2_with fail
  go_ret
  exact ⟨rfl, HK.out⟩

set_option maxHeartbeats 4000000 in
set_option maxRecDepth 10000 in
theorem ref13_go (u : Nat) (q : Option Addr) (n c : Nat) (l : List En) (hn : n = l.length) (hn9 : n ≤ 1000000) (w : World) (hl : EnsAt w q l) :
    Calls Try.prog 11 #[ftV u q n c] w fun e w' => ∃ (q2 : Option Addr) (m d : Nat), e = .returned (ftV u q2 m d) ∧ m = l.length ∧ m ≤ d ∧ d ≤ 9223372036854775807 ∧ (q2 = none → m = 0 ∧ d = 0) ∧ EnsAt w' q2 l ∧ Keeps NoBlock w w' := by
  have HRf := Lib.hid (fun W h => refs_own q n c l hn hn9 W h)
  have HW0 := Lib.hid ((Whole.new w 25 (ftCells u q n c)).alloc (.cells (ftCells 0 none 0 0) 34))
  have HZ0 := Lib.hid (Whole.newAt (w.alloc (.cells (ftCells u q n c) 25)) 34 (ftCells 0 none 0 0) (w.heap.size + 1) (by simp))
  have HL := Lib.hid hl
  clear hl hn
  unfold ftV
  go_enter Try.func11, Try.ntmps11
  go_wp2_with fail
  obtain ⟨W, hW⟩ : ∃ W, W = (w.alloc (.cells #[.int .u32 (u : Int), .slice q n c] 25)).alloc (.cells #[.int .u32 0, .slice none 0 0] 34) := ⟨_, rfl⟩
  have HR : Hid (Whole W w.heap.size 25 (ftCells u q n c)) := by rw [hW]; exact HW0
  have HZ : Hid (Whole W (w.heap.size + 1) 34 (ftCells 0 none 0 0)) := by rw [hW]; exact HZ0
  have HK : Hid (Keeps NoBlock w W) := Lib.hid (by rw [hW]; exact ((Keeps.refl _ _).alloc _).alloc _)
  have HZ0' : Hid (w.heap.size + 1 < W.heap.size) := Lib.hid HZ.out.lt
  rw [← hW]
  clear hW HW0 HZ0
  have s0 := And.intro ((Whole.drewN HR.out 1).cell 0 rfl) ((Whole.drewN HR.out 1).cell 1 rfl)
  have sN := And.intro (HR.out.cell 0 rfl) (HR.out.cell 1 rfl)
  simp only [ftCells, List.getElem_toArray, List.getElem_cons_zero, List.getElem_cons_succ] at s0 sN
  go_region_held3 (fun w' => w'.cell? ⟨w.heap.size, 0, none⟩ = some (.int .u32 (u : Int)) ∧ w'.cell? ⟨w.heap.size, 1, none⟩ = some (.slice q n c))
    (first | exact s5 | exact s0 | exact sN | exact And.intro (((HR.out.setOther (p := ⟨w.heap.size + 1, 0, none⟩) (by simp) _).setOther (p := ⟨w.heap.size + 1, 1, none⟩) (by simp) _).cell 0 rfl) (((HR.out.setOther (p := ⟨w.heap.size + 1, 0, none⟩) (by simp) _).setOther (p := ⟨w.heap.size + 1, 1, none⟩) (by simp) _).cell 1 rfl))
    (first | (go_at_call 29; refine (HRf.out _ (by first | exact EnsAt.keep HL.out HK.out | exact EnsAt.keep HL.out HK.out.drew | exact EnsAt.keep HL.out (HK.out.drewN _))).mono ?_; rintro e w5 ⟨v, rfl, hts⟩; obtain ⟨q2, m, d, rfl, hm, hmd, hd, hq, hat, hk⟩ := hts.new (dd := En.none); have HFr : Hid (∀ a, q2 = some a → W.heap.size ≤ a.block) := Lib.hid (fun a ha => by subst ha; exact own_from hts.1 rfl); have hk' : Keeps NoBlock W w5 := (by first | exact hk | exact hk.ofDrew | exact hk.ofDrewN); have HK := Lib.hid (HK.out.trans hk'); have HR := Lib.hid (HR.out.keep hk' (fun h => h)); have HZ := Lib.hid (HZ.out.keep hk' (fun h => h)); have s5 := And.intro (HR.out.cell 0 rfl) (HR.out.cell 1 rfl); have z0 := HZ.out.cell 0 rfl; have z1 := HZ.out.cell 1 rfl; have f0 := HZ.out.free 0; have f1 := HZ.out.free 1; simp only [ftCells, List.getElem_toArray, List.getElem_cons_zero, List.getElem_cons_succ] at s5 z0 z1; have HM := Lib.hid (And.intro hm (And.intro hmd (And.intro hd hq))); have HE := Lib.hid hat; clear hk hk' hm hmd hd hq hat hts))
  have hlt : w.heap.size + 1 < W.heap.size := HZ0'.out
  have HE2 := Lib.hid (EnsAt.keepFar (show EnsAt _ q2 l from HE.out) (((Keeps.refl (Just (w.heap.size + 1)) _).setIn (Just.self _) 0 (.int .u32 (u : Int))).setIn (Just.self _) 1 (.slice q2 m d)) (fun h0 a ha => by have := HFr.out a ha; unfold Just; omega))
  have HK2 := Lib.hid ((HK.out.setNew (g := w.heap.size + 1) (by omega) 0 (.int .u32 (u : Int))).setNew (g := w.heap.size + 1) (by omega) 1 (.slice q2 m d))
  go_wp2_with fail
  exact bodyPost_ret (v := .agg #[.int .u32 (u : Int), .slice q2 m d]) (by simp [results, Try.results11, go_sem, z0, z1]) rfl ⟨q2, m, d, rfl, HM.out.1, HM.out.2.1, HM.out.2.2.1, HM.out.2.2.2, HE2.out, HK2.out⟩

set_option maxRecDepth 10000 in
theorem same13_go (u : Nat) (p q : Option Addr) (n c d : Nat) (l : List En) (w : World) (hn : n = l.length) (hn9 : n ≤ 1000000) (hp : EnsAt w p l) (hq : EnsAt w q l) :
    Calls Try.prog 16 #[ftV u p n c, ftV u q n d] w fun e w' => e = .returned (.bool true) ∧ Keeps NoBlock w w' := by
  have hk0 : Keeps NoBlock w ((w.alloc (.cells (ftCells u p n c) 25)).alloc (.cells (ftCells u q n d) 34)) := ((Keeps.refl _ _).alloc _).alloc _
  have HS := Lib.hid (same11_go p q n c d l _ hn hn9 (EnsAt.keep hp hk0) (EnsAt.keep hq hk0))
  have HK0 := Lib.hid hk0
  clear hp hq hn hk0
  unfold ftV
  go_enter Try.func16, Try.ntmps16
  go_wp2_with fail
  refine HS.out.mono ?_
  rintro e w1 ⟨rfl, hk⟩
  have HK := Lib.hid (HK0.out.trans hk)
  clear hk
  go_wp2_with fail
  go_ret
  exact ⟨rfl, HK.out⟩
end Go.Proofs.Ytmifbohdepejaaa

namespace Go.Proofs.Ytmifbohdepejaaa
open Go.RowKit

theorem NumsSoFar.cell {w0 wr : World} {l : List Nat} {ad : Addr} {m d : Nat} (h : NumsSoFar w0 l (.slice (some ad) m d) wr) {j : Nat} (hj : j < l.length) : wr.cell? (ad.add j) = some (.int .u64 ((l.getD j 0 : Nat) : Int)) := by
  obtain ⟨q', m', d', e, _, _, hc⟩ := own_nums h.1
  injection e with e1 e2 e3
  rw [hc ad e1.symm j (numV (l.getD j 0)) (by simp [hj])]
  rfl
theorem NumsSoFar.nil {w0 wr : World} (h : Below w0.heap.size w0 wr) : NumsSoFar w0 [] (.slice none 0 0) wr := ⟨World.ownsRow_nil _ _ _ _, h⟩
def GotF (w : World) (xs : List Int) (a : Int) (t : GF) (e : Ending) (w' : World) : Prop := ∃ v, e = .returned (.tuple #[rdr (xs.drop t.m) (a + t.m) t.y, v]) ∧ NumsSoFar w t.l v w'

set_option maxHeartbeats 8000000 in
set_option maxRecDepth 10000 in
theorem get12_ref (n : Int) (xs : List Int) (ho : Octets xs) (hl : xs.length ≤ 1000000) (a : Int) (ha : 0 ≤ a ∧ a ≤ 1000000000) (w : World) :
    Calls Try.prog 46 #[rdr xs a 0, .int .i64 n] w (GotF w xs a (getF n xs)) := by
  have HF := Lib.hid (fun xs a y w => fail_ref xs a y w)
  have HR0 : Hid (Whole (w.alloc (.cells (rdrCells xs a 0) 84)) w.heap.size 84 (rdrCells xs a 0)) := Lib.hid (Whole.new _ _ _)
  have hsz := str_size xs
  unfold getF
  by_cases hn0 : n ≤ 0
  · rw [if_pos hn0]
    have hd : decide (n ≤ 0) = true := decide_eq_true hn0
    unfold GotF
    simp only [List.drop_zero, Int.natCast_zero, Int.add_zero]
    unfold rdr
    clear HF ho hl ha
    go_enter Try.func46, Try.ntmps46
    go_wp2_with fail
    exact bodyPost_ret (v := .tuple #[.agg #[.string (strOfNums xs), .int .i64 a, .int .i64 0], .slice none 0 0]) (by simp [results, Try.results46, go_sem]) rfl ⟨_, rfl, NumsSoFar.nil (((Below.refl _ w).alloc (Nat.le_refl _) _).alloc (by simp) _)⟩
  · rw [if_neg hn0]
    obtain ⟨N, rfl⟩ : ∃ N : Nat, n = (N : Int) := ⟨n.toNat, by omega⟩
    rw [Int.toNat_natCast]
    have hd : decide ((N : Int) ≤ 0) = false := decide_eq_false hn0
    have hd2 : decide (N ≤ 0) = false := decide_eq_false (by omega)
    have hN0 : ¬ N = 0 := by omega
    obtain ⟨L, hL⟩ : ∃ L, L = xs.length := ⟨_, rfl⟩
    rw [← hL] at hsz hl ⊢
    have hq : ((L : Int)).tdiv 8 = ((L / 8 : Nat) : Int) := by rw [Int.tdiv_eq_ediv_of_nonneg (by omega)]; omega
    obtain ⟨K, hK⟩ : ∃ K, K = L / 8 := ⟨_, rfl⟩
    rw [← hK] at hq ⊢
    have hq2 : (L : Int) / 8 = (K : Int) := by omega
    have hK9 : K ≤ 1000000 := by omega
    by_cases hs : K < N
    · rw [if_pos hs]
      have hd3 : decide ((K : Int) < (N : Int)) = true := decide_eq_true (by omega)
      have hd4 : decide (K < N) = true := decide_eq_true hs
      unfold GotF
      simp only [List.drop_zero, Int.natCast_zero, Int.add_zero]
      have HF1 := Lib.hid (fun w => HF.out xs a 2 w)
      unfold rdr at HF1 ⊢
      clear HF ho hl ha hK hL
      go_enter Try.func46, Try.ntmps46
      go_wp2_with fail
      refine (HF1.out _).mono ?_
      rintro e w1 ⟨rfl, hk⟩
      have hB : Below w.heap.size w w1 := (((Below.refl _ w).alloc (Nat.le_refl _) (.cells #[.string (strOfNums xs), .int .i64 a, .int .i64 0] 84)).alloc (by simp) (.cells #[.string ⟨#[]⟩, .int .i64 0, .int .i64 0] 84)).trans (hk.below (by simp; omega) (fun _ _ h => h))
      have HB := Lib.hid hB
      have hN := (Whole.newAt (w.alloc (.cells #[.string (strOfNums xs), .int .i64 a, .int .i64 0] 84)) 84 #[.string ⟨#[]⟩, .int .i64 0, .int .i64 0] (w.heap.size + 1) (by simp)).keep hk (fun h => h)
      have c0 := hN.cell 0 rfl
      have c1 := hN.cell 1 rfl
      have c2 := hN.cell 2 rfl
      have f0 := hN.free 0
      have f1 := hN.free 1
      have f2 := hN.free 2
      simp only [List.getElem_toArray, List.getElem_cons_zero, List.getElem_cons_succ] at c0 c1 c2
      clear hk hN hB
      go_wp2_with fail
      exact bodyPost_ret (v := .tuple #[.agg #[.string (strOfNums xs), .int .i64 a, .int .i64 2], .slice none 0 0]) (by simp [results, Try.results46, go_sem, c0, c1, c2]) rfl ⟨_, rfl, NumsSoFar.nil (((HB.out.setCell (by simp) _).setCell (by simp) _).setCell (by simp) _)⟩
    · rw [if_neg hs]
      have hd3 : decide ((K : Int) < (N : Int)) = false := decide_eq_false (by omega)
      have hd4 : decide (K < N) = false := decide_eq_false hs
      have hroom : 8 * N ≤ L := by omega
      obtain ⟨t, ht⟩ : ∃ t, t = if risesF (takeF N xs) = true then (⟨8 * N, 0, takeF N xs⟩ : GF) else ⟨8 * N, 8, []⟩ := ⟨_, rfl⟩
      rw [← ht]
      have HTt := Lib.hid ht
      clear ht
      have HG := Lib.hid (fun (ys : List Int) (b : Int) (z : Int) (k : Nat) (hz : z = k) (h0 : 0 < k) (h1 : k ≤ ys.length) (h8 : k ≤ 8) (hl : ys.length ≤ 1000000) (hb : 0 ≤ b ∧ b ≤ 2000000000) (hoy : Octets ys) w => get1_ref ys b z k hz h0 h1 h8 (by omega) (by omega) hoy w)
      have HO := Lib.hid ho
      have HL := Lib.hid hL
      unfold rdr at HG HF ⊢
      unfold GotF
      unfold rdr
      have HW1 : Hid (Whole ((w.alloc (.cells #[.string (strOfNums xs), .int .i64 a, .int .i64 0] 84)).alloc (.cells #[.string ⟨#[]⟩, .int .i64 0, .int .i64 0] 84)) w.heap.size 84 (rdrCells xs a 0)) := Lib.hid ((Whole.new w _ _).alloc _)
      have HW2 : Hid (Whole ((w.alloc (.cells #[.string (strOfNums xs), .int .i64 a, .int .i64 0] 84)).alloc (.cells #[.string ⟨#[]⟩, .int .i64 0, .int .i64 0] 84)) (w.heap.size + 1) 84 (rdrCells [] 0 0)) := Lib.hid (Whole.newAt _ _ _ _ (by simp))
      have HB0 : Hid (NumsSoFar w [] (.slice none 0 0) ((w.alloc (.cells #[.string (strOfNums xs), .int .i64 a, .int .i64 0] 84)).alloc (.cells #[.string ⟨#[]⟩, .int .i64 0, .int .i64 0] 84))) := Lib.hid (NumsSoFar.nil (((Below.refl _ w).alloc (Nat.le_refl _) _).alloc (by simp) _))
      clear ho hL hK HR0
      go_enter Try.func46, Try.ntmps46
      go_wp2_with fail
      go_loopw [6, 7, 28] (fun v f i wr => ∃ j : Nat, j ≤ N ∧ i = .int .i64 (j : Int) ∧ f = .bool (!risesF (takeF j xs)) ∧ Hid (NumsSoFar w (takeF j xs) v wr) ∧ Hid (Whole wr w.heap.size 84 (rdrCells (xs.drop (8 * j)) (a + (8 * j : Nat)) 0)) ∧ Hid (Whole wr (w.heap.size + 1) 84 (rdrCells [] 0 0))) (fun _ _ i _ => N - (intOf i).toNat)
      case atStart => exact ⟨0, Nat.zero_le _, rfl, rfl, HB0, by simpa using HW1, HW2⟩
      case round =>
        obtain ⟨j, hj, rfl, rfl, HS, HA, HZ⟩ := hrel
        have c0 := HA.out.cell 0 rfl
        have c1 := HA.out.cell 1 rfl
        have c2 := HA.out.cell 2 rfl
        have f0 := HA.out.free 0
        have f1 := HA.out.free 1
        have f2 := HA.out.free 2
        simp only [rdrCells, List.getElem_toArray, List.getElem_cons_zero, List.getElem_cons_succ] at c0 c1 c2
        have hwz : w.heap.size + 1 < wr.heap.size := HZ.out.lt
        obtain ⟨q, m, d, rfl, hbare, hmR, hcR⟩ := own_nums HS.out.1
        rw [takeF_length] at hmR
        subst hmR
        clear hcR
        by_cases hlt : m < N
        · have hdj : decide ((m : Int) < (N : Int)) = true := decide_eq_true (by omega)
          have hdj2 : decide (m < N) = true := decide_eq_true hlt
          have HT := Lib.hid (takeF_snoc m xs)
          have hylen : (xs.drop (8 * m)).length + 8 * m = L := by rw [List.length_drop, ← HL.out]; omega
          have hyo := HO.out.drop (8 * m)
          have HNx : Hid (xs.drop (8 * (m + 1)) = (xs.drop (8 * m)).drop 8) := Lib.hid (by rw [List.drop_drop, show 8 * m + 8 = 8 * (m + 1) by omega])
          have hpos : a + ((8 * (m + 1) : Nat) : Int) = a + ((8 * m : Nat) : Int) + 8 := by omega
          obtain ⟨ys, hys⟩ : ∃ ys, ys = xs.drop (8 * m) := ⟨_, rfl⟩
          rw [← hys] at c0 HT hylen hyo HNx HA
          obtain ⟨b, hb⟩ : ∃ b, b = a + ((8 * m : Nat) : Int) := ⟨_, rfl⟩
          rw [← hb] at c1 hpos HA
          have HG8 := Lib.hid (fun w => HG.out ys b 8 8 rfl (by decide) (by omega) (by decide) (by omega) (by omega) hyo w)
          have hb8 := le_bound (ys.take 8) (hyo.take 8)
          rw [show (ys.take 8).length = 8 by rw [List.length_take]; omega] at hb8
          obtain ⟨h, hh⟩ : ∃ h : Nat, le (ys.take 8) = (h : Int) := ⟨(le (ys.take 8)).toNat, by omega⟩
          rw [hh, Int.toNat_natCast] at HT
          rw [hh] at HG8
          have hlenj := takeF_length m xs
          obtain ⟨y8, hy8⟩ : ∃ y8, y8 = ys.drop 8 := ⟨_, rfl⟩
          rw [← hy8] at HG8 HNx
          have HPos := Lib.hid hpos
          have hfm := falls_more (takeF m xs) h
          rw [← HT.out, hlenj] at hfm
          have HFm := Lib.hid hfm
          obtain ⟨R, hR⟩ : ∃ R, R = takeF m xs := ⟨_, rfl⟩
          rw [← hR] at HS HT hlenj HFm ⊢
          have HLj := Lib.hid (show R.length = m from hlenj)
          obtain ⟨R2, hR2⟩ : ∃ R2, R2 = takeF (m + 1) xs := ⟨_, rfl⟩
          rw [← hR2] at HT HFm
          have HR2 := Lib.hid hR2
          have hj9 : m ≤ 1000000 := by omega
          clear hylen hyo hys hb hb8 hh hlenj hpos hy8 hR hR2 hfm
          go_wp2_with fail
          refine (HG8.out _).mono ?_
          rintro e w1 ⟨rfl, hk⟩
          have HS1 := Lib.hid (HS.out.keep hk)
          have HA1 := Lib.hid (HA.out.keep hk (fun h => h))
          have HZ1 := Lib.hid (HZ.out.keep hk (fun h => h))
          have HSz : Hid (w.heap.size + 1 < w1.heap.size) := Lib.hid HZ1.out.lt
          clear hk c0 c1 c2 f0 f1 f2
          have HX := Lib.hid (Whole.new w1 84 (rdrCells y8 (b + 8) 0))
          have HS3 := Lib.hid (HS1.out.alloc (.cells (rdrCells y8 (b + 8) 0) 84))
          have HA3 := Lib.hid (HA1.out.alloc (.cells (rdrCells y8 (b + 8) 0) 84))
          have HZ3 := Lib.hid (HZ1.out.alloc (.cells (rdrCells y8 (b + 8) 0) 84))
          have d0 := HA3.out.cell 0 rfl
          have d1 := HA3.out.cell 1 rfl
          have d2 := HA3.out.cell 2 rfl
          have df0 := HA3.out.free 0
          have df1 := HA3.out.free 1
          have df2 := HA3.out.free 2
          simp only [rdrCells, List.getElem_toArray, List.getElem_cons_zero, List.getElem_cons_succ] at d0 d1 d2
          simp only [rdrCells] at df0 df1 df2
          have hne : ¬ w.heap.size = w1.heap.size := by have := HSz.out; omega
          have hne2 : ¬ w1.heap.size = w.heap.size := by have := HSz.out; omega
          go_upto_region 12 with (fail)
          have hA4 := ((HA3.out.set 0 (.string (strOfNums y8))).set 1 (.int .i64 (b + 8))).set 2 (.int .i64 0)
          have hZ4 := ((HZ3.out.setOther (p := ⟨w.heap.size, 0, none⟩) (by simp) (.string (strOfNums y8))).setOther (p := ⟨w.heap.size, 1, none⟩) (by simp) (.int .i64 (b + 8))).setOther (p := ⟨w.heap.size, 2, none⟩) (by simp) (.int .i64 0)
          have hS4 := HS3.out.set3 (own_apart (by decide) HS3.out.1 HA3.out) (Nat.le_refl _) (.string (strOfNums y8)) (.int .i64 (b + 8)) (.int .i64 0)
          obtain ⟨W, hW⟩ : ∃ W, W = (((w1.alloc (.cells #[.string (strOfNums y8), .int .i64 (b + 8), .int .i64 0] 84)).setCell ⟨w.heap.size, 0, none⟩ (.string (strOfNums y8))).setCell ⟨w.heap.size, 1, none⟩ (.int .i64 (b + 8))).setCell ⟨w.heap.size, 2, none⟩ (.int .i64 0) := ⟨_, rfl⟩
          have HA5 : Hid (Whole W w.heap.size 84 (rdrCells y8 (b + 8) 0)) := Lib.hid (by rw [hW]; exact hA4)
          have HZ5 : Hid (Whole W (w.heap.size + 1) 84 (rdrCells [] 0 0)) := Lib.hid (by rw [hW]; exact hZ4)
          have HS5 : Hid (NumsSoFar w R (.slice q m d) W) := Lib.hid (by rw [hW]; exact hS4)
          rw [← hW]
          have HSa := Lib.hid (HS5.out.alloc (.cells #[.int .u64 (h : Int)] 46))
          have HWa := Lib.hid (Whole.new W 46 #[.int .u64 (h : Int)])
          have HAa := Lib.hid (HA5.out.alloc (.cells #[.int .u64 (h : Int)] 46))
          have HZa := Lib.hid (HZ5.out.alloc (.cells #[.int .u64 (h : Int)] 46))
          have HoA := Lib.hid (own_apart (t := 84) (by decide) HSa.out.1 HAa.out)
          have HoZ := Lib.hid (own_apart (t := 84) (by decide) HSa.out.1 HZa.out)
          clear hW hA4 hZ4 hS4 d0 d1 d2 df0 df1 df2 HX HS3 HA3 HZ3 HS1 HA1 HZ1
          cases hr : risesF R
          · rw [hr, Bool.not_false, Bool.true_or] at HFm
            rw [Bool.not_false]
            go_wp2_with (at_builtin; refine wpList_append_numG rfl _ _ rfl _ R rfl HSa.out W.heap.size h rfl (HWa.out.cell 0 rfl) (by have := HLj.out; omega) ?_)
            intro v9 w9 h9 g9
            have HA9 : Hid (Whole w9 w.heap.size 84 (rdrCells y8 (b + 8) 0)) := Lib.hid (HAa.out.grown g9 HoA.out)
            have HZ9 := Lib.hid (HZa.out.grown g9 HoZ.out)
            rw [← HPos.out, ← HNx.out] at HA9
            rw [← HT.out] at h9
            have HS9 := Lib.hid h9
            rw [HR2.out] at HS9 HFm
            clear h9 g9
            go_wp2_with fail
            exact ⟨⟨m + 1, by omega, by go_num, by rw [HFm.out], HS9, HA9, HZ9⟩, by simp [intOf]; omega⟩
          by_cases hm0 : m = 0
          · have hm1 : decide (0 < m) = false := decide_eq_false (by omega)
            have hm2 : decide ((0 : Int) < (m : Int)) = false := decide_eq_false (by omega)
            rw [hr, Bool.not_true, Bool.false_or, hm1, Bool.false_and] at HFm
            rw [Bool.not_true]
            clear hm0
            go_wp2_with (at_builtin; refine wpList_append_numG rfl _ _ rfl _ R rfl HSa.out W.heap.size h rfl (HWa.out.cell 0 rfl) (by have := HLj.out; omega) ?_)
            intro v9 w9 h9 g9
            have HA9 : Hid (Whole w9 w.heap.size 84 (rdrCells y8 (b + 8) 0)) := Lib.hid (HAa.out.grown g9 HoA.out)
            have HZ9 := Lib.hid (HZa.out.grown g9 HoZ.out)
            rw [← HPos.out, ← HNx.out] at HA9
            rw [← HT.out] at h9
            have HS9 := Lib.hid h9
            rw [HR2.out] at HS9 HFm
            clear h9 g9
            go_wp2_with fail
            exact ⟨⟨m + 1, by omega, by go_num, by rw [HFm.out], HS9, HA9, HZ9⟩, by simp [intOf]; omega⟩
          obtain ⟨i, hi⟩ : ∃ i, m = i + 1 := ⟨m - 1, by omega⟩
          obtain ⟨ad, rfl⟩ : ∃ ad, q = some ad := by
            cases q with
            | none => have := (hbare rfl).1; omega
            | some ad => exact ⟨ad, rfl⟩
          have hcell := HS5.out.cell (j := i) (by have := HLj.out; omega)
          have hm1 : decide (0 < m) = true := decide_eq_true (by omega)
          have hm2 : decide ((0 : Int) < (m : Int)) = true := decide_eq_true (by omega)
          have hmi : (m : Int) - 1 = (i : Int) := by omega
          have him : i < m := by omega
          rw [hr, Bool.not_true, Bool.false_or, hm1, Bool.true_and, show m - 1 = i by omega] at HFm
          obtain ⟨r, hrr⟩ : ∃ r, r = R.getD i 0 := ⟨_, rfl⟩
          rw [← hrr] at hcell HFm
          rw [Bool.not_true]
          clear hrr hi hbare
          by_cases hlr : h < r
          · have hl1 : decide ((h : Int) < (r : Int)) = true := decide_eq_true (by omega)
            have hl2 : decide (h < r) = true := decide_eq_true hlr
            rw [hl2] at HFm
            go_wp2_with (at_builtin; refine wpList_append_numG rfl _ _ rfl _ R rfl HSa.out W.heap.size h rfl (HWa.out.cell 0 rfl) (by have := HLj.out; omega) ?_)
            intro v9 w9 h9 g9
            have HA9 : Hid (Whole w9 w.heap.size 84 (rdrCells y8 (b + 8) 0)) := Lib.hid (HAa.out.grown g9 HoA.out)
            have HZ9 := Lib.hid (HZa.out.grown g9 HoZ.out)
            rw [← HPos.out, ← HNx.out] at HA9
            rw [← HT.out] at h9
            have HS9 := Lib.hid h9
            rw [HR2.out] at HS9 HFm
            clear h9 g9
            go_wp2_with fail
            exact ⟨⟨m + 1, by omega, by go_num, by rw [HFm.out], HS9, HA9, HZ9⟩, by simp [intOf]; omega⟩
          · have hl1 : decide ((h : Int) < (r : Int)) = false := decide_eq_false (by omega)
            have hl2 : decide (h < r) = false := decide_eq_false hlr
            rw [hl2] at HFm
            go_wp2_with (at_builtin; refine wpList_append_numG rfl _ _ rfl _ R rfl HSa.out W.heap.size h rfl (HWa.out.cell 0 rfl) (by have := HLj.out; omega) ?_)
            intro v9 w9 h9 g9
            have HA9 : Hid (Whole w9 w.heap.size 84 (rdrCells y8 (b + 8) 0)) := Lib.hid (HAa.out.grown g9 HoA.out)
            have HZ9 := Lib.hid (HZa.out.grown g9 HoZ.out)
            rw [← HPos.out, ← HNx.out] at HA9
            rw [← HT.out] at h9
            have HS9 := Lib.hid h9
            rw [HR2.out] at HS9 HFm
            clear h9 g9
            go_wp2_with fail
            exact ⟨⟨m + 1, by omega, by go_num, by rw [HFm.out], HS9, HA9, HZ9⟩, by simp [intOf]; omega⟩
        · have hdj : decide ((m : Int) < (N : Int)) = false := decide_eq_false (by omega)
          have hdj2 : decide (m < N) = false := decide_eq_false hlt
          obtain rfl : m = N := by omega
          have z0 := HZ.out.cell 0 rfl
          have z1 := HZ.out.cell 1 rfl
          have z2 := HZ.out.cell 2 rfl
          have zf0 := HZ.out.free 0
          have zf1 := HZ.out.free 1
          have zf2 := HZ.out.free 2
          simp only [rdrCells, List.getElem_toArray, List.getElem_cons_zero, List.getElem_cons_succ] at z0 z1 z2
          have HoZ := Lib.hid (own_apart (t := 84) (by decide) HS.out.1 HZ.out)
          obtain ⟨R, hR⟩ : ∃ R, R = takeF m xs := ⟨_, rfl⟩
          rw [← hR] at HTt HS ⊢
          clear hR
          cases hr : risesF R
          · rw [hr, if_neg (by decide)] at HTt
            rw [Bool.not_false]
            have HF8 := Lib.hid (fun w => HF.out (xs.drop (8 * m)) (a + (8 * m : Nat)) 8 w)
            go_wp2_with fail
            refine (HF8.out _).mono ?_
            rintro e w2 ⟨rfl, hk⟩
            have HB2 := Lib.hid (HS.out.2.trans (hk.below HS.out.2.size (fun _ _ h => h)))
            have hZ2 := HZ.out.keep hk (fun h => h)
            clear z0 z1 z2 zf0 zf1 zf2
            have z0 := hZ2.cell 0 rfl
            have z1 := hZ2.cell 1 rfl
            have z2 := hZ2.cell 2 rfl
            simp only [rdrCells, List.getElem_toArray, List.getElem_cons_zero, List.getElem_cons_succ] at z0 z1 z2
            have zf0 := hZ2.free 0
            have zf1 := hZ2.free 1
            have zf2 := hZ2.free 2
            clear hk hZ2
            go_wp2_with fail
            rw [HTt.out]
            exact bodyPost_ret (v := .tuple #[.agg #[.string (strOfNums (xs.drop (8 * m))), .int .i64 (a + (8 * m : Nat)), .int .i64 8], .slice none 0 0]) (by simp [results, Try.results46, go_sem, z0, z1, z2]) rfl ⟨_, rfl, NumsSoFar.nil (((HB2.out.setCell (by simp) _).setCell (by simp) _).setCell (by simp) _)⟩
          · rw [hr, if_pos rfl] at HTt
            rw [Bool.not_true]
            go_wp2_with fail
            rw [HTt.out]
            exact bodyPost_ret (v := .tuple #[.agg #[.string (strOfNums (xs.drop (8 * m))), .int .i64 (a + (8 * m : Nat)), .int .i64 0], .slice q m d]) (by simp [results, Try.results46, go_sem, z0, z1, z2]) rfl ⟨_, rfl, HS.out.set3 HoZ.out (by omega) _ _ _⟩
end Go.Proofs.Ytmifbohdepejaaa

namespace Go.Proofs.Ytmifbohdepejaaa
open Go.RowKit

/-- A number of 4 bytes: why it stopped, the number, how many bytes. -/
structure G4 where
  y : Int
  x : Nat
  m : Nat
def get4S (y : Int) (r : List Int) : G4 := if y ≠ 0 then ⟨y, 0, 0⟩ else if r.length < 4 then ⟨2, 0, 0⟩ else ⟨0, (le (r.take 4)).toNat, 4⟩
def getES (y n : Int) (r : List Int) : GE := if y ≠ 0 then ⟨0, y, []⟩ else getE n r
def getFS (y n : Int) (r : List Int) : GF := if y ≠ 0 then ⟨0, y, []⟩ else getF n r
theorem get4S_bound (y : Int) {r : List Int} (ho : Octets r) : (get4S y r).x < 4294967296 ∧ (get4S y r).m ≤ r.length := by
  unfold get4S
  split
  · exact ⟨(show (0 : Nat) < 4294967296 by decide), Nat.zero_le _⟩
  · split
    · exact ⟨(show (0 : Nat) < 4294967296 by decide), Nat.zero_le _⟩
    · have hb := le_bound (r.take 4) (ho.take 4)
      rw [show (r.take 4).length = 4 by rw [List.length_take]; omega] at hb
      have e : (2 : Int) ^ (8 * 4) = 4294967296 := rfl
      exact ⟨by show (le (r.take 4)).toNat < _; omega, by show 4 ≤ _; omega⟩
theorem getES_gone (y n : Int) (r : List Int) (h : y ≠ 0) : getES y n r = ⟨0, y, []⟩ := if_pos h
theorem getFS_gone (y n : Int) (r : List Int) (h : y ≠ 0) : getFS y n r = ⟨0, y, []⟩ := if_pos h

theorem get4_all (xs : List Int) (a y : Int) (ho : Octets xs) (hl : xs.length ≤ 1000000) (ha : 0 ≤ a ∧ a ≤ 1000000000) (w : World) :
    Calls Try.prog 44 #[rdr xs a y, .int .i64 4] w fun e w' => e = .returned (.tuple #[rdr (xs.drop (get4S y xs).m) (a + ((get4S y xs).m : Int)) (get4S y xs).y, .int .u64 ((get4S y xs).x : Int)]) ∧ Keeps NoBlock w w' := by
  by_cases hy : y = 0
  · subst hy
    by_cases h4 : xs.length < 4
    · have e : get4S 0 xs = ⟨2, 0, 0⟩ := by unfold get4S; rw [if_neg (by simp), if_pos h4]
      rw [e]
      simp only [List.drop_zero, Int.natCast_zero, Int.add_zero]
      exact get1_ref_short xs a 4 4 rfl (by decide) h4 w
    · have e : get4S 0 xs = ⟨0, (le (xs.take 4)).toNat, 4⟩ := by unfold get4S; rw [if_neg (by simp), if_neg h4]
      rw [e]
      have hb := le_bound (xs.take 4) (ho.take 4)
      have h := get1_ref xs a 4 4 rfl (by decide) (by omega) (by decide) (by omega) (by omega) ho w
      have e2 : (((le (xs.take 4)).toNat : Nat) : Int) = le (xs.take 4) := by omega
      simp only
      rw [e2]
      exact h
  · have e : get4S y xs = ⟨y, 0, 0⟩ := if_pos hy
    rw [e]
    simp only [List.drop_zero, Int.natCast_zero, Int.add_zero]
    exact get1_gone xs a y 4 hy w

set_option maxRecDepth 10000 in
theorem getents_all (n : Int) (xs : List Int) (ho : Octets xs) (hl : xs.length ≤ 1000000) (a y : Int) (ha : 0 ≤ a ∧ a ≤ 1000000000) (w : World) :
    Calls Try.prog 45 #[rdr xs a y, .int .i64 n] w (GotE w xs a (getES y n xs)) := by
  by_cases hy : y = 0
  · subst hy
    have e : getES 0 n xs = getE n xs := if_neg (by simp)
    rw [e]
    exact getents_ref n xs ho hl a ha w
  · rw [getES_gone y n xs hy]
    have hne : (y != 0) = true := by rw [bne_iff_ne]; exact hy
    unfold GotE
    simp only [List.drop_zero, Int.natCast_zero, Int.add_zero]
    unfold rdr
    clear ho hl ha
    go_enter Try.func45, Try.ntmps45
    go_wp2_with fail
    exact bodyPost_ret (v := .tuple #[.agg #[.string (strOfNums xs), .int .i64 a, .int .i64 y], .slice none 0 0]) (by simp [results, Try.results45, go_sem]) rfl ⟨_, rfl, NewTwos.ofNil (dd := En.none) _ _ (((Keeps.refl _ w).alloc _).alloc _)⟩
set_option maxRecDepth 10000 in
theorem get12_all (n : Int) (xs : List Int) (ho : Octets xs) (hl : xs.length ≤ 1000000) (a y : Int) (ha : 0 ≤ a ∧ a ≤ 1000000000) (w : World) :
    Calls Try.prog 46 #[rdr xs a y, .int .i64 n] w (GotF w xs a (getFS y n xs)) := by
  by_cases hy : y = 0
  · subst hy
    have e : getFS 0 n xs = getF n xs := if_neg (by simp)
    rw [e]
    exact get12_ref n xs ho hl a ha w
  · rw [getFS_gone y n xs hy]
    have hne : (y != 0) = true := by rw [bne_iff_ne]; exact hy
    unfold GotF
    simp only [List.drop_zero, Int.natCast_zero, Int.add_zero]
    unfold rdr
    clear ho hl ha
    go_enter Try.func46, Try.ntmps46
    go_wp2_with fail
    exact bodyPost_ret (v := .tuple #[.agg #[.string (strOfNums xs), .int .i64 a, .int .i64 y], .slice none 0 0]) (by simp [results, Try.results46, go_sem]) rfl ⟨_, rfl, NumsSoFar.nil (((Below.refl _ w).alloc (Nat.le_refl _) _).alloc (by simp) _)⟩

def ftLastS (f : Ft) (fs : List Nat) (y : Int) : GFt := if y ≠ 0 then ⟨y, Ft.none⟩ else if checkFt f ≠ 0 then ⟨checkFt f, Ft.none⟩ else if fs ≠ ofF f.tab then ⟨4, Ft.none⟩ else ⟨0, f⟩
def ftS4 (n used : Nat) (l : List En) (y : Int) (r : List Int) : GFt :=
  ftLastS ⟨used, l⟩ (getFS y (countF (n : Int) : Nat) r).l (endE (r.drop (getFS y (countF (n : Int) : Nat) r).m) (getFS y (countF (n : Int) : Nat) r).y)
def ftS3 (n used : Nat) (y : Int) (r : List Int) : GFt := ftS4 n used (getES y n r).l (getES y n r).y (r.drop (getES y n r).m)
def ftS2 (n : Nat) (y : Int) (r : List Int) : GFt := ftS3 n (get4S y r).x (get4S y r).y (r.drop (get4S y r).m)
def ftS1 (r : List Int) : GFt :=
  if (get4S 0 r).y = 0 ∧ 1048576 < (get4S 0 r).x then ⟨3, Ft.none⟩ else ftS2 (get4S 0 r).x (get4S 0 r).y (r.drop (get4S 0 r).m)
theorem ftS4_gone (n used : Nat) (l : List En) (y : Int) (r : List Int) (h : y ≠ 0) : ftS4 n used l y r = ⟨y, Ft.none⟩ := by
  unfold ftS4
  rw [getFS_gone _ _ _ h]
  unfold ftLastS endE
  rw [if_neg h, if_pos h]
theorem ftS3_gone (n used : Nat) (y : Int) (r : List Int) (h : y ≠ 0) : ftS3 n used y r = ⟨y, Ft.none⟩ := by
  unfold ftS3
  rw [getES_gone _ _ _ h]
  exact ftS4_gone _ _ _ _ _ h
theorem ftS2_gone (n : Nat) (y : Int) (r : List Int) (h : y ≠ 0) : ftS2 n y r = ⟨y, Ft.none⟩ := by
  have e : get4S y r = ⟨y, 0, 0⟩ := if_pos h
  unfold ftS2
  rw [e]
  exact ftS3_gone _ _ _ _ h
theorem ftS4_fences (n used : Nat) (l : List En) (r : List Int) : ftS4 n used l 0 r = ftFences n used l r := by
  have e : getFS 0 (countF (n : Int) : Nat) r = getF (countF (n : Int) : Nat) r := if_neg (by simp)
  unfold ftS4 ftFences
  rw [e]
  obtain ⟨t, ht⟩ : ∃ t, t = getF (countF (n : Int) : Nat) r := ⟨_, rfl⟩
  rw [← ht]
  by_cases h : t.y = 0
  · rw [if_neg (by rw [h]; simp)]
    unfold ftLastS endE ftEnd
    rw [if_pos h]
    by_cases hr : r.drop t.m = []
    · have hr0 : ¬ 0 < (r.drop t.m).length := by rw [hr]; simp
      rw [if_pos hr, if_neg hr0]
      simp only [ne_eq, not_true_eq_false, if_false]
    · rw [if_neg hr, if_pos (by decide), if_pos (List.length_pos_iff.2 hr)]
  · rw [if_pos h]
    unfold ftLastS endE
    rw [if_neg h, if_pos h]
theorem ftS3_rows (n used : Nat) (r : List Int) : ftS3 n used 0 r = ftRows n used r := by
  have e : getES 0 (n : Int) r = getE (n : Int) r := if_neg (by simp)
  unfold ftS3 ftRows
  rw [e]
  by_cases h : (getE (n : Int) r).y = 0
  · rw [if_neg (by rw [h]; simp), h, ftS4_fences]
  · rw [if_pos h, ftS4_gone _ _ _ _ _ h]
theorem ftS1_count (r : List Int) : ftS1 r = ftCount r := by
  unfold ftS1 ftCount
  by_cases h4 : r.length < 4
  · have e : get4S 0 r = ⟨2, 0, 0⟩ := by unfold get4S; rw [if_neg (by simp), if_pos h4]
    rw [e, if_neg (by simp), if_pos h4]
    exact ftS2_gone _ _ _ (show (2 : Int) ≠ 0 by decide)
  · have e : get4S 0 r = ⟨0, (le (r.take 4)).toNat, 4⟩ := by unfold get4S; rw [if_neg (by simp), if_neg h4]
    rw [e, if_neg h4]
    simp only
    obtain ⟨n, hn⟩ : ∃ n, n = (le (r.take 4)).toNat := ⟨_, rfl⟩
    rw [← hn]
    unfold ftUsed
    by_cases hb : 1048576 < n
    · rw [if_pos ⟨by trivial, hb⟩, if_pos hb]
    · rw [if_neg (fun h => hb h.2), if_neg hb]
      unfold ftS2
      by_cases h5 : (r.drop 4).length < 4
      · have e : get4S 0 (r.drop 4) = ⟨2, 0, 0⟩ := by unfold get4S; rw [if_neg (by simp), if_pos h5]
        rw [e, if_pos h5]
        exact ftS3_gone _ _ _ _ (show (2 : Int) ≠ 0 by decide)
      · have e : get4S 0 (r.drop 4) = ⟨0, (le ((r.drop 4).take 4)).toNat, 4⟩ := by unfold get4S; rw [if_neg (by simp), if_neg h5]
        rw [e, if_neg h5]
        exact ftS3_rows _ _ _
end Go.Proofs.Ytmifbohdepejaaa

namespace Go.Proofs.Ytmifbohdepejaaa
open Go.RowKit

/-- What a reading of one number leaves: the number, if there is one. -/
def gotVal (t : VR) : Value := .int .u64 (if t.e = 0 then t.x else 0)

theorem Begun.store {w0 : World} {p : Option Addr} {N c a : Nat} {y : Int} {W : World} (h : Begun w0 p N c a y W) {D : Nat} (hD : D < w0.heap.size) (v : Value) : Begun w0 p N c a y (W.setCell ⟨D, 0, none⟩ v) :=
  ⟨h.at_.setOther (by simp; omega) v, h.why.setOther (by simp; omega) v, Whole.setOther h.cur (by simp; omega) v, h.var.setOther (by simp; omega) v⟩

/-- Run's answer to a reading of one number: how many bytes, why it stopped; the number in block D. -/
def GotIn (D : Nat) (t : VR) (w0 : World) (e : Ending) (w' : World) : Prop :=
  e = .returned (.tuple #[.int .i64 t.n, .int .i64 t.e]) ∧ Whole w' D 46 #[gotVal t] ∧ Keeps (Just D) w0 w'

/-- Read's answer. -/
def readOut (t : VR) : Value := .tuple #[gotVal t, .int .i64 (if t.e = 0 then (t.n : Int) else 0), .int .i64 t.e]

theorem getFnOk : ∀ (fn : Fn) (first cap : Array Value) (w : World), (Instr.makeFunc fn first cap).run Try.prog w = .ok (.func fn first cap) w := fun _ _ _ _ => rfl

end Go.Proofs.Ytmifbohdepejaaa

namespace Go.Proofs.Ytmifbohdepejaaa
open Go.RowKit

theorem ret_true {b : Bool} (h : b = true) : Ending.returned (.bool b) = .returned (.bool true) := by rw [h]

/-- A Buffer that wasn't there ahead of all: what is written into it turns nothing that was. -/
theorem keepsNewBuf {w w1 w2 : World} {base g : Nat} (h : Keeps NoBlock w w1) (k : Keeps (OnBuf base g) w1 w2) (hg : w.heap.size ≤ g) (hb : w.heap.size ≤ base) : Keeps NoBlock w w2 :=
  h.then k fun i hi hS => by
    rcases hS with rfl | h1
    · omega
    · omega

theorem bufNew (w : World) : BufAt (w.alloc (.cells #[.slice none 0 0] 58)) w.heap.size w.heap.size [] :=
  ⟨.slice none 0 0, Whole.new _ _ _, by simp, .inl ⟨rfl, by simp⟩⟩

end Go.Proofs.Ytmifbohdepejaaa

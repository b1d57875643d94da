/-
  FrRef; FtRef; FrRef2; Swap; FrHead; PkRef.
-/
import Derived.IntWalk
import Derived.Deep.RegionWith
import Derived.Deep.RegionHeld3
import Derived.BigQuiet
import Derived.Test.YtibojgoeaoinpaaM02
import Derived.Test.YtibojgoeaoinpaaM03
import Derived.Test.YtibojgoeaoinpaaM04
import Derived.Test.YtibojgoeaoinpaaM07
import Derived.Test.YtibojgoeaoinpaaM09
import Derived.Test.YtibojgoeaoinpaaM10
import Derived.Test.YtibojgoeaoinpaaM11
import Derived.Test.YtibojgoeaoinpaaM12
namespace Go.Proofs.Ytibojgoeaoinpaa
open Go.RowKit

theorem u64_zero : U64 0 := by constructor <;> decide

set_option maxHeartbeats 800000 in
set_option maxRecDepth 10000 in
theorem seal9_ref (xs : List Int) (ho : Octets xs) (hl : xs.length ≤ 10000000) (w : World) :
    Calls Try.prog 29 #[.string (strOfNums xs)] w fun e w' => e = .returned (.string (strOfNums (sealN xs))) ∧ Keeps NoBlock w w' := by
  have HS := Lib.hid (fun w => wsum_ref 0 xs u64_zero ho (by omega) w)
  have hu := wxxh_u64 0 xs
  have HN := Lib.hid (fun w => num_any (wxxh 0 xs) 8 8 rfl (by decide) hu.1 hu.2 w)
  have hol : (xs ++ sumB xs).length ≤ 140737488355328 := by rw [List.length_append, sumB_length]; omega
  have HT := Lib.hid (fun w => stuff_ref (xs ++ sumB xs) (ho.app (sumB_octets xs)) hol w)
  have a1 := str_append xs (sumB xs)
  have z1 := str_size xs
  have z2 := str_size (sumB xs)
  rw [sumB_length] at z2
  have a2 : strOfNums (chunkN xs) ++ (⟨#[0]⟩ : ByteArray) = strOfNums (sealN xs) := str_append (chunkN xs) [0]
  have z3 := str_size (chunkN xs)
  have hmost := (seal_length xs).2
  have hlen := (seal_length xs).1
  have z4 : (⟨#[0]⟩ : ByteArray).size = 1 := rfl
  have hcl : (chunkN xs).length ≤ 100000000 := by
    unfold sizeN mostOf at hmost
    rw [if_neg (by omega)] at hmost
    omega
  rw [show stuff (xs ++ sumB xs) = chunkN xs from rfl] at HT
  rw [show digits (wxxh 0 xs) 8 = sumB xs from rfl] at HN
  obtain ⟨x, hx⟩ : ∃ x, x = wxxh 0 xs := ⟨_, rfl⟩
  rw [← hx] at HS HN
  obtain ⟨B, hB⟩ : ∃ B, B = sumB xs := ⟨_, rfl⟩
  rw [← hB] at HN HT a1 z2
  obtain ⟨C, hC⟩ : ∃ C, C = chunkN xs := ⟨_, rfl⟩
  rw [← hC] at HT a2 z3 hcl
  obtain ⟨F, hF⟩ : ∃ F, F = sealN xs := ⟨_, rfl⟩
  rw [← hF] at a2 ⊢
  obtain ⟨L, hL⟩ : ∃ L, L = xs.length := ⟨_, rfl⟩
  rw [← hL] at z1 hl
  obtain ⟨M, hM⟩ : ∃ M, M = C.length := ⟨_, rfl⟩
  rw [← hM] at z3 hcl
  have r1 : ¬ 9223372036854775807 < L + 8 := by omega
  have r2 : ¬ 9223372036854775807 < M + 1 := by omega
  clear hx hB hC hF hL hM hu hol hmost hlen ho
  go_enter Try.func29, Try.ntmps29
  go_wp2_with fail
  refine (HS.out _).mono ?_
  rintro e w1 ⟨rfl, hk⟩
  have HK := Lib.hid hk
  clear hk
  go_wp2_with fail
  refine (HN.out _).mono ?_
  rintro e w2 ⟨rfl, hk⟩
  have HK := Lib.hid (HK.out.trans hk)
  clear hk
  go_wp2_with fail
  refine (HT.out _).mono ?_
  rintro e w3 ⟨rfl, hk⟩
  have HK := Lib.hid (HK.out.trans hk)
  clear hk
  go_wp2_with fail
  go_ret
  exact ⟨rfl, HK.out⟩

def openOut (t : Int × List Int) : Value := .tuple #[.string (strOfNums t.2), .int .i64 t.1]

end Go.Proofs.Ytibojgoeaoinpaa

namespace Go.Proofs.Ytibojgoeaoinpaa
open Go.RowKit

def ftV (u : Nat) (q : Option Addr) (n c : Nat) : Value := .agg #[.int .u32 (u : Int), .slice q n c]
def ftCells (u : Nat) (q : Option Addr) (n c : Nat) : Array Value := #[.int .u32 (u : Int), .slice q n c]

theorem belowFt_take {u : Nat} {l : List En} {j : Nat} (h : j < l.length) : belowFt ⟨u, l.take (j + 1)⟩ = (belowFt ⟨u, l.take j⟩ && decide ((l.getD j En.none).at_ < u)) := by
  have e : l.take (j + 1) = l.take j ++ [l.getD j En.none] := by rw [List.take_succ_eq_append_getElem h]; simp [h]
  unfold belowFt
  simp only
  rw [e, List.all_append]
  simp
theorem belowFt_not {u : Nat} {l : List En} {j : Nat} (h : j < l.length) (hn : ¬ (l.getD j En.none).at_ < u) : belowFt ⟨u, l⟩ = false := by
  rw [Bool.eq_false_iff]
  intro hb
  unfold belowFt at hb
  simp only at hb
  have := (List.all_eq_true.1 hb) (l.getD j En.none) (by simp [h])
  exact hn (by simpa using this)

set_option maxRecDepth 10000 in
theorem most13_ref (k : Nat) (hk : k ≤ 1000000) (w : World) : Calls Try.prog 26 #[.int .i64 (k : Int)] w fun e w' => e = .returned (.int .i64 (mostFt k : Int)) ∧ Keeps NoBlock w w' := by
  have hq : ((k : Int) + 15).tdiv 16 = (((k + 15) / 16 : Nat) : Int) := by rw [Int.tdiv_eq_ediv_of_nonneg (by omega)]; omega
  have hm : mostFt k = bodyLen k + 8 + 1 + (bodyLen k + 8 - 1) / 254 + 1 := by
    unfold mostFt sizeN mostOf
    rw [if_neg (by omega)]
  have hb : bodyLen k = 9 + 12 * k + 8 * ((k + 15) / 16) := by unfold bodyLen countF; rw [Int.toNat_natCast]
  obtain ⟨D, hD⟩ : ∃ D, D = (k + 15) / 16 := ⟨_, rfl⟩
  rw [← hD] at hq hb
  obtain ⟨B, hB⟩ : ∃ B, B = bodyLen k := ⟨_, rfl⟩
  rw [← hB] at hm hb
  have hB9 : B ≤ 100000000 := by omega
  have hq2 : ((B : Int) + 8 - 1).tdiv 254 = (((B + 8 - 1) / 254 : Nat) : Int) := by rw [Int.tdiv_eq_ediv_of_nonneg (by omega)]; omega
  obtain ⟨E, hE⟩ : ∃ E, E = (B + 8 - 1) / 254 := ⟨_, rfl⟩
  rw [← hE] at hq2 hm
  have hE9 : E ≤ 100000000 := by omega
  have hsum : 9 + 12 * (k : Int) + 8 * (D : Int) = (B : Int) := by omega
  have hc : ((B + 8 + 1 + E + 1 : Nat) : Int) = (B : Int) + 8 + 1 + (E : Int) + 1 := by omega
  rw [hm, hc]
  have w1 : IntKind.i64.wrap (12 * (k : Int)) = 12 * (k : Int) := IntWalk.i64_in _ (by omega)
  have w2 : IntKind.i64.wrap (9 + 12 * (k : Int)) = 9 + 12 * (k : Int) := IntWalk.i64_in _ (by omega)
  have w3 : IntKind.i64.wrap ((k : Int) + 15) = (k : Int) + 15 := IntWalk.i64_in _ (by omega)
  have w4 : IntKind.i64.wrap (8 * (D : Int)) = 8 * (D : Int) := IntWalk.i64_in _ (by omega)
  clear hD hB hE hb hc hm
  go_enter Try.func26, Try.ntmps26
  go_wp2_with fail
  go_ret
  exact ⟨rfl, Keeps.refl _ _⟩

theorem bodyFt_flat (u : Nat) (l : List En) : bodyFt ⟨u, l⟩ = (((4 :: digits (l.length : Int) 4) ++ digits (u : Int) 4) ++ textE l) ++ textF (ofF l) := by simp [bodyFt]

end Go.Proofs.Ytibojgoeaoinpaa

namespace Go.Proofs.Ytibojgoeaoinpaa
open Go.RowKit

theorem bodyR_length {r : Rec} (h : r.Fine) (h1 : r.key.length ≤ 2000000) (h2 : r.val.length ≤ 2000000) : (bodyR r).length ≤ 31 + r.key.length + r.val.length := by
  have a := vnum_ten h.seq
  have b := vnum_ten (x := r.key.length) (by omega)
  have c := vnum_ten (x := r.val.length) (by omega)
  unfold bodyR textB
  split
  · simp only [List.length_cons, List.length_append]; omega
  · simp only [List.length_cons, List.length_append]; omega

set_option maxHeartbeats 1600000 in
set_option maxRecDepth 10000 in
theorem may9_ref (e s n : Nat) (hs : s < 4294967296) (w : World) : Calls Try.prog 9 #[confV e s, .int .u64 (n : Int)] w fun r w' => r = .returned (.bool (mayHead e s n)) ∧ Keeps NoBlock w w' := by
  have HM := Lib.hid (fun w => may_ref e s w)
  have HW := Lib.hid (Whole.new w 24 (confCells e s))
  have hdef : mayHead e s n = (mayC e s && decide (n < s)) := rfl
  obtain ⟨m, hm⟩ : ∃ m, m = mayC e s := ⟨_, rfl⟩
  rw [← hm] at HM hdef
  have HD := Lib.hid hdef
  have HS := Lib.hid (show IntKind.u64.wrap (s : Int) = (s : Int) by rw [IntKind.wrap_u64]; omega)
  unfold confV at *
  clear hm hdef hs
  cases m
  · go_enter Try.func9, Try.ntmps9
    go_wp2_with fail
    refine (HM.out _).mono ?_
    rintro e w1 ⟨rfl, hk⟩
    have HK := Lib.hid (((Keeps.refl NoBlock w).alloc _).trans hk)
    clear hk
    go_wp2_with fail
    go_ret
    exact ⟨by rw [HD.out]; rfl, HK.out⟩
  · go_enter Try.func9, Try.ntmps9
    go_wp2_with fail
    refine (HM.out _).mono ?_
    rintro e w1 ⟨rfl, hk⟩
    have HK := Lib.hid (((Keeps.refl NoBlock w).alloc _).trans hk)
    have c1 := (HW.out.keep hk (fun h => h)).cell 1 rfl
    simp only [confCells, List.getElem_toArray, List.getElem_cons_zero, List.getElem_cons_succ] at c1
    clear hk
    go_wp2_with fail
    go_ret
    exact ⟨by rw [HD.out]; simp [HS.out], HK.out⟩
end Go.Proofs.Ytibojgoeaoinpaa

namespace Go.Proofs.Ytibojgoeaoinpaa
open Go.RowKit

/-- A region's condition may be made stronger on the way. -/
theorem wpAnyH_swap {P : Program} {md : Region.Mode} {ops : Array Oper} {Q : Exit → Act → World → Prop} {S S' : World → Prop} (h : ∀ w, S' w → S w) : ∀ (fuel : Nat) (listed : Array Bool) (a : Act) (w : World), wpAnyH P md ops Q S' fuel listed a w → wpAnyH P md ops Q S fuel listed a w
  | 0, _, _, _, hh => hh
  | fuel + 1, _, _, _, hh => ⟨hh.1, fun i hi => wpOp_mono (fun _ _ h' => ⟨h _ h'.1, wpAnyH_swap h fuel _ _ _ h'.2⟩) (hh.2 i hi)⟩
end Go.Proofs.Ytibojgoeaoinpaa

namespace Go.Proofs.Ytibojgoeaoinpaa
open Go.RowKit

set_option maxHeartbeats 4000000 in
set_option maxRecDepth 10000 in
theorem head9_ref (e s n : Nat) (he : e < 256) (hs : s < 4294967296) (hn : n < 18446744073709551616) (w : World) :
    Calls Try.prog 19 #[confV e s, .int .u64 (n : Int)] w fun r w' => r = .returned (.string (strOfNums (sealN (headB e s n)))) ∧ Keeps NoBlock w w' := by
  have HNs := Lib.hid (fun w => num_bytes s (IntKind.u64.wrap (s : Int)) (by rw [IntKind.wrap_u64]; omega) (by omega) w)
  have HNn := Lib.hid (fun w => num_bytes n (n : Int) rfl hn w)
  have HSl := Lib.hid (fun w => seal9_ref (headB e s n) (headB_octets he) (by have := headB_length (e := e) (s := s) (n := n) (by omega) hn; omega) w)
  have t1 := vnum_ten (x := s) (by omega)
  have t2 := vnum_ten hn
  have z1 := str_size (vnum s)
  have z2 := str_size (vnum n)
  have a1 : (⟨#[1, 2]⟩ : ByteArray) ++ strOfNums [(e : Int)] = strOfNums [1, 2, (e : Int)] := str_append [1, 2] [(e : Int)]
  have a2 : strOfNums [1, 2, (e : Int)] ++ strOfNums (vnum s) = strOfNums (1 :: 2 :: (e : Int) :: vnum s) := str_append [1, 2, (e : Int)] (vnum s)
  have a3 : strOfNums (1 :: 2 :: (e : Int) :: vnum s) ++ strOfNums (vnum n) = strOfNums (headB e s n) := str_append (1 :: 2 :: (e : Int) :: vnum s) (vnum n)
  have z3 : (⟨#[1, 2]⟩ : ByteArray).size = 2 := rfl
  have z4 : (strOfNums [(e : Int)]).size = 1 := str_size _
  have z5 : (strOfNums [1, 2, (e : Int)]).size = 3 := str_size _
  have z6 : (strOfNums (1 :: 2 :: (e : Int) :: vnum s)).size = 3 + (vnum s).length := by rw [str_size]; simp; omega
  have HWc := Lib.hid (Whole.new w 24 (confCells e s))
  obtain ⟨S, hS⟩ : ∃ S, S = vnum s := ⟨_, rfl⟩
  obtain ⟨N, hN⟩ : ∃ N, N = vnum n := ⟨_, rfl⟩
  obtain ⟨B, hB⟩ : ∃ B, B = headB e s n := ⟨_, rfl⟩
  rw [← hS] at HNs t1 z1 a2 a3 z6
  rw [← hN] at HNn t2 z2 a3
  rw [← hB] at HSl a3 ⊢
  clear hS hN hB he hs hn
  have r1 : ¬ 9223372036854775807 < 2 + 1 := by decide
  have r2 : ¬ 9223372036854775807 < 3 + S.length := by omega
  have r3 : ¬ 9223372036854775807 < 3 + S.length + N.length := by omega
  unfold confV
  go_enter Try.func19, Try.ntmps19
  go_wp2_with fail
  obtain ⟨W, hW⟩ : ∃ W, W = w.alloc (.cells #[.int .u8 (e : Int), .int .u32 (s : Int)] 24) := ⟨_, rfl⟩
  have HC : Hid (Whole W w.heap.size 24 (confCells e s)) := Lib.hid (by rw [hW]; exact HWc.out)
  have HK : Hid (Keeps NoBlock w W) := Lib.hid (by rw [hW]; exact (Keeps.refl _ _).alloc _)
  rw [← hW]
  clear hW HWc
  have HC : Hid (Whole W.drew w.heap.size 24 (confCells e s)) := Lib.hid (HC.out.drewN 1)
  have HK : Hid (Keeps NoBlock w W.drew) := Lib.hid (HK.out.drewN 1)
  have s0 := And.intro (HC.out.cell 0 rfl) (HC.out.cell 1 rfl)
  simp only [confCells, List.getElem_toArray, List.getElem_cons_zero, List.getElem_cons_succ] at s0
  refine wp_region_held_drew (S := fun w' => w'.cell? ⟨w.heap.size, 0, none⟩ = some (.int .u8 (e : Int)) ∧ w'.cell? ⟨w.heap.size, 1, none⟩ = some (.int .u32 (s : Int))) (by kernel_rfl) s0 (fun hHeld => ?_)
  refine wpAnyH_take (i := 0) (v := ?vT1) rfl ?aT1 ?bT1 ?cT1 ?dT1 (Or.inl ⟨?eT1, ?fT1⟩) hHeld ?gT1
  case fT1 => intro w hSw; (try dsimp only at hSw); go_simp; (try with_reducible rfl)
  case aT1 => kernel_rfl
  case bT1 => kernel_rfl
  case cT1 => kernel_rfl
  case dT1 => exact fun _ _ _ h => h
  case eT1 => rfl
  simp only [Act.put, List.getElem_toArray, List.getElem_cons_zero, List.setIfInBounds_toArray, List.set_cons_zero, List.set_cons_succ]
  refine wpAnyH_take (i := 1) (v := ?vT2) rfl ?aT2 ?bT2 ?cT2 ?dT2 (Or.inl ⟨?eT2, ?fT2⟩) hHeld ?gT2
  case fT2 => intro w hSw; (try dsimp only at hSw); go_simp; (try with_reducible rfl)
  case aT2 => kernel_rfl
  case bT2 => kernel_rfl
  case cT2 => kernel_rfl
  case dT2 => exact fun _ _ _ h => h
  case eT2 => rfl
  simp only [Act.put, List.getElem_toArray, List.getElem_cons_zero, List.getElem_cons_succ, List.setIfInBounds_toArray, List.set_cons_zero, List.set_cons_succ]
  refine wpAnyH_take (i := 5) (v := ?vT3) rfl ?aT3 ?bT3 ?cT3 ?dT3 (Or.inl ⟨?eT3, ?fT3⟩) hHeld ?gT3
  case fT3 => intro w hSw; (try dsimp only at hSw); go_simp; (try with_reducible rfl)
  case aT3 => kernel_rfl
  case bT3 => kernel_rfl
  case cT3 => kernel_rfl
  case dT3 => exact fun _ _ _ h => h
  case eT3 => rfl
  simp only [Act.put, List.getElem_toArray, List.getElem_cons_zero, List.getElem_cons_succ, List.setIfInBounds_toArray, List.set_cons_zero, List.set_cons_succ]
  refine wpAnyH_take (i := 6) (v := ?vT4) rfl ?aT4 ?bT4 ?cT4 ?dT4 (Or.inl ⟨?eT4, ?fT4⟩) hHeld ?gT4
  case fT4 => intro w hSw; (try dsimp only at hSw); go_simp; (try with_reducible rfl)
  case aT4 => kernel_rfl
  case bT4 => kernel_rfl
  case cT4 => kernel_rfl
  case dT4 => exact fun _ _ _ h => h
  case eT4 => rfl
  simp only [Act.put, List.getElem_toArray, List.getElem_cons_zero, List.getElem_cons_succ, List.setIfInBounds_toArray, List.set_cons_zero, List.set_cons_succ]
  refine wpAnyH_take (i := 7) (v := ?vT5) rfl ?aT5 ?bT5 ?cT5 ?dT5 (Or.inl ⟨?eT5, ?fT5⟩) hHeld ?gT5
  case fT5 => intro w hSw; (try dsimp only at hSw); go_simp; (try with_reducible rfl)
  case aT5 => kernel_rfl
  case bT5 => kernel_rfl
  case cT5 => kernel_rfl
  case dT5 => exact fun _ _ _ h => h
  case eT5 => rfl
  simp only [Act.put, List.getElem_toArray, List.getElem_cons_zero, List.getElem_cons_succ, List.setIfInBounds_toArray, List.set_cons_zero, List.set_cons_succ]
  refine wpAnyH_take (i := 10) (v := ?vT6) rfl ?aT6 ?bT6 ?cT6 ?dT6 (Or.inl ⟨?eT6, ?fT6⟩) hHeld ?gT6
  case fT6 => intro w hSw; (try dsimp only at hSw); go_simp; (try with_reducible rfl)
  case aT6 => kernel_rfl
  case bT6 => kernel_rfl
  case cT6 => kernel_rfl
  case dT6 => exact fun _ _ _ h => h
  case eT6 => rfl
  simp only [Act.put, List.getElem_toArray, List.getElem_cons_zero, List.getElem_cons_succ, List.setIfInBounds_toArray, List.set_cons_zero, List.set_cons_succ]
  refine wpAnyH_ready (rs := [2, 8]) (by kernel_rfl) (by simp) ?_
  refine (AllReadyH.cons (o := _) rfl (fun K hK => ?_) (AllReadyH.cons (o := _) rfl (fun K hK => ?_) AllReadyH.nil))
  · go_simp
    have HC := Lib.hid (HC.out.alloc (.cells #[.int .u8 (e : Int)] 5))
    have HK := Lib.hid (HK.out.alloc (.cells #[.int .u8 (e : Int)] 5))
    have HNB : Hid (Whole (W.drew.alloc (.cells #[.int .u8 (e : Int)] 5)) W.heap.size 5 #[.int .u8 (e : Int)]) := Lib.hid (Whole.new _ _ _)
    refine hK.out _ _ (And.intro (HC.out.cell 0 rfl) (HC.out.cell 1 rfl)) (fun _ => ?_)
    clear hK K
    refine wpAnyH_swap (S' := fun w' => (w'.cell? ⟨w.heap.size, 0, none⟩ = some (.int .u8 (e : Int)) ∧ w'.cell? ⟨w.heap.size, 1, none⟩ = some (.int .u32 (s : Int))) ∧ (convert 58 9 (.slice (some ⟨W.heap.size, 0, none⟩) 1 1)).run Try.prog w' = .ok (.string (strOfNums [(e : Int)])) w') (fun _ h => h.1) _ _ _ _ ?_
    have hS : ((fun w' => w'.cell? ⟨w.heap.size, 0, none⟩ = some (.int .u8 (e : Int)) ∧ w'.cell? ⟨w.heap.size, 1, none⟩ = some (.int .u32 (s : Int))) (W.drew.alloc (.cells #[.int .u8 (e : Int)] 5))) ∧ ((fun w' => (convert 58 9 (.slice (some ⟨W.heap.size, 0, none⟩) 1 1)).run Try.prog w' = .ok (.string (strOfNums [(e : Int)])) w') (W.drew.alloc (.cells #[.int .u8 (e : Int)] 5))) := And.intro (And.intro (HC.out.cell 0 rfl) (HC.out.cell 1 rfl)) (one_conv HNB.out)
    refine wpAnyH_take (i := 3) (v := ?vT7) rfl ?aT7 ?bT7 ?cT7 ?dT7 (Or.inl ⟨?eT7, ?fT7⟩) hS ?gT7
    case fT7 => intro w hSw; (try dsimp only at hSw); go_simp; (try with_reducible rfl)
    case aT7 => kernel_rfl
    case bT7 => kernel_rfl
    case cT7 => kernel_rfl
    case dT7 => exact fun _ _ _ h => h
    case eT7 => rfl
    simp only [Act.put, List.getElem_toArray, List.getElem_cons_zero, List.getElem_cons_succ, List.setIfInBounds_toArray, List.set_cons_zero, List.set_cons_succ]
    refine wpAnyH_take (i := 4) (v := ?vT8) rfl ?aT8 ?bT8 ?cT8 ?dT8 (Or.inl ⟨?eT8, ?fT8⟩) hS ?gT8
    case fT8 => intro w hSw; (try dsimp only at hSw); go_simp; (try with_reducible rfl)
    case aT8 => kernel_rfl
    case bT8 => kernel_rfl
    case cT8 => kernel_rfl
    case dT8 => exact fun _ _ _ h => h
    case eT8 => rfl
    simp only [Act.put, List.getElem_toArray, List.getElem_cons_zero, List.getElem_cons_succ, List.setIfInBounds_toArray, List.set_cons_zero, List.set_cons_succ]
    refine wpAnyH_ready (rs := [8]) (by kernel_rfl) (by simp) ?_
    refine (AllReadyH.cons (o := _) rfl (fun K hK => ?_) AllReadyH.nil)
    go_simp
    refine (HNs.out _).mono ?_
    rintro r w5 ⟨rfl, hk⟩
    have hk2 : Keeps NoBlock (W.drew.alloc (.cells #[.int .u8 (e : Int)] 5)) w5 := by first | exact hk | exact hk.ofDrew | exact hk.ofDrewN
    have HC := Lib.hid (HC.out.keep hk2 (fun h => h))
    have HK := Lib.hid (HK.out.trans hk2)
    have HNB := Lib.hid (HNB.out.keep hk2 (fun h => h))
    have hS : ((fun w' => w'.cell? ⟨w.heap.size, 0, none⟩ = some (.int .u8 (e : Int)) ∧ w'.cell? ⟨w.heap.size, 1, none⟩ = some (.int .u32 (s : Int))) w5) ∧ ((fun w' => (convert 58 9 (.slice (some ⟨W.heap.size, 0, none⟩) 1 1)).run Try.prog w' = .ok (.string (strOfNums [(e : Int)])) w') w5) := And.intro (And.intro (HC.out.cell 0 rfl) (HC.out.cell 1 rfl)) (one_conv HNB.out)
    clear hk hk2
    go_wp2_with fail
    refine hK.out _ _ hS (fun _ => ?_)
    clear hK K
    refine wpAnyH_take (i := 9) (v := ?vT9) rfl ?aT9 ?bT9 ?cT9 ?dT9 (Or.inl ⟨?eT9, ?fT9⟩) hS ?gT9
    case fT9 => intro w hSw; (try dsimp only at hSw); go_simp; (try with_reducible rfl)
    case aT9 => kernel_rfl
    case bT9 => kernel_rfl
    case cT9 => kernel_rfl
    case dT9 => exact fun _ _ _ h => h
    case eT9 => rfl
    simp only [Act.put, List.getElem_toArray, List.getElem_cons_zero, List.getElem_cons_succ, List.setIfInBounds_toArray, List.set_cons_zero, List.set_cons_succ]
    refine wpAnyH_ready (rs := [11]) (by kernel_rfl) (by simp) ?_
    refine (AllReadyH.cons (o := _) rfl (fun K hK => ?_) AllReadyH.nil)
    go_simp
    refine (HNn.out _).mono ?_
    rintro r w6 ⟨rfl, hk⟩
    have hk2 : Keeps NoBlock w5 w6 := by first | exact hk | exact hk.ofDrew | exact hk.ofDrewN
    have HC := Lib.hid (HC.out.keep hk2 (fun h => h))
    have HK := Lib.hid (HK.out.trans hk2)
    have HNB := Lib.hid (HNB.out.keep hk2 (fun h => h))
    have hS : ((fun w' => w'.cell? ⟨w.heap.size, 0, none⟩ = some (.int .u8 (e : Int)) ∧ w'.cell? ⟨w.heap.size, 1, none⟩ = some (.int .u32 (s : Int))) w6) ∧ ((fun w' => (convert 58 9 (.slice (some ⟨W.heap.size, 0, none⟩) 1 1)).run Try.prog w' = .ok (.string (strOfNums [(e : Int)])) w') w6) := And.intro (And.intro (HC.out.cell 0 rfl) (HC.out.cell 1 rfl)) (one_conv HNB.out)
    clear hk hk2
    go_wp2_with fail
    refine hK.out _ _ hS (fun _ => ?_)
    clear hK K
    refine wpAnyH_take (i := 12) (v := ?vT10) rfl ?aT10 ?bT10 ?cT10 ?dT10 (Or.inl ⟨?eT10, ?fT10⟩) hS ?gT10
    case fT10 => intro w hSw; (try dsimp only at hSw); go_simp; (try with_reducible rfl)
    case aT10 => kernel_rfl
    case bT10 => kernel_rfl
    case cT10 => kernel_rfl
    case dT10 => exact fun _ _ _ h => h
    case eT10 => rfl
    simp only [Act.put, List.getElem_toArray, List.getElem_cons_zero, List.getElem_cons_succ, List.setIfInBounds_toArray, List.set_cons_zero, List.set_cons_succ]
    refine wpAnyH_ready (rs := [13]) (by kernel_rfl) (by simp) ?_
    refine (AllReadyH.cons (o := _) rfl (fun K hK => ?_) AllReadyH.nil)
    go_simp
    refine (HSl.out _).mono ?_
    rintro r w7 ⟨rfl, hk⟩
    have hk2 : Keeps NoBlock w6 w7 := by first | exact hk | exact hk.ofDrew | exact hk.ofDrewN
    have HC := Lib.hid (HC.out.keep hk2 (fun h => h))
    have HK := Lib.hid (HK.out.trans hk2)
    have HNB := Lib.hid (HNB.out.keep hk2 (fun h => h))
    have hS : ((fun w' => w'.cell? ⟨w.heap.size, 0, none⟩ = some (.int .u8 (e : Int)) ∧ w'.cell? ⟨w.heap.size, 1, none⟩ = some (.int .u32 (s : Int))) w7) ∧ ((fun w' => (convert 58 9 (.slice (some ⟨W.heap.size, 0, none⟩) 1 1)).run Try.prog w' = .ok (.string (strOfNums [(e : Int)])) w') w7) := And.intro (And.intro (HC.out.cell 0 rfl) (HC.out.cell 1 rfl)) (one_conv HNB.out)
    clear hk hk2
    go_wp2_with fail
    refine hK.out _ _ hS (fun _ => ?_)
    clear hK K
    refine wpAnyH_take (i := 14) (v := ?vT11) rfl ?aT11 ?bT11 ?cT11 ?dT11 (Or.inl ⟨?eT11, ?fT11⟩) hS ?gT11
    case fT11 => intro w hSw; (try dsimp only at hSw); go_simp; (try with_reducible rfl)
    case aT11 => kernel_rfl
    case bT11 => kernel_rfl
    case cT11 => kernel_rfl
    case dT11 => exact fun _ _ _ h => h
    case eT11 => rfl
    simp only [Act.put, List.getElem_toArray, List.getElem_cons_zero, List.getElem_cons_succ, List.setIfInBounds_toArray, List.set_cons_zero, List.set_cons_succ]
    refine wpAnyH_done (by kernel_rfl) ?_ _
    go_wp2_with fail
    go_ret
    exact ⟨rfl, HK.out⟩
  · go_simp
    refine (HNs.out _).mono ?_
    rintro r w8 ⟨rfl, hk⟩
    have hk2 : Keeps NoBlock W.drew w8 := by first | exact hk | exact hk.ofDrew | exact hk.ofDrewN
    have HC := Lib.hid (HC.out.keep hk2 (fun h => h))
    have HK := Lib.hid (HK.out.trans hk2)
    have hS : (fun w' => w'.cell? ⟨w.heap.size, 0, none⟩ = some (.int .u8 (e : Int)) ∧ w'.cell? ⟨w.heap.size, 1, none⟩ = some (.int .u32 (s : Int))) w8 := And.intro (HC.out.cell 0 rfl) (HC.out.cell 1 rfl)
    clear hk hk2
    go_wp2_with fail
    refine hK.out _ _ hS (fun _ => ?_)
    clear hK K
    refine wpAnyH_ready (rs := [2, 11]) (by kernel_rfl) (by simp) ?_
    refine (AllReadyH.cons (o := _) rfl (fun K hK => ?_) (AllReadyH.cons (o := _) rfl (fun K hK => ?_) AllReadyH.nil))
    · go_simp
      have HC := Lib.hid (HC.out.alloc (.cells #[.int .u8 (e : Int)] 5))
      have HK := Lib.hid (HK.out.alloc (.cells #[.int .u8 (e : Int)] 5))
      have HNB : Hid (Whole (w8.alloc (.cells #[.int .u8 (e : Int)] 5)) w8.heap.size 5 #[.int .u8 (e : Int)]) := Lib.hid (Whole.new _ _ _)
      refine hK.out _ _ (And.intro (HC.out.cell 0 rfl) (HC.out.cell 1 rfl)) (fun _ => ?_)
      clear hK K
      refine wpAnyH_swap (S' := fun w' => (w'.cell? ⟨w.heap.size, 0, none⟩ = some (.int .u8 (e : Int)) ∧ w'.cell? ⟨w.heap.size, 1, none⟩ = some (.int .u32 (s : Int))) ∧ (convert 58 9 (.slice (some ⟨w8.heap.size, 0, none⟩) 1 1)).run Try.prog w' = .ok (.string (strOfNums [(e : Int)])) w') (fun _ h => h.1) _ _ _ _ ?_
      have hS : ((fun w' => w'.cell? ⟨w.heap.size, 0, none⟩ = some (.int .u8 (e : Int)) ∧ w'.cell? ⟨w.heap.size, 1, none⟩ = some (.int .u32 (s : Int))) (w8.alloc (.cells #[.int .u8 (e : Int)] 5))) ∧ ((fun w' => (convert 58 9 (.slice (some ⟨w8.heap.size, 0, none⟩) 1 1)).run Try.prog w' = .ok (.string (strOfNums [(e : Int)])) w') (w8.alloc (.cells #[.int .u8 (e : Int)] 5))) := And.intro (And.intro (HC.out.cell 0 rfl) (HC.out.cell 1 rfl)) (one_conv HNB.out)
      refine wpAnyH_take (i := 3) (v := ?vT12) rfl ?aT12 ?bT12 ?cT12 ?dT12 (Or.inl ⟨?eT12, ?fT12⟩) hS ?gT12
      case fT12 => intro w hSw; (try dsimp only at hSw); go_simp; (try with_reducible rfl)
      case aT12 => kernel_rfl
      case bT12 => kernel_rfl
      case cT12 => kernel_rfl
      case dT12 => exact fun _ _ _ h => h
      case eT12 => rfl
      simp only [Act.put, List.getElem_toArray, List.getElem_cons_zero, List.getElem_cons_succ, List.setIfInBounds_toArray, List.set_cons_zero, List.set_cons_succ]
      refine wpAnyH_take (i := 4) (v := ?vT13) rfl ?aT13 ?bT13 ?cT13 ?dT13 (Or.inl ⟨?eT13, ?fT13⟩) hS ?gT13
      case fT13 => intro w hSw; (try dsimp only at hSw); go_simp; (try with_reducible rfl)
      case aT13 => kernel_rfl
      case bT13 => kernel_rfl
      case cT13 => kernel_rfl
      case dT13 => exact fun _ _ _ h => h
      case eT13 => rfl
      simp only [Act.put, List.getElem_toArray, List.getElem_cons_zero, List.getElem_cons_succ, List.setIfInBounds_toArray, List.set_cons_zero, List.set_cons_succ]
      refine wpAnyH_take (i := 9) (v := ?vT14) rfl ?aT14 ?bT14 ?cT14 ?dT14 (Or.inl ⟨?eT14, ?fT14⟩) hS ?gT14
      case fT14 => intro w hSw; (try dsimp only at hSw); go_simp; (try with_reducible rfl)
      case aT14 => kernel_rfl
      case bT14 => kernel_rfl
      case cT14 => kernel_rfl
      case dT14 => exact fun _ _ _ h => h
      case eT14 => rfl
      simp only [Act.put, List.getElem_toArray, List.getElem_cons_zero, List.getElem_cons_succ, List.setIfInBounds_toArray, List.set_cons_zero, List.set_cons_succ]
      refine wpAnyH_ready (rs := [11]) (by kernel_rfl) (by simp) ?_
      refine (AllReadyH.cons (o := _) rfl (fun K hK => ?_) AllReadyH.nil)
      go_simp
      refine (HNn.out _).mono ?_
      rintro r w9 ⟨rfl, hk⟩
      have hk2 : Keeps NoBlock (w8.alloc (.cells #[.int .u8 (e : Int)] 5)) w9 := by first | exact hk | exact hk.ofDrew | exact hk.ofDrewN
      have HC := Lib.hid (HC.out.keep hk2 (fun h => h))
      have HK := Lib.hid (HK.out.trans hk2)
      have HNB := Lib.hid (HNB.out.keep hk2 (fun h => h))
      have hS : ((fun w' => w'.cell? ⟨w.heap.size, 0, none⟩ = some (.int .u8 (e : Int)) ∧ w'.cell? ⟨w.heap.size, 1, none⟩ = some (.int .u32 (s : Int))) w9) ∧ ((fun w' => (convert 58 9 (.slice (some ⟨w8.heap.size, 0, none⟩) 1 1)).run Try.prog w' = .ok (.string (strOfNums [(e : Int)])) w') w9) := And.intro (And.intro (HC.out.cell 0 rfl) (HC.out.cell 1 rfl)) (one_conv HNB.out)
      clear hk hk2
      go_wp2_with fail
      refine hK.out _ _ hS (fun _ => ?_)
      clear hK K
      refine wpAnyH_take (i := 12) (v := ?vT15) rfl ?aT15 ?bT15 ?cT15 ?dT15 (Or.inl ⟨?eT15, ?fT15⟩) hS ?gT15
      case fT15 => intro w hSw; (try dsimp only at hSw); go_simp; (try with_reducible rfl)
      case aT15 => kernel_rfl
      case bT15 => kernel_rfl
      case cT15 => kernel_rfl
      case dT15 => exact fun _ _ _ h => h
      case eT15 => rfl
      simp only [Act.put, List.getElem_toArray, List.getElem_cons_zero, List.getElem_cons_succ, List.setIfInBounds_toArray, List.set_cons_zero, List.set_cons_succ]
      refine wpAnyH_ready (rs := [13]) (by kernel_rfl) (by simp) ?_
      refine (AllReadyH.cons (o := _) rfl (fun K hK => ?_) AllReadyH.nil)
      go_simp
      refine (HSl.out _).mono ?_
      rintro r w10 ⟨rfl, hk⟩
      have hk2 : Keeps NoBlock w9 w10 := by first | exact hk | exact hk.ofDrew | exact hk.ofDrewN
      have HC := Lib.hid (HC.out.keep hk2 (fun h => h))
      have HK := Lib.hid (HK.out.trans hk2)
      have HNB := Lib.hid (HNB.out.keep hk2 (fun h => h))
      have hS : ((fun w' => w'.cell? ⟨w.heap.size, 0, none⟩ = some (.int .u8 (e : Int)) ∧ w'.cell? ⟨w.heap.size, 1, none⟩ = some (.int .u32 (s : Int))) w10) ∧ ((fun w' => (convert 58 9 (.slice (some ⟨w8.heap.size, 0, none⟩) 1 1)).run Try.prog w' = .ok (.string (strOfNums [(e : Int)])) w') w10) := And.intro (And.intro (HC.out.cell 0 rfl) (HC.out.cell 1 rfl)) (one_conv HNB.out)
      clear hk hk2
      go_wp2_with fail
      refine hK.out _ _ hS (fun _ => ?_)
      clear hK K
      refine wpAnyH_take (i := 14) (v := ?vT16) rfl ?aT16 ?bT16 ?cT16 ?dT16 (Or.inl ⟨?eT16, ?fT16⟩) hS ?gT16
      case fT16 => intro w hSw; (try dsimp only at hSw); go_simp; (try with_reducible rfl)
      case aT16 => kernel_rfl
      case bT16 => kernel_rfl
      case cT16 => kernel_rfl
      case dT16 => exact fun _ _ _ h => h
      case eT16 => rfl
      simp only [Act.put, List.getElem_toArray, List.getElem_cons_zero, List.getElem_cons_succ, List.setIfInBounds_toArray, List.set_cons_zero, List.set_cons_succ]
      refine wpAnyH_done (by kernel_rfl) ?_ _
      go_wp2_with fail
      go_ret
      exact ⟨rfl, HK.out⟩
    · go_simp
      refine (HNn.out _).mono ?_
      rintro r w11 ⟨rfl, hk⟩
      have hk2 : Keeps NoBlock w8 w11 := by first | exact hk | exact hk.ofDrew | exact hk.ofDrewN
      have HC := Lib.hid (HC.out.keep hk2 (fun h => h))
      have HK := Lib.hid (HK.out.trans hk2)
      have hS : (fun w' => w'.cell? ⟨w.heap.size, 0, none⟩ = some (.int .u8 (e : Int)) ∧ w'.cell? ⟨w.heap.size, 1, none⟩ = some (.int .u32 (s : Int))) w11 := And.intro (HC.out.cell 0 rfl) (HC.out.cell 1 rfl)
      clear hk hk2
      go_wp2_with fail
      refine hK.out _ _ hS (fun _ => ?_)
      clear hK K
      refine wpAnyH_ready (rs := [2]) (by kernel_rfl) (by simp) ?_
      refine (AllReadyH.cons (o := _) rfl (fun K hK => ?_) AllReadyH.nil)
      go_simp
      have HC := Lib.hid (HC.out.alloc (.cells #[.int .u8 (e : Int)] 5))
      have HK := Lib.hid (HK.out.alloc (.cells #[.int .u8 (e : Int)] 5))
      have HNB : Hid (Whole (w11.alloc (.cells #[.int .u8 (e : Int)] 5)) w11.heap.size 5 #[.int .u8 (e : Int)]) := Lib.hid (Whole.new _ _ _)
      refine hK.out _ _ (And.intro (HC.out.cell 0 rfl) (HC.out.cell 1 rfl)) (fun _ => ?_)
      clear hK K
      refine wpAnyH_swap (S' := fun w' => (w'.cell? ⟨w.heap.size, 0, none⟩ = some (.int .u8 (e : Int)) ∧ w'.cell? ⟨w.heap.size, 1, none⟩ = some (.int .u32 (s : Int))) ∧ (convert 58 9 (.slice (some ⟨w11.heap.size, 0, none⟩) 1 1)).run Try.prog w' = .ok (.string (strOfNums [(e : Int)])) w') (fun _ h => h.1) _ _ _ _ ?_
      have hS : ((fun w' => w'.cell? ⟨w.heap.size, 0, none⟩ = some (.int .u8 (e : Int)) ∧ w'.cell? ⟨w.heap.size, 1, none⟩ = some (.int .u32 (s : Int))) (w11.alloc (.cells #[.int .u8 (e : Int)] 5))) ∧ ((fun w' => (convert 58 9 (.slice (some ⟨w11.heap.size, 0, none⟩) 1 1)).run Try.prog w' = .ok (.string (strOfNums [(e : Int)])) w') (w11.alloc (.cells #[.int .u8 (e : Int)] 5))) := And.intro (And.intro (HC.out.cell 0 rfl) (HC.out.cell 1 rfl)) (one_conv HNB.out)
      refine wpAnyH_take (i := 3) (v := ?vT17) rfl ?aT17 ?bT17 ?cT17 ?dT17 (Or.inl ⟨?eT17, ?fT17⟩) hS ?gT17
      case fT17 => intro w hSw; (try dsimp only at hSw); go_simp; (try with_reducible rfl)
      case aT17 => kernel_rfl
      case bT17 => kernel_rfl
      case cT17 => kernel_rfl
      case dT17 => exact fun _ _ _ h => h
      case eT17 => rfl
      simp only [Act.put, List.getElem_toArray, List.getElem_cons_zero, List.getElem_cons_succ, List.setIfInBounds_toArray, List.set_cons_zero, List.set_cons_succ]
      refine wpAnyH_take (i := 4) (v := ?vT18) rfl ?aT18 ?bT18 ?cT18 ?dT18 (Or.inl ⟨?eT18, ?fT18⟩) hS ?gT18
      case fT18 => intro w hSw; (try dsimp only at hSw); go_simp; (try with_reducible rfl)
      case aT18 => kernel_rfl
      case bT18 => kernel_rfl
      case cT18 => kernel_rfl
      case dT18 => exact fun _ _ _ h => h
      case eT18 => rfl
      simp only [Act.put, List.getElem_toArray, List.getElem_cons_zero, List.getElem_cons_succ, List.setIfInBounds_toArray, List.set_cons_zero, List.set_cons_succ]
      refine wpAnyH_take (i := 9) (v := ?vT19) rfl ?aT19 ?bT19 ?cT19 ?dT19 (Or.inl ⟨?eT19, ?fT19⟩) hS ?gT19
      case fT19 => intro w hSw; (try dsimp only at hSw); go_simp; (try with_reducible rfl)
      case aT19 => kernel_rfl
      case bT19 => kernel_rfl
      case cT19 => kernel_rfl
      case dT19 => exact fun _ _ _ h => h
      case eT19 => rfl
      simp only [Act.put, List.getElem_toArray, List.getElem_cons_zero, List.getElem_cons_succ, List.setIfInBounds_toArray, List.set_cons_zero, List.set_cons_succ]
      refine wpAnyH_take (i := 12) (v := ?vT20) rfl ?aT20 ?bT20 ?cT20 ?dT20 (Or.inl ⟨?eT20, ?fT20⟩) hS ?gT20
      case fT20 => intro w hSw; (try dsimp only at hSw); go_simp; (try with_reducible rfl)
      case aT20 => kernel_rfl
      case bT20 => kernel_rfl
      case cT20 => kernel_rfl
      case dT20 => exact fun _ _ _ h => h
      case eT20 => rfl
      simp only [Act.put, List.getElem_toArray, List.getElem_cons_zero, List.getElem_cons_succ, List.setIfInBounds_toArray, List.set_cons_zero, List.set_cons_succ]
      refine wpAnyH_ready (rs := [13]) (by kernel_rfl) (by simp) ?_
      refine (AllReadyH.cons (o := _) rfl (fun K hK => ?_) AllReadyH.nil)
      go_simp
      refine (HSl.out _).mono ?_
      rintro r w12 ⟨rfl, hk⟩
      have hk2 : Keeps NoBlock (w11.alloc (.cells #[.int .u8 (e : Int)] 5)) w12 := by first | exact hk | exact hk.ofDrew | exact hk.ofDrewN
      have HC := Lib.hid (HC.out.keep hk2 (fun h => h))
      have HK := Lib.hid (HK.out.trans hk2)
      have HNB := Lib.hid (HNB.out.keep hk2 (fun h => h))
      have hS : ((fun w' => w'.cell? ⟨w.heap.size, 0, none⟩ = some (.int .u8 (e : Int)) ∧ w'.cell? ⟨w.heap.size, 1, none⟩ = some (.int .u32 (s : Int))) w12) ∧ ((fun w' => (convert 58 9 (.slice (some ⟨w11.heap.size, 0, none⟩) 1 1)).run Try.prog w' = .ok (.string (strOfNums [(e : Int)])) w') w12) := And.intro (And.intro (HC.out.cell 0 rfl) (HC.out.cell 1 rfl)) (one_conv HNB.out)
      clear hk hk2
      go_wp2_with fail
      refine hK.out _ _ hS (fun _ => ?_)
      clear hK K
      refine wpAnyH_take (i := 14) (v := ?vT21) rfl ?aT21 ?bT21 ?cT21 ?dT21 (Or.inl ⟨?eT21, ?fT21⟩) hS ?gT21
      case fT21 => intro w hSw; (try dsimp only at hSw); go_simp; (try with_reducible rfl)
      case aT21 => kernel_rfl
      case bT21 => kernel_rfl
      case cT21 => kernel_rfl
      case dT21 => exact fun _ _ _ h => h
      case eT21 => rfl
      simp only [Act.put, List.getElem_toArray, List.getElem_cons_zero, List.getElem_cons_succ, List.setIfInBounds_toArray, List.set_cons_zero, List.set_cons_succ]
      refine wpAnyH_done (by kernel_rfl) ?_ _
      go_wp2_with fail
      go_ret
      exact ⟨rfl, HK.out⟩
end Go.Proofs.Ytibojgoeaoinpaa

namespace Go.Proofs.Ytibojgoeaoinpaa
open Go.RowKit

def roomV (r : Rm) : Value := .agg #[.int .u8 (r.e : Int), .int .u32 (r.s : Int), .int .u32 (r.num : Int), .int .i64 (r.used : Int), .int .i64 (r.count : Int)]
def roomCells (r : Rm) : Array Value := #[.int .u8 (r.e : Int), .int .u32 (r.s : Int), .int .u32 (r.num : Int), .int .i64 (r.used : Int), .int .i64 (r.count : Int)]
def room14V (r : Rm) : Value := .agg #[.int .u8 (r.e : Int), .int .u32 (r.s : Int), .int .u64 (r.num : Int), .int .i64 (r.used : Int), .int .i64 (r.count : Int)]
def room14Cells (r : Rm) : Array Value := #[.int .u8 (r.e : Int), .int .u32 (r.s : Int), .int .u64 (r.num : Int), .int .i64 (r.used : Int), .int .i64 (r.count : Int)]
theorem room14_at {w : World} {g : Nat} {t : TypeId} {r : Rm} (h : Whole w g t (room14Cells r)) :
    w.cell? ⟨g, 0, none⟩ = some (.int .u8 (r.e : Int)) ∧ w.cell? ⟨g, 1, none⟩ = some (.int .u32 (r.s : Int)) ∧ w.cell? ⟨g, 2, none⟩ = some (.int .u64 (r.num : Int)) ∧ w.cell? ⟨g, 3, none⟩ = some (.int .i64 (r.used : Int)) ∧ w.cell? ⟨g, 4, none⟩ = some (.int .i64 (r.count : Int)) :=
  ⟨h.cell 0 rfl, h.cell 1 rfl, h.cell 2 rfl, h.cell 3 rfl, h.cell 4 rfl⟩
theorem room_at {w : World} {g : Nat} {t : TypeId} {r : Rm} (h : Whole w g t (roomCells r)) :
    w.cell? ⟨g, 0, none⟩ = some (.int .u8 (r.e : Int)) ∧ w.cell? ⟨g, 1, none⟩ = some (.int .u32 (r.s : Int)) ∧ w.cell? ⟨g, 2, none⟩ = some (.int .u32 (r.num : Int)) ∧ w.cell? ⟨g, 3, none⟩ = some (.int .i64 (r.used : Int)) ∧ w.cell? ⟨g, 4, none⟩ = some (.int .i64 (r.count : Int)) :=
  ⟨h.cell 0 rfl, h.cell 1 rfl, h.cell 2 rfl, h.cell 3 rfl, h.cell 4 rfl⟩
theorem room_free {w : World} {g : Nat} {t : TypeId} {cs : Array Value} (h : Whole w g t cs) :
    w.frozen? ⟨g, 0, none⟩ = false ∧ w.frozen? ⟨g, 1, none⟩ = false ∧ w.frozen? ⟨g, 2, none⟩ = false ∧ w.frozen? ⟨g, 3, none⟩ = false ∧ w.frozen? ⟨g, 4, none⟩ = false :=
  ⟨h.free 0, h.free 1, h.free 2, h.free 3, h.free 4⟩

set_option maxHeartbeats 4000000 in
set_option maxRecDepth 10000 in
theorem fits14_ref (r : Rm) (z : Int) (hr : r.Real) (h1 : -9223372036854775808 ≤ z) (h2 : z ≤ 9223372036854775807) (w : World) :
    Calls Try.prog 12 #[room14V r, .int .i64 z] w fun e w' => e = .returned (.bool (fitsP r z)) ∧ Keeps NoBlock w w' := by
  obtain ⟨he, hu, hs, hn⟩ := hr.small
  have hc := hr.few
  have HSz := Lib.hid (fun w => size8_ref r.e r.s he w)
  have HMo := Lib.hid (fun w => most13_ref (r.count + 1) (by omega) w)
  have hlin := mostFt_lin (r.count + 1)
  have hp := two_e he
  have HW := Lib.hid (Whole.new w 35 (room14Cells r))
  have HK := Lib.hid ((Keeps.refl NoBlock w).alloc (.cells (room14Cells r) 35))
  have hdef : fitsP r z = (decide (1 ≤ z) && decide ((r.used : Int) + z + (mostFt (r.count + 1) : Int) ≤ ((2 ^ r.e : Nat) : Int))) := rfl
  obtain ⟨p, hpp⟩ : ∃ p, p = 2 ^ r.e := ⟨_, rfl⟩
  obtain ⟨m, hm⟩ : ∃ m, m = mostFt (r.count + 1) := ⟨_, rfl⟩
  rw [← hpp] at HSz hp hdef
  rw [← hm] at HMo hlin hdef
  rw [show ((r.count + 1 : Nat) : Int) = (r.count : Int) + 1 by omega] at HMo
  have HD := Lib.hid hdef
  obtain ⟨e, s, num, used, count⟩ := r
  simp only at hu hs hn hc hlin HSz HMo HD hp
  clear hr hpp hm hdef
  unfold room14V
  unfold room14Cells at HW HK
  simp only at HW HK ⊢
  by_cases z1 : z < 1
  · have hf : fitsP ⟨e, s, num, used, count⟩ z = false := by rw [HD.out, decide_eq_false (by omega)]; rfl
    have d1 : decide (z < 1) = true := decide_eq_true z1
    rw [hf]
    go_enter Try.func12, Try.ntmps12
    go_wp2_with fail
    go_ret
    exact ⟨rfl, HK.out⟩
  have d1 : decide (z < 1) = false := decide_eq_false z1
  have wz : IntKind.u64.wrap z = z := by rw [IntKind.wrap_u64]; omega
  by_cases z2 : (p : Int) < z
  · have hf : fitsP ⟨e, s, num, used, count⟩ z = false := by rw [HD.out, decide_eq_false (by omega : ¬ (used : Int) + z + (m : Int) ≤ (p : Int))]; simp
    have d2 : decide ((p : Int) < z) = true := decide_eq_true z2
    rw [hf]
    have c := room14_at (r := ⟨e, s, num, used, count⟩) HW.out
    obtain ⟨c0, c1, c2, c3, c4⟩ := c
    go_enter Try.func12, Try.ntmps12
    go_wp2_with fail
    refine (HSz.out _).mono ?_
    rintro e w1 ⟨rfl, hk⟩
    have HK := Lib.hid (HK.out.trans hk)
    clear hk
    go_wp2_with fail
    go_ret
    exact ⟨rfl, HK.out⟩
  have d2 : decide ((p : Int) < z) = false := decide_eq_false z2
  have hf : fitsP ⟨e, s, num, used, count⟩ z = decide ((used : Int) + z + (m : Int) ≤ (p : Int)) := by rw [HD.out, decide_eq_true (by omega)]; rfl
  rw [hf]
  obtain ⟨zn, rfl⟩ : ∃ zn : Nat, z = (zn : Int) := ⟨z.toNat, by omega⟩
  obtain ⟨c0, c1, c2, c3, c4⟩ := room14_at (r := ⟨e, s, num, used, count⟩) HW.out
  go_enter Try.func12, Try.ntmps12
  go_wp2_with fail
  refine (HSz.out _).mono ?_
  rintro e9 w1 ⟨rfl, hk⟩
  have HW := Lib.hid (HW.out.keep hk (fun h => h))
  have HK := Lib.hid (HK.out.trans hk)
  clear hk c0 c1 c2 c3 c4
  go_upto_region 3 with (fail)
  have w3 : IntKind.i64.wrap ((used : Int) + (zn : Int)) = (used : Int) + (zn : Int) := IntWalk.i64_in _ (by omega)
  have w4 : IntKind.i64.wrap ((used : Int) + (zn : Int) + (m : Int)) = (used : Int) + (zn : Int) + (m : Int) := IntWalk.i64_in _ (by omega)
  have w5 : IntKind.u64.wrap ((used : Int) + (zn : Int) + (m : Int)) = (used : Int) + (zn : Int) + (m : Int) := by rw [IntKind.wrap_u64]; omega
  have w6 : IntKind.i64.wrap ((count : Int) + 1) = (count : Int) + 1 := IntWalk.i64_in _ (by omega)
  have s0 := room14_at (r := ⟨e, s, num, used, count⟩) (Whole.drewN HW.out 1)
  have sN := room14_at (r := ⟨e, s, num, used, count⟩) HW.out
  have g1 : decide ((used : Int) + (zn : Int) + (m : Int) ≤ (p : Int)) = decide (used + zn + m ≤ p) := by rw [decide_eq_decide]; omega
  go_region_held3 (fun w' => w'.cell? ⟨w.heap.size, 0, none⟩ = some (.int .u8 (e : Int)) ∧ w'.cell? ⟨w.heap.size, 1, none⟩ = some (.int .u32 (s : Int)) ∧ w'.cell? ⟨w.heap.size, 2, none⟩ = some (.int .u64 (num : Int)) ∧ w'.cell? ⟨w.heap.size, 3, none⟩ = some (.int .i64 (used : Int)) ∧ w'.cell? ⟨w.heap.size, 4, none⟩ = some (.int .i64 (count : Int)))
    (first | exact s5 | exact s0 | exact sN)
    (first | (go_at_call 26; refine (HMo.out _).mono ?_; rintro e9 w5 ⟨rfl, hk⟩; have hk' : Keeps NoBlock w1 w5 := (by first | exact hk | exact hk.ofDrew | exact hk.ofDrewN); have HK := Lib.hid (HK.out.trans hk'); have HW := Lib.hid (HW.out.keep hk' (fun h => h)); have s5 := room14_at (r := ⟨e, s, num, used, count⟩) HW.out; clear hk hk'; obtain ⟨w1, rfl⟩ : ∃ x, x = w5 := ⟨_, rfl⟩) | (go_at_call 25; refine (HSz.out _).mono ?_; rintro e9 w5 ⟨rfl, hk⟩; have hk' : Keeps NoBlock w1 w5 := (by first | exact hk | exact hk.ofDrew | exact hk.ofDrewN); have HK := Lib.hid (HK.out.trans hk'); have HW := Lib.hid (HW.out.keep hk' (fun h => h)); have s5 := room14_at (r := ⟨e, s, num, used, count⟩) HW.out; clear hk hk'; obtain ⟨w1, rfl⟩ : ∃ x, x = w5 := ⟨_, rfl⟩))
  go_wp2_with fail
  go_ret
  exact ⟨by rw [g1]; rfl, HK.out⟩

theorem Whole.far5 {w : World} {g k : Nat} {t : TypeId} {cs : Array Value} (h : Whole w g t cs) (hk : g ≠ k) (a b c d e : Value) :
    Whole (((((w.setCell ⟨k, 0, none⟩ a).setCell ⟨k, 1, none⟩ b).setCell ⟨k, 2, none⟩ c).setCell ⟨k, 3, none⟩ d).setCell ⟨k, 4, none⟩ e) g t cs :=
  ((((h.setOther (p := ⟨k, 0, none⟩) hk a).setOther (p := ⟨k, 1, none⟩) hk b).setOther (p := ⟨k, 2, none⟩) hk c).setOther (p := ⟨k, 3, none⟩) hk d).setOther (p := ⟨k, 4, none⟩) hk e
theorem Whole.set5 {w : World} {k : Nat} {t : TypeId} {x0 x1 x2 x3 x4 : Value} (h : Whole w k t #[x0, x1, x2, x3, x4]) (a b c d e : Value) :
    Whole (((((w.setCell ⟨k, 0, none⟩ a).setCell ⟨k, 1, none⟩ b).setCell ⟨k, 2, none⟩ c).setCell ⟨k, 3, none⟩ d).setCell ⟨k, 4, none⟩ e) k t #[a, b, c, d, e] :=
  ((((h.set 0 a).set 1 b).set 2 c).set 3 d).set 4 e
theorem Keeps.new5 {S : Nat → Prop} {w0 w : World} (h : Keeps S w0 w) {k : Nat} (hk : w0.heap.size ≤ k) (a b c d e : Value) :
    Keeps S w0 (((((w.setCell ⟨k, 0, none⟩ a).setCell ⟨k, 1, none⟩ b).setCell ⟨k, 2, none⟩ c).setCell ⟨k, 3, none⟩ d).setCell ⟨k, 4, none⟩ e) :=
  ((((h.setNew hk 0 a).setNew hk 1 b).setNew hk 2 c).setNew hk 3 d).setNew hk 4 e

set_option maxHeartbeats 4000000 in
set_option maxRecDepth 10000 in
theorem empty14_ref (e s n : Nat) (he : e < 256) (hs : s < 4294967296) (hn : n < 18446744073709551616) (w : World) :
    Calls Try.prog 10 #[confV e s, .int .u64 (n : Int)] w fun r w' => r = .returned (room14V (emptyP e s n)) ∧ Keeps NoBlock w w' := by
  have HHd := Lib.hid (fun w => head9_ref e s n he hs hn w)
  have z1 := str_size (sealN (headB e s n))
  have hb := (headLen_le (e := e) (s := s) (n := n) (by omega) hn).2
  have HE := Lib.hid (show room14V (emptyP e s n) = .agg #[.int .u8 (e : Int), .int .u32 (s : Int), .int .u64 (n : Int), .int .i64 ((headLen e s n : Nat) : Int), .int .i64 0] from rfl)
  have hl : headLen e s n = (sealN (headB e s n)).length := rfl
  rw [← hl] at z1
  obtain ⟨L, hL⟩ : ∃ L, L = headLen e s n := ⟨_, rfl⟩
  rw [← hL] at z1 hb HE
  obtain ⟨T, hT⟩ : ∃ T, T = sealN (headB e s n) := ⟨_, rfl⟩
  rw [← hT] at z1 HHd
  have HC := Lib.hid ((Whole.new w 24 (confCells e s)).alloc (.cells (room14Cells Rm.none) 35))
  have HZ := Lib.hid (Whole.newAt (w.alloc (.cells (confCells e s) 24)) 35 (room14Cells Rm.none) (w.heap.size + 1) (by simp))
  have HK := Lib.hid (((Keeps.refl NoBlock w).alloc (.cells (confCells e s) 24)).alloc (.cells (room14Cells Rm.none) 35))
  clear hL hT hl he hs hn
  unfold confV at HHd ⊢
  go_enter Try.func10, Try.ntmps10
  go_wp2_with fail
  obtain ⟨W, hW⟩ : ∃ W, W = (w.alloc (.cells #[.int .u8 (e : Int), .int .u32 (s : Int)] 24)).alloc (.cells #[.int .u8 0, .int .u32 0, .int .u64 0, .int .i64 0, .int .i64 0] 35) := ⟨_, rfl⟩
  have HC : Hid (Whole W w.heap.size 24 (confCells e s)) := by rw [hW]; exact HC
  have HZ : Hid (Whole W (w.heap.size + 1) 35 (room14Cells Rm.none)) := by rw [hW]; exact HZ
  have HK : Hid (Keeps NoBlock w W) := by rw [hW]; exact HK
  rw [← hW]
  clear hW
  have s0 := And.intro ((Whole.drewN HC.out 1).cell 0 rfl) ((Whole.drewN HC.out 1).cell 1 rfl)
  have sN := And.intro (HC.out.cell 0 rfl) (HC.out.cell 1 rfl)
  simp only [confCells, List.getElem_toArray, List.getElem_cons_zero, List.getElem_cons_succ] at s0 sN
  -- REGION
  refine wp_region_held_drew (S := fun w' => w'.cell? ⟨w.heap.size, 0, none⟩ = some (.int .u8 (e : Int)) ∧ w'.cell? ⟨w.heap.size, 1, none⟩ = some (.int .u32 (s : Int))) (by kernel_rfl) s0 (fun hHeld => ?_)
  refine wpAnyH_take (i := 0) (v := ?vT1) rfl ?aT1 ?bT1 ?cT1 ?dT1 (Or.inl ⟨?eT1, ?fT1⟩) hHeld ?gT1
  case fT1 => intro w hSw; (try dsimp only at hSw); go_simp; (try with_reducible rfl)
  case aT1 => kernel_rfl
  case bT1 => kernel_rfl
  case cT1 => kernel_rfl
  case dT1 => exact fun _ _ _ h => h
  case eT1 => rfl
  simp only [Act.put, List.getElem_toArray, List.getElem_cons_zero, List.setIfInBounds_toArray, List.set_cons_zero, List.set_cons_succ]
  refine wpAnyH_take (i := 1) (v := ?vT2) rfl ?aT2 ?bT2 ?cT2 ?dT2 (Or.inl ⟨?eT2, ?fT2⟩) hHeld ?gT2
  case fT2 => intro w hSw; (try dsimp only at hSw); go_simp; (try with_reducible rfl)
  case aT2 => kernel_rfl
  case bT2 => kernel_rfl
  case cT2 => kernel_rfl
  case dT2 => exact fun _ _ _ h => h
  case eT2 => rfl
  simp only [Act.put, List.getElem_toArray, List.getElem_cons_zero, List.getElem_cons_succ, List.setIfInBounds_toArray, List.set_cons_zero, List.set_cons_succ]
  refine wpAnyH_take (i := 2) (v := ?vT3) rfl ?aT3 ?bT3 ?cT3 ?dT3 (Or.inl ⟨?eT3, ?fT3⟩) hHeld ?gT3
  case fT3 => intro w hSw; (try dsimp only at hSw); go_simp; (try with_reducible rfl)
  case aT3 => kernel_rfl
  case bT3 => kernel_rfl
  case cT3 => kernel_rfl
  case dT3 => exact fun _ _ _ h => h
  case eT3 => rfl
  simp only [Act.put, List.getElem_toArray, List.getElem_cons_zero, List.getElem_cons_succ, List.setIfInBounds_toArray, List.set_cons_zero, List.set_cons_succ]
  refine wpAnyH_take (i := 3) (v := ?vT4) rfl ?aT4 ?bT4 ?cT4 ?dT4 (Or.inl ⟨?eT4, ?fT4⟩) hHeld ?gT4
  case fT4 => intro w hSw; (try dsimp only at hSw); go_simp; (try with_reducible rfl)
  case aT4 => kernel_rfl
  case bT4 => kernel_rfl
  case cT4 => kernel_rfl
  case dT4 => exact fun _ _ _ h => h
  case eT4 => rfl
  simp only [Act.put, List.getElem_toArray, List.getElem_cons_zero, List.getElem_cons_succ, List.setIfInBounds_toArray, List.set_cons_zero, List.set_cons_succ]
  refine wpAnyH_ready (rs := [4]) (by kernel_rfl) (by simp) ?_
  refine (AllReadyH.cons (o := _) rfl (fun K hK => ?_) AllReadyH.nil)
  go_simp
  refine (HHd.out _).mono ?_
  rintro e9 w5 ⟨rfl, hk⟩
  have hk' : Keeps NoBlock W w5 := by first | exact hk | exact hk.ofDrew | exact hk.ofDrewN
  have HK := Lib.hid (HK.out.trans hk')
  have HC := Lib.hid (HC.out.keep hk' (fun h => h))
  have HZ := Lib.hid (HZ.out.keep hk' (fun h => h))
  have hS : (fun w' => w'.cell? ⟨w.heap.size, 0, none⟩ = some (.int .u8 (e : Int)) ∧ w'.cell? ⟨w.heap.size, 1, none⟩ = some (.int .u32 (s : Int))) w5 := And.intro (HC.out.cell 0 rfl) (HC.out.cell 1 rfl)
  clear hk hk'
  go_wp2_with fail
  refine hK.out _ _ hS (fun _ => ?_)
  clear hK K
  refine wpAnyH_take (i := 5) (v := ?vT5) rfl ?aT5 ?bT5 ?cT5 ?dT5 (Or.inl ⟨?eT5, ?fT5⟩) hS ?gT5
  case fT5 => intro w hSw; (try dsimp only at hSw); go_simp; (try with_reducible rfl)
  case aT5 => kernel_rfl
  case bT5 => kernel_rfl
  case cT5 => kernel_rfl
  case dT5 => exact fun _ _ _ h => h
  case eT5 => rfl
  simp only [Act.put, List.getElem_toArray, List.getElem_cons_zero, List.getElem_cons_succ, List.setIfInBounds_toArray, List.set_cons_zero, List.set_cons_succ]
  refine wpAnyH_take (i := 6) (v := ?vT6) rfl ?aT6 ?bT6 ?cT6 ?dT6 (Or.inl ⟨?eT6, ?fT6⟩) hS ?gT6
  case fT6 => intro w hSw; (try dsimp only at hSw); go_simp; (try with_reducible rfl)
  case aT6 => kernel_rfl
  case bT6 => kernel_rfl
  case cT6 => kernel_rfl
  case dT6 => exact fun _ _ _ h => h
  case eT6 => rfl
  simp only [Act.put, List.getElem_toArray, List.getElem_cons_zero, List.getElem_cons_succ, List.setIfInBounds_toArray, List.set_cons_zero, List.set_cons_succ]
  refine wpAnyH_ready (rs := [7]) (by kernel_rfl) (by simp) ?_
  refine (AllReadyH.cons (o := _) rfl (fun K hK => ?_) AllReadyH.nil)
  obtain ⟨z0, zz1, zz2, zz3, zz4⟩ := room14_at HZ.out
  obtain ⟨q0, q1, q2, q3, q4⟩ := room_free HZ.out
  go_simp
  refine hK.out _ _ (And.intro ((HC.out.far5 (by omega) _ _ _ _ _).cell 0 rfl) ((HC.out.far5 (by omega) _ _ _ _ _).cell 1 rfl)) (fun _ => ?_)
  clear hK K
  refine wpAnyH_done (by kernel_rfl) ?_ _
  -- BEHIND
  have hf := Whole.set5 (show Whole _ (w.heap.size + 1) 35 #[.int .u8 0, .int .u32 0, .int .u64 0, .int .i64 0, .int .i64 0] from HZ.out) (.int .u8 (e : Int)) (.int .u32 (s : Int)) (.int .u64 (n : Int)) (.int .i64 (L : Int)) (.int .i64 0)
  have k0 := hf.cell 0 rfl
  have k1 := hf.cell 1 rfl
  have k2 := hf.cell 2 rfl
  have k3 := hf.cell 3 rfl
  have k4 := hf.cell 4 rfl
  simp only [List.getElem_toArray, List.getElem_cons_zero, List.getElem_cons_succ] at k0 k1 k2 k3 k4
  go_wp2_with fail
  exact bodyPost_ret (v := room14V (emptyP e s n)) (by rw [HE.out]; simp [results, Try.results10, go_sem, k0, k1, k2, k3, k4]) rfl ⟨rfl, HK.out.new5 (Nat.le_succ _) _ _ _ _ _⟩

set_option maxHeartbeats 4000000 in
set_option maxRecDepth 10000 in
theorem take14_ref (r : Rm) (z : Int) (hr : r.Real) (h1 : 1 ≤ z) (h2 : z ≤ 16777216) (w : World) :
    Calls Try.prog 15 #[room14V r, .int .i64 z] w fun e w' => e = .returned (room14V (takeP r z)) ∧ Keeps NoBlock w w' := by
  obtain ⟨he, hu, hs, hn⟩ := hr.small
  have hc := hr.few
  obtain ⟨e, s, num, used, count⟩ := r
  simp only at hu hs hn hc he
  obtain ⟨zn, rfl⟩ : ∃ zn : Nat, z = (zn : Int) := ⟨z.toNat, by omega⟩
  have HE := Lib.hid (show room14V (takeP ⟨e, s, num, used, count⟩ (zn : Int)) = .agg #[.int .u8 (e : Int), .int .u32 (s : Int), .int .u64 (num : Int), .int .i64 ((used : Int) + (zn : Int)), .int .i64 ((count : Int) + 1)] from by unfold room14V takeP; simp only [Int.toNat_natCast]; rfl)
  have w3 : IntKind.i64.wrap ((used : Int) + (zn : Int)) = (used : Int) + (zn : Int) := IntWalk.i64_in _ (by omega)
  have w6 : IntKind.i64.wrap ((count : Int) + 1) = (count : Int) + 1 := IntWalk.i64_in _ (by omega)
  rw [HE.out]
  clear hr h1 h2 HE
  unfold room14V
  simp only
  go_enter Try.func15, Try.ntmps15
  go_wp2_with fail
  have hf := Whole.newAt (w.alloc (.cells #[.int .u8 (e : Int), .int .u32 (s : Int), .int .u64 (num : Int), .int .i64 ((used : Int) + (zn : Int)), .int .i64 ((count : Int) + 1)] 35)) 35 #[.int .u8 (e : Int), .int .u32 (s : Int), .int .u64 (num : Int), .int .i64 ((used : Int) + (zn : Int)), .int .i64 ((count : Int) + 1)] (w.heap.size + 1) (by simp)
  have k0 := hf.cell 0 rfl
  have k1 := hf.cell 1 rfl
  have k2 := hf.cell 2 rfl
  have k3 := hf.cell 3 rfl
  have k4 := hf.cell 4 rfl
  simp only [List.getElem_toArray, List.getElem_cons_zero, List.getElem_cons_succ] at k0 k1 k2 k3 k4
  exact bodyPost_ret (v := .agg #[.int .u8 (e : Int), .int .u32 (s : Int), .int .u64 (num : Int), .int .i64 ((used : Int) + (zn : Int)), .int .i64 ((count : Int) + 1)]) (by simp [results, Try.results15, go_sem, k0, k1, k2, k3, k4]) rfl ⟨rfl, ((Keeps.refl _ _).alloc _).alloc _⟩
end Go.Proofs.Ytibojgoeaoinpaa

/-
  The document's Get of a pair.
-/
import Derived.Test.YtdkpkpmgiglnhaaElRef
import Derived.Deep.Cut
import Derived.Deep.RegionWith
import Derived.Deep.RegionHeld3
import Derived.BigQuiet
import Derived.IntWalk
namespace Go.Proofs.Ytdkpkpmgiglnhaa
open Go.RowKit

theorem str_cut (xs : List Int) (a b : Nat) : (strOfNums xs).extract a b = strOfNums ((xs.drop a).take (b - a)) := by
  apply ByteArray.ext
  simp [strOfNums, List.map_drop, List.map_take]
def pgOut (g : PG) : Value := .tuple #[prV g.p, .int .i64 (g.n : Int), .int .i64 g.e]

set_option maxHeartbeats 8000000 in
set_option maxRecDepth 10000 in
theorem getpair_ref (xs : List Int) (ho : Octets xs) (hl : xs.length ≤ 10000000) (w : World) :
    Calls Try.prog 17 #[.string (strOfNums xs)] w fun e w' => e = .returned (pgOut (getP xs)) ∧ Keeps NoBlock w w' := by
  have hsz := str_size xs
  have HZ := Lib.hid (Whole.new w 36 (prCells Pr.none))
  have HK := Lib.hid ((Keeps.refl NoBlock w).alloc (.cells (prCells Pr.none) 36))
  have hdef : getP xs = if xs.length < 8 then ⟨2, 0, Pr.none⟩ else getPk (le (xs.take 4)).toNat (le ((xs.drop 4).take 4)).toNat xs := rfl
  have HV1 := Lib.hid (fun w => value_ref (xs.take 4) (ho.take 4) (by rw [List.length_take]; omega) w)
  have HV2 := Lib.hid (fun w => value_ref ((xs.drop 4).take 4) ((ho.drop 4).take 4) (by rw [List.length_take]; omega) w)
  have hb1 := le_bound (xs.take 4) (ho.take 4)
  have hb2 := le_bound ((xs.drop 4).take 4) ((ho.drop 4).take 4)
  have e1 : (strOfNums xs).extract 0 4 = strOfNums (xs.take 4) := str_take xs 4
  have e2 : (strOfNums xs).extract 4 8 = strOfNums ((xs.drop 4).take 4) := str_cut xs 4 8
  obtain ⟨L, hL⟩ : ∃ L, L = xs.length := ⟨_, rfl⟩
  rw [← hL] at hsz hl hdef
  by_cases h8 : L < 8
  · rw [if_pos h8] at hdef
    have HD := Lib.hid hdef
    have hd : decide ((L : Int) < 8) = true := decide_eq_true (by omega)
    clear hdef hL h8 hb1 hb2 e1 e2 ho
    go_enter Try.func17, Try.ntmps17
    go_wp2_with fail
    rw [HD.out]
    exact bodyPost_ret (v := pgOut ⟨2, 0, Pr.none⟩) (by simp [results, Try.results17, go_sem, pgOut, prV, Pr.none]; try rfl) rfl ⟨rfl, by first | exact (HK.out.setNew (g := w.heap.size) (Nat.le_refl _) 0 _).setNew (g := w.heap.size) (Nat.le_refl _) 1 _ | exact (Keeps.refl _ _).alloc _ | exact HK.out⟩
  · rw [if_neg h8] at hdef
    have hd : decide ((L : Int) < 8) = false := decide_eq_false (by omega)
    have hL8 : 8 ≤ L := by omega
    have hL4 : 4 ≤ L := by omega
    rw [show (xs.take 4).length = 4 by rw [List.length_take]; omega] at hb1
    rw [show ((xs.drop 4).take 4).length = 4 by rw [List.length_take, List.length_drop]; omega] at hb2
    obtain ⟨k, hk⟩ := Int.eq_ofNat_of_zero_le hb1.1
    obtain ⟨v, hv⟩ := Int.eq_ofNat_of_zero_le hb2.1
    have hk32 : k < 4294967296 := by have := hb1.2; rw [hk] at this; have e : (2 : Int) ^ (8 * 4) = 4294967296 := rfl; omega
    have hv32 : v < 4294967296 := by have := hb2.2; rw [hv] at this; have e : (2 : Int) ^ (8 * 4) = 4294967296 := rfl; omega
    rw [hk] at HV1 hdef
    rw [hv] at HV2 hdef
    rw [Int.toNat_natCast, Int.toNat_natCast] at hdef
    clear hb1 hb2 hk hv
    have hgk : getPk k v xs = if k = 0 then ⟨4, 0, Pr.none⟩ else if 4096 < k ∨ 1048576 < v then ⟨3, 0, Pr.none⟩ else if xs.length < 8 + k + v + 4 then ⟨2, 0, Pr.none⟩ else if textP (pairAt k v xs) ≠ xs.take (8 + k + v + 4) then ⟨5, 0, Pr.none⟩ else ⟨0, 8 + k + v + 4, pairAt k v xs⟩ := rfl
    rw [hgk, ← hL] at hdef
    clear hgk h8
    by_cases c1 : k = 0
    · rw [if_pos c1] at hdef
      have HD := Lib.hid hdef
      subst c1
      clear hdef hL ho hk32 hv32
      go_enter Try.func17, Try.ntmps17
      go_wp2_with fail
      refine (HV1.out _).mono ?_
      rintro e w1 ⟨rfl, rfl⟩
      go_wp2_with fail
      refine (HV2.out _).mono ?_
      rintro e w1 ⟨rfl, rfl⟩
      go_wp2_with fail
      rw [HD.out]
      exact bodyPost_ret (v := pgOut ⟨4, 0, Pr.none⟩) (by simp [results, Try.results17, go_sem, pgOut, prV, Pr.none]; try rfl) rfl ⟨rfl, by first | exact (HK.out.setNew (g := w.heap.size) (Nat.le_refl _) 0 _).setNew (g := w.heap.size) (Nat.le_refl _) 1 _ | exact (Keeps.refl _ _).alloc _ | exact HK.out⟩
    · rw [if_neg c1] at hdef
      have hz : ((k : Int) == 0) = false := beq_eq_false_iff_ne.2 (by omega)
      by_cases c2 : 4096 < k ∨ 1048576 < v
      · rw [if_pos c2] at hdef
        have HD := Lib.hid hdef
        by_cases c3 : 4096 < k
        · have d1 : decide ((4096 : Int) < (k : Int)) = true := decide_eq_true (by omega)
          clear hdef hL ho c1 c2 c3 hk32 hv32
          go_enter Try.func17, Try.ntmps17
          go_wp2_with fail
          refine (HV1.out _).mono ?_
          rintro e w1 ⟨rfl, rfl⟩
          go_wp2_with fail
          refine (HV2.out _).mono ?_
          rintro e w1 ⟨rfl, rfl⟩
          go_wp2_with fail
          rw [HD.out]
          exact bodyPost_ret (v := pgOut ⟨3, 0, Pr.none⟩) (by simp [results, Try.results17, go_sem, pgOut, prV, Pr.none]; try rfl) rfl ⟨rfl, by first | exact (HK.out.setNew (g := w.heap.size) (Nat.le_refl _) 0 _).setNew (g := w.heap.size) (Nat.le_refl _) 1 _ | exact (Keeps.refl _ _).alloc _ | exact HK.out⟩
        · have d1 : decide ((4096 : Int) < (k : Int)) = false := decide_eq_false (by omega)
          have d2 : decide ((1048576 : Int) < (v : Int)) = true := decide_eq_true (by omega)
          clear hdef hL ho c1 c2 c3 hk32 hv32
          go_enter Try.func17, Try.ntmps17
          go_wp2_with fail
          refine (HV1.out _).mono ?_
          rintro e w1 ⟨rfl, rfl⟩
          go_wp2_with fail
          refine (HV2.out _).mono ?_
          rintro e w1 ⟨rfl, rfl⟩
          go_wp2_with fail
          rw [HD.out]
          exact bodyPost_ret (v := pgOut ⟨3, 0, Pr.none⟩) (by simp [results, Try.results17, go_sem, pgOut, prV, Pr.none]; try rfl) rfl ⟨rfl, by first | exact (HK.out.setNew (g := w.heap.size) (Nat.le_refl _) 0 _).setNew (g := w.heap.size) (Nat.le_refl _) 1 _ | exact (Keeps.refl _ _).alloc _ | exact HK.out⟩
      · rw [if_neg c2] at hdef
        have d1 : decide ((4096 : Int) < (k : Int)) = false := decide_eq_false (by omega)
        have d2 : decide ((1048576 : Int) < (v : Int)) = false := decide_eq_false (by omega)
        have hk4 : k ≤ 4096 := by omega
        have hv4 : v ≤ 1048576 := by omega
        by_cases c4 : L < 8 + k + v + 4
        · rw [if_pos c4] at hdef
          have HD := Lib.hid hdef
          have d3 : decide ((L : Int) < 8 + (k : Int) + (v : Int) + 4) = true := decide_eq_true (by omega)
          clear hdef hL ho c1 c2 c4 hk32 hv32
          go_enter Try.func17, Try.ntmps17
          go_wp2_with fail
          refine (HV1.out _).mono ?_
          rintro e w1 ⟨rfl, rfl⟩
          go_wp2_with fail
          refine (HV2.out _).mono ?_
          rintro e w1 ⟨rfl, rfl⟩
          go_wp2_with fail
          rw [HD.out]
          exact bodyPost_ret (v := pgOut ⟨2, 0, Pr.none⟩) (by simp [results, Try.results17, go_sem, pgOut, prV, Pr.none]; try rfl) rfl ⟨rfl, by first | exact (HK.out.setNew (g := w.heap.size) (Nat.le_refl _) 0 _).setNew (g := w.heap.size) (Nat.le_refl _) 1 _ | exact (Keeps.refl _ _).alloc _ | exact HK.out⟩
        · rw [if_neg c4] at hdef
          have d3 : decide ((L : Int) < 8 + (k : Int) + (v : Int) + 4) = false := decide_eq_false (by omega)
          have e3 : (strOfNums xs).extract 8 (8 + k) = strOfNums (pairAt k v xs).key := by rw [str_cut, show 8 + k - 8 = k by omega]; rfl
          have e4 : (strOfNums xs).extract (8 + k) (8 + k + v) = strOfNums (pairAt k v xs).val := by rw [str_cut, show 8 + k + v - (8 + k) = v by omega]; rfl
          have e5 : (strOfNums xs).extract 0 (8 + k + v + 4) = strOfNums (xs.take (8 + k + v + 4)) := str_take xs _
          have hpf : (pairAt k v xs).Fine := ⟨(ho.drop _).take _, (ho.drop _).take _⟩
          have HTx := Lib.hid (fun w => text10_ref (pairAt k v xs) hpf (by show ((xs.drop 8).take k).length ≤ _; rw [List.length_take]; omega) (by show ((xs.drop (8 + k)).take v).length ≤ _; rw [List.length_take]; omega) w)
          have hto := textP_octets hpf
          have hxo : Octets (xs.take (8 + k + v + 4)) := ho.take _
          have hne : ((strOfNums (textP (pairAt k v xs))).toList == (strOfNums (xs.take (8 + k + v + 4))).toList) = decide (textP (pairAt k v xs) = xs.take (8 + k + v + 4)) := by
            rw [text_beq, decide_eq_decide]
            exact ⟨strOf_inj hto hxo, fun h => by rw [h]⟩
          have HD := Lib.hid hdef
          obtain ⟨p, hp⟩ : ∃ p, p = pairAt k v xs := ⟨_, rfl⟩
          rw [← hp] at e3 e4 HTx hne HD
          obtain ⟨T, hT⟩ : ∃ T, T = textP p := ⟨_, rfl⟩
          rw [← hT] at HTx hne HD
          obtain ⟨U, hU⟩ : ∃ U, U = xs.take (8 + k + v + 4) := ⟨_, rfl⟩
          rw [← hU] at e5 hne HD
          clear hdef hL ho c1 c2 hk32 hv32 hpf hto hxo hp hT hU
          have hkL : 8 + k + v + 4 ≤ L := by omega
          clear c4
          unfold prV at HTx
          go_enter Try.func17, Try.ntmps17
          go_wp2_with fail
          refine (HV1.out _).mono ?_
          rintro e w1 ⟨rfl, rfl⟩
          go_wp2_with fail
          refine (HV2.out _).mono ?_
          rintro e w1 ⟨rfl, rfl⟩
          go_wp2_with fail
          have q1 : IntKind.i64.wrap (k : Int) = (k : Int) := IntWalk.i64_in _ (by omega)
          have q2 : IntKind.i64.wrap (8 + (k : Int)) = 8 + (k : Int) := IntWalk.i64_in _ (by omega)
          have q3 : (8 + (k : Int)).toNat = 8 + k := by omega
          have q4 : (8 + (k : Int) + (v : Int)).toNat = 8 + k + v := by omega
          have q5 : (0 : Int) ≤ 8 + (k : Int) := by omega
          have q6 : 8 + (k : Int) ≤ (L : Int) := by omega
          have q7 : 8 + (k : Int) ≤ 8 + (k : Int) + (v : Int) := by omega
          have q8 : 8 + (k : Int) + (v : Int) ≤ (L : Int) := by omega
          have q9 : (8 : Int) ≤ 8 + (k : Int) := by omega
          refine wp_region_held_drew (S := fun _ => True) (by kernel_rfl) trivial (fun hHeld => ?_)
          refine wpAnyH_take (i := 0) (v := ?vT1) rfl ?aT1 ?bT1 ?cT1 ?dT1 (Or.inl ⟨?eT1, ?fT1⟩) hHeld ?gT1
          case fT1 => intro w hSw; (try dsimp only at hSw); go_simp; (try with_reducible rfl)
          case aT1 => kernel_rfl
          case bT1 => kernel_rfl
          case cT1 => kernel_rfl
          case dT1 => exact fun _ _ _ h => h
          case eT1 => rfl
          simp only [Act.put, List.getElem_toArray, List.getElem_cons_zero, List.setIfInBounds_toArray, List.set_cons_zero, List.set_cons_succ]
          refine wpAnyH_take (i := 1) (v := ?vT2) rfl ?aT2 ?bT2 ?cT2 ?dT2 (Or.inl ⟨?eT2, ?fT2⟩) hHeld ?gT2
          case fT2 => intro w hSw; (try dsimp only at hSw); go_simp; (try with_reducible rfl)
          case aT2 => kernel_rfl
          case bT2 => kernel_rfl
          case cT2 => kernel_rfl
          case dT2 => exact fun _ _ _ h => h
          case eT2 => rfl
          simp only [Act.put, List.getElem_toArray, List.getElem_cons_zero, List.getElem_cons_succ, List.setIfInBounds_toArray, List.set_cons_zero, List.set_cons_succ]
          refine wpAnyH_take (i := 2) (v := ?vT3) rfl ?aT3 ?bT3 ?cT3 ?dT3 (Or.inl ⟨?eT3, ?fT3⟩) hHeld ?gT3
          case fT3 => intro w hSw; (try dsimp only at hSw); go_simp; (try with_reducible rfl)
          case aT3 => kernel_rfl
          case bT3 => kernel_rfl
          case cT3 => kernel_rfl
          case dT3 => exact fun _ _ _ h => h
          case eT3 => rfl
          simp only [Act.put, List.getElem_toArray, List.getElem_cons_zero, List.getElem_cons_succ, List.setIfInBounds_toArray, List.set_cons_zero, List.set_cons_succ]
          refine wpAnyH_take (i := 3) (v := ?vT4) rfl ?aT4 ?bT4 ?cT4 ?dT4 (Or.inl ⟨?eT4, ?fT4⟩) hHeld ?gT4
          case fT4 => intro w hSw; (try dsimp only at hSw); go_simp; (try with_reducible rfl)
          case aT4 => kernel_rfl
          case bT4 => kernel_rfl
          case cT4 => kernel_rfl
          case dT4 => exact fun _ _ _ h => h
          case eT4 => rfl
          simp only [Act.put, List.getElem_toArray, List.getElem_cons_zero, List.getElem_cons_succ, List.setIfInBounds_toArray, List.set_cons_zero, List.set_cons_succ]
          refine wpAnyH_take (i := 4) (v := ?vT5) rfl ?aT5 ?bT5 ?cT5 ?dT5 (Or.inl ⟨?eT5, ?fT5⟩) hHeld ?gT5
          case fT5 => intro w hSw; (try dsimp only at hSw); go_simp; (try with_reducible rfl)
          case aT5 => kernel_rfl
          case bT5 => kernel_rfl
          case cT5 => kernel_rfl
          case dT5 => exact fun _ _ _ h => h
          case eT5 => rfl
          simp only [Act.put, List.getElem_toArray, List.getElem_cons_zero, List.getElem_cons_succ, List.setIfInBounds_toArray, List.set_cons_zero, List.set_cons_succ]
          refine wpAnyH_take (i := 5) (v := ?vT6) rfl ?aT6 ?bT6 ?cT6 ?dT6 (Or.inl ⟨?eT6, ?fT6⟩) hHeld ?gT6
          case fT6 => intro w hSw; (try dsimp only at hSw); go_simp; (try with_reducible rfl)
          case aT6 => kernel_rfl
          case bT6 => kernel_rfl
          case cT6 => kernel_rfl
          case dT6 => exact fun _ _ _ h => h
          case eT6 => rfl
          simp only [Act.put, List.getElem_toArray, List.getElem_cons_zero, List.getElem_cons_succ, List.setIfInBounds_toArray, List.set_cons_zero, List.set_cons_succ]
          refine wpAnyH_take (i := 6) (v := ?vT7) rfl ?aT7 ?bT7 ?cT7 ?dT7 (Or.inl ⟨?eT7, ?fT7⟩) hHeld ?gT7
          case fT7 => intro w hSw; (try dsimp only at hSw); go_simp; (try with_reducible rfl)
          case aT7 => kernel_rfl
          case bT7 => kernel_rfl
          case cT7 => kernel_rfl
          case dT7 => exact fun _ _ _ h => h
          case eT7 => rfl
          simp only [Act.put, List.getElem_toArray, List.getElem_cons_zero, List.getElem_cons_succ, List.setIfInBounds_toArray, List.set_cons_zero, List.set_cons_succ]
          refine wpAnyH_take (i := 7) (v := ?vT8) rfl ?aT8 ?bT8 ?cT8 ?dT8 (Or.inl ⟨?eT8, ?fT8⟩) hHeld ?gT8
          case fT8 => intro w hSw; (try dsimp only at hSw); go_simp; (try with_reducible rfl)
          case aT8 => kernel_rfl
          case bT8 => kernel_rfl
          case cT8 => kernel_rfl
          case dT8 => exact fun _ _ _ h => h
          case eT8 => rfl
          simp only [Act.put, List.getElem_toArray, List.getElem_cons_zero, List.getElem_cons_succ, List.setIfInBounds_toArray, List.set_cons_zero, List.set_cons_succ]
          refine wpAnyH_take (i := 8) (v := ?vT9) rfl ?aT9 ?bT9 ?cT9 ?dT9 (Or.inl ⟨?eT9, ?fT9⟩) hHeld ?gT9
          case fT9 => intro w hSw; (try dsimp only at hSw); go_simp; (try with_reducible rfl)
          case aT9 => kernel_rfl
          case bT9 => kernel_rfl
          case cT9 => kernel_rfl
          case dT9 => exact fun _ _ _ h => h
          case eT9 => rfl
          simp only [Act.put, List.getElem_toArray, List.getElem_cons_zero, List.getElem_cons_succ, List.setIfInBounds_toArray, List.set_cons_zero, List.set_cons_succ]
          refine wpAnyH_take (i := 9) (v := ?vT10) rfl ?aT10 ?bT10 ?cT10 ?dT10 (Or.inl ⟨?eT10, ?fT10⟩) hHeld ?gT10
          case fT10 => intro w hSw; (try dsimp only at hSw); go_simp; (try with_reducible rfl)
          case aT10 => kernel_rfl
          case bT10 => kernel_rfl
          case cT10 => kernel_rfl
          case dT10 => exact fun _ _ _ h => h
          case eT10 => rfl
          simp only [Act.put, List.getElem_toArray, List.getElem_cons_zero, List.getElem_cons_succ, List.setIfInBounds_toArray, List.set_cons_zero, List.set_cons_succ]
          refine wpAnyH_take (i := 10) (v := ?vT11) rfl ?aT11 ?bT11 ?cT11 ?dT11 (Or.inl ⟨?eT11, ?fT11⟩) hHeld ?gT11
          case fT11 => intro w hSw; (try dsimp only at hSw); go_simp; (try with_reducible rfl)
          case aT11 => kernel_rfl
          case bT11 => kernel_rfl
          case cT11 => kernel_rfl
          case dT11 => exact fun _ _ _ h => h
          case eT11 => rfl
          simp only [Act.put, List.getElem_toArray, List.getElem_cons_zero, List.getElem_cons_succ, List.setIfInBounds_toArray, List.set_cons_zero, List.set_cons_succ]
          refine wpAnyH_take (i := 11) (v := ?vT12) rfl ?aT12 ?bT12 ?cT12 ?dT12 (Or.inl ⟨?eT12, ?fT12⟩) hHeld ?gT12
          case fT12 => intro w hSw; (try dsimp only at hSw); go_simp; (try with_reducible rfl)
          case aT12 => kernel_rfl
          case bT12 => kernel_rfl
          case cT12 => kernel_rfl
          case dT12 => exact fun _ _ _ h => h
          case eT12 => rfl
          simp only [Act.put, List.getElem_toArray, List.getElem_cons_zero, List.getElem_cons_succ, List.setIfInBounds_toArray, List.set_cons_zero, List.set_cons_succ]
          refine wpAnyH_ready (rs := [12]) (by kernel_rfl) (by simp) ?_
          refine (AllReadyH.cons (o := _) rfl (fun K hK => ?_) AllReadyH.nil)
          go_simp
          refine hK.out _ _ trivial (fun _ => ?_)
          clear hK K
          refine wpAnyH_ready (rs := [13]) (by kernel_rfl) (by simp) ?_
          refine (AllReadyH.cons (o := _) rfl (fun K hK => ?_) AllReadyH.nil)
          go_simp
          refine hK.out _ _ trivial (fun _ => ?_)
          clear hK K
          refine wpAnyH_done (by kernel_rfl) ?_ _
          go_wp2_with fail
          obtain ⟨W, hW⟩ : ∃ W, W = ((w.alloc (.cells #[.string ⟨#[]⟩, .string ⟨#[]⟩] 36)).alloc (.cells #[.string (strOfNums p.key), .string (strOfNums p.val)] 36)).drew := ⟨_, rfl⟩
          have HZ : Hid (Whole W w.heap.size 36 (prCells Pr.none)) := Lib.hid (by rw [hW]; exact ((Whole.new w _ (prCells Pr.none)).alloc _).drewN 1)
          have HR : Hid (Whole W (w.heap.size + 1) 36 (prCells p)) := Lib.hid (by rw [hW]; exact (Whole.newAt (w.alloc _) _ (prCells p) _ (by simp)).drewN 1)
          have HK : Hid (Keeps NoBlock w W) := Lib.hid (by rw [hW]; exact (((Keeps.refl _ _).alloc _).alloc _).drewN 1)
          rw [← hW]
          clear hW
          have s0 := PrAt.ofWhole (w := W.drew) HR.out
          have sN := PrAt.ofWhole HR.out
          unfold PrAt at s0 sN
          clear q1 q2 q3 q4 q5 q6 q7 q8 q9
          have q4 : (8 + (k : Int) + (v : Int) + 4).toNat = 8 + k + v + 4 := by omega
          have q5 : IntKind.i64.wrap (8 + (k : Int) + (v : Int) + 4) = 8 + (k : Int) + (v : Int) + 4 := IntWalk.i64_in _ (by omega)
          have q6 : (0 : Int) ≤ 8 + (k : Int) + (v : Int) + 4 := by omega
          have q7 : 8 + (k : Int) + (v : Int) + 4 ≤ (L : Int) := by omega
          by_cases hTU : T = U
          · have hb : ((strOfNums T).toList == (strOfNums U).toList) = true := by rw [hne]; exact decide_eq_true hTU
            have HD := Lib.hid (HD.out.trans (if_neg (fun h => h hTU)))
            clear hne hTU
            go_region_held3 (fun w' => w'.cell? ⟨w.heap.size + 1, 0, none⟩ = some (.string (strOfNums p.key)) ∧ w'.cell? ⟨w.heap.size + 1, 1, none⟩ = some (.string (strOfNums p.val)))
              (first | exact s5 | exact s0 | exact sN)
              (first | (go_at_call 16; refine (HTx.out _).mono ?_; rintro e w5 ⟨rfl, hk⟩; have hk' : Keeps NoBlock W w5 := (by first | exact hk | exact hk.ofDrew | exact hk.ofDrewN); have HK := Lib.hid (HK.out.trans hk'); have HR := Lib.hid (HR.out.keep hk' (fun h => h)); have HZ := Lib.hid (HZ.out.keep hk' (fun h => h)); have s5 := PrAt.ofWhole HR.out; unfold PrAt at s5; clear hk hk'))
            obtain ⟨r0, r1⟩ := PrAt.ofWhole HR.out
            have z0 := HZ.out.cell 0 rfl
            have z1 := HZ.out.cell 1 rfl
            have f0 := HZ.out.free 0
            have f1 := HZ.out.free 1
            simp only [prCells, List.getElem_toArray, List.getElem_cons_zero, List.getElem_cons_succ] at z0 z1
            go_wp2_with fail
            rw [HD.out]
            exact bodyPost_ret (v := pgOut ⟨0, 8 + k + v + 4, p⟩) (by simp [results, Try.results17, go_sem, pgOut, prV, Pr.none, z0, z1]; try rfl) rfl ⟨rfl, by first | exact (HK.out.setNew (g := w.heap.size) (Nat.le_refl _) 0 _).setNew (g := w.heap.size) (Nat.le_refl _) 1 _ | exact ((HK.out.setNew (g := w.heap.size) (Nat.le_refl _) 0 _).setNew (g := w.heap.size) (Nat.le_refl _) 1 _).drewN _⟩
          · have hb : ((strOfNums T).toList == (strOfNums U).toList) = false := by rw [hne]; exact decide_eq_false hTU
            have HD := Lib.hid (HD.out.trans (if_pos hTU))
            clear hne hTU
            go_region_held3 (fun w' => w'.cell? ⟨w.heap.size + 1, 0, none⟩ = some (.string (strOfNums p.key)) ∧ w'.cell? ⟨w.heap.size + 1, 1, none⟩ = some (.string (strOfNums p.val)))
              (first | exact s5 | exact s0 | exact sN)
              (first | (go_at_call 16; refine (HTx.out _).mono ?_; rintro e w5 ⟨rfl, hk⟩; have hk' : Keeps NoBlock W w5 := (by first | exact hk | exact hk.ofDrew | exact hk.ofDrewN); have HK := Lib.hid (HK.out.trans hk'); have HR := Lib.hid (HR.out.keep hk' (fun h => h)); have HZ := Lib.hid (HZ.out.keep hk' (fun h => h)); have s5 := PrAt.ofWhole HR.out; unfold PrAt at s5; clear hk hk'))
            obtain ⟨r0, r1⟩ := PrAt.ofWhole HR.out
            have z0 := HZ.out.cell 0 rfl
            have z1 := HZ.out.cell 1 rfl
            have f0 := HZ.out.free 0
            have f1 := HZ.out.free 1
            simp only [prCells, List.getElem_toArray, List.getElem_cons_zero, List.getElem_cons_succ] at z0 z1
            go_wp2_with fail
            rw [HD.out]
            exact bodyPost_ret (v := pgOut ⟨5, 0, Pr.none⟩) (by simp [results, Try.results17, go_sem, pgOut, prV, Pr.none, z0, z1]; try rfl) rfl ⟨rfl, by first | exact (HK.out.setNew (g := w.heap.size) (Nat.le_refl _) 0 _).setNew (g := w.heap.size) (Nat.le_refl _) 1 _ | exact ((HK.out.setNew (g := w.heap.size) (Nat.le_refl _) 0 _).setNew (g := w.heap.size) (Nat.le_refl _) 1 _).drewN _⟩
end Go.Proofs.Ytdkpkpmgiglnhaa

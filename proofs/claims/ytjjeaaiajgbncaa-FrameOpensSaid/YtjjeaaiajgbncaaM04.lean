/-
  CobsRef; CobsRef2; ThinRef; WideRef; ThinRefSum; WideBegin.
-/
import Derived.Deep.RegionHeld3
import Derived.Deep.CutRange
import Derived.Deep.DeepCutAuto
import Derived.StillTailTactics
import Derived.Test.YtjjeaaiajgbncaaM01
import Derived.Test.YtjjeaaiajgbncaaM03
namespace Go.Proofs.Ytjjeaaiajgbncaa
open Go.RowKit

/-- Where the document's loop stands behind k bytes: what is written, what stands open. -/
def StuffAt (xs : List Int) (k : Nat) (O N : List Int) : Prop :=
  (k ≤ xs.length → ∃ F : Bool, O ++ stuffGo N F (xs.drop k) = stuff xs ∧ N.length < 254 ∧ (F = true ↔ (N = [] ∧ 0 < k ∧ xs.getD (k - 1) 0 ≠ 0))) ∧ (k = xs.length + 1 → O = stuff xs ∧ N = [])

theorem StuffAt.start (xs : List Int) : StuffAt xs 0 [] [] :=
  ⟨fun _ => ⟨false, rfl, by decide, by simp⟩, fun h => by omega⟩
theorem drop_cons_getD (xs : List Int) (k : Nat) (h : k < xs.length) : xs.drop k = xs.getD k 0 :: xs.drop (k + 1) := by
  rw [List.drop_eq_getElem_cons h]
  simp [h]
theorem StuffAt.nought {xs : List Int} {k : Nat} {O N : List Int} (h : StuffAt xs k O N) (hk : k < xs.length) (h0 : xs.getD k 0 = 0) : StuffAt xs (k + 1) (O ++ ((N.length + 1 : Nat) : Int) :: N) [] := by
  obtain ⟨F, h1, h2, h3⟩ := h.1 (by omega)
  refine ⟨fun _ => ⟨false, ?_, by decide, ?_⟩, fun h => by omega⟩
  · rw [← h1, drop_cons_getD xs k hk, stuffGo, if_pos h0, List.append_assoc]
  · rw [Nat.add_sub_cancel, h0]; simp
theorem StuffAt.other {xs : List Int} {k : Nat} {O N : List Int} (h : StuffAt xs k O N) (hk : k < xs.length) (h0 : xs.getD k 0 ≠ 0) (hl : N.length + 1 ≠ 254) : StuffAt xs (k + 1) O (N ++ [xs.getD k 0]) := by
  obtain ⟨F, h1, h2, h3⟩ := h.1 (by omega)
  refine ⟨fun _ => ⟨false, ?_, by simp; omega, by simp⟩, fun h => by omega⟩
  rw [← h1, drop_cons_getD xs k hk, stuffGo, if_neg h0, if_neg hl]
theorem StuffAt.whole {xs : List Int} {k : Nat} {O N : List Int} (h : StuffAt xs k O N) (hk : k < xs.length) (h0 : xs.getD k 0 ≠ 0) (hl : N.length + 1 = 254) : StuffAt xs (k + 1) (O ++ 255 :: (N ++ [xs.getD k 0])) [] := by
  obtain ⟨F, h1, h2, h3⟩ := h.1 (by omega)
  refine ⟨fun _ => ⟨true, ?_, by decide, ?_⟩, fun h => by omega⟩
  · rw [← h1, drop_cons_getD xs k hk, stuffGo, if_neg h0, if_pos hl, List.append_assoc]
  · rw [Nat.add_sub_cancel]; simpa using h0
theorem StuffAt.atEnd {xs : List Int} {O N : List Int} (h : StuffAt xs xs.length O N) (he : ¬ (N = [] ∧ 0 < xs.length ∧ xs.getD (xs.length - 1) 0 ≠ 0)) : StuffAt xs (xs.length + 1) (O ++ ((N.length + 1 : Nat) : Int) :: N) [] := by
  obtain ⟨F, h1, h2, h3⟩ := h.1 (Nat.le_refl _)
  refine ⟨fun h => by omega, fun _ => ⟨?_, rfl⟩⟩
  have hF : F = false := by
    cases F with
    | false => rfl
    | true => exact absurd (h3.1 rfl) he
  rw [← h1, List.drop_length, hF, stuffGo, if_neg (by simp)]
theorem StuffAt.atBreak {xs : List Int} {O : List Int} (h : StuffAt xs xs.length O []) (he : 0 < xs.length ∧ xs.getD (xs.length - 1) 0 ≠ 0) : O = stuff xs := by
  obtain ⟨F, h1, h2, h3⟩ := h.1 (Nat.le_refl _)
  rw [List.drop_length, h3.2 ⟨rfl, he⟩, stuffGo, if_pos rfl, List.append_nil] at h1
  exact h1
theorem StuffAt.bound {xs : List Int} {k : Nat} {O N : List Int} (h : StuffAt xs k O N) (hk : k ≤ xs.length + 1) : O.length ≤ mostOf xs.length ∧ N.length < 254 := by
  have hm := stuff_most xs
  by_cases hke : k = xs.length + 1
  · obtain ⟨h1, h2⟩ := h.2 hke
    rw [h1, h2]
    exact ⟨hm, by decide⟩
  · obtain ⟨F, h1, h2, _⟩ := h.1 (by omega)
    rw [← h1, List.length_append] at hm
    exact ⟨by omega, h2⟩

theorem StuffAt.atEnd' {xs : List Int} {O N : List Int} {k : Nat} (h : StuffAt xs k O N) (hk : k = xs.length) (he : ¬ (N = [] ∧ 0 < k ∧ xs.getD (k - 1) 0 ≠ 0)) : StuffAt xs (k + 1) (O ++ ((N.length + 1 : Nat) : Int) :: N) [] := by
  subst hk; exact h.atEnd he
theorem StuffAt.atBreak' {xs : List Int} {O : List Int} {k : Nat} (h : StuffAt xs k O []) (hk : k = xs.length) (he : 0 < k ∧ xs.getD (k - 1) 0 ≠ 0) : O = stuff xs := by
  subst hk; exact h.atBreak he

theorem str_empty (xs : List Int) : (strOfNums xs).toList.isEmpty = xs.isEmpty := by
  have h : (strOfNums xs).toList = (strOfNums xs).data.toList := ByteArray.toList_eq _
  rw [h]
  unfold strOfNums
  cases xs <;> simp

theorem mostOf_le (n : Nat) : mostOf n ≤ 2 * n + 1 := by
  unfold mostOf
  split <;> omega

set_option maxHeartbeats 2000000 in
set_option maxRecDepth 10000 in
theorem stuff_ref (xs : List Int) (ho : Octets xs) (hl : xs.length ≤ 140737488355328) (w : World) :
    Calls Try.prog 30 #[.string (strOfNums xs)] w fun e w' => e = .returned (.string (strOfNums (stuff xs))) ∧ Keeps NoBlock w w' := by
  have HO1 : Hid (Octets (xs ++ [0])) := Lib.hid (fun b hb => (List.mem_append.1 hb).elim (ho b) (fun h => by rw [List.mem_singleton.1 h]; omega))
  have HO := Lib.hid ho
  have hss : (strOfNums xs).size = xs.length := str_size xs
  have hall : strOfNums xs ++ (ByteArray.mk #[0]) = strOfNums (xs ++ [0]) := str_append xs [0]
  have hsa : (strOfNums (xs ++ [0])).size = xs.length + 1 := by rw [str_size]; simp
  have HMo := Lib.hid (mostOf_le xs.length)
  obtain ⟨n, hn⟩ : ∃ n, n = xs.length := ⟨_, rfl⟩
  have HN := Lib.hid hn
  rw [← hn] at hl hss hsa HMo
  clear ho hn
  go_enter Try.func30, Try.ntmps30
  go_wp2_with fail
  go_loopw [4, 5, 6] (fun s4 s5 i wr => ∃ (k : Nat) (O N : List Int), k ≤ n + 1 ∧ i = .int .i64 (k : Int) ∧ s4 = .string (strOfNums O) ∧ s5 = .string (strOfNums N) ∧ StuffAt xs k O N ∧ Keeps NoBlock w wr) (fun _ _ i _ => n + 1 - (intOf i).toNat)
  case atStart => exact ⟨0, [], [], Nat.zero_le _, rfl, rfl, rfl, StuffAt.start xs, Keeps.refl _ _⟩
  case round =>
    obtain ⟨k, O, N, hk, rfl, rfl, rfl, hst, hkk⟩ := hrel
    have HK := Lib.hid hkk
    have HST := Lib.hid hst
    obtain ⟨hOl, hNl⟩ := hst.bound (by have := HN.out; omega)
    rw [← HN.out] at hOl
    have hsO : (strOfNums O).size = O.length := str_size O
    have hsN : (strOfNums N).size = N.length := str_size N
    have hOb : O.length ≤ 281474976710657 := by have := HMo.out; omega
    clear hst hkk hOl
    by_cases hlt : k < n + 1
    · have hdk : decide ((k : Int) < (n : Int) + 1) = true := decide_eq_true (by omega)
      have hsg := str_get (xs ++ [0]) HO1.out k (by omega)
      by_cases hkn : k < n
      · have hgx : (xs ++ [0]).getD k 0 = xs.getD k 0 := by
          have := HN.out
          simp [List.getD, List.getElem?_append_left (show k < xs.length by omega)]
        rw [hgx] at hsg
        have hbb := HO.out.getD k
        obtain ⟨b, hb⟩ : ∃ b, b = xs.getD k 0 := ⟨_, rfl⟩
        have HB := Lib.hid hb
        rw [← hb] at hsg hbb
        clear hgx hb
        obtain ⟨hb0, hb1⟩ := hbb
        by_cases hz : b = 0
        · subst hz
          obtain ⟨v, hv⟩ : ∃ v, v = (N.length : Int) + 1 := ⟨_, rfl⟩
          have hcv := vnum_conv v wr
          have hw8 : IntKind.u8.wrap ((N.length : Int) + 1) = v := by rw [IntKind.wrap_u8', hv]; omega
          have ha1 : strOfNums O ++ strOfNums [v] = strOfNums (O ++ [v]) := str_append _ _
          have ha2 : strOfNums (O ++ [v]) ++ strOfNums N = strOfNums (O ++ v :: N) := by rw [str_append, List.append_assoc]; rfl
          have hs3 : (strOfNums (O ++ [v])).size = O.length + 1 := by rw [str_size]; simp
          have hs4 : (strOfNums [v]).size = 1 := str_size _
          have HV := Lib.hid hv
          have hv' := hv.symm
          clear hv
          go_wp2_with fail
          refine ⟨⟨k + 1, _, [], by omega, rfl, rfl, rfl, ?_, HK.out.alloc _⟩, by simp [intOf]; omega⟩
          have := HST.out.nought (by have := HN.out; omega) HB.out.symm
          rw [HV.out]
          exact this
        · have hbz : (b == 0) = false := by rw [beq_eq_false_iff_ne]; exact hz
          have hex : (strOfNums (xs ++ [0])).extract k (k + 1) = strOfNums [b] := by
            rw [str_piece _ _ _ k 1 rfl rfl, HB.out]
            have hl : k < xs.length := by have := HN.out; omega
            rw [List.drop_append_of_le_length (by omega), drop_cons_getD xs k hl]
            rfl
          have ha1 : strOfNums N ++ strOfNums [b] = strOfNums (N ++ [b]) := str_append _ _
          have hs3 : (strOfNums (N ++ [b])).size = N.length + 1 := by rw [str_size]; simp
          have hs4 : (strOfNums [b]).size = 1 := str_size _
          by_cases h254 : N.length + 1 = 254
          · have hd : ((N.length : Int) + 1 == 254) = true := by rw [beq_iff_eq]; omega
            have ha2 : strOfNums O ++ (ByteArray.mk #[255]) = strOfNums (O ++ [255]) := str_append O [255]
            have ha3 : strOfNums (O ++ [255]) ++ strOfNums (N ++ [b]) = strOfNums (O ++ 255 :: (N ++ [b])) := by rw [str_append, List.append_assoc]; rfl
            have hs5 : (strOfNums (O ++ [255])).size = O.length + 1 := by rw [str_size]; simp
            go_wp2_with fail
            refine ⟨⟨k + 1, _, [], by omega, rfl, rfl, rfl, ?_, HK.out⟩, by simp [intOf]; omega⟩
            have := HST.out.whole (by have := HN.out; omega) (by rw [← HB.out]; exact hz) h254
            rw [← HB.out] at this
            exact this
          · have hd : ((N.length : Int) + 1 == 254) = false := by rw [beq_eq_false_iff_ne]; omega
            go_wp2_with fail
            refine ⟨⟨k + 1, _, _, by omega, rfl, rfl, rfl, ?_, HK.out⟩, by simp [intOf]; omega⟩
            have := HST.out.other (by have := HN.out; omega) (by rw [← HB.out]; exact hz) h254
            rw [← HB.out] at this
            exact this
      · obtain rfl : k = n := by omega
        have hgx : (xs ++ [0]).getD k 0 = 0 := by
          rw [HN.out]
          simp [List.getD]
        rw [hgx] at hsg
        have hkk : ((k : Int) == (k : Int)) = true := by simp
        clear hgx
        by_cases hbr : N = [] ∧ 0 < k ∧ xs.getD (k - 1) 0 ≠ 0
        · obtain ⟨rfl, hk0, hy0⟩ := hbr
          have HE := Lib.hid (HST.out.atBreak' HN.out ⟨hk0, hy0⟩)
          have hem : (strOfNums []).toList.isEmpty = true := str_empty []
          have hsg2 := str_get (xs ++ [0]) HO1.out (k - 1) (by omega)
          have hgx : (xs ++ [0]).getD (k - 1) 0 = xs.getD (k - 1) 0 := by
            have := HN.out
            simp [List.getD, List.getElem?_append_left (show k - 1 < xs.length by omega)]
          rw [hgx] at hsg2
          obtain ⟨y, hy⟩ : ∃ y, y = xs.getD (k - 1) 0 := ⟨_, rfl⟩
          rw [← hy] at hsg2 hy0
          have hyb : (y != 0) = true := by rw [bne_iff_ne]; exact hy0
          have hdp : decide ((0 : Int) < (k : Int)) = true := decide_eq_true (by omega)
          clear hgx hy
          go_wp2_with fail
          go_ret
          exact ⟨by rw [← HE.out]; rfl, HK.out⟩
        · have HEnd := Lib.hid (HST.out.atEnd' HN.out hbr)
          obtain ⟨v, hv⟩ : ∃ v, v = (N.length : Int) + 1 := ⟨_, rfl⟩
          have hcv := vnum_conv v wr
          have hw8 : IntKind.u8.wrap ((N.length : Int) + 1) = v := by rw [IntKind.wrap_u8', hv]; omega
          have ha1 : strOfNums O ++ strOfNums [v] = strOfNums (O ++ [v]) := str_append _ _
          have ha2 : strOfNums (O ++ [v]) ++ strOfNums N = strOfNums (O ++ v :: N) := by rw [str_append, List.append_assoc]; rfl
          have hs3 : (strOfNums (O ++ [v])).size = O.length + 1 := by rw [str_size]; simp
          have hs4 : (strOfNums [v]).size = 1 := str_size _
          have HV := Lib.hid hv
          have hv' := hv.symm
          clear hv
          by_cases hN : N = []
          · have hem : (strOfNums N).toList.isEmpty = true := by rw [str_empty, hN]; rfl
            have hnb : ¬ (0 < k ∧ xs.getD (k - 1) 0 ≠ 0) := fun h => hbr ⟨hN, h⟩
            clear hN hbr
            by_cases hk0 : 0 < k
            · have hsg2 := str_get (xs ++ [0]) HO1.out (k - 1) (by omega)
              have hgx : (xs ++ [0]).getD (k - 1) 0 = xs.getD (k - 1) 0 := by
                have := HN.out
                simp [List.getD, List.getElem?_append_left (show k - 1 < xs.length by omega)]
              have hy0 : xs.getD (k - 1) 0 = 0 := by
                rcases Classical.em (xs.getD (k - 1) 0 = 0) with h | h
                · exact h
                · exact absurd ⟨hk0, h⟩ hnb
              rw [hgx, hy0] at hsg2
              have hdp : decide ((0 : Int) < (k : Int)) = true := decide_eq_true (by omega)
              clear hgx hy0 hnb
              go_wp2_with fail
              refine ⟨⟨k + 1, _, [], by omega, rfl, rfl, rfl, ?_, HK.out.alloc _⟩, by simp [intOf]⟩
              rw [HV.out]
              exact HEnd.out
            · have hdp : decide ((0 : Int) < (k : Int)) = false := decide_eq_false (by omega)
              clear hnb
              go_wp2_with fail
              refine ⟨⟨k + 1, _, [], by omega, rfl, rfl, rfl, ?_, HK.out.alloc _⟩, by simp [intOf]⟩
              rw [HV.out]
              exact HEnd.out
          · have hem : (strOfNums N).toList.isEmpty = false := by rw [str_empty]; simpa using hN
            clear hbr
            go_wp2_with fail
            refine ⟨⟨k + 1, _, [], by omega, rfl, rfl, rfl, ?_, HK.out.alloc _⟩, by simp [intOf]⟩
            rw [HV.out]
            exact HEnd.out
    · obtain rfl : k = n + 1 := by omega
      have hdk : decide (((n + 1 : Nat) : Int) < (n : Int) + 1) = false := decide_eq_false (by omega)
      obtain ⟨e, _⟩ := HST.out.2 (by rw [HN.out])
      have HE := Lib.hid e
      clear e
      go_wp2_with fail
      go_ret
      exact ⟨by rw [← HE.out]; rfl, HK.out⟩
end Go.Proofs.Ytjjeaaiajgbncaa

namespace Go.Proofs.Ytjjeaaiajgbncaa
open Go.RowKit

/-- Where the second loop stands: what is out, what is left. -/
def UnAt (xs O R : List Int) : Prop := (dec R).map (O ++ ·) = dec xs ∧ O.length + R.length ≤ xs.length ∧ Octets O ∧ Solid R

theorem UnAt.start {xs : List Int} (h : Solid xs) : UnAt xs [] xs := ⟨by simp, by simp, fun b hb => by simp at hb, h⟩
theorem UnAt.short {xs O R : List Int} {n : Int} {r : List Int} (h : UnAt xs O R) (hR : R = n :: r) (hs : r.length + 1 < n.toNat) : dec xs = none := by
  subst hR
  rw [← h.1, dec, if_pos hs]
  rfl
theorem UnAt.done {xs O : List Int} (h : UnAt xs O []) : dec xs = some O := by
  rw [← h.1, dec]
  simp
theorem UnAt.step {xs O R : List Int} {n : Int} {r : List Int} (h : UnAt xs O R) (hR : R = n :: r) (hs : ¬ r.length + 1 < n.toNat) :
    UnAt xs (O ++ r.take (n.toNat - 1) ++ (if n < 255 ∧ r.drop (n.toNat - 1) ≠ [] then [0] else [])) (r.drop (n.toNat - 1)) := by
  subst hR
  obtain ⟨h1, h2, h3, h4⟩ := h
  have hn := h4 n List.mem_cons_self
  have hr : Solid r := fun b hb => h4 b (List.mem_cons_of_mem _ hb)
  refine ⟨?_, ?_, ?_, fun b hb => hr b (List.mem_of_mem_drop hb)⟩
  · rw [← h1, dec, if_neg hs, Option.map_map]
    congr 1
    funext o
    simp
  · have : (if n < 255 ∧ r.drop (n.toNat - 1) ≠ [] then [0] else ([] : List Int)).length ≤ 1 := by split <;> simp
    simp only [List.length_append, List.length_take, List.length_drop, List.length_cons] at h2 ⊢
    omega
  · intro b hb
    rcases List.mem_append.1 hb with hb | hb
    · rcases List.mem_append.1 hb with hb | hb
      · exact h3 b hb
      · exact hr.octets b (List.mem_of_mem_take hb)
    · split at hb
      · rw [List.mem_singleton.1 hb]; omega
      · simp at hb

set_option maxHeartbeats 2000000 in
set_option maxRecDepth 10000 in
theorem unstuff_ref (xs : List Int) (ho : Octets xs) (hl : xs.length ≤ 140737488355328) (w : World) :
    Calls Try.prog 36 #[.string (strOfNums xs)] w fun e w' => e = .returned (.tuple #[.string (strOfNums (unst xs).2), .int .i64 (unst xs).1]) ∧ Keeps NoBlock w w' := by
  have HO := Lib.hid ho
  have hss : (strOfNums xs).size = xs.length := str_size xs
  obtain ⟨n, hn⟩ : ∃ n, n = xs.length := ⟨_, rfl⟩
  have HN := Lib.hid hn
  rw [← hn] at hl hss
  clear ho hn
  go_enter Try.func36, Try.ntmps36
  go_wp2_with fail
  go_loop [4] (fun i => ∃ k : Nat, k ≤ n ∧ i = .int .i64 (k : Int) ∧ Hid (Solid (xs.take k))) (fun i => n - (intOf i).toNat)
  case atStart => exact ⟨0, Nat.zero_le _, rfl, Lib.hid Solid.nil⟩
  case round =>
    obtain ⟨k, hk, rfl, hsol⟩ := hrel
    by_cases hlt : k < n
    · have hdk : decide ((k : Int) < (n : Int)) = true := decide_eq_true (by omega)
      have hsg := str_get xs HO.out k (by omega)
      have hbb := HO.out.getD k
      have hmem : xs.getD k 0 ∈ xs := by
        have hl : k < xs.length := by have := HN.out; omega
        have e : xs.getD k 0 = xs[k] := by simp [hl]
        rw [e]; exact List.getElem_mem hl
      have htk := take_succ_getD xs k (by have := HN.out; omega)
      obtain ⟨b, hb⟩ : ∃ b, b = xs.getD k 0 := ⟨_, rfl⟩
      rw [← hb] at hsg hbb hmem htk
      have HM := Lib.hid hmem
      have HT := Lib.hid htk
      obtain ⟨hb0, hb1⟩ := hbb
      clear hb hmem htk
      by_cases hz : b = 0
      · subst hz
        have hu : unst xs = (4, []) := by unfold unst; rw [if_pos HM.out]
        have HU := Lib.hid hu
        clear hu
        go_wp2_with fail
        exact bodyPost_ret (v := .tuple #[.string (strOfNums []), .int .i64 4]) (by simp [results, Try.results36, go_sem]; rfl) rfl ⟨by rw [HU.out], Keeps.refl _ _⟩
      · have hbz : (b == 0) = false := by rw [beq_eq_false_iff_ne]; exact hz
        have HS := Lib.hid (show Solid (xs.take (k + 1)) by rw [HT.out]; exact hsol.out.snoc ⟨by omega, hb1⟩)
        go_wp2_with fail
        exact ⟨⟨k + 1, by omega, rfl, HS⟩, by simp [intOf]; omega⟩
    · obtain rfl : k = n := by omega
      have hdk : decide ((k : Int) < (k : Int)) = false := decide_eq_false (by omega)
      have hsx : Solid xs := by
        have := hsol.out
        rwa [List.take_of_length_le (Nat.le_of_eq HN.out.symm)] at this
      have hz0 : (0 : Int) ∉ xs := hsx.noZero
      have HSX := Lib.hid hsx
      have HZ0 := Lib.hid hz0
      clear hsx hz0
      by_cases hk0 : k = 0
      · subst hk0
        have hxe : xs = [] := List.length_eq_zero_iff.1 HN.out.symm
        have hu : unst xs = (2, []) := by unfold unst; rw [if_neg HZ0.out, if_pos hxe]
        have HU := Lib.hid hu
        have hem : (strOfNums xs).toList.isEmpty = true := by rw [str_empty, hxe]; rfl
        clear hxe hu
        go_wp2_with fail
        exact bodyPost_ret (v := .tuple #[.string (strOfNums []), .int .i64 2]) (by simp [results, Try.results36, go_sem]; rfl) rfl ⟨by rw [HU.out], Keeps.refl _ _⟩
      · have hem : (strOfNums xs).toList.isEmpty = false := by
          rw [str_empty]
          cases hx : xs with
          | nil => exact absurd (by rw [HN.out, hx]; rfl) hk0
          | cons _ _ => rfl
        have hxe : xs ≠ [] := fun h => hk0 (by rw [HN.out, h]; rfl)
        have HXE := Lib.hid hxe
        clear hxe
        go_wp2_with fail
        go_loop [5, 6, 7] (fun s5 s6 _ => ∃ O R : List Int, s5 = .string (strOfNums O) ∧ s6 = .string (strOfNums R) ∧ Hid (UnAt xs O R)) (fun _ s6 _ => strSize s6)
        case atStart => exact ⟨[], xs, rfl, rfl, Lib.hid (UnAt.start HSX.out)⟩
        case round =>
          clear hem hdk hsol hlt
          obtain ⟨O, R, rfl, rfl, hu⟩ := hrel
          have hub := hu.out.2.1
          rw [← HN.out] at hub
          have hsO : (strOfNums O).size = O.length := str_size O
          have hsR : (strOfNums R).size = R.length := str_size R
          by_cases hRn : R = []
          · subst hRn
            have hem : (strOfNums []).toList.isEmpty = true := str_empty []
            have HD := Lib.hid hu.out.done
            have HS := Lib.hid (fun w => stuff_ref O hu.out.2.2.1 (by omega) w)
            have hcmp : ((strOfNums (stuff O)).toList == (strOfNums xs).toList) = decide (stuff O = xs) := by
              rw [text_beq]
              apply decide_eq_decide.2
              exact ⟨fun h => strOf_inj (stuff_solid hu.out.2.2.1).octets HO.out h, fun h => by rw [h]⟩
            go_wp2_with fail
            refine (HS.out _).mono ?_
            rintro e w1 ⟨rfl, hk1⟩
            have HK1 := Lib.hid hk1
            clear hk1
            by_cases he : stuff O = xs
            · have hun : unst xs = (0, O) := by
                unfold unst
                rw [if_neg HZ0.out, if_neg HXE.out, HD.out]
                exact if_pos he
              have HU := Lib.hid hun
              have hcmp2 : ((strOfNums (stuff O)).toList == (strOfNums xs).toList) = true := by rw [hcmp]; exact decide_eq_true he
              clear hun hcmp he
              go_wp2_with fail
              exact bodyPost_ret (v := .tuple #[.string (strOfNums O), .int .i64 0]) (by simp [results, Try.results36, go_sem]) rfl ⟨by rw [HU.out], HK1.out⟩
            · have hun : unst xs = (4, []) := by
                unfold unst
                rw [if_neg HZ0.out, if_neg HXE.out, HD.out]
                exact if_neg he
              have HU := Lib.hid hun
              have hcmp2 : ((strOfNums (stuff O)).toList == (strOfNums xs).toList) = false := by rw [hcmp]; exact decide_eq_false he
              clear hun hcmp he
              go_wp2_with fail
              exact bodyPost_ret (v := .tuple #[.string (strOfNums []), .int .i64 4]) (by simp [results, Try.results36, go_sem]; rfl) rfl ⟨by rw [HU.out], HK1.out⟩
          · obtain ⟨b, r, hR⟩ := List.exists_cons_of_ne_nil hRn
            clear hRn
            have hb := hu.out.2.2.2 b (by rw [hR]; exact List.mem_cons_self)
            have hRo : Octets R := hu.out.2.2.2.octets
            have hem : (strOfNums R).toList.isEmpty = false := by rw [str_empty, hR]; rfl
            have hm0 : R.length = r.length + 1 := by rw [hR]; rfl
            have hpos : 0 < (strOfNums R).size := by rw [hsR, hR]; simp
            have hsg := str_get R hRo 0 hpos
            rw [show R.getD 0 0 = b by rw [hR]; rfl] at hsg
            obtain ⟨B, rfl⟩ := Int.eq_ofNat_of_zero_le (show 0 ≤ b by omega)
            obtain ⟨m, hm⟩ : ∃ m, m = R.length := ⟨_, rfl⟩
            rw [← hm] at hsR hub hm0
            have HR := Lib.hid hR
            have HM := Lib.hid hm
            have HM0 := Lib.hid hm0
            have hB1 : 1 ≤ B := by omega
            have hB2 : B < 256 := by omega
            have hm1 : 1 ≤ m := by omega
            clear hR hm hRo hb hm0
            by_cases hsh : m < B
            · have hd : decide ((m : Int) < (B : Int)) = true := decide_eq_true (by omega)
              have hun : unst xs = (2, []) := by
                unfold unst
                rw [if_neg HZ0.out, if_neg HXE.out, hu.out.short HR.out (by have := HM0.out; omega)]
              have HU := Lib.hid hun
              clear hun
              go_wp2_with fail
              exact bodyPost_ret (v := .tuple #[.string (strOfNums []), .int .i64 2]) (by simp [results, Try.results36, go_sem]; rfl) rfl ⟨by rw [HU.out], Keeps.refl _ _⟩
            · have hd : decide ((m : Int) < (B : Int)) = false := decide_eq_false (by omega)
              have hst := hu.out.step HR.out (by have := HM0.out; omega)
              rw [Int.toNat_natCast] at hst
              obtain ⟨T, hT⟩ : ∃ T, T = r.take (B - 1) := ⟨_, rfl⟩
              obtain ⟨R2, hR2⟩ : ∃ R2, R2 = r.drop (B - 1) := ⟨_, rfl⟩
              rw [← hT, ← hR2] at hst
              have hex : (strOfNums R).extract 1 B = strOfNums T := by
                rw [str_piece R 1 B 1 (B - 1) rfl (by omega), HR.out, hT]
                rfl
              have hdr : (strOfNums R).extract B m = strOfNums R2 := by
                have e := str_drop R B
                rw [hsR] at e
                rw [e, HR.out, hR2]
                congr 1
                obtain ⟨j, rfl⟩ : ∃ j, B = j + 1 := ⟨B - 1, by omega⟩
                rfl
              have hTl : T.length ≤ B := by rw [hT, List.length_take]; omega
              have hR2l : R2.length < m := by rw [hR2, List.length_drop]; have := HM0.out; omega
              have hsT : (strOfNums T).size = T.length := str_size T
              have ha1 : strOfNums O ++ strOfNums T = strOfNums (O ++ T) := str_append _ _
              have hs3 : (strOfNums (O ++ T)).size = O.length + T.length := by rw [str_size, List.length_append]
              have hOm : O.length + m ≤ k := hub
              have HST := Lib.hid hst
              have HR2l := Lib.hid hR2l
              clear hT hR2 hst hub
              by_cases h255 : B < 255
              · have hd5 : decide ((B : Int) < 255) = true := decide_eq_true (by omega)
                by_cases hz : R2 = []
                · have hem2 : (strOfNums R2).toList.isEmpty = true := by rw [str_empty, hz]; rfl
                  have HST2 : Hid (UnAt xs (O ++ T) R2) := Lib.hid (by
                    have := HST.out
                    rwa [if_neg (fun h => h.2 hz), List.append_nil] at this)
                  clear hz
                  go_wp2_with fail
                  refine ⟨⟨_, _, rfl, rfl, HST2⟩, ?_⟩
                  show strSize (.string (strOfNums R2)) < strSize (.string (strOfNums R))
                  rw [strSize_of, strSize_of, ← HM.out]
                  exact HR2l.out
                · have hem2 : (strOfNums R2).toList.isEmpty = false := by rw [str_empty]; simpa using hz
                  have ha2 : strOfNums (O ++ T) ++ (ByteArray.mk #[0]) = strOfNums (O ++ (T ++ [0])) := by rw [← List.append_assoc]; exact str_append _ [0]
                  have HST2 : Hid (UnAt xs (O ++ (T ++ [0])) R2) := Lib.hid (by
                    have := HST.out
                    rwa [if_pos ⟨by omega, hz⟩, List.append_assoc] at this)
                  clear hz
                  go_wp2_with fail
                  refine ⟨⟨_, _, rfl, rfl, HST2⟩, ?_⟩
                  show strSize (.string (strOfNums R2)) < strSize (.string (strOfNums R))
                  rw [strSize_of, strSize_of, ← HM.out]
                  exact HR2l.out
              · have hd5 : decide ((B : Int) < 255) = false := decide_eq_false (by omega)
                have HST2 : Hid (UnAt xs (O ++ T) R2) := Lib.hid (by
                  have := HST.out
                  rwa [if_neg (fun h => by omega), List.append_nil] at this)
                go_wp2_with fail
                refine ⟨⟨_, _, rfl, rfl, HST2⟩, ?_⟩
                show strSize (.string (strOfNums R2)) < strSize (.string (strOfNums R))
                rw [strSize_of, strSize_of, ← HM.out]
                exact HR2l.out
end Go.Proofs.Ytjjeaaiajgbncaa

namespace Go.Proofs.Ytjjeaaiajgbncaa
open Go.RowKit

theorem half_half (x : Int) (k : Nat) : x / 2 ^ k / 2 = x / 2 ^ (k + 1) := by
  have hp : (0 : Int) < 2 ^ k := Int.pow_pos (by decide)
  rw [Int.pow_succ, Int.ediv_ediv, if_neg (fun h => absurd h.1 (by omega)), Int.sub_zero]

/-- Four numbers in a row, as cells. -/
def row4 (kd : IntKind) (v : Nat → Int) : Array Value := #[.int kd (v 0), .int kd (v 1), .int kd (v 2), .int kd (v 3)]
theorem row4_get {kd : IntKind} {v : Nat → Int} {k : Nat} (hk : k < 4) : (row4 kd v)[k]? = some (.int kd (v k)) := by
  have : k = 0 ∨ k = 1 ∨ k = 2 ∨ k = 3 := by omega
  rcases this with rfl | rfl | rfl | rfl <;> rfl
theorem row4_set {kd : IntKind} {v : Nat → Int} {k : Nat} (hk : k < 4) (x : Int) : (row4 kd v).setIfInBounds k (.int kd x) = row4 kd (upd v k x) := by
  have : k = 0 ∨ k = 1 ∨ k = 2 ∨ k = 3 := by omega
  rcases this with rfl | rfl | rfl | rfl <;> rfl
end Go.Proofs.Ytjjeaaiajgbncaa

namespace Go.Proofs.Ytjjeaaiajgbncaa
open Go.RowKit

set_option maxHeartbeats 800000 in
set_option maxRecDepth 10000 in
theorem wturn_ref (x y : Int) (n : Nat) (hn : n < 64) (hy : y = n) (h : U64 x) (w : World) :
    Calls Try.prog 59 #[.int .u64 x, .int .i64 y] w fun e w' => e = .returned (.int .u64 (wrot n x)) ∧ w = w' := by
  have HH := Lib.hid h
  have hx0 := h.1
  have hx1 := h.2
  have HZ := Lib.hid (wrot_zero h)
  clear h
  subst hy
  go_enter Try.func59, Try.ntmps59
  go_wp2
  go_loop [0, 7] (fun r i => ∃ k : Nat, k ≤ n ∧ i = .int .i64 (k : Int) ∧ r = .int .u64 (wrot k x)) (fun _ i => ((n : Int) - intOf i).toNat)
  case atStart => exact ⟨0, Nat.zero_le _, rfl, by rw [HZ.out]⟩
  case round =>
    obtain ⟨k, hk, rfl, rfl⟩ := hrel
    by_cases hlt : k < n
    · have hb := wrot_bound (n := k) (by omega) HH.out
      have hb0 := hb.1
      have hb1 := hb.2
      have hs := wrot_step (n := k) (by omega) HH.out
      have hsb := wrot_bound (n := k + 1) (by omega) HH.out
      rw [← hs] at hsb
      have hmod := Int.emod_eq_of_lt hsb.1 hsb.2
      have HS := Lib.hid hs
      have HM := Lib.hid hmod
      clear hb hs hsb hmod
      obtain ⟨r, hr⟩ : ∃ r, r = wrot k x := ⟨_, rfl⟩
      rw [← hr] at hb0 hb1 HS HM ⊢
      clear hr
      go_wp2
      go_round
      case rel =>
        refine ⟨k + 1, by omega, rfl, congrArg (Value.int IntKind.u64) ?_⟩
        rw [IntKind.wrap_u64, IntKind.wrap_u64, HM.out, HS.out]
      case measure => simp [intOf]; omega
    · obtain rfl : k = n := by omega
      go_wp2
      go_ret
      exact ⟨rfl, rfl⟩

set_option maxHeartbeats 800000 in
set_option maxRecDepth 10000 in
theorem wmix_ref (x y : Int) (n : Nat) (hn : n < 64) (hy : y = n) (h : U64 x) (w : World) :
    Calls Try.prog 60 #[.int .u64 x, .int .i64 y] w fun e w' => e = .returned (.int .u64 (down n x)) ∧ w = w' := by
  have HH := Lib.hid h
  have hx0 := h.1
  have hx1 := h.2
  clear h
  subst hy
  go_enter Try.func60, Try.ntmps60
  go_wp2
  go_loop [5, 8] (fun r i => ∃ k : Nat, k ≤ n ∧ i = .int .i64 (k : Int) ∧ r = .int .u64 (x / 2 ^ k)) (fun _ i => ((n : Int) - intOf i).toNat)
  case atStart => exact ⟨0, Nat.zero_le _, rfl, by simp⟩
  case round =>
    obtain ⟨k, hk, rfl, rfl⟩ := hrel
    have HD := Lib.hid (wdown_of n HH.out)
    have HS := Lib.hid (half_half x k)
    have hb0 : 0 ≤ x / 2 ^ k := Int.ediv_nonneg hx0 (Int.le_of_lt (Int.pow_pos (by decide)))
    have hb1 : x / 2 ^ k < 18446744073709551616 := Int.lt_of_le_of_lt (Int.ediv_le_self _ hx0) hx1
    obtain ⟨r, hr⟩ : ∃ r, r = x / 2 ^ k := ⟨_, rfl⟩
    rw [← hr] at hb0 hb1 HS ⊢
    by_cases hlt : k < n
    · clear hr
      go_wp2
      go_round
      case rel =>
        refine ⟨k + 1, by omega, rfl, congrArg (Value.int IntKind.u64) ?_⟩
        rw [← HS.out]
      case measure => simp [intOf]; omega
    · obtain rfl : k = n := by omega
      rw [← hr] at HD
      clear hr
      go_wp2
      go_ret
      rw [HD.out]
      exact ⟨rfl, rfl⟩

set_option maxHeartbeats 800000 in
set_option maxRecDepth 10000 in
theorem winto_ref (x y : Int) (h : U64 x) (hy : U64 y) (w : World) :
    Calls Try.prog 58 #[.int .u64 x, .int .u64 y] w fun e w' => e = .returned (.int .u64 (win x y)) ∧ w = w' := by
  have hm := wmod_bound (x + IntKind.u64.wrap (y * 14029467366897019727))
  have hr := wrot_bound (n := 31) (by decide) hm
  have HT := Lib.hid (wturn_ref _ 31 31 (by decide) rfl hm)
  have h0 := h.1; have h1 := h.2; have h2 := hy.1; have h3 := hy.2; have h4 := hr.1; have h5 := hr.2
  have he : win x y = IntKind.u64.wrap (wrot 31 (IntKind.u64.wrap (x + IntKind.u64.wrap (y * 14029467366897019727))) * 11400714785074694791) := rfl
  have HE := Lib.hid he
  clear h hy hm hr he
  rw [HE.out]
  obtain ⟨z, hz⟩ : ∃ z, z = wrot 31 (IntKind.u64.wrap (x + IntKind.u64.wrap (y * 14029467366897019727))) := ⟨_, rfl⟩
  rw [← hz] at h4 h5 HT ⊢
  clear hz HE
  go_enter Try.func58, Try.ntmps58
  go_wp2_with fail
  refine (HT.out _).mono ?_
  rintro e w' ⟨rfl, rfl⟩
  go_wp2_with fail
  go_ret
  exact ⟨rfl, rfl⟩

/-- What Value reads of eight, of four. -/
theorem four8_value (ys : List Int) (k : Nat) : le ((ys.drop (8 * k)).take 8) = four8 ys k := rfl
theorem four4_value (ys : List Int) (k : Nat) : le ((ys.drop (4 * k)).take 4) = four4 ys k := rfl
theorem wtaken_drop (v : Nat → Int) (xs : List Int) (k : Nat) : wtaken (wnums v xs k) (xs.drop (32 * k)) 4 = wnums v xs (k + 1) := rfl
end Go.Proofs.Ytjjeaaiajgbncaa

namespace Go.Proofs.Ytjjeaaiajgbncaa
open Go.RowKit

theorem join_sum {a b c d : Int} (_ha : U32 a) (_hb : U32 b) (_hc : U32 c) (_hd : U32 d) :
    (IntKind.u64.wrap (IntKind.u64.wrap (IntKind.u64.wrap (a + b) + c) + d)).tmod 4294967296 = (a + b + c + d) % 4294967296 := by
  unfold U32 at *
  rw [IntKind.wrap_u64, IntKind.wrap_u64, IntKind.wrap_u64, Int.tmod_eq_emod_of_nonneg (by omega)]
  omega

end Go.Proofs.Ytjjeaaiajgbncaa

namespace Go.Proofs.Ytjjeaaiajgbncaa
open Go.RowKit

theorem four8_drop (xs : List Int) (a k : Nat) : ((xs.drop a).drop (8 * k)).take 8 = (xs.drop (a + 8 * k)).take 8 := by rw [List.drop_drop]

set_option maxHeartbeats 2000000 in
set_option maxRecDepth 10000 in
theorem wbegin_ref (s : Int) (xs : List Int) (hs : U64 s) (ho : Octets xs) (w : World) :
    Calls Try.prog 57 #[.int .u64 s, .string (strOfNums xs)] w fun e w' => e = .returned (.tuple #[.int .u64 (wmerged (wnums (wseed s) xs (xs.length / 32)) 4), .string (strOfNums (wleft xs))]) ∧ Keeps NoBlock w w' := by
  obtain ⟨n, hn⟩ : ∃ n, n = xs.length := ⟨_, rfl⟩
  have h0 := hs.1
  have h1 := hs.2
  have HS := Lib.hid hs
  have HO := Lib.hid ho
  have HN := Lib.hid hn
  have HB := Lib.hid (fun k j (hj : j < 4) => wnums_bound (fun j _ => wseed_bound hs j) xs k j hj)
  have hdd : strOfNums (wleft xs) = strOfNums (xs.drop (32 * (n / 32))) := by rw [hn]; rfl
  rw [hdd, ← hn]
  clear hs ho hn hdd
  go_enter Try.func57, Try.ntmps57
  go_wp2_with fail
  go_loopw [1] (fun s1 wr => ∃ k : Nat, 32 * k ≤ n ∧ s1 = .string (strOfNums (xs.drop (32 * k))) ∧ Whole wr w.heap.size 115 (row4 .u64 (wnums (wseed s) xs k)) ∧ Keeps NoBlock w wr) (fun s1 _ => strSize s1)
  case atStart =>
    exact ⟨0, Nat.zero_le _, rfl, Whole.new _ _ _, (Keeps.refl _ _).alloc _⟩
  case round =>
    obtain ⟨k, hk32, rfl, hwh, hk⟩ := hrel
    have HK := Lib.hid hk
    clear hk
    obtain ⟨ys, hyd⟩ : ∃ ys, ys = xs.drop (32 * k) := ⟨_, rfl⟩
    have hyo : Octets ys := by rw [hyd]; exact HO.out.drop _
    have hyl : ys.length = n - 32 * k := by rw [hyd, List.length_drop, HN.out]
    obtain ⟨v, hv⟩ : ∃ v, v = wnums (wseed s) xs k := ⟨_, rfl⟩
    have HV : Hid (∀ j, j < 4 → U64 (v j)) := Lib.hid (by rw [hv]; exact fun j hj => HB.out k j hj)
    have hnx : wnums (wseed s) xs (k + 1) = wtaken v ys 4 := by rw [hv, hyd]; rfl
    have hdx : ys.drop 32 = xs.drop (32 * (k + 1)) := by rw [hyd, List.drop_drop]; rfl
    rw [← hv] at hwh
    rw [← hyd]
    have HW := Lib.hid hwh
    have HY := Lib.hid hyo
    have HNX := Lib.hid hnx
    have HDX := Lib.hid hdx
    have HVD := Lib.hid hv
    have HYD := Lib.hid hyd
    have hys : (strOfNums ys).size = ys.length := str_size ys
    obtain ⟨m, hm⟩ : ∃ m, m = ys.length := ⟨_, rfl⟩
    have HM := Lib.hid hm
    have HYL := Lib.hid (hm.trans hyl)
    rw [← hm] at hys
    have hmn : m ≤ n := by omega
    clear hm hyo hnx hdx hv hyd hyl hwh
    by_cases h32 : 32 ≤ m
    · have hdm : decide ((32 : Int) ≤ (m : Int)) = true := decide_eq_true (by omega)
      go_wp2_with fail
      obtain ⟨W1, rfl⟩ : ∃ W1, W1 = wr := ⟨_, rfl⟩
      go_loopw [29] (fun i wr => ∃ j : Nat, j ≤ 4 ∧ i = .int .i64 (j : Int) ∧ Whole wr w.heap.size 115 (row4 .u64 (wtaken v ys j)) ∧ Keeps (Just w.heap.size) W1 wr) (fun i _ => 4 - (intOf i).toNat)
      case atStart => exact ⟨0, by omega, rfl, by rw [wtaken_zero]; exact HW.out, Keeps.refl _ _⟩
      case round =>
        obtain ⟨j, hj4, rfl, hwk, hkk⟩ := hrel
        have HWk := Lib.hid hwk
        have HKk := Lib.hid hkk
        clear hkk
        by_cases hlt4 : j < 4
        · have c0 := hwk.cell j (row4_get hlt4)
          have f0 := hwk.free j
          have hub := wtaken_bound HV.out ys j j hlt4
          have HVl := Lib.hid (fun w => value_ref ((ys.drop (8 * j)).take 8) ((HY.out.drop _).take _) (by simp; omega) w)
          have HI := Lib.hid (fun w => winto_ref (wtaken v ys j j) (four8 ys j) hub (four8_bound HY.out j) w)
          clear hwk hub
          go_wp2_with fail
          have ha1 : (0 : Int) ≤ (j : Int) := by omega
          have ha2 : (j : Int) < 4 := by omega
          have ha3 : (8 : Int) * (j : Int) + 8 ≤ (m : Int) := by omega
          have ha4 : (0 : Int) ≤ 8 * (j : Int) := by omega
          have ha6 : 8 * (j : Int) ≤ 8 * (j : Int) + 8 := by omega
          have ha5 : (0 : Int) ≤ 8 * (j : Int) + 8 := by omega
          have hw1 : IntKind.i64.wrap (8 * (j : Int)) = 8 * (j : Int) := by rw [IntKind.wrap_i64]; omega
          have hw2 : IntKind.i64.wrap (8 * (j : Int) + 8) = 8 * (j : Int) + 8 := by rw [IntKind.wrap_i64]; omega
          have hex : (strOfNums ys).extract (8 * (j : Int)).toNat (8 * (j : Int) + 8).toNat = strOfNums ((ys.drop (8 * j)).take 8) := str_piece ys _ _ _ _ (by omega) (by omega)
          go_still_tail 14, (by kernel_rfl)
          still_call ((HVl.out _).mono fun e w5 h => ⟨h.1, h.2.symm⟩)
          still_call ((HI.out _).mono fun e w5 h => ⟨h.1, h.2.symm⟩)
          still_step
          refine wpStill_nil ?_
          change wpList _ _ _ _ _ wr.drew
          obtain ⟨W2, hW2⟩ : ∃ W2, W2 = wr.drew := ⟨_, rfl⟩
          rw [← hW2]
          have hw2f : W2.frozen? ⟨w.heap.size, j, none⟩ = false := by rw [hW2]; exact f0
          have hw2c : W2.cell? ⟨w.heap.size, j, none⟩ = some (.int .u64 (wtaken v ys j j)) := by rw [hW2]; exact c0
          have HW2 := Lib.hid hW2
          clear c0 f0 hW2
          go_wp2_with fail
          go_roundw
          case rel =>
            refine ⟨j + 1, by omega, rfl, ?_, ?_⟩
            · rw [← wtaken_succ, ← row4_set hlt4, HW2.out]
              exact HWk.out.set j _
            · rw [HW2.out]
              exact HKk.out.drew.setIn (Just.self _) _ _
          case measure => simp [intOf]; omega
        · obtain rfl : j = 4 := by omega
          have HKk2 := Lib.hid (HK.out.then HKk.out (fun i hi h => by unfold Just at h; omega))
          have hd16 := str_drop ys 32
          rw [hys] at hd16
          have HD16 := Lib.hid hd16
          clear hd16 hwk
          go_wp2_with fail
          go_roundw
          case rel =>
            refine ⟨k + 1, by have := HYL.out; omega, by rw [HD16.out, HDX.out], by rw [HNX.out]; exact HWk.out, HKk2.out⟩
          case measure =>
            rw [HD16.out, strSize_of, strSize_of, List.length_drop]
            have := HM.out
            omega
    · have hkn : k = n / 32 := by have := HYL.out; omega
      have c0 := HW.out.cell 0 (row4_get (by decide))
      have c1 := HW.out.cell 1 (row4_get (by decide))
      have c2 := HW.out.cell 2 (row4_get (by decide))
      have c3 := HW.out.cell 3 (row4_get (by decide))
      have HT0 := Lib.hid (fun w => wturn_ref (v 0) 1 1 (by decide) rfl (HV.out 0 (by decide)) w)
      have HT1 := Lib.hid (fun w => wturn_ref (v 1) 7 7 (by decide) rfl (HV.out 1 (by decide)) w)
      have HT2 := Lib.hid (fun w => wturn_ref (v 2) 12 12 (by decide) rfl (HV.out 2 (by decide)) w)
      have HT3 := Lib.hid (fun w => wturn_ref (v 3) 18 18 (by decide) rfl (HV.out 3 (by decide)) w)
      have HKN := Lib.hid hkn
      have HMg : Hid (∀ j, wmerged v j = wmerged (wnums (wseed s) xs k) j) := Lib.hid (by rw [HVD.out]; exact fun _ => rfl)
      clear hkn
      go_wp2_with fail
      refine wp_region_still_lit (by kernel_rfl) (by kernel_rfl) ?_
      still_step
      still_step
      still_call ((HT0.out _).mono fun e w5 h => ⟨h.1, h.2.symm⟩)
      still_step
      still_step
      still_call ((HT1.out _).mono fun e w5 h => ⟨h.1, h.2.symm⟩)
      still_step
      still_step
      still_step
      still_call ((HT2.out _).mono fun e w5 h => ⟨h.1, h.2.symm⟩)
      still_step
      still_step
      still_step
      still_call ((HT3.out _).mono fun e w5 h => ⟨h.1, h.2.symm⟩)
      still_step
      still_step
      refine wpStill_nil ?_
      go_wp2_with fail
      have HWd : Hid (Whole wr.drew w.heap.size 115 (row4 .u64 v)) := Lib.hid HW.out
      have HKd := Lib.hid HK.out.drew
      clear c0 c1 c2 c3
      change Code.wp _ _ _ _ wr.drew
      obtain ⟨W3, hW3⟩ : ∃ W3, W3 = wr.drew := ⟨_, rfl⟩
      rw [← hW3] at HWd HKd ⊢
      clear hW3
      go_loop [10, 64] (fun h i => ∃ j : Nat, j ≤ 4 ∧ i = .int .i64 (j : Int) ∧ h = .int .u64 (wmerged v j)) (fun _ i => 4 - (intOf i).toNat)
      case atStart => exact ⟨0, by omega, rfl, rfl⟩
      case round =>
        obtain ⟨j, hj4, rfl, rfl⟩ := hrel
        by_cases hlt4 : j < 4
        · have c0 := HWd.out.cell j (row4_get hlt4)
          have HI := Lib.hid (fun w => winto_ref 0 (v j) ⟨by decide, by decide⟩ (HV.out j hlt4) w)
          have ha1 : (0 : Int) ≤ (j : Int) := by omega
          have ha2 : (j : Int) < 4 := by omega
          go_wp2_with fail
          refine (HI.out _).mono ?_
          rintro e w' ⟨rfl, rfl⟩
          go_wp2_with fail
          go_round
          case rel => exact ⟨j + 1, by omega, rfl, rfl⟩
          case measure => simp [intOf]; omega
        · obtain rfl : j = 4 := by omega
          go_wp2_with fail
          exact bodyPost_ret (v := .tuple #[.int .u64 (wmerged v 4), .string (strOfNums ys)]) (by simp [results, Try.results57, go_sem]) rfl ⟨by rw [HMg.out, HYD.out, HKN.out], HKd.out⟩
end Go.Proofs.Ytjjeaaiajgbncaa

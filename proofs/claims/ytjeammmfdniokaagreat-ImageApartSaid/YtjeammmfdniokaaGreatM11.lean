/-
  CobsRef; CobsRef2; RecRef2; In8; ThinSum; ThinAll.
-/
import Derived.Deep.RegionHeld3
import Derived.BigQuiet
import Derived.Test.YtjeammmfdniokaaGreatM01
import Derived.Test.YtjeammmfdniokaaGreatM02
import Derived.Test.YtjeammmfdniokaaGreatM04
import Derived.Test.YtjeammmfdniokaaGreatM06
import Derived.Test.YtjeammmfdniokaaGreatM07
namespace Go.Proofs.YtjeammmfdniokaaGreat
open Go.RowKit

/-- Where the document's loop stands behind k bytes: what is written, what stands open. -/
def StuffAt (xs : List Int) (k : Nat) (O N : List Int) : Prop :=
  (k ≤ xs.length → ∃ F : Bool, O ++ stuffGo N F (xs.drop k) = stuff xs ∧ N.length < 254 ∧ (F = true ↔ (N = [] ∧ 0 < k ∧ xs.getD (k - 1) 0 ≠ 0))) ∧ (k = xs.length + 1 → O = stuff xs ∧ N = [])

theorem StuffAt.start (xs : List Int) : StuffAt xs 0 [] [] :=
  ⟨fun _ => ⟨false, rfl, by decide, by simp⟩, fun h => by omega⟩
theorem drop_cons_getD (xs : List Int) (k : Nat) (h : k < xs.length) : xs.drop k = xs.getD k 0 :: xs.drop (k + 1) := by
  rw [List.drop_eq_getElem_cons h]
  simp [h]
theorem StuffAt.nought {xs : List Int} {k : Nat} {O N : List Int} (h : StuffAt xs k O N) (hk : k < xs.length) (h0 : xs.getD k 0 = 0) : StuffAt xs (k + 1) (O ++ ((N.length + 1 : Nat) : Int) :: N) [] := by
  obtain ⟨F, h1, h2, h3⟩ := h.1 (by omega)
  refine ⟨fun _ => ⟨false, ?_, by decide, ?_⟩, fun h => by omega⟩
  · rw [← h1, drop_cons_getD xs k hk, stuffGo, if_pos h0, List.append_assoc]
  · rw [Nat.add_sub_cancel, h0]; simp
theorem StuffAt.other {xs : List Int} {k : Nat} {O N : List Int} (h : StuffAt xs k O N) (hk : k < xs.length) (h0 : xs.getD k 0 ≠ 0) (hl : N.length + 1 ≠ 254) : StuffAt xs (k + 1) O (N ++ [xs.getD k 0]) := by
  obtain ⟨F, h1, h2, h3⟩ := h.1 (by omega)
  refine ⟨fun _ => ⟨false, ?_, by simp; omega, by simp⟩, fun h => by omega⟩
  rw [← h1, drop_cons_getD xs k hk, stuffGo, if_neg h0, if_neg hl]
theorem StuffAt.whole {xs : List Int} {k : Nat} {O N : List Int} (h : StuffAt xs k O N) (hk : k < xs.length) (h0 : xs.getD k 0 ≠ 0) (hl : N.length + 1 = 254) : StuffAt xs (k + 1) (O ++ 255 :: (N ++ [xs.getD k 0])) [] := by
  obtain ⟨F, h1, h2, h3⟩ := h.1 (by omega)
  refine ⟨fun _ => ⟨true, ?_, by decide, ?_⟩, fun h => by omega⟩
  · rw [← h1, drop_cons_getD xs k hk, stuffGo, if_neg h0, if_pos hl, List.append_assoc]
  · rw [Nat.add_sub_cancel]; simpa using h0
theorem StuffAt.atEnd {xs : List Int} {O N : List Int} (h : StuffAt xs xs.length O N) (he : ¬ (N = [] ∧ 0 < xs.length ∧ xs.getD (xs.length - 1) 0 ≠ 0)) : StuffAt xs (xs.length + 1) (O ++ ((N.length + 1 : Nat) : Int) :: N) [] := by
  obtain ⟨F, h1, h2, h3⟩ := h.1 (Nat.le_refl _)
  refine ⟨fun h => by omega, fun _ => ⟨?_, rfl⟩⟩
  have hF : F = false := by
    cases F with
    | false => rfl
    | true => exact absurd (h3.1 rfl) he
  rw [← h1, List.drop_length, hF, stuffGo, if_neg (by simp)]
theorem StuffAt.atBreak {xs : List Int} {O : List Int} (h : StuffAt xs xs.length O []) (he : 0 < xs.length ∧ xs.getD (xs.length - 1) 0 ≠ 0) : O = stuff xs := by
  obtain ⟨F, h1, h2, h3⟩ := h.1 (Nat.le_refl _)
  rw [List.drop_length, h3.2 ⟨rfl, he⟩, stuffGo, if_pos rfl, List.append_nil] at h1
  exact h1
theorem StuffAt.bound {xs : List Int} {k : Nat} {O N : List Int} (h : StuffAt xs k O N) (hk : k ≤ xs.length + 1) : O.length ≤ mostOf xs.length ∧ N.length < 254 := by
  have hm := stuff_most xs
  by_cases hke : k = xs.length + 1
  · obtain ⟨h1, h2⟩ := h.2 hke
    rw [h1, h2]
    exact ⟨hm, by decide⟩
  · obtain ⟨F, h1, h2, _⟩ := h.1 (by omega)
    rw [← h1, List.length_append] at hm
    exact ⟨by omega, h2⟩

theorem StuffAt.atEnd' {xs : List Int} {O N : List Int} {k : Nat} (h : StuffAt xs k O N) (hk : k = xs.length) (he : ¬ (N = [] ∧ 0 < k ∧ xs.getD (k - 1) 0 ≠ 0)) : StuffAt xs (k + 1) (O ++ ((N.length + 1 : Nat) : Int) :: N) [] := by
  subst hk; exact h.atEnd he
theorem StuffAt.atBreak' {xs : List Int} {O : List Int} {k : Nat} (h : StuffAt xs k O []) (hk : k = xs.length) (he : 0 < k ∧ xs.getD (k - 1) 0 ≠ 0) : O = stuff xs := by
  subst hk; exact h.atBreak he

theorem str_empty (xs : List Int) : (strOfNums xs).toList.isEmpty = xs.isEmpty := by
  have h : (strOfNums xs).toList = (strOfNums xs).data.toList := ByteArray.toList_eq _
  rw [h]
  unfold strOfNums
  cases xs <;> simp

theorem mostOf_le (n : Nat) : mostOf n ≤ 2 * n + 1 := by
  unfold mostOf
  split <;> omega

set_option maxHeartbeats 2000000 in
set_option maxRecDepth 10000 in
theorem stuff_ref (xs : List Int) (ho : Octets xs) (hl : xs.length ≤ 140737488355328) (w : World) :
    Calls Tryz.prog 41 #[.string (strOfNums xs)] w fun e w' => e = .returned (.string (strOfNums (stuff xs))) ∧ Keeps NoBlock w w' := by
  have HO1 : Hid (Octets (xs ++ [0])) := Lib.hid (fun b hb => (List.mem_append.1 hb).elim (ho b) (fun h => by rw [List.mem_singleton.1 h]; omega))
  have HO := Lib.hid ho
  have hss : (strOfNums xs).size = xs.length := str_size xs
  have hall : strOfNums xs ++ (ByteArray.mk #[0]) = strOfNums (xs ++ [0]) := str_append xs [0]
  have hsa : (strOfNums (xs ++ [0])).size = xs.length + 1 := by rw [str_size]; simp
  have HMo := Lib.hid (mostOf_le xs.length)
  obtain ⟨n, hn⟩ : ∃ n, n = xs.length := ⟨_, rfl⟩
  have HN := Lib.hid hn
  rw [← hn] at hl hss hsa HMo
  clear ho hn
  go_enter Tryz.func41, Tryz.ntmps41
  go_wp2_with fail
  go_loopw [4, 5, 6] (fun s4 s5 i wr => ∃ (k : Nat) (O N : List Int), k ≤ n + 1 ∧ i = .int .i64 (k : Int) ∧ s4 = .string (strOfNums O) ∧ s5 = .string (strOfNums N) ∧ StuffAt xs k O N ∧ Keeps NoBlock w wr) (fun _ _ i _ => n + 1 - (intOf i).toNat)
  case atStart => exact ⟨0, [], [], Nat.zero_le _, rfl, rfl, rfl, StuffAt.start xs, Keeps.refl _ _⟩
  case round =>
    obtain ⟨k, O, N, hk, rfl, rfl, rfl, hst, hkk⟩ := hrel
    have HK := Lib.hid hkk
    have HST := Lib.hid hst
    obtain ⟨hOl, hNl⟩ := hst.bound (by have := HN.out; omega)
    rw [← HN.out] at hOl
    have hsO : (strOfNums O).size = O.length := str_size O
    have hsN : (strOfNums N).size = N.length := str_size N
    have hOb : O.length ≤ 281474976710657 := by have := HMo.out; omega
    clear hst hkk hOl
    by_cases hlt : k < n + 1
    · have hdk : decide ((k : Int) < (n : Int) + 1) = true := decide_eq_true (by omega)
      have hsg := str_get (xs ++ [0]) HO1.out k (by omega)
      by_cases hkn : k < n
      · have hgx : (xs ++ [0]).getD k 0 = xs.getD k 0 := by
          have := HN.out
          simp [List.getD, List.getElem?_append_left (show k < xs.length by omega)]
        rw [hgx] at hsg
        have hbb := HO.out.getD k
        obtain ⟨b, hb⟩ : ∃ b, b = xs.getD k 0 := ⟨_, rfl⟩
        have HB := Lib.hid hb
        rw [← hb] at hsg hbb
        clear hgx hb
        obtain ⟨hb0, hb1⟩ := hbb
        by_cases hz : b = 0
        · subst hz
          obtain ⟨v, hv⟩ : ∃ v, v = (N.length : Int) + 1 := ⟨_, rfl⟩
          have hcv := vnum_conv v wr
          have hw8 : IntKind.u8.wrap ((N.length : Int) + 1) = v := by rw [IntKind.wrap_u8', hv]; omega
          have ha1 : strOfNums O ++ strOfNums [v] = strOfNums (O ++ [v]) := str_append _ _
          have ha2 : strOfNums (O ++ [v]) ++ strOfNums N = strOfNums (O ++ v :: N) := by rw [str_append, List.append_assoc]; rfl
          have hs3 : (strOfNums (O ++ [v])).size = O.length + 1 := by rw [str_size]; simp
          have hs4 : (strOfNums [v]).size = 1 := str_size _
          have HV := Lib.hid hv
          have hv' := hv.symm
          clear hv
          go_wp2_with fail
          refine ⟨⟨k + 1, _, [], by omega, rfl, rfl, rfl, ?_, HK.out.alloc _⟩, by simp [intOf]; omega⟩
          have := HST.out.nought (by have := HN.out; omega) HB.out.symm
          rw [HV.out]
          exact this
        · have hbz : (b == 0) = false := by rw [beq_eq_false_iff_ne]; exact hz
          have hex : (strOfNums (xs ++ [0])).extract k (k + 1) = strOfNums [b] := by
            rw [str_piece _ _ _ k 1 rfl rfl, HB.out]
            have hl : k < xs.length := by have := HN.out; omega
            rw [List.drop_append_of_le_length (by omega), drop_cons_getD xs k hl]
            rfl
          have ha1 : strOfNums N ++ strOfNums [b] = strOfNums (N ++ [b]) := str_append _ _
          have hs3 : (strOfNums (N ++ [b])).size = N.length + 1 := by rw [str_size]; simp
          have hs4 : (strOfNums [b]).size = 1 := str_size _
          by_cases h254 : N.length + 1 = 254
          · have hd : ((N.length : Int) + 1 == 254) = true := by rw [beq_iff_eq]; omega
            have ha2 : strOfNums O ++ (ByteArray.mk #[255]) = strOfNums (O ++ [255]) := str_append O [255]
            have ha3 : strOfNums (O ++ [255]) ++ strOfNums (N ++ [b]) = strOfNums (O ++ 255 :: (N ++ [b])) := by rw [str_append, List.append_assoc]; rfl
            have hs5 : (strOfNums (O ++ [255])).size = O.length + 1 := by rw [str_size]; simp
            go_wp2_with fail
            refine ⟨⟨k + 1, _, [], by omega, rfl, rfl, rfl, ?_, HK.out⟩, by simp [intOf]; omega⟩
            have := HST.out.whole (by have := HN.out; omega) (by rw [← HB.out]; exact hz) h254
            rw [← HB.out] at this
            exact this
          · have hd : ((N.length : Int) + 1 == 254) = false := by rw [beq_eq_false_iff_ne]; omega
            go_wp2_with fail
            refine ⟨⟨k + 1, _, _, by omega, rfl, rfl, rfl, ?_, HK.out⟩, by simp [intOf]; omega⟩
            have := HST.out.other (by have := HN.out; omega) (by rw [← HB.out]; exact hz) h254
            rw [← HB.out] at this
            exact this
      · obtain rfl : k = n := by omega
        have hgx : (xs ++ [0]).getD k 0 = 0 := by
          rw [HN.out]
          simp [List.getD]
        rw [hgx] at hsg
        have hkk : ((k : Int) == (k : Int)) = true := by simp
        clear hgx
        by_cases hbr : N = [] ∧ 0 < k ∧ xs.getD (k - 1) 0 ≠ 0
        · obtain ⟨rfl, hk0, hy0⟩ := hbr
          have HE := Lib.hid (HST.out.atBreak' HN.out ⟨hk0, hy0⟩)
          have hem : (strOfNums []).toList.isEmpty = true := str_empty []
          have hsg2 := str_get (xs ++ [0]) HO1.out (k - 1) (by omega)
          have hgx : (xs ++ [0]).getD (k - 1) 0 = xs.getD (k - 1) 0 := by
            have := HN.out
            simp [List.getD, List.getElem?_append_left (show k - 1 < xs.length by omega)]
          rw [hgx] at hsg2
          obtain ⟨y, hy⟩ : ∃ y, y = xs.getD (k - 1) 0 := ⟨_, rfl⟩
          rw [← hy] at hsg2 hy0
          have hyb : (y != 0) = true := by rw [bne_iff_ne]; exact hy0
          have hdp : decide ((0 : Int) < (k : Int)) = true := decide_eq_true (by omega)
          clear hgx hy
          go_wp2_with fail
          go_ret
          exact ⟨by rw [← HE.out]; rfl, HK.out⟩
        · have HEnd := Lib.hid (HST.out.atEnd' HN.out hbr)
          obtain ⟨v, hv⟩ : ∃ v, v = (N.length : Int) + 1 := ⟨_, rfl⟩
          have hcv := vnum_conv v wr
          have hw8 : IntKind.u8.wrap ((N.length : Int) + 1) = v := by rw [IntKind.wrap_u8', hv]; omega
          have ha1 : strOfNums O ++ strOfNums [v] = strOfNums (O ++ [v]) := str_append _ _
          have ha2 : strOfNums (O ++ [v]) ++ strOfNums N = strOfNums (O ++ v :: N) := by rw [str_append, List.append_assoc]; rfl
          have hs3 : (strOfNums (O ++ [v])).size = O.length + 1 := by rw [str_size]; simp
          have hs4 : (strOfNums [v]).size = 1 := str_size _
          have HV := Lib.hid hv
          have hv' := hv.symm
          clear hv
          by_cases hN : N = []
          · have hem : (strOfNums N).toList.isEmpty = true := by rw [str_empty, hN]; rfl
            have hnb : ¬ (0 < k ∧ xs.getD (k - 1) 0 ≠ 0) := fun h => hbr ⟨hN, h⟩
            clear hN hbr
            by_cases hk0 : 0 < k
            · have hsg2 := str_get (xs ++ [0]) HO1.out (k - 1) (by omega)
              have hgx : (xs ++ [0]).getD (k - 1) 0 = xs.getD (k - 1) 0 := by
                have := HN.out
                simp [List.getD, List.getElem?_append_left (show k - 1 < xs.length by omega)]
              have hy0 : xs.getD (k - 1) 0 = 0 := by
                rcases Classical.em (xs.getD (k - 1) 0 = 0) with h | h
                · exact h
                · exact absurd ⟨hk0, h⟩ hnb
              rw [hgx, hy0] at hsg2
              have hdp : decide ((0 : Int) < (k : Int)) = true := decide_eq_true (by omega)
              clear hgx hy0 hnb
              go_wp2_with fail
              refine ⟨⟨k + 1, _, [], by omega, rfl, rfl, rfl, ?_, HK.out.alloc _⟩, by simp [intOf]⟩
              rw [HV.out]
              exact HEnd.out
            · have hdp : decide ((0 : Int) < (k : Int)) = false := decide_eq_false (by omega)
              clear hnb
              go_wp2_with fail
              refine ⟨⟨k + 1, _, [], by omega, rfl, rfl, rfl, ?_, HK.out.alloc _⟩, by simp [intOf]⟩
              rw [HV.out]
              exact HEnd.out
          · have hem : (strOfNums N).toList.isEmpty = false := by rw [str_empty]; simpa using hN
            clear hbr
            go_wp2_with fail
            refine ⟨⟨k + 1, _, [], by omega, rfl, rfl, rfl, ?_, HK.out.alloc _⟩, by simp [intOf]⟩
            rw [HV.out]
            exact HEnd.out
    · obtain rfl : k = n + 1 := by omega
      have hdk : decide (((n + 1 : Nat) : Int) < (n : Int) + 1) = false := decide_eq_false (by omega)
      obtain ⟨e, _⟩ := HST.out.2 (by rw [HN.out])
      have HE := Lib.hid e
      clear e
      go_wp2_with fail
      go_ret
      exact ⟨by rw [← HE.out]; rfl, HK.out⟩
end Go.Proofs.YtjeammmfdniokaaGreat

namespace Go.Proofs.YtjeammmfdniokaaGreat
open Go.RowKit

/-- Where the second loop stands: what is out, what is left. -/
def UnAt (xs O R : List Int) : Prop := (dec R).map (O ++ ·) = dec xs ∧ O.length + R.length ≤ xs.length ∧ Octets O ∧ Solid R

theorem UnAt.start {xs : List Int} (h : Solid xs) : UnAt xs [] xs := ⟨by simp, by simp, fun b hb => by simp at hb, h⟩
theorem UnAt.done {xs O : List Int} (h : UnAt xs O []) : dec xs = some O := by
  rw [← h.1, dec]
  simp
theorem UnAt.step {xs O R : List Int} {n : Int} {r : List Int} (h : UnAt xs O R) (hR : R = n :: r) (hs : ¬ r.length + 1 < n.toNat) :
    UnAt xs (O ++ r.take (n.toNat - 1) ++ (if n < 255 ∧ r.drop (n.toNat - 1) ≠ [] then [0] else [])) (r.drop (n.toNat - 1)) := by
  subst hR
  obtain ⟨h1, h2, h3, h4⟩ := h
  have hn := h4 n List.mem_cons_self
  have hr : Solid r := fun b hb => h4 b (List.mem_cons_of_mem _ hb)
  refine ⟨?_, ?_, ?_, fun b hb => hr b (List.mem_of_mem_drop hb)⟩
  · rw [← h1, dec, if_neg hs, Option.map_map]
    congr 1
    funext o
    simp
  · have : (if n < 255 ∧ r.drop (n.toNat - 1) ≠ [] then [0] else ([] : List Int)).length ≤ 1 := by split <;> simp
    simp only [List.length_append, List.length_take, List.length_drop, List.length_cons] at h2 ⊢
    omega
  · intro b hb
    rcases List.mem_append.1 hb with hb | hb
    · rcases List.mem_append.1 hb with hb | hb
      · exact h3 b hb
      · exact hr.octets b (List.mem_of_mem_take hb)
    · split at hb
      · rw [List.mem_singleton.1 hb]; omega
      · simp at hb

end Go.Proofs.YtjeammmfdniokaaGreat

namespace Go.Proofs.YtjeammmfdniokaaGreat
open Go.RowKit

end Go.Proofs.YtjeammmfdniokaaGreat

namespace Go.Proofs.YtjeammmfdniokaaGreat
open Go.RowKit

/-- What a slice of bytes is. -/
structure In8 (w : World) (p : Option Addr) (N c : Nat) (xs : List Int) : Prop where
  len : N = xs.length
  cap : N ≤ c
  room : c ≤ 9223372036854775807
  bare : p = none → N = 0 ∧ c = 0
  oct : Octets xs
  at_ : Bytes8 w p xs

theorem In8.nil (w : World) : In8 w none 0 0 [] := ⟨rfl, Nat.le_refl _, by decide, fun _ => ⟨rfl, rfl⟩, fun b hb => by simp at hb, Bytes8.nil _ _⟩

theorem Bytes8.left {w : World} {p : Option Addr} {xs ys : List Int} (h : Bytes8 w p (xs ++ ys)) : Bytes8 w p xs := fun h0 => by
  obtain ⟨a, ha, hc⟩ := h (by rw [List.length_append]; omega)
  refine ⟨a, ha, fun i hi => ?_⟩
  rw [hc i (by rw [List.length_append]; omega), List.getD_eq_getElem?_getD, List.getD_eq_getElem?_getD, List.getElem?_append_left hi]

theorem cell_new (w : World) (cs : Array Value) (t : TypeId) (f : Nat × Nat) (i : Nat) {v : Value} (h : cs[i]? = some v) : (w.alloc (.cells cs t f)).cell? ⟨w.heap.size, i, none⟩ = some v := by
  have e : (w.alloc (.cells cs t f)).heap[w.heap.size]? = some (.cells cs t f) := by
    show (w.heap.push _)[w.heap.size]? = _
    simp
  unfold World.cell?
  simp only [e]
  simpa using h
end Go.Proofs.YtjeammmfdniokaaGreat

namespace Go.Proofs.YtjeammmfdniokaaGreat
open Go.RowKit

def lenOf : Value → Nat
  | .slice _ n _ => n
  | _ => 0

theorem Bytes8.at4 {w : World} {p : Option Addr} {xs : List Int} (h : Bytes8 w p xs) (h4 : 4 ≤ xs.length) : ∃ a, p = some a ∧ w.cell? a = some (.int .u8 (xs.getD 0 0)) ∧ w.cell? ⟨a.block, a.off + 1, none⟩ = some (.int .u8 (xs.getD 1 0)) ∧ w.cell? ⟨a.block, a.off + 2, none⟩ = some (.int .u8 (xs.getD 2 0)) ∧ w.cell? ⟨a.block, a.off + 3, none⟩ = some (.int .u8 (xs.getD 3 0)) := by
  obtain ⟨a, rfl, hc⟩ := h (by omega)
  exact ⟨a, rfl, hc 0 (by omega), hc 1 (by omega), hc 2 (by omega), hc 3 (by omega)⟩

theorem four_le {xs : List Int} (h4 : 4 ≤ xs.length) : four4 xs 0 = xs.getD 0 0 + 256 * (xs.getD 1 0) + 65536 * (xs.getD 2 0) + 16777216 * (xs.getD 3 0) := by
  match xs, h4 with
  | a :: b :: c :: d :: r, _ => simp [four4, le]; omega

end Go.Proofs.YtjeammmfdniokaaGreat

namespace Go.Proofs.YtjeammmfdniokaaGreat
open Go.RowKit

end Go.Proofs.YtjeammmfdniokaaGreat

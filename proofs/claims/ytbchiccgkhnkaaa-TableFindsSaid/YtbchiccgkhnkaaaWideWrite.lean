/-
  Package wide: Write.
-/
import Derived.Test.YtbchiccgkhnkaaaWideCopy
import Derived.Deep.CutRange
import Derived.Deep.DeepCutAuto
namespace Go.Proofs.Ytbchiccgkhnkaaa
open Go.RowKit

theorem addNone (g o i : Nat) : Addr.add ⟨g, o, none⟩ i = ⟨g, o + i, none⟩ := by unfold Addr.add; split <;> simp_all

/-- A State's part, as bytes. -/
theorem StAt.bytes {w : World} {g : Nat} {s : Int} {v : Nat → Int} {ps : List Int} {z : Int} (h : StAt w g s v ps z) : Bytes8 w (some ⟨g, 5, none⟩) ps :=
  fun _ => ⟨_, rfl, fun i hi => by rw [addNone]; exact h.2.2.cell (5 + i) (scells_part s v z i hi)⟩
theorem part_apart (g : Nat) (a : Addr) (ha : some (⟨g, 5, none⟩ : Addr) = some a) (i j : Nat) (hj : j < 4) : a.add i ≠ ⟨g, 1 + j, none⟩ := by
  obtain rfl := Option.some.inj ha
  rw [addNone]
  intro e
  have := congrArg Addr.off e
  simp at this
  omega
theorem block_apart {g : Nat} {q : Option Addr} (h : ∀ a, q = some a → a.block ≠ g) (a : Addr) (ha : q = some a) (i j : Nat) : a.add i ≠ ⟨g, 1 + j, none⟩ := by
  intro e
  have := congrArg Addr.block e
  rw [addBlock] at this
  exact h a ha this

/-- What Write has behind the block that was open: k blocks are taken up, b is what stands behind them. -/
def Wrote (w : World) (g : Nat) (s : Int) (all : List Int) (c : Nat) (b : Value) (wx : World) : Prop :=
  ∃ (k m d : Nat) (q : Option Addr) (ps : List Int), b = .slice q m d ∧ m = (all.drop (32 * k)).length ∧ m ≤ d ∧ d ≤ c ∧ (q = none → m = 0 ∧ d = 0) ∧ 32 * k ≤ all.length ∧ Bytes8 wx q (all.drop (32 * k)) ∧ (0 < m → ∀ a, q = some a → a.block ≠ g) ∧ StAt wx g s (wnums (wseed s) all k) ps all.length ∧ Keeps (Just g) w wx

set_option maxHeartbeats 2000000 in
set_option maxRecDepth 10000 in
theorem write_wide (g : Nat) (s : Int) (xs : List Int) (p : Option Addr) (N c : Nat) (ys : List Int) (w : World) (hh : Holds w g s xs) (hs : U64 s) (hxo : Octets xs) (hx : N = ys.length) (hc : N ≤ c) (hc' : c ≤ 9223372036854775807) (hn0 : p = none → N = 0 ∧ c = 0) (ho : Octets ys) (hb : Bytes8 w p ys)
    (hne : 0 < N → ∀ a, p = some a → a.block ≠ g) (hlen : xs.length + N ≤ 140737488355328) :
    Calls Try.prog 71 #[.pointer (some ⟨g, 0, none⟩), .slice p N c] w fun e w' => e = .returned (.pointer (some ⟨g, 0, none⟩)) ∧ Holds w' g s (xs ++ ys) ∧ Keeps (Just g) w w' := by
  obtain ⟨ps, hst, htk⟩ := hh
  have HPS := part_short (wseed s) xs ys ps N hx htk
  have HPF := part_full (wseed s) xs ys ps N hx hst.1 htk
  have HVB := Lib.hid (fun k j (hj : j < 4) => wnums_bound (fun j _ => wseed_bound hs j) (xs ++ ys) k j hj)
  have HVB0 := Lib.hid (fun k j (hj : j < 4) => wnums_bound (fun j _ => wseed_bound hs j) xs k j hj)
  have HAO : Hid (Octets (xs ++ ys)) := Lib.hid (fun b hb => (List.mem_append.1 hb).elim (hxo b) (ho b))
  have hal : ((xs ++ ys).length : Int) = (xs.length : Int) + (N : Int) := by rw [List.length_append, hx]; omega
  have hdr0 : xs.length % 32 = 0 → (xs ++ ys).drop (32 * (xs.length / 32)) = ys := fun h => by
    rw [show 32 * (xs.length / 32) = xs.length by omega, List.drop_left]
  have hwn0 := wnums_append (wseed s) xs ys (xs.length / 32) (by omega)
  have hall : 32 * (xs.length / 32) ≤ (xs ++ ys).length := by rw [List.length_append]; omega
  obtain ⟨all, hA⟩ : ∃ all, all = xs ++ ys := ⟨_, rfl⟩
  rw [← hA] at HPS HPF HVB HAO hal hdr0 hwn0 hall ⊢
  obtain ⟨L, hL⟩ : ∃ L, L = xs.length := ⟨_, rfl⟩
  obtain ⟨r, hr⟩ : ∃ r, r = L % 32 := ⟨_, rfl⟩
  obtain ⟨kq, hkq⟩ : ∃ kq, kq = L / 32 := ⟨_, rfl⟩
  rw [← hL] at hst htk hlen HPS HPF hal hdr0 hwn0 hall
  rw [← hr] at htk HPS HPF hdr0
  rw [← hkq] at hst HPS HPF hdr0 hwn0 hall
  obtain ⟨v, hv⟩ : ∃ v, v = wnums (wseed s) xs kq := ⟨_, rfl⟩
  have HV0 : Hid (∀ j, j < 4 → U64 (v j)) := Lib.hid (by rw [hv]; exact fun j hj => HVB0.out kq j hj)
  rw [← hv] at hst HPS HPF hwn0
  have HST := Lib.hid hst
  have hl := hst.1
  have c37 := hst.2.2.cell 37 (scells_size _ _ _ hl)
  have f37 := hst.2.2.free 37
  have hrem : (L : Int) % 32 = (r : Int) := by omega
  have hr31 : r ≤ 31 := by omega
  have hr0 : (0 : Int) ≤ (r : Int) := by omega
  have hr32 : (r : Int) ≤ 32 := by omega
  have hr32' : ¬ 32 = r := by omega
  have HX := Lib.hid hx
  have HB := Lib.hid hb
  have HO := Lib.hid ho
  have HPS := Lib.hid HPS
  have HPF := Lib.hid HPF
  have HAL := Lib.hid hal
  have HD0 := Lib.hid hdr0
  have HW0 := Lib.hid hwn0
  have HKQ := Lib.hid hall
  have HNE := Lib.hid hne
  have HN0 := Lib.hid hn0
  have HTK := Lib.hid htk
  have hlr : L = 32 * kq + r := by omega
  have HLR := Lib.hid hlr
  have HLL := Lib.hid hL
  have HS1 : Hid (StAt (w.setCell ⟨g, 37, none⟩ (.int .u64 ((L : Int) + (N : Int)))) g s v ps ((L : Int) + (N : Int))) :=
    Lib.hid ⟨hst.1, hst.2.1, by rw [← scells_setSize s v (L : Int) ((L : Int) + (N : Int)) hl]; exact hst.2.2.set 37 _⟩
  have HK1 : Hid (Keeps (Just g) w (w.setCell ⟨g, 37, none⟩ (.int .u64 ((L : Int) + (N : Int))))) := Lib.hid ((Keeps.refl _ _).setIn (Just.self g) 37 _)
  clear hL hr hx hb ho hal hdr0 hwn0 hall hne hn0 htk hkq hv hlr hA hst hs hxo hl
  go_enter Try.func71, Try.ntmps71
  go_upto_if 23 with (fail)
  go_cut [1, 5, 6] (fun s1 _ _ wx => Wrote w g s all c s1 wx)
  case first =>
    obtain ⟨W0, hW0⟩ : ∃ W0, W0 = w.setCell ⟨g, 37, none⟩ (.int .u64 ((L : Int) + (N : Int))) := ⟨_, rfl⟩
    rw [← hW0] at HS1 HK1 ⊢
    have HB0 : Hid (Bytes8 W0 p ys) := Lib.hid (HB.out.keepPos HK1.out (fun h a ha hj => HNE.out (by rw [HX.out]; exact h) a ha hj))
    clear hW0
    by_cases h0 : 0 < r
    · have hdn : decide ((0 : Int) < (r : Int)) = true := decide_eq_true (by omega)
      obtain ⟨W1, hcp, hst1, hk1⟩ := copy_part HS1.out r (32 - r) (5 + r) rfl (by omega) p N c ys HX.out HN0.out HB0.out HO.out
      have hn1 : min N (32 - r) ≤ N := Nat.min_le_left _ _
      have hn2 : r + min N (32 - r) ≤ 32 := by omega
      have hn3 : N ≤ min N (32 - r) ∨ r + min N (32 - r) = 32 := by omega
      obtain ⟨n, hn⟩ : ∃ n, n = min N (32 - r) := ⟨_, rfl⟩
      have HPS := Lib.hid HPS.out
      have HPF := Lib.hid HPF.out
      rw [← hn] at hcp hst1 hn1 hn2 hn3 HPS HPF
      have HS2 := Lib.hid hst1
      have HK2 := Lib.hid (HK1.out.trans hk1)
      have HN3 := Lib.hid hn3
      have hnc : (n : Int) ≤ (c : Int) := by omega
      have hnN : (n : Int) ≤ (N : Int) := by omega
      have hn00 : (0 : Int) ≤ (n : Int) := by omega
      have hrn : IntKind.u64.wrap ((r : Int) + (n : Int)) = (r : Int) + (n : Int) := by rw [IntKind.wrap_u64]; omega
      clear hst1 hn hn3
      have hbp : ∀ q, (0 < N - n → q = p.map (·.add n)) → Bytes8 W1 q (ys.drop n) := fun q hq => by
        have h1 := HB0.out.piece (q := q) n (N - n) (by have := HX.out; omega) hq
        rw [List.take_of_length_le (by rw [List.length_drop]; have := HX.out; omega)] at h1
        by_cases hz : 0 < N - n
        · rw [hq hz] at h1 ⊢
          exact h1.keep hk1 (fun a ha h => by
            obtain ⟨b, hb, rfl⟩ := Option.map_eq_some_iff.1 ha
            exact HNE.out (by omega) b hb (by rw [← addBlock b n]; exact h))
        · exact fun h => absurd h (by rw [List.length_drop]; have := HX.out; omega)
      have HBp := Lib.hid hbp
      clear hbp hk1
      by_cases hf : r + n < 32
      · have hdf : decide ((r : Int) + (n : Int) < 32) = true := decide_eq_true (by omega)
        have HH : Hid (Holds W1 g s all) := Lib.hid (by
          obtain ⟨e1, e2⟩ := HPS.out (by have := HN3.out; omega)
          refine ⟨_, ?_, e1⟩
          rw [e2, HAL.out]
          exact HS2.out)
        go_wp2_with fail
        all_goals
          go_ret
          exact ⟨rfl, HH.out, HK2.out⟩
      · have hdf : decide ((r : Int) + (n : Int) < 32) = false := decide_eq_false (by omega)
        obtain ⟨e1, e2⟩ := HPF.out (by omega)
        obtain ⟨P, hP⟩ : ∃ P, P = ps.take r ++ ys.take n ++ ps.drop (r + n) := ⟨_, rfl⟩
        rw [← hP] at e1 HS2
        have HT := Lib.hid (take_wide g s v P ((L : Int) + (N : Int)) (some ⟨g, 5, none⟩) 32 32 P W1 HS2.out HV0.out HS2.out.1.symm (Nat.le_refl _) (Nat.le_refl _) (by decide) HS2.out.2.1 HS2.out.bytes (fun a ha i j _ hj => part_apart g a ha i j hj))
        have HE1 := Lib.hid e1
        have HE2 := Lib.hid e2
        clear e1 e2 hP
        go_wp2_with fail
        all_goals
          refine HT.out.mono ?_
          rintro e w2 ⟨rfl, hst2, hk2⟩
          have HS3 := Lib.hid hst2
          have HK3 := Lib.hid hk2
          clear hst2 hk2
          go_wp2_with fail
          go_meet
          case rel =>
            refine ⟨kq + 1, _, _, _, P, rfl, by rw [← HE2.out, List.length_drop, HX.out], by omega, by omega, ?_, ?_, ?_, ?_, ?_, HK2.out.trans HK3.out⟩
            · intro hq
              have h0 := HN0.out (by simpa using hq)
              omega
            · have h2 : (all.length : Int) = L + N := HAL.out
              have := HLR.out
              omega
            · rw [← HE2.out]
              refine Bytes8.keepPos (HBp.out _ (fun h => by first | rfl | omega)) HK3.out ?_
              intro h a ha hj
              have h0N : 0 < N := by rw [List.length_drop] at h; have := HX.out; omega
              first
                | exact HNE.out h0N a ha hj
                | (obtain ⟨b, hb, rfl⟩ := Option.map_eq_some_iff.1 ha
                   exact HNE.out h0N b hb (by rw [← addBlock b n]; exact hj))
            · intro h a ha
              have h0N : 0 < N := by omega
              first
                | exact HNE.out h0N a ha
                | (obtain ⟨b, hb, rfl⟩ := Option.map_eq_some_iff.1 ha
                   rw [addBlock]
                   exact HNE.out h0N b hb)
            · rw [HAL.out, ← HE1.out]
              exact HS3.out
    · have hr00 : r = 0 := by omega
      have HD := Lib.hid (HD0.out hr00)
      have hdn : decide ((0 : Int) < (r : Int)) = false := decide_eq_false (by omega)
      go_wp2_with fail
      go_meet
      case rel =>
        refine ⟨kq, _, _, _, ps, rfl, by rw [HD.out, HX.out], hc, Nat.le_refl _, HN0.out, HKQ.out, by rw [HD.out]; exact HB0.out, HNE.out, ?_, HK1.out⟩
        rw [HW0.out, HAL.out]
        exact HS1.out
  case rest =>
    obtain ⟨k, m, d, q, ps1, rfl, hm, hmd, hdc, hq0, hka, hb1, hqg, hst1, hk1⟩ := hcut
    have HK := Lib.hid hk1
    clear hk1 HS1 HK1 HPS HPF HD0 HW0 HN0 HNE HKQ HST HB
    obtain ⟨W1, rfl⟩ : ∃ W1, W1 = wc := ⟨_, rfl⟩
    obtain ⟨M, hM⟩ : ∃ M, M = all.length := ⟨_, rfl⟩
    have HMM := Lib.hid hM
    rw [← hM] at hka hst1
    clear hM c37 f37 hrem hr31 hr0 hr32 hr32'
    have HH : Hid (Wrote w g s all c (.slice q m d) W1) := Lib.hid ⟨k, m, d, q, ps1, rfl, hm, hmd, hdc, hq0, by rw [← HMM.out]; exact hka, hb1, hqg, by rw [← HMM.out]; exact hst1, HK.out⟩
    clear hm hmd hdc hq0 hka hb1 hqg hst1 HK
    go_wp2_with fail
    go_loopw [1] (fun s1 wr => Wrote w g s all c s1 wr) (fun s1 _ => lenOf s1)
    case atStart => exact HH.out
    case round =>
      clear HH
      obtain ⟨k, m, d, q, ps1, rfl, hm, hmd, hdc, hq0, hka, hb1, hqg, hst1, hk1⟩ := hrel
      have HK := Lib.hid hk1
      have HM := Lib.hid hm
      have HS := Lib.hid hst1
      have HQ0 := Lib.hid hq0
      have HQG := Lib.hid hqg
      have HB := Lib.hid hb1
      have HKA := Lib.hid hka
      obtain ⟨v1, hv1⟩ : ∃ v1, v1 = wnums (wseed s) all k := ⟨_, rfl⟩
      have HV1 : Hid (∀ j, j < 4 → U64 (v1 j)) := Lib.hid (by rw [hv1]; exact fun j hj => HVB.out k j hj)
      have HE1 := Lib.hid hv1
      clear hk1 hm hst1 hq0 hqg hb1 hka hv1
      by_cases h32 : 32 ≤ m
      · have hdm : decide ((32 : Int) ≤ (m : Int)) = true := decide_eq_true (by omega)
        have HT := Lib.hid (take_wide g s v1 ps1 (all.length : Int) q m d (all.drop (32 * k)) wr (by rw [HE1.out]; exact HS.out) HV1.out HM.out h32 hmd (by omega) (HAO.out.drop _) HB.out (fun a ha i j hi _ => block_apart (HQG.out (by omega)) a ha i j))
        have hnx : wtaken v1 (all.drop (32 * k)) 4 = wnums (wseed s) all (k + 1) := by rw [HE1.out]; rfl
        rw [hnx] at HT
        clear hnx
        have hm32 : (32 : Int) ≤ (m : Int) := by omega
        have hd32 : (32 : Int) ≤ (d : Int) := by omega
        go_wp2_with fail
        refine HT.out.mono ?_
        rintro e w2 ⟨rfl, hst2, hk2⟩
        have HS3 := Lib.hid hst2
        have HK3 := Lib.hid hk2
        have HB3 := Lib.hid (HB.out.keepPos hk2 (fun h a ha hj => HQG.out (by omega) a ha hj))
        clear hst2 hk2
        go_wp2_with fail
        refine ⟨⟨k + 1, m - 32, _, _, ps1, rfl, ?_, by omega, by omega, ?_, ?_, ?_, ?_, HS3.out, HK.out.trans HK3.out⟩, ?_⟩
        · have := HM.out
          rw [List.length_drop] at this ⊢
          omega
        · intro hq
          have h0 := HQ0.out (by
            revert hq
            split
            · exact id
            · simp)
          omega
        · have := HM.out
          rw [List.length_drop] at this
          omega
        · have hbk := (HB3.out.piece (q := if d = 32 then q else Option.map (fun x => { block := x.block, off := x.off + 32 }) q) 32 (m - 32) (by have := HM.out; omega) (fun h => by rw [if_neg (by omega)]; cases q <;> simp [Addr.add]))
          rw [List.take_of_length_le (by rw [List.length_drop]; have := HM.out; omega), List.drop_drop] at hbk
          exact hbk
        · intro h a ha
          revert ha
          split
          · exact HQG.out (by omega) a
          · intro ha
            obtain ⟨b, hb, rfl⟩ := Option.map_eq_some_iff.1 ha
            exact HQG.out (by omega) b hb
        · show m - 32 < m
          omega
      · have hdm : decide ((32 : Int) ≤ (m : Int)) = false := decide_eq_false (by omega)
        obtain ⟨W2, hcp, hst2, hk2⟩ := copy_part (v := v1) (by rw [HE1.out]; exact HS.out) 0 32 5 rfl (by omega) q m d (all.drop (32 * k)) HM.out HQ0.out HB.out (HAO.out.drop _)
        obtain ⟨e1, e2⟩ := part_end all ps1 k m HM.out HKA.out (by omega)
        have HH : Hid (Holds W2 g s all) := Lib.hid ⟨_, by rw [← e2, ← HE1.out]; exact hst2, e1⟩
        have HKZ := Lib.hid (HK.out.trans hk2)
        clear hst2 hk2 e1 e2
        go_wp2_with fail
        go_ret
        exact ⟨rfl, HH.out, HKZ.out⟩
end Go.Proofs.Ytbchiccgkhnkaaa

/-
  The walk of the law TableFinds.
-/
import Derived.Test.YtbchiccgkhnkaaaTabLaws
import Derived.Test.YtbchiccgkhnkaaaWideRefSum
import Derived.Test.YtbchiccgkhnkaaaElRow
namespace Go.Proofs.Ytbchiccgkhnkaaa
open Go.RowKit

theorem infoU64 : (Try.prog.info? 26).map (fun i => (i.zero, i.size, i.bytes)) = some (some (.int .u64 0), 1, 8) := by kernel_rfl
def numV (x : Nat) : Value := .int .u64 (x : Int)
/-- A row of numbers of one's own so far. -/
def NumsSoFar (w0 : World) (l : List Nat) (v : Value) (wr : World) : Prop := wr.ownsRow w0.heap.size 26 1 v l.length (l.map numV) ∧ Below w0.heap.size w0 wr
theorem NumsSoFar.keep {w0 wr w' : World} {l : List Nat} {v : Value} (h : NumsSoFar w0 l v wr) (hk : Keeps NoBlock wr w') : NumsSoFar w0 l v w' :=
  ⟨own_keep h.1 hk (fun _ _ h => h), h.2.trans (hk.below h.2.size (fun _ _ h => h))⟩
theorem NumsSoFar.alloc {w0 wr : World} {l : List Nat} {v : Value} (h : NumsSoFar w0 l v wr) (o : Obj) : NumsSoFar w0 l v (wr.alloc o) := ⟨World.ownsRow.alloc h.1 o, h.2.alloc h.2.size o⟩

/-- A row of numbers, as an append asks for it. -/
theorem own_nums {w0 w : World} {l : List Nat} {v : Value} (h : w.ownsRow w0.heap.size 26 1 v l.length (l.map numV)) : ∃ q m d, v = .slice q m d ∧ (q = none → m = 0 ∧ d = 0) ∧ m = l.length ∧ ∀ ad, q = some ad → ∀ j u, (l.map numV)[j]? = some u → w.cell? (ad.add j) = some u := by
  have h' := h
  rcases h with ⟨_, ⟨rfl, e⟩ | ⟨g, cap, cur, rfl, _⟩⟩
  · exact ⟨none, 0, 0, rfl, fun _ => ⟨rfl, rfl⟩, e.symm, fun ad h => by simp at h⟩
  · exact ⟨_, _, cap, rfl, fun h => by simp at h, rfl, fun ad had j u hu => by obtain rfl := Option.some.inj had; exact h'.cells (g := g) rfl j u hu⟩

set_option maxHeartbeats 4000000 in
set_option maxRecDepth 10000 in
theorem hashes_go (p : Option Addr) (n c : Nat) (l : List En) (hn : n = l.length) (hn9 : n ≤ 1000000) (w : World) (hl : EnsAt w p l) :
    Calls Try.prog 25 #[.slice p n c] w fun e w' => ∃ v, e = .returned v ∧ NumsSoFar w (l.map En.hash) v w' := by
  obtain ⟨i0, hi, hz0, hz1, hz2⟩ := info_parts infoU64
  have HL := Lib.hid hl
  have HN := Lib.hid hn
  clear hl hn
  go_enter Try.func25, Try.ntmps25
  go_wp2_with fail
  go_loopw [3, 8] (fun v i wr => ∃ j : Nat, j ≤ n ∧ i = .int .i64 (j : Int) ∧ Hid (NumsSoFar w ((l.take j).map En.hash) v wr)) (fun _ i _ => n - (intOf i).toNat)
  case atStart => exact ⟨0, Nat.zero_le _, rfl, Lib.hid ⟨World.ownsRow_nil _ _ _ _, Below.refl _ _⟩⟩
  case round =>
    obtain ⟨j, hj, rfl, HS⟩ := hrel
    by_cases hlt : j < n
    · have hdj : decide ((j : Int) < (n : Int)) = true := decide_eq_true (by omega)
      have hjl : j < l.length := by rw [← HN.out]; exact hlt
      obtain ⟨a, rfl, c0, c1⟩ := (HL.out.keep (Keeps.ofBelow HS.out.2)).at_ j hjl
      have HT : Hid ((l.take j).map En.hash ++ [(l.getD j En.none).hash] = (l.take (j + 1)).map En.hash) := Lib.hid (by rw [take_getD hjl, List.map_append]; rfl)
      have hlen : ((l.take j).map En.hash).length ≤ 1000000 := by rw [List.length_map, List.length_take]; omega
      obtain ⟨r, hr⟩ : ∃ r, r = l.getD j En.none := ⟨_, rfl⟩
      rw [← hr] at c0 c1 HT
      obtain ⟨K, hK⟩ : ∃ K, K = (l.take j).map En.hash := ⟨_, rfl⟩
      rw [← hK] at HS HT hlen
      have HLn := Lib.hid hlen
      have HS2 := Lib.hid ((HS.out.alloc (.cells #[.int .u64 (r.hash : Int), .int .u32 (r.at_ : Int)] 29)).alloc (.cells #[.int .u64 (r.hash : Int)] 26))
      have HW : Hid (Whole ((wr.alloc (.cells #[.int .u64 (r.hash : Int), .int .u32 (r.at_ : Int)] 29)).alloc (.cells #[.int .u64 (r.hash : Int)] 26)) (wr.heap.size + 1) 26 #[.int .u64 (r.hash : Int)]) := Lib.hid (Whole.newAt _ _ _ _ (by simp))
      clear hr hjl hlen hK
      go_wp2_with (at_builtin; refine wpList_append_any rfl _ _ 56 rfl w.heap.size 26 i0 (.int .u64 0) 1 8 Try.underlying56 hi hz0 hz1 hz2 rfl (by decide) _ K.length (K.map numV) rfl HS2.out.1 (some ⟨wr.heap.size + 1, 0, none⟩) 1 1 [numV r.hash] rfl (fun h => by simp at h) rfl ?qc1 (by intro u hu; simp at hu; subst hu; rfl) (by have := HLn.out; unfold maxLen; omega) (by have := HLn.out; omega) HS2.out.2.size ?_)
      case qc1 =>
        intro ad had j' u hu
        obtain rfl := Option.some.inj had
        rw [Addr.add_lit, Nat.zero_add]
        match j', hu with
        | 0, hu => obtain rfl := Option.some.inj hu; exact HW.out.cell 0 rfl
        | k + 1, hu => simp at hu
      intro v' w5 h5 hb5
      have HS5 : Hid (NumsSoFar w ((l.take (j + 1)).map En.hash) v' w5) := Lib.hid (by
        refine ⟨?_, HS2.out.2.trans hb5⟩
        rw [← HT.out, List.map_append, List.length_append]
        exact h5)
      clear h5 hb5
      go_wp2_with fail
      exact ⟨⟨j + 1, by omega, by go_num, HS5⟩, by simp [intOf]; omega⟩
    · have hdj : decide ((j : Int) < (n : Int)) = false := decide_eq_false (by omega)
      have HS2 := HS
      rw [List.take_of_length_le (by have := HN.out; omega)] at HS2
      go_wp2_with fail
      go_ret
      exact ⟨_, rfl, HS2.out⟩

theorem Keeps.ofBelowAt5 {B : Nat} {a b : World} (h : Below B a b) : Keeps (fun k => B ≤ k) a b := ⟨h.os, h.tape, h.output, h.size, fun k _ hn => h.block k (by omega)⟩
/-- A row that was there ahead of B stays behind what turns blocks from B on alone. -/
theorem TwosAt.keepBlk {α : Type} {v0 v1 : α → Value} {dd : α} {w0 w w' : World} {p : Option Addr} {l : List α} (h : TwosAt v0 v1 dd w p l) (hk : Keeps (fun k => w0.heap.size ≤ k) w w') (h0 : TwosAt v0 v1 dd w0 p l) : TwosAt v0 v1 dd w' p l := fun i hi => by
  obtain ⟨a, rfl, c0, c1⟩ := h i hi
  obtain ⟨a', ha', d0, d1⟩ := h0 i hi
  obtain rfl := Option.some.inj ha'
  have l0 := ltOfCell d0
  have l1 := ltOfCell d1
  exact ⟨a, rfl, hk.cell c0 (by omega), hk.cell c1 (by simp at l1 ⊢; omega)⟩

theorem getD_mem {l : List Nat} {j : Nat} (h : j < l.length) : l.getD j 0 ∈ l := by simp [h]

set_option maxHeartbeats 8000000 in
set_option maxRecDepth 10000 in
theorem tabfinds_walk (H : SortOk) (HFd : FindOk) (HHo : HashOk) (p : Option Addr) (n c : Nat) (l : List En) (hash : Nat) (xs : List Int) (w : World) (h : InE w p n c l) (hh : hash < 18446744073709551616) (ho : Octets xs) (hl9 : xs.length ≤ 9223372036854775807) :
    Calls Try.prog 6 #[.slice p n c, .int .u64 (hash : Int), .string (strOfNums xs)] w fun e w' => e = .returned (.bool true) ∧ Keeps NoBlock w w' := by
  have HL := Lib.hid (fun w => lives11_true H w)
  have hsz := str_size xs
  obtain ⟨X, hX⟩ : ∃ X, X = xs.length := ⟨_, rfl⟩
  rw [← hX] at hsz hl9
  by_cases hn : n ≤ 60 ∧ X ≤ 300
  rotate_left
  · by_cases hn1 : n ≤ 60
    · have hd : decide ((60 : Int) < (n : Int)) = false := decide_eq_false (by omega)
      have hd2 : decide (60 < n) = false := decide_eq_false (by omega)
      have hd3 : decide ((300 : Int) < (X : Int)) = true := decide_eq_true (by omega)
      have hd4 : decide (300 < X) = true := decide_eq_true (by omega)
      have hn2 : ¬ 60 < n := by omega
      have hn3 : 300 < X := by omega
      clear h H HFd HHo hn hn1 hX ho hh
      go_enter Try.func6, Try.ntmps6
      go_wp2_with fail
      refine (HL.out _).mono ?_
      rintro e w1 ⟨rfl, hk⟩
      have HK := Lib.hid hk
      clear hk
      go_wp2_with fail
      refine (HL.out _).mono ?_
      rintro e w2 ⟨rfl, hk⟩
      have HK := Lib.hid (HK.out.trans hk)
      clear hk
      go_wp2_with fail
      go_ret
      exact ⟨rfl, HK.out⟩
    · have hd : decide ((60 : Int) < (n : Int)) = true := decide_eq_true (by omega)
      have hd2 : decide (60 < n) = true := decide_eq_true (by omega)
      have hn2 : 60 < n := by omega
      clear h H HFd HHo hn hn1 hX ho hh
      go_enter Try.func6, Try.ntmps6
      go_wp2_with fail
      refine (HL.out _).mono ?_
      rintro e w1 ⟨rfl, hk⟩
      have HK := Lib.hid hk
      clear hk
      go_wp2_with fail
      refine (HL.out _).mono ?_
      rintro e w2 ⟨rfl, hk⟩
      have HK := Lib.hid (HK.out.trans hk)
      clear hk
      go_wp2_with fail
      go_ret
      exact ⟨rfl, HK.out⟩
  obtain ⟨hn, hx3⟩ := hn
  have hd : decide ((60 : Int) < (n : Int)) = false := decide_eq_false (by omega)
  have hd2 : decide (60 < n) = false := decide_eq_false (by omega)
  have hd3 : decide ((300 : Int) < (X : Int)) = false := decide_eq_false (by omega)
  have hd4 : decide (300 < X) = false := decide_eq_false (by omega)
  have hn2 : ¬ 60 < n := by omega
  have hn3 : ¬ 300 < X := by omega
  obtain ⟨i0, hi, hz0, hz1, hz2⟩ := info_parts infoU64
  have HLn := Lib.hid h.len
  have HFine := Lib.hid h.fine
  have HAt := Lib.hid h.at_
  have hsl := sortE_len l
  rw [← h.len] at hsl
  obtain ⟨M, hM⟩ : ∃ M, M = (sortE l).length := ⟨_, rfl⟩
  rw [← hM] at hsl
  have HMl := Lib.hid hM
  have hm60 : M ≤ 60 := by omega
  have HSo := Lib.hid (fun w h => H.sorted p n c l w h (by omega))
  have HIn := Lib.hid (fun w (ha : EnsAt w p l) => (show InE w p n c l from ⟨h.len, h.cap, h.room, h.bare, h.fine, ha⟩))
  have HFn := Lib.hid (fun q d x w (hx : x < 18446744073709551616) h => HFd.find q M d (sortE l) x w h (by omega) (sortE_rises l) hx)
  have HHs := Lib.hid (fun w => HHo.hash xs w ho (by omega))
  have HWs := Lib.hid (fun w => wsum_ref 0 xs (by constructor <;> decide) ho (by omega) w)
  have HRef := Lib.hid (fun q d w h => refs_go q M d (sortE l) HMl.out (by omega) w h)
  have HFr := Lib.hid (fun q d x w h => find11_ref q M d (sortE l) x HMl.out (by omega) w h)
  have HHa := Lib.hid (fun w h => hashes_go p n c l HLn.out (by omega) w h)
  have HFs := Lib.hid (sortE_fine HFine.out)
  obtain ⟨S, hS⟩ : ∃ S, S = wxxh 0 xs := ⟨_, rfl⟩
  rw [← hS] at HHs HWs
  obtain ⟨U, hU⟩ : ∃ U : Nat, U = 18446744073709551615 := ⟨_, rfl⟩
  have hUi : (18446744073709551615 : Int) = (U : Int) := by omega
  have hU9 : U < 18446744073709551616 := by omega
  have HUi := Lib.hid hUi
  clear hU hUi
  have HNums : Hid (∀ x ∈ [hash, 0, U] ++ l.map En.hash, x < 18446744073709551616) := Lib.hid (by
    intro x hx
    rcases List.mem_append.1 hx with hx | hx
    · simp only [List.mem_cons, List.not_mem_nil, or_false] at hx
      rcases hx with rfl | rfl | rfl
      · exact hh
      · decide
      · exact hU9
    · obtain ⟨e, he, rfl⟩ := List.mem_map.1 hx
      exact (HFine.out e he).hash)
  have HNl : Hid (([hash, 0, U] ++ l.map En.hash).length = n + 3) := Lib.hid (by rw [List.length_append, List.length_map, ← HLn.out]; simp; omega)
  have hhl : (l.map En.hash).length = n := by rw [List.length_map, ← HLn.out]
  obtain ⟨Hs, hHs⟩ : ∃ Hs, Hs = l.map En.hash := ⟨_, rfl⟩
  rw [← hHs] at HHa HNums HNl hhl
  have HHl := Lib.hid hhl
  clear h H HFd HHo hM hsl hn hX hS ho hh hHs hhl
  go_enter Try.func6, Try.ntmps6
  go_wp2_with fail
  refine (HL.out _).mono ?_
  rintro e w1 ⟨rfl, hk⟩
  have HAt := Lib.hid (EnsAt.keep HAt.out hk)
  have HK := Lib.hid hk
  clear hk HL
  go_wp2_with fail
  refine (HSo.out _ (HIn.out _ HAt.out)).mono ?_
  rintro e w2 ⟨v, rfl, q2, m2, d2, rfl, hm, hmd, hdd, hq, hat, hk⟩
  have hme : M = m2 := by rw [hm, ← HMl.out]
  subst hme
  have HAt := Lib.hid (EnsAt.keep HAt.out hk)
  have HS2 := Lib.hid (show EnsAt w2 q2 (sortE l) from hat)
  have HSd := Lib.hid (show M ≤ d2 ∧ d2 ≤ 9223372036854775807 ∧ (q2 = none → M = 0 ∧ d2 = 0) from ⟨hmd, hdd, hq⟩)
  have HK := Lib.hid (HK.out.trans hk)
  clear hm hmd hdd hq hat hk
  have hka : Keeps NoBlock w2 (w2.alloc (.cells #[.int .u64 (hash : Int), .int .u64 0, .int .u64 18446744073709551615] 26)) := (Keeps.refl NoBlock w2).alloc _
  have HAt3 := Lib.hid (EnsAt.keep HAt.out hka)
  have HS3 := Lib.hid (EnsAt.keep HS2.out hka)
  have HK3 := Lib.hid (HK.out.trans hka)
  have HN3 : Hid (NumsSoFar w2 [hash, 0, U] (.slice (some ⟨w2.heap.size, 0, none⟩) 3 3) (w2.alloc (.cells #[.int .u64 (hash : Int), .int .u64 0, .int .u64 18446744073709551615] 26))) := Lib.hid ⟨⟨by simp, .inr ⟨w2.heap.size, 3, _, rfl, Nat.le_refl _, heap_alloc_new w2 _, Nat.le_refl _, by decide, by simp, by simp [numV, HUi.out]⟩⟩, (Below.refl _ w2).alloc (Nat.le_refl _) _⟩
  clear hka
  go_wp2_with fail
  refine (HHa.out _ HAt3.out).mono ?_
  rintro e w4 ⟨v4, rfl, hn4, hb4⟩
  have hk4 : Keeps NoBlock _ w4 := Keeps.ofBelow hb4
  have HS4 := Lib.hid (EnsAt.keep HS3.out hk4)
  have HK4 := Lib.hid (HK3.out.trans hk4)
  have HN4 := Lib.hid (HN3.out.keep hk4)
  obtain ⟨q4, m4, d4, rfl, hbare4, hm4, hcell4⟩ := own_nums hn4
  have HC4 := Lib.hid hcell4
  have hm4n : n = m4 := by rw [hm4, HHl.out]
  subst hm4n
  have HB4 := Lib.hid hbare4
  clear hk4 hn4 hb4 hcell4 hm4 hbare4
  go_wp2_with (at_builtin; refine wpList_append_any rfl _ _ 56 rfl w2.heap.size 26 i0 (.int .u64 0) 1 8 Try.underlying56 hi hz0 hz1 hz2 rfl (by decide) _ 3 ([hash, 0, U].map numV) rfl HN4.out.1 q4 n d4 (Hs.map numV) rfl HB4.out (by rw [List.length_map, HHl.out, Nat.mul_one]) HC4.out (by intro u hu; obtain ⟨x, _, rfl⟩ := List.mem_map.1 hu; rfl) (by unfold maxLen; omega) (by omega) HN4.out.2.size ?_)
  intro v5 w5 h5 hb5
  have hbk : Keeps NoBlock w5 w5 := Keeps.refl _ _
  have hS5 : EnsAt w5 q2 (sortE l) := by
    have hkk : Keeps (fun i => w2.heap.size ≤ i) w4 w5 := Keeps.ofBelowAt5 hb5
    exact TwosAt.keepBlk (show TwosAt enH enA En.none w4 q2 (sortE l) from HS4.out) hkk HS2.out
  have HS5 := Lib.hid hS5
  have HK5 := Lib.hid (HK.out.then (Keeps.ofBelowAt5 (HN4.out.2.trans hb5)) (fun i hi h => by have := HK.out.size; omega))
  obtain ⟨q5, m5, d5, rfl, hbare5, hm5, hcell5⟩ := own_nums (w0 := w2) (l := [hash, 0, U] ++ Hs) (by rw [HNl.out, List.map_append, Nat.add_comm n 3]; exact h5)
  have hm5n : m5 = n + 3 := by rw [hm5, HNl.out]
  obtain ⟨ad, rfl⟩ : ∃ ad, q5 = some ad := by
    cases q5 with
    | none => have := (hbare5 rfl).1; omega
    | some ad => exact ⟨ad, rfl⟩
  have HC5 := Lib.hid (hcell5 ad rfl)
  obtain ⟨N, hN⟩ : ∃ N, N = n + 3 := ⟨_, rfl⟩
  rw [← hN] at hm5n HNl
  subst hm5n
  have hm63 : m5 ≤ 63 := by omega
  obtain ⟨L, hL⟩ : ∃ L, L = [hash, 0, U] ++ Hs := ⟨_, rfl⟩
  rw [← hL] at HC5 HNums HNl
  clear h5 hb5 hbk hS5 hbare5 hm5 hcell5 hN hL HN4 HC4 HB4 HN3
  go_wp2_with fail
  go_loopw [35] (fun i wr => ∃ j : Nat, j ≤ m5 ∧ i = .int .i64 (j : Int) ∧ Hid (Keeps NoBlock w5 wr)) (fun i _ => m5 - (intOf i).toNat)
  case atStart => exact ⟨0, Nat.zero_le _, rfl, Lib.hid (Keeps.refl _ _)⟩
  case round =>
    obtain ⟨j, hj, rfl, HKr⟩ := hrel
    by_cases hlt : j < m5
    · have hdj : decide (j < m5) = true := decide_eq_true hlt
      have hdj2 : decide ((j : Int) < (m5 : Int)) = true := decide_eq_true (by omega)
      have hjl : j < L.length := by rw [HNl.out]; exact hlt
      have hx := HNums.out _ (getD_mem hjl)
      have hcell := HKr.out.cell (HC5.out j (numV (L.getD j 0)) (by simp [List.getElem?_map, List.getElem?_eq_getElem hjl])) (fun h => h)
      obtain ⟨x, hxd⟩ : ∃ x, x = L.getD j 0 := ⟨_, rfl⟩
      rw [← hxd] at hx hcell
      unfold numV at hcell
      have HFx := Lib.hid (fun q d w h => HFn.out q d x w hx h)
      have HFy := Lib.hid (fun q d w h => HFr.out q d x w h)
      obtain ⟨A, hA⟩ : ∃ A, A = (findE (sortE l) x).1 := ⟨_, rfl⟩
      obtain ⟨B, hB⟩ : ∃ B, B = (findE (sortE l) x).2 := ⟨_, rfl⟩
      rw [← hA, ← hB] at HFx HFy
      have HSr := Lib.hid (EnsAt.keep HS5.out HKr.out)
      clear hxd hA hB hjl
      go_wp2_with fail
      refine (HFx.out q2 d2 _ ⟨HMl.out, HSd.out.1, HSd.out.2.1, HSd.out.2.2, HFs.out, HSr.out⟩).mono ?_
      rintro e w6 ⟨rfl, hk⟩
      have HSr := Lib.hid (EnsAt.keep HSr.out hk)
      have HKr := Lib.hid (HKr.out.trans hk)
      clear hk
      go_wp2_with fail
      refine (HRef.out q2 d2 _ HSr.out).mono ?_
      rintro e w7 ⟨v, rfl, q7, m7, d7, rfl, hm, hmd, hdd, hq, hat, hk⟩
      have hme : M = m7 := by rw [hm, ← HMl.out]
      subst hme
      have HR7 := Lib.hid (show EnsAt w7 q7 (sortE l) from hat)
      have HKr := Lib.hid (HKr.out.trans hk)
      clear hm hmd hdd hq hat hk
      go_wp2_with fail
      refine (HFy.out q7 d7 _ HR7.out).mono ?_
      rintro e w8 ⟨rfl, hk⟩
      have HKr := Lib.hid (HKr.out.trans hk)
      clear hk
      go_wp2_with fail
      exact ⟨⟨j + 1, by omega, by go_num, HKr⟩, by simp [intOf]; omega⟩
    · have hdj : decide (j < m5) = false := decide_eq_false hlt
      have hdj2 : decide ((j : Int) < (m5 : Int)) = false := decide_eq_false (by omega)
      go_wp2_with fail
      refine (HHs.out _).mono ?_
      rintro e w6 ⟨rfl, hk⟩
      have HKr := Lib.hid (HKr.out.trans hk)
      clear hk
      go_wp2_with fail
      refine (HWs.out _).mono ?_
      rintro e w7 ⟨rfl, hk⟩
      have HKr := Lib.hid (HKr.out.trans hk)
      clear hk
      go_wp2_with fail
      go_ret
      exact ⟨by first | rfl | simp, HK5.out.trans HKr.out⟩
end Go.Proofs.Ytbchiccgkhnkaaa

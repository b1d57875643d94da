/-
  Package cobs: Unstuff.
-/
import Derived.Test.YtckebghkilamjaaCobsStuff
import Derived.Test.YtckebghkilamjaaCobsUnNum
namespace Go.Proofs.Ytckebghkilamjaa
open Go.RowKit

theorem NewBytes.ofNil (w w' : World) (h : Keeps NoBlock w w') : NewBytes w [] (.slice none 0 0) w' :=
  ⟨none, 0, 0, rfl, rfl, Nat.le_refl _, by decide, fun _ => ⟨rfl, rfl⟩, Bytes8.nil _ _, h⟩
theorem Copied.fresh {w wx : World} {N : Nat} {xs : List Int} {v : Value} (h : Copied w N xs v wx) (hn : N = xs.length) : NewBytes w xs v wx := by
  have h' := h
  obtain ⟨q, d, rfl, h1, h2, h3⟩ := h.read hn
  refine ⟨q, N, d, rfl, hn, h1, h2, fun hq => ?_, h3, Keeps.ofBelow h'.2⟩
  rcases h'.1.2 with ⟨e, _⟩ | ⟨g, cap, cur, e, _⟩
  · cases e; exact ⟨rfl, rfl⟩
  · subst hq; cases e

theorem news_cells {w : World} {ad : Addr} {xs : List Int} {k : Nat} (hk : k ≤ xs.length) (h : 0 < k → Bytes8 w (some ad) xs) : ∀ j u, ((xs.take k).map (Value.int .u8))[j]? = some u → w.cell? (ad.add j) = some u := by
  intro j u hj
  have hjn : j < (xs.take k).length := by
    have := (List.getElem?_eq_some_iff.1 hj).1
    simpa using this
  rw [List.length_take] at hjn
  obtain ⟨a', ha', hcell⟩ := h (by omega) (by omega)
  obtain rfl := Option.some.inj ha'
  rw [hcell j (by omega)]
  have e : ((xs.take k).map (Value.int .u8))[j]? = some (Value.int .u8 (xs.getD j 0)) := by
    rw [List.getElem?_map, List.getElem?_take, if_pos (by omega), List.getElem?_eq_getElem (by omega)]
    simp [List.getD, List.getElem?_eq_getElem (show j < xs.length by omega)]
  rw [e] at hj
  exact hj
theorem bytes_one (xs : List Int) : ∀ u ∈ xs.map (Value.int .u8), u.oneCell' = true := fun u hu => by
  obtain ⟨x, _, rfl⟩ := List.mem_map.1 hu
  rfl
theorem Copied.more {w wr w3 : World} {N m : Nat} {xs ys : List Int} {v v' : Value} (h : Copied w N xs v wr) (hown : w3.ownsRow w.heap.size 5 1 v' (N + m) (xs.map (Value.int .u8) ++ ys.map (Value.int .u8))) (hgrow : wr.grownBy w3 v.ownBlock) : Copied w (N + m) (xs ++ ys) v' w3 :=
  ⟨by rw [List.map_append]; exact hown, h.2.grown hgrow h.2.size (fun k hk => own_base h.1 hk)⟩

/-- Between two groups. -/
structure UnwAt (w : World) (N : Nat) (xs : List Int) (q : Option Addr) (m d : Nat) (R P : List Int) (a : Nat) (v : Value) (wr : World) : Prop where
  len : m = R.length
  some : R ≠ []
  solid : Solid R
  bytes : Bytes8 w q R
  run : unst xs = urun R P a
  room : P.length + m ≤ N
  row : Copied w P.length P v wr

theorem unst_nought {xs : List Int} (h : 0 ∈ xs) : unst xs = (4, []) := by unfold unst; rw [if_pos h]
theorem unst_nil : unst [] = (2, []) := by decide
theorem nought_some {xs : List Int} (h : 0 ∈ xs) : 0 ≤ nought xs := by unfold nought; rw [if_pos h]; omega
theorem nought_none {xs : List Int} (h : 0 ∉ xs) : nought xs = -1 := by unfold nought; rw [if_neg h]

set_option maxRecDepth 100000 in
set_option maxHeartbeats 2000000 in
theorem unstuff_cobs (p : Option Addr) (N c : Nat) (xs : List Int) (w : World) (hx : N = xs.length) (hc : N ≤ c) (_hc' : c ≤ 9223372036854775807) (hn0 : p = none → N = 0 ∧ c = 0) (ho : Octets xs) (hN : N ≤ 1000000) (hb : Bytes8 w p xs) :
    Calls Try.prog 10 #[.slice p N c] w fun e w' => ∃ v, e = .returned (.tuple #[v, .int .i64 (unst xs).1]) ∧ NewBytes w (unst xs).2 v w' := by
  obtain ⟨i0, hi, hy0, hy1, hy2⟩ := info_parts infoByte
  have HI := Lib.hid (index_cobs p N c xs w hx ho hb (fun h => (hn0 h).1))
  by_cases h0 : 0 ∈ xs
  · have hz := nought_some h0
    have hd : decide (0 ≤ nought xs) = true := decide_eq_true hz
    rw [unst_nought h0]
    obtain ⟨z, hzz⟩ : ∃ z, z = nought xs := ⟨_, rfl⟩
    rw [← hzz] at HI hd hz
    clear hx ho hb hn0 hzz h0
    go_enter Try.func10, Try.ntmps10
    go_wp2_with fail
    refine HI.out.mono ?_
    rintro e w1 ⟨rfl, rfl⟩
    go_wp2_with fail
    refine bodyPost_ret (results_tmp2 rfl _ _ _) rfl ?_
    exact ⟨_, rfl, NewBytes.ofNil _ _ (Keeps.refl _ _)⟩
  · rw [nought_none h0] at HI
    have hd : decide (0 ≤ (-1 : Int)) = false := by decide
    by_cases hxs : xs = []
    · subst hxs
      obtain rfl : N = 0 := by simpa using hx
      rw [unst_nil]
      clear hx ho hb hn0
      go_enter Try.func10, Try.ntmps10
      go_wp2_with fail
      refine HI.out.mono ?_
      rintro e w1 ⟨rfl, rfl⟩
      go_wp2_with fail
      refine bodyPost_ret (results_tmp2 rfl _ _ _) rfl ?_
      exact ⟨_, rfl, NewBytes.ofNil _ _ (Keeps.refl _ _)⟩
    · have hN1 : 0 < N := by rw [hx]; exact List.length_pos_iff.2 hxs
      have hsol : Solid xs := fun b hb => by
        have := ho b hb
        have : b ≠ 0 := fun e => h0 (e ▸ hb)
        omega
      have HST : Hid (∀ v wr, Copied w 0 [] v wr → UnwAt w N xs p N c xs [] 0 v wr) := Lib.hid (fun v wr h => ⟨hx, hxs, hsol, hb, unst_urun hsol hxs, by simp, h⟩)
      have hdl : decide ((N : Int) = 0) = false := decide_eq_false (by omega)
      clear hx ho hb hn0 h0 hsol hxs
      go_enter Try.func10, Try.ntmps10
      go_wp2_with fail
      refine HI.out.mono ?_
      rintro e w1 ⟨rfl, rfl⟩
      go_wp2_with (at_make; refine wpList_make_own _ rfl _ _ 22 rfl w1.heap.size 5 i0 (.int .u8 0) 1 Try.underlying22 hi hy0 hy1 .i64 .i64 (N : Int) N rfl rfl rfl (by rw [hy2]; omega) (by unfold maxLen; omega) (Nat.le_refl _) ?_)
      intro w2 hrow hgrow
      have hB2 : Below w1.heap.size w1 w2 := (Below.refl _ w1).grown hgrow (Nat.le_refl _) (fun k hk => by cases hk)
      have HST := Lib.hid (HST.out _ _ ⟨hrow, hB2⟩)
      clear hrow hgrow hB2 HI hd hdl
      go_wp2_with fail
      go_loopw [0, 4, 5] (fun s0 s4 s5 wr => ∃ q m d R P a, s0 = .slice q m d ∧ s5 = .int .i64 ((a : Nat) : Int) ∧ m ≤ d ∧ d ≤ c ∧ UnwAt w1 N xs q m d R P a s4 wr) (fun s0 _ _ _ => sliceLen s0)
      case atStart => exact ⟨p, N, c, xs, [], 0, rfl, rfl, hc, Nat.le_refl _, HST.out⟩
      case round =>
        clear HST
        obtain ⟨q, m, d, R, P, a, rfl, rfl, hmd, hdc, hu⟩ := hrel
        obtain ⟨n0, r, rfl⟩ := List.exists_cons_of_ne_nil hu.some
        have hn0 := hu.solid n0 List.mem_cons_self
        obtain ⟨L, hL⟩ : ∃ L, L = r.length := ⟨_, rfl⟩
        obtain rfl : m = L + 1 := by rw [hL]; simpa using hu.len
        obtain ⟨ad, rfl, hcs⟩ := hu.bytes (by simp)
        have hbr : Bytes8 wr (some ad) (n0 :: r) := hu.bytes.below hu.row.2
        have hc0 : wr.cell? ad = some (.int .u8 n0) := by
          obtain ⟨a', ha', h3⟩ := hbr (by simp)
          obtain rfl := Option.some.inj ha'
          simpa [Addr.add] using h3 0 (by simp)
        have HB1 : Hid (∀ (ad1 : Addr) (k : Nat), k ≤ L → (0 < k → ad1 = ad.add 1) → 0 < k → Bytes8 wr (some ad1) r) := Lib.hid (fun ad1 k hkL h1 h2 => by
          have := tail_bytes (q' := some ad1) hbr rfl 1 (by simp) (fun _ => by rw [h1 h2]; rfl)
          simpa using this)
        obtain ⟨k, hk⟩ : ∃ k, k = n0.toNat - 1 := ⟨_, rfl⟩
        have hkn : n0 - 1 = (k : Int) := by omega
        have hk254 : k ≤ 254 := by omega
        have hrun : unst xs = if L + 1 < k + 1 then (2, []) else if r.drop k = [] then (if k = 0 ∧ a = 254 then (4, []) else (0, P ++ r.take k)) else urun (r.drop k) (P ++ r.take k ++ (if k < 254 then [0] else [])) k := by
          rw [hu.run, urun, ← hk, ← hL, show n0.toNat = k + 1 by omega]
        have HRUN := Lib.hid hrun
        have HROW := Lib.hid hu.row
        have hroom := hu.room
        have HR0 : Hid (Solid r) := Lib.hid (fun b hb => hu.solid b (List.mem_cons_of_mem _ hb))
        have HBW := Lib.hid hu.bytes
        have HK := Lib.hid hk
        have HL := Lib.hid hL
        have hd1 : 1 ≤ d := by omega
        have HD1 : Hid (d = 1 → L = 0) := Lib.hid (fun h => by omega)
        clear hu hk hcs hbr hrun hL
        by_cases hlong : L < k
        · have hdk : decide ((L : Int) < (k : Int)) = true := decide_eq_true (by omega)
          have e := HRUN.out
          rw [if_pos (by omega)] at e
          have HE := Lib.hid e
          clear e
          go_wp2_with fail
          all_goals
            refine bodyPost_ret (results_tmp2 rfl _ _ _) rfl ?_
            rw [HE.out]
            exact ⟨_, rfl, NewBytes.ofNil _ _ (Keeps.ofBelow HROW.out.2)⟩
        · have hdk : decide ((L : Int) < (k : Int)) = false := decide_eq_false (by omega)
          have hkd : (k : Int) ≤ ((d - 1 : Nat) : Int) := by omega
          have hkL : k ≤ L := by omega
          by_cases hd : d = 1
          · subst hd
            obtain rfl : L = 0 := by omega
            obtain rfl : k = 0 := by omega
            have e := HRUN.out
            have hr0 : r = [] := List.length_eq_zero_iff.1 HL.out.symm
            rw [if_neg (by omega), List.drop_zero, if_pos hr0, List.take_zero, List.append_nil] at e
            go_wp2_with (at_builtin; refine wpList_append_own _ rfl _ _ 22 rfl w1.heap.size 5 i0 (.int .u8 0) 1 1 Try.underlying22 hi hy0 hy1 hy2 rfl (by decide) _ _ _ rfl HROW.out.1 ad 0 _ [] rfl rfl (fun j u hj => by simp at hj) (fun u hu => by simp at hu) (by unfold maxLen; omega) (by omega) HROW.out.2.size ?_)
            intro v' w3 hown hgrow _
            have HC : Hid (Copied w1 P.length P v' w3) := Lib.hid (by have := HROW.out.more (m := 0) (ys := []) (by simpa using hown) hgrow; simpa using this)
            clear hown hgrow
            by_cases hF : a = 254
            · rw [if_pos ⟨by simp, hF⟩] at e
              have HE := Lib.hid e
              clear e
              subst hF
              go_wp2_with fail
              refine bodyPost_ret (results_tmp2 rfl _ _ _) rfl ?_
              rw [HE.out]
              exact ⟨_, rfl, NewBytes.ofNil _ _ (Keeps.ofBelow HC.out.2)⟩
            · rw [if_neg (fun h => hF h.2)] at e
              have HE := Lib.hid e
              have hda : decide ((a : Int) = 254) = false := decide_eq_false (by omega)
              clear e
              go_wp2_with fail
              refine bodyPost_ret (results_tmp2 rfl _ _ _) rfl ?_
              rw [HE.out]
              exact ⟨_, rfl, HC.out.fresh rfl⟩
          · by_cases hA : L = k
            · have hd0 : r.drop k = [] := List.drop_eq_nil_iff.2 (by have := HL.out; omega)
              have ht0 : r.take k = r := List.take_of_length_le (by have := HL.out; omega)
              have e := HRUN.out
              rw [if_neg (by omega), if_pos hd0, ht0] at e
              subst hA
              go_wp2_with (at_builtin; refine wpList_append_own _ rfl _ _ 22 rfl w1.heap.size 5 i0 (.int .u8 0) 1 1 Try.underlying22 hi hy0 hy1 hy2 rfl (by decide) _ _ _ rfl HROW.out.1 _ L _ ((r.take L).map (Value.int .u8)) rfl (by have := HL.out; simp; omega) (news_cells (by have := HL.out; omega) (HB1.out _ L (by omega) (by intro h; first | (exfalso; omega) | simp [Addr.add]))) (bytes_one _) (by unfold maxLen; omega) (by omega) HROW.out.2.size ?_)
              intro v' w3 hown hgrow _
              have HC := Lib.hid (HROW.out.more hown hgrow)
              clear hown hgrow
              by_cases hF : L = 0 ∧ a = 254
              · rw [if_pos hF] at e
                have HE := Lib.hid e
                clear e
                obtain ⟨hF1, rfl⟩ := hF
                go_wp2_with fail
                all_goals
                  refine bodyPost_ret (results_tmp2 rfl _ _ _) rfl ?_
                  rw [HE.out]
                  exact ⟨_, rfl, NewBytes.ofNil _ _ (Keeps.ofBelow HC.out.2)⟩
              · rw [if_neg hF] at e
                have HE := Lib.hid e
                clear e
                have hrl : P.length + L = (P ++ r).length := by rw [List.length_append, HL.out]
                by_cases hL0 : L = 0
                · have hda : decide ((a : Int) = 254) = false := decide_eq_false (by omega)
                  go_wp2_with fail
                  all_goals
                    refine bodyPost_ret (results_tmp2 rfl _ _ _) rfl ?_
                    rw [HE.out]
                    have h := HC.out
                    rw [hrl] at h
                    exact ⟨_, rfl, h.fresh rfl⟩
                · have hda : decide ((L : Int) = 0) = false := decide_eq_false (by omega)
                  go_wp2_with fail
                  all_goals
                    refine bodyPost_ret (results_tmp2 rfl _ _ _) rfl ?_
                    rw [HE.out]
                    have h := HC.out
                    rw [hrl] at h
                    exact ⟨_, rfl, h.fresh rfl⟩
            · have hlt : k < L := by omega
              have hd0 : r.drop k ≠ [] := fun h => by have := List.drop_eq_nil_iff.1 h; have := HL.out; omega
              have e := HRUN.out
              rw [if_neg (by omega), if_neg hd0] at e
              have HE := Lib.hid e
              have hdl : decide (((L - k : Nat) : Int) = 0) = false := decide_eq_false (by omega)
              have hdk1 : ¬ d - 1 = k := by omega
              have HTL : Hid (P.length + k = (P ++ r.take k).length) := Lib.hid (by rw [List.length_append, List.length_take]; have := HL.out; omega)
              have HNX : Hid (∀ (q : Option Addr) (P' : List Int) (v : Value) (wx : World), q = (some ad).map (·.add (1 + k)) → unst xs = urun (r.drop k) P' k → P'.length ≤ P.length + k + 1 → Copied w1 P'.length P' v wx → UnwAt w1 N xs q (L - k) (d - 1 - k) (r.drop k) P' k v wx) :=
                Lib.hid (fun q P' v wx hq hu hl hcp => ⟨by rw [List.length_drop, HL.out], hd0, fun b hb => HR0.out b (List.mem_of_mem_drop hb), by
                  have := tail_bytes (q' := q) HBW.out rfl (1 + k) (by rw [List.length_cons, ← HL.out]; omega) (fun _ => hq)
                  rw [show (1 + k) = k + 1 by omega, List.drop_succ_cons] at this
                  exact this, hu, by omega, hcp⟩)
              clear e hd0
              by_cases h254 : k < 254
              · have hdc4 : decide ((k : Int) < 254) = true := decide_eq_true (by omega)
                rw [if_pos h254] at HE
                go_wp2_with (at_builtin; refine wpList_append_own _ rfl _ _ 22 rfl w1.heap.size 5 i0 (.int .u8 0) 1 1 Try.underlying22 hi hy0 hy1 hy2 rfl (by decide) _ _ _ rfl HROW.out.1 _ k _ ((r.take k).map (Value.int .u8)) rfl (by have := HL.out; simp; omega) (news_cells (by have := HL.out; omega) (HB1.out _ k (by omega) (by intro h; first | (exfalso; omega) | simp [Addr.add]))) (bytes_one _) (by unfold maxLen; omega) (by omega) HROW.out.2.size ?_)
                intro v' w3 hown hgrow _
                have HC := Lib.hid (HROW.out.more (ys := r.take k) (by rw [List.map_take]; exact hown) hgrow)
                clear hown hgrow
                go_wp2_with (at_builtin; refine wpList_append_own _ rfl _ _ 22 rfl w1.heap.size 5 i0 (.int .u8 0) 1 1 Try.underlying22 hi hy0 hy1 hy2 rfl (by decide) _ _ _ rfl (HC.out.1.alloc _) ⟨w3.heap.size, 0, none⟩ 1 1 [.int .u8 0] rfl rfl (cell_one_new _ _ _) (by simp [Value.oneCell']) (by unfold maxLen; omega) (by omega) (by have := HC.out.2.size; simp; omega) ?_)
                intro v4 w4 hown4 hgrow4 _
                have hbel : Below w1.heap.size w1 w4 := (HC.out.2.alloc HC.out.2.size _).grown hgrow4 (by have := HC.out.2.size; simp; omega) (fun k hk => own_base HC.out.1 hk)
                have HC4 : Hid (Copied w1 (P ++ r.take k ++ [0]).length (P ++ r.take k ++ [0]) v4 w4) := Lib.hid ⟨by
                  rw [List.length_append, ← HTL.out, List.length_singleton, List.map_append, List.map_append, List.map_take]
                  simpa using hown4, hbel⟩
                clear hown4 hgrow4 hbel
                go_wp2_with fail
                exact ⟨⟨_, _, _, r.drop k, P ++ r.take k ++ [0], k, rfl, rfl, by omega, by omega, HNX.out _ _ _ _ (by simp [Addr.add, Nat.add_assoc]) HE.out (by rw [List.length_append, ← HTL.out, List.length_singleton]; omega) HC4.out⟩, by show L - k < L + 1; omega⟩
              · have hdc4 : decide ((k : Int) < 254) = false := decide_eq_false (by omega)
                rw [if_neg h254, List.append_nil] at HE
                go_wp2_with (at_builtin; refine wpList_append_own _ rfl _ _ 22 rfl w1.heap.size 5 i0 (.int .u8 0) 1 1 Try.underlying22 hi hy0 hy1 hy2 rfl (by decide) _ _ _ rfl HROW.out.1 _ k _ ((r.take k).map (Value.int .u8)) rfl (by have := HL.out; simp; omega) (news_cells (by have := HL.out; omega) (HB1.out _ k (by omega) (by intro h; first | (exfalso; omega) | simp [Addr.add]))) (bytes_one _) (by unfold maxLen; omega) (by omega) HROW.out.2.size ?_)
                intro v' w3 hown hgrow _
                have HC := Lib.hid (HROW.out.more (ys := r.take k) (by rw [List.map_take]; exact hown) hgrow)
                clear hown hgrow
                go_wp2_with fail
                exact ⟨⟨_, _, _, r.drop k, P ++ r.take k, k, rfl, rfl, by omega, by omega, HNX.out _ _ _ _ (by simp [Addr.add, Nat.add_assoc]) HE.out (by rw [← HTL.out]; omega) (by rw [← HTL.out]; exact HC.out)⟩, by show L - k < L + 1; omega⟩
end Go.Proofs.Ytckebghkilamjaa

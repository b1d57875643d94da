/-
  The law VarintApart: its walk.
-/
import Derived.Test.YthgpkimnhgjloaaLives2
import Derived.Test.YthgpkimnhgjloaaOpenW
namespace Go.Proofs.Ythgpkimnhgjloaa
open Go.RowKit

theorem strOf_inj {xs ys : List Int} (hx : Octets xs) (hy : Octets ys) (h : strOfNums xs = strOfNums ys) : xs = ys := by
  have e : (strOfNums xs).data.toList = (strOfNums ys).data.toList := by rw [h]
  rw [strOfNums_data, strOfNums_data] at e
  have hm : ∀ {zs : List Int}, Octets zs → (zs.map fun n => UInt8.ofNat n.toNat).map (fun u => ((u.toNat : Nat) : Int)) = zs := fun {zs} hz => by
    rw [List.map_map]
    conv => rhs; rw [← List.map_id zs]
    exact List.map_congr_left fun z hzm => by
      have := hz z hzm
      simp [UInt8.toNat_ofNat']
      omega
  rw [← hm hx, ← hm hy, e]

/-- Whether two rows are alike so far. -/
def alike (l m : List Nat) (k : Nat) : Bool := decide (l.length = m.length ∧ l.take k = m.take k)

theorem alike_zero (l m : List Nat) : alike l m 0 = decide (l.length = m.length) := by simp [alike]
theorem alike_len {l m : List Nat} {k : Nat} (h : alike l m k = true) : l.length = m.length := (of_decide_eq_true h).1
theorem take_succ_nat (xs : List Nat) (k : Nat) (h : k < xs.length) : xs.take (k + 1) = xs.take k ++ [xs.getD k 0] := by
  rw [List.take_succ_eq_append_getElem h]
  simp [h]
theorem alike_succ {l m : List Nat} {k : Nat} (hk : k < l.length) (h : alike l m k = true) : alike l m (k + 1) = decide (l.getD k 0 = m.getD k 0) := by
  obtain ⟨h1, h2⟩ := of_decide_eq_true h
  unfold alike
  rw [take_succ_nat l k hk, take_succ_nat m k (by omega), h2]
  simp [h1]
theorem alike_not {l m : List Nat} {k : Nat} (h : alike l m k = false) : alike l m (k + 1) = false := by
  have h1 := of_decide_eq_false h
  refine decide_eq_false fun hh => h1 ⟨hh.1, ?_⟩
  have := congrArg (List.take k) hh.2
  simpa [List.take_take] using this
theorem alike_all (l m : List Nat) : alike l m l.length = decide (strOfNums (vnums l) = strOfNums (vnums m)) := by
  unfold alike
  congr 1
  apply propext
  constructor
  · rintro ⟨h1, h2⟩
    rw [List.take_of_length_le (Nat.le_refl _), h1, List.take_of_length_le (Nat.le_refl _)] at h2
    rw [h2]
  · intro h
    have e := vnums_inj l m (strOf_inj (vnums_octets l) (vnums_octets m) h)
    rw [e]
    exact ⟨rfl, rfl⟩

theorem text_beq (a b : ByteArray) : (a.toList == b.toList) = decide (a = b) := by
  rw [Bool.eq_iff_iff, beq_iff_eq, decide_eq_true_iff, ByteArray.toList_eq, ByteArray.toList_eq]
  exact ⟨fun h => ByteArray.ext (Array.toList_inj.1 h), fun h => by rw [h]⟩

theorem vnums_take_len {l : List Nat} (h : ∀ x ∈ l, x < 18446744073709551616) (k : Nat) : (vnums (l.take k)).length ≤ 10 * l.length := by
  have h1 := vnums_length (l.take k) (fun x hx => h x (List.mem_of_mem_take hx))
  have h2 : (l.take k).length ≤ l.length := by simp; omega
  omega

theorem bufNewB (w : World) (base : Nat) : BufAt (w.alloc (.cells #[.slice none 0 0] 26)) base w.heap.size [] :=
  ⟨.slice none 0 0, Whole.new _ _ _, by simp, .inl ⟨rfl, by simp⟩⟩

theorem BufAt.keepO {w w' : World} {base g : Nat} {xs : List Int} (h : BufAt w base g xs) {S : Nat → Prop} (hk : Keeps S w w') (hg : ¬ S g) (ho : ∀ j cs, Whole w j 5 cs → base ≤ j → ¬ S j) : BufAt w' base g xs := by
  obtain ⟨v, hv, hown⟩ := h
  refine ⟨v, hv.keep hk hg, hown.1, ?_⟩
  rcases hown.2 with h2 | ⟨j, cap, cur, rfl, hb, hh, r⟩
  · exact .inl h2
  · exact .inr ⟨j, cap, cur, rfl, hb, Whole.keep (show Whole w j 5 cur from hh) hk (ho j cur hh hb), r⟩

theorem BufAt.lower {w : World} {base base' g : Nat} {xs : List Int} (h : BufAt w base g xs) (hb : base' ≤ base) : BufAt w base' g xs := by
  obtain ⟨v, hv, hown⟩ := h
  refine ⟨v, hv, hown.1, ?_⟩
  rcases hown.2 with h2 | ⟨j, cap, cur, rfl, hb2, r⟩
  · exact .inl h2
  · exact .inr ⟨j, cap, cur, rfl, Nat.le_trans hb hb2, r⟩

/-- A text of bytes, also behind a draw. -/
theorem textBoth {q : Option Addr} {n c : Nat} {xs : List Int} {w : World} (hx : n = xs.length) (h : Bytes8 w q xs) : (convert 24 9 (.slice q n c)).run Try.prog w = .ok (.string (strOfNums xs)) w ∧ (convert 24 9 (.slice q n c)).run Try.prog w.drew = .ok (.string (strOfNums xs)) w.drew :=
  ⟨textOf q n c xs w hx h, textOf q n c xs w.drew hx h⟩

theorem bufBytesD (base g : Nat) (xs : List Int) (w : World) (h : BufAt w base g xs) (hx : xs.length ≤ 140737488355328) :
    Calls Try.prog 9 #[.pointer (some ⟨g, 0, none⟩)] w.drew fun e w' => ∃ v, e = .returned v ∧ Fresh8 NoBlock xs.length xs w.drew v w' :=
  bufBytes base g xs w.drew h hx

theorem Keeps.fromDrew {S : Nat → Prop} {a b : World} (h : Keeps S a.drew b) : Keeps S a b := ⟨h.os, h.tape, h.output, h.size, h.block⟩

set_option maxHeartbeats 4000000 in
set_option maxRecDepth 10000 in
theorem apart_small (lp mp : Option Addr) (n lc n' mc : Nat) (l m : List Nat) (w : World) (hn : n = l.length) (hn' : n' = m.length) (hl : RowN w lp l) (hm : RowN w mp m) (bl : ∀ z ∈ l, z < 18446744073709551616) (bm : ∀ z ∈ m, z < 18446744073709551616)
    (g1 : n ≤ 20) (g2 : n' ≤ 20) :
    Calls Try.prog 3 #[.slice lp n lc, .slice mp n' mc] w fun e w' => e = .returned (.bool true) ∧ Keeps NoBlock w w' := by
  have Hn := Lib.hid hn; have Hn' := Lib.hid hn'; have Hl := Lib.hid hl; have Hm := Lib.hid hm; have Bl := Lib.hid bl; have Bm := Lib.hid bm
  have hz : ((n : Int) == (n' : Int)) = alike l m 0 := by
    rw [alike_zero, hn, hn', Bool.eq_iff_iff]
    simp
    omega
  have HZ := Lib.hid hz
  clear hn hn' hl hm bl bm hz
  go_enter Try.func3, Try.ntmps3
  go_wp2_with fail
  refine (lives2_true _).mono ?_
  rintro e w1 ⟨rfl, hk⟩
  have HK1 := Lib.hid hk
  clear hk
  have hk1 := HK1.out
  obtain ⟨W0, hW0⟩ : ∃ W0, W0 = (w1.alloc (.cells #[.slice none 0 0] 26)).alloc (.cells #[.slice none 0 0] 26) := ⟨_, rfl⟩
  have hkW : Keeps NoBlock w W0 := by rw [hW0]; exact (hk1.alloc _).alloc _
  have hsW : W0.heap.size = w1.heap.size + 2 := by rw [hW0]; simp
  have hb1 : BufAt W0 W0.heap.size w1.heap.size (vnums (l.take 0)) := by
    rw [hW0]
    exact (bufNewB w1 _).keepO ((Keeps.refl NoBlock _).alloc _) (fun h => h) (fun _ _ _ _ h => h)
  have hb2 : Whole W0 (w1.heap.size + 1) 26 #[.slice none 0 0] := by
    rw [hW0]
    exact Whole.newAt _ _ _ _ (by simp)
  have HkW := Lib.hid hkW; have HsW := Lib.hid hsW; have Hb1 := Lib.hid hb1; have Hb2 := Lib.hid hb2
  have hle : w.heap.size ≤ w1.heap.size := hk1.size
  clear hk1 hkW hsW hb1 hb2
  go_wp2_with fail
  rw [← hW0]
  have HW0 := Lib.hid hW0
  clear hW0
  go_loopw [7, 32] (fun s v wr => ∃ k : Nat, k ≤ n ∧ v = .int .i64 k ∧ Hid (s = .bool (alike l m k)) ∧ BufAt wr W0.heap.size w1.heap.size (vnums (l.take k)) ∧ Keeps (OnBuf W0.heap.size w1.heap.size) W0 wr) (fun _ v _ => n - (intOf v).toNat)
  case atStart => exact ⟨0, Nat.zero_le _, rfl, Lib.hid (by rw [HZ.out]), Hb1.out, Keeps.refl _ _⟩
  case round =>
    obtain ⟨k, hk, rfl, hs, hbuf, hkp⟩ := hrel
    have hs := hs.out
    subst hs
    have HB := Lib.hid hbuf; have HK := Lib.hid hkp
    clear hbuf hkp
    have hk9 : Keeps (fun i => w.heap.size ≤ i) w wr := (HkW.out.wider (fun _ _ h => h.elim)).then HK.out (fun i _ hS => by
      rcases hS with rfl | h1
      · exact hle
      · have := HsW.out; omega)
    have HK9 := Lib.hid hk9
    clear hk9
    by_cases hlt : k < n
    · have hkl : k < l.length := by have := Hn.out; omega
      obtain ⟨a, rfl, hc⟩ := (Hl.out.keep HK9.out (fun i h1 h2 => by omega)) k hkl
      obtain ⟨x, hxd⟩ : ∃ x, x = l.getD k 0 := ⟨_, rfl⟩
      have hx64 : x < 18446744073709551616 := by
        rw [hxd]
        have := Bl.out _ (List.getElem_mem hkl)
        simpa [hkl] using this
      have hlen : (vnums (l.take k)).length + 10 ≤ 140737488355328 := by
        have := vnums_take_len Bl.out k
        have := Hn.out
        omega
      have hsz : W0.heap.size ≤ wr.heap.size := HK.out.size
      rw [← hxd] at hc
      have HPut := Lib.hid (put_any W0.heap.size w1.heap.size (vnums (l.take k)) x x rfl wr HB.out hsz hlen hx64)
      have hnext : vnums (l.take (k + 1)) = vnums (l.take k) ++ vnum x := by rw [take_succ_nat l k hkl, vnums_snoc, hxd]
      have HNext := Lib.hid hnext
      have HX := Lib.hid hxd
      clear hxd hx64 hlen hnext
      go_wp2_with fail
      refine HPut.out.mono ?_
      rintro e w2 ⟨rfl, hbuf, hkp⟩
      rw [← HNext.out] at hbuf
      have HB2 := Lib.hid hbuf; have HK2 := Lib.hid (HK.out.then hkp (fun i hi hS => by
        rcases hS with rfl | h1
        · exact .inl rfl
        · exact .inr h1))
      have hk10 : Keeps (fun i => w.heap.size ≤ i) w w2 := HK9.out.then hkp (fun i _ hS => by
        rcases hS with rfl | h1
        · exact hle
        · have := HsW.out; omega)
      have HK10 := Lib.hid hk10
      clear hbuf hkp hk10 HPut hc
      by_cases hal : alike l m k = true
      · have hkm : k < m.length := by have := alike_len hal; omega
        have hkn : k < n' := by have := Hn'.out; omega
        obtain ⟨b, rfl, hcm⟩ := (Hm.out.keep HK10.out (fun i h1 h2 => by omega)) k hkm
        obtain ⟨y, hyd⟩ : ∃ y, y = m.getD k 0 := ⟨_, rfl⟩
        rw [← hyd] at hcm
        have hsucc : ((x : Int) == (y : Int)) = alike l m (k + 1) := by
          rw [alike_succ hkl hal, HX.out, hyd, Bool.eq_iff_iff]
          simp
          omega
        have HS := Lib.hid hsucc
        clear hyd hsucc hkm hkl
        go_wp2_with fail
        go_roundw
        case rel => exact ⟨k + 1, by omega, by go_num, Lib.hid (by rw [← HS.out]), HB2.out, HK2.out⟩
        case measure => simp [intOf]; omega
      · have hal : alike l m k = false := by simpa using hal
        have HS := Lib.hid (alike_not hal)
        clear hkl
        go_wp2_with fail
        go_roundw
        case rel => exact ⟨k + 1, by omega, by go_num, Lib.hid (by rw [HS.out]), HB2.out, HK2.out⟩
        case measure => simp [intOf]; omega
    · obtain rfl : n = k := by omega
      have hfull := HB.out
      rw [List.take_of_length_le (by have := Hn.out; omega)] at hfull
      obtain ⟨W1, rfl⟩ : ∃ W1, W1 = wr := ⟨_, rfl⟩
      have HF := Lib.hid hfull
      clear hfull
      have hg2 : Whole W1 (w1.heap.size + 1) 26 #[.slice none 0 0] := Hb2.out.keep HK.out (fun hS => by
        have := HsW.out
        rcases hS with h | h
        · omega
        · omega)
      have hb2 : BufAt W1 W1.heap.size (w1.heap.size + 1) (vnums (m.take 0)) := ⟨_, hg2, by simp [vnums], .inl ⟨rfl, by simp [vnums]⟩⟩
      have Hg2 := Lib.hid hg2; have Hb3 := Lib.hid hb2
      have hszr : W0.heap.size ≤ W1.heap.size := HK.out.size
      clear hg2 hb2 hs
      go_wp2_with fail
      go_loopw [51] (fun v wr => ∃ k : Nat, k ≤ n' ∧ v = .int .i64 k ∧ BufAt wr W1.heap.size (w1.heap.size + 1) (vnums (m.take k)) ∧ Keeps (OnBuf W1.heap.size (w1.heap.size + 1)) W1 wr) (fun v _ => n' - (intOf v).toNat)
      case atStart => exact ⟨0, Nat.zero_le _, rfl, Hb3.out, Keeps.refl _ _⟩
      case round =>
        obtain ⟨k, hk, rfl, hbuf, hkp⟩ := hrel
        have HB2 := Lib.hid hbuf; have HK2 := Lib.hid hkp
        clear hbuf hkp
        have hk9 : Keeps (fun i => w.heap.size ≤ i) w wr := HK9.out.then HK2.out (fun i _ hS => by
          have := HsW.out
          rcases hS with rfl | h1
          · omega
          · omega)
        have HK11 := Lib.hid hk9
        clear hk9
        by_cases hlt : k < n'
        · have hkl : k < m.length := by have := Hn'.out; omega
          obtain ⟨a, rfl, hc⟩ := (Hm.out.keep HK11.out (fun i h1 h2 => by omega)) k hkl
          obtain ⟨x, hxd⟩ : ∃ x, x = m.getD k 0 := ⟨_, rfl⟩
          have hx64 : x < 18446744073709551616 := by
            rw [hxd]
            have := Bm.out _ (List.getElem_mem hkl)
            simpa [hkl] using this
          have hlen : (vnums (m.take k)).length + 10 ≤ 140737488355328 := by
            have := vnums_take_len Bm.out k
            have := Hn'.out
            omega
          rw [← hxd] at hc
          have HPut := Lib.hid (put_any W1.heap.size (w1.heap.size + 1) (vnums (m.take k)) x x rfl wr HB2.out HK2.out.size hlen hx64)
          have hnext : vnums (m.take (k + 1)) = vnums (m.take k) ++ vnum x := by rw [take_succ_nat m k hkl, vnums_snoc, hxd]
          have HNext := Lib.hid hnext
          clear hxd hx64 hlen hnext hkl
          go_wp2_with fail
          refine HPut.out.mono ?_
          rintro e w2 ⟨rfl, hbuf, hkp⟩
          rw [← HNext.out] at hbuf
          have HB3 := Lib.hid hbuf; have HK3 := Lib.hid (HK2.out.then hkp (fun i hi hS => by
            rcases hS with rfl | h1
            · exact .inl rfl
            · exact .inr h1))
          clear hbuf hkp HPut hc
          go_wp2_with fail
          go_roundw
          case rel => exact ⟨k + 1, by omega, by go_num, HB3.out, HK3.out⟩
          case measure => simp [intOf]; omega
        · obtain rfl : n' = k := by omega
          have hfull := HB2.out
          rw [List.take_of_length_le (by have := Hn'.out; omega)] at hfull
          have hv : BufAt wr W0.heap.size w1.heap.size (vnums l) := HF.out.keepO HK2.out (fun hS => by
            rcases hS with h | h
            · omega
            · have := HsW.out; omega) (fun j cs hj hbj hS => by
            rcases hS with rfl | h
            · exact absurd (hj.unique Hg2.out).1 (by decide)
            · have := hj.lt; omega)
          have hl1 : (vnums l).length ≤ 140737488355328 := by
            have := vnums_length l Bl.out
            have := Hn.out
            omega
          have hl2 : (vnums m).length ≤ 140737488355328 := by
            have := vnums_length m Bm.out
            have := Hn'.out
            omega
          have hkA : Keeps NoBlock w wr := HK11.out.then (Keeps.refl NoBlock wr) (fun i _ h => h.elim) |>.then (Keeps.refl NoBlock wr) (fun i _ h => h.elim) |> fun h => ⟨h.os, h.tape, h.output, h.size, fun k hk _ => h.block k hk (by omega)⟩
          have hall := alike_all l m
          have HF2 := Lib.hid hfull; have HV := Lib.hid hv; have HA := Lib.hid hkA; have HAll := Lib.hid hall; have HL1 := Lib.hid hl1; have HL2 := Lib.hid hl2
          have Hnn := Lib.hid (show alike l m n = alike l m l.length by rw [Hn.out])
          clear hfull hv hkA hall hl1 hl2
          go_wp2_with fail
          go_region_with (go_at_call 9; first
            | ((with_reducible refine (bufBytesD W0.heap.size w1.heap.size (vnums l) wr HV.out HL1.out).mono ?_); rintro e w5 ⟨v5, rfl, q5, c5, rfl, e1, e2, e3, e4, e5⟩; obtain ⟨t1, t2⟩ := textBoth (c := c5) rfl e3; have HV2 := Lib.hid (HF2.out.keepO e5.fromDrew (fun h => h) (fun _ _ _ _ h => h)); have E3 := Lib.hid e3; have E5 := Lib.hid e5.fromDrew; clear e1 e2 e3 e4 e5)
            | ((with_reducible refine (bufBytes W1.heap.size (w1.heap.size + 1) (vnums m) w5 HV2.out HL2.out).mono ?_); rintro e w6 ⟨v6, rfl, q6, c6, rfl, e1, e2, e3, e4, e5⟩; obtain ⟨t3, t4⟩ := textBoth (c := c6) rfl e3; obtain ⟨t5, t6⟩ := textBoth (c := c5) rfl (E3.out.keep e5 (fun _ _ h => h)); have E6 := Lib.hid e5; clear e1 e2 e3 e4 e5)
            | ((with_reducible refine (bufBytesD W1.heap.size (w1.heap.size + 1) (vnums m) w5 HV2.out HL2.out).mono ?_); rintro e w6 ⟨v6, rfl, q6, c6, rfl, e1, e2, e3, e4, e5⟩; obtain ⟨t3, t4⟩ := textBoth (c := c6) rfl e3; obtain ⟨t5, t6⟩ := textBoth (c := c5) rfl (E3.out.keep e5.fromDrew (fun _ _ h => h)); have E6 := Lib.hid e5.fromDrew; clear e1 e2 e3 e4 e5))
          all_goals
            have HFin := Lib.hid ((HA.out.trans E5.out).trans E6.out)
            go_wp2_with fail
            go_ret
            refine ⟨ret_true ?_, by first | exact HFin.out | exact HFin.out.drew⟩
            rw [text_beq, Hnn.out, HAll.out]
            simp
set_option maxRecDepth 10000 in
theorem apart_walk (lp mp : Option Addr) (n lc n' mc : Nat) (l m : List Nat) (w : World) (hn : n = l.length) (hn' : n' = m.length) (hl : RowN w lp l) (hm : RowN w mp m) (bl : ∀ z ∈ l, z < 18446744073709551616) (bm : ∀ z ∈ m, z < 18446744073709551616) :
    Calls Try.prog 3 #[.slice lp n lc, .slice mp n' mc] w fun e w' => e = .returned (.bool true) ∧ Keeps NoBlock w w' := by
  by_cases hg : n ≤ 20 ∧ n' ≤ 20
  · exact apart_small lp mp n lc n' mc l m w hn hn' hl hm bl bm hg.1 hg.2
  · clear hn hn' hl hm bl bm
    go_enter Try.func3, Try.ntmps3
    go_wp2_with fail
    refine (lives2_true _).mono ?_
    rintro e w1 ⟨rfl, hk⟩
    have HK := Lib.hid hk
    clear hk
    go_wp2_with fail
    all_goals
      refine (lives2_true _).mono ?_
      rintro e w2 ⟨rfl, hk2⟩
      have HK2 := Lib.hid (HK.out.trans hk2)
      clear hk2
      go_wp2_with fail
      go_ret
      exact ⟨rfl, HK2.out⟩
end Go.Proofs.Ythgpkimnhgjloaa


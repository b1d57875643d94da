/-
  The law EdgeReads: its walk.
-/
import Derived.Test.YtillkgbnokkacaaEdgeRdLoop
import Derived.Deep.Cut
namespace Go.Proofs.Ytillkgbnokkacaa
open Go.RowKit
attribute [local go_sem] run_store_float

set_option maxRecDepth 10000 in
set_option maxHeartbeats 4000000 in
theorem ereads_small (H : EdgeOk) (lp : Option Addr) (n lc : Nat) (l : List Nat) (p : Option Addr) (N c : Nat) (xs : List Int) (w : World) (hn : n = l.length) (hl : RowF w lp l) (bl : ∀ z ∈ l, Word64 z) (hx : N = xs.length) (hb : Bytes8 w p xs) (ho : Octets xs) (hc : N ≤ c) (hc' : c ≤ 9223372036854775807) (g1 : n ≤ 30) (g2 : N ≤ 100) :
    Calls Try.prog 5 #[.slice lp n lc, .slice p N c] w fun e w' => e = .returned (.bool true) ∧ Keeps NoBlock w w' := by
  have HLv := Lib.hid (fun w => lives6_true H w)
  have HPt := Lib.hid H.put
  have HRn := Lib.hid (fun D w hD hb => run_eone H D p xs N c hx w hD hb ho hc hc')
  have HRf := Lib.hid (fun w => eget_ref xs 0 (by omega) (by omega) ho w)
  have HLp := Lib.hid (fun w0 W RB B q5 X cb => eread_loop H w0 W RB B q5 lp l X X.length cb n lc)
  have Hn := Lib.hid hn; have Hl := Lib.hid hl; have Bl := Lib.hid bl; have HX := Lib.hid hx; have HB0 := Lib.hid hb
  have hd1 : decide ((30 : Int) < (n : Int)) = false := decide_eq_false (by omega)
  have hd2 : decide ((100 : Int) < (N : Int)) = false := decide_eq_false (by omega)
  clear hn hl bl hx hb ho H
  go_enter Try.func5, Try.ntmps5
  go_wp2_with fail
  refine (HLv.out _).mono ?_
  rintro e w1 ⟨rfl, hk⟩
  have hbox : Whole w1 w.heap.size 32 #[.slice lp n lc] := (Whole.new w _ _).keep hk (fun h => h)
  have hk1 : Keeps NoBlock w w1 := ((Keeps.refl NoBlock w).alloc _).trans hk
  obtain ⟨W0, hW0⟩ : ∃ W0, W0 = w1.alloc (.cells #[.slice none 0 0] 35) := ⟨_, rfl⟩
  have hsW : W0.heap.size = w1.heap.size + 1 := by rw [hW0]; simp
  have hkW : Keeps NoBlock w W0 := by rw [hW0]; exact hk1.alloc _
  have hb0 : BufAt W0 W0.heap.size w1.heap.size (enums (l.take 0)) := by rw [hW0]; exact bufNewB w1 _
  have hboxW : Whole W0 w.heap.size 32 #[.slice lp n lc] := by rw [hW0]; exact hbox.alloc _
  have d1 := hbox.cell 0 rfl
  have d2 := hboxW.cell 0 rfl
  simp only [List.getElem_toArray, List.getElem_cons_zero] at d1 d2
  have hg1 := hbox.lt
  have HsW := Lib.hid hsW; have HkW := Lib.hid hkW; have Hb0 := Lib.hid hb0; have HBoxW := Lib.hid hboxW
  have hle : w.heap.size ≤ w1.heap.size := hk1.size
  clear hk hbox hk1 hsW hkW hb0 hboxW
  go_upto_region 4 with (fail)
  rw [← hW0]
  clear hW0 d1
  go_wp2_with fail
  go_loopw [6, 32] (fun o v wr => ∃ k : Nat, k ≤ n ∧ v = .int .i64 k ∧ o = .string (strOfNums (enums (l.take k))) ∧ BufAt wr W0.heap.size w1.heap.size (enums (l.take k)) ∧ Keeps (OnBuf W0.heap.size w1.heap.size) W0 wr) (fun _ v _ => n - (intOf v).toNat)
  case atStart => exact ⟨0, Nat.zero_le _, rfl, rfl, Hb0.out, Keeps.refl _ _⟩
  case round =>
    obtain ⟨k, hk, rfl, rfl, hbuf, hkp⟩ := hrel
    have HB := Lib.hid hbuf; have HK := Lib.hid hkp
    clear hbuf hkp d2
    have hk9 : Keeps (fun i => w1.heap.size ≤ i) w wr := (HkW.out.wider (fun _ _ h => h.elim)).then HK.out (fun i _ hS => by
      rcases hS with rfl | h1
      · exact Nat.le_refl _
      · have := HsW.out; omega)
    have HK9 := Lib.hid hk9
    clear hk9
    by_cases hlt : k < n
    · have hkl : k < l.length := by have := Hn.out; omega
      obtain ⟨a, rfl, hcl⟩ := (Hl.out.keep HK9.out (fun i h1 h2 => by omega)) k hkl
      obtain ⟨x, hxd⟩ : ∃ x, x = l.getD k 0 := ⟨_, rfl⟩
      have hx64 : Word64 x := by
        rw [hxd]
        have := Bl.out _ (List.getElem_mem hkl)
        simpa [hkl] using this
      have hlen : (enums (l.take k)).length ≤ 240 := by
        rw [enums_length, List.length_take]
        omega
      have ht64 := text_word hx64
      unfold Word64 at ht64
      rw [← hxd] at hcl
      have HPut := Lib.hid (HPt.out W0.heap.size w1.heap.size (enums (l.take k)) x wr HB.out HK.out.size (by omega) hx64)
      have HBt := Lib.hid (fun w => bits_ref x w)
      have HNum := Lib.hid (fun w => num_any ((textW x : Nat) : Int) 8 8 rfl (by decide) (by omega) (by omega) w)
      have hnext : enums (l.take (k + 1)) = enums (l.take k) ++ digits (textW x : Int) 8 := by rw [take_succ_natE l k hkl, enums_snoc, hxd]
      have HNext := Lib.hid hnext
      obtain ⟨A, hA⟩ : ∃ A, A = enums (l.take k) := ⟨_, rfl⟩
      obtain ⟨V, hV⟩ : ∃ V, V = digits (textW x : Int) 8 := ⟨_, rfl⟩
      have hVl : V.length = 8 := by rw [hV, digits_length]
      rw [← hA, ← hV] at HPut HNext
      rw [← hV] at HNum
      rw [← hA] at hlen ⊢
      obtain ⟨t, ht⟩ : ∃ t, t = textW x := ⟨_, rfl⟩
      rw [← ht] at HBt HNum
      have hsA : (strOfNums A).size = A.length := str_size A
      have hsV : (strOfNums V).size = 8 := by rw [str_size V, hVl]
      have hap : strOfNums A ++ strOfNums V = strOfNums (A ++ V) := str_append A V
      have hroom : ¬ 9223372036854775807 < A.length + 8 := by omega
      clear hxd hx64 hnext hkl hA hV ht64 ht hVl
      go_wp2_with fail
      refine HPut.out.mono ?_
      rintro e w2 ⟨rfl, hbuf, hkp⟩
      rw [← HNext.out] at hbuf
      have HB2 := Lib.hid hbuf; have HK2 := Lib.hid (HK.out.then hkp (fun i hi hS => by
        rcases hS with rfl | h1
        · exact .inl rfl
        · exact .inr h1))
      clear hbuf hkp HPut hcl
      go_wp2_with fail
      refine (HBt.out _).mono ?_
      rintro e w0 ⟨rfl, rfl⟩
      go_wp2_with fail
      refine (HNum.out _).mono ?_
      rintro e w3 ⟨rfl, hk3⟩
      have HB3 := Lib.hid (HB2.out.keepO hk3 (fun h => h) (fun _ _ _ _ h => h)); have HK3 := Lib.hid (HK2.out.then hk3 (fun i _ h => h.elim))
      clear hk3
      go_wp2_with fail
      go_roundw
      case rel => exact ⟨k + 1, by omega, by go_num, by rw [HNext.out], HB3.out, HK3.out⟩
      case measure => simp [intOf]; omega
    · obtain rfl : n = k := by omega
      have htk : l.take n = l := List.take_of_length_le (by have := Hn.out; omega)
      have hbuf := HB.out
      rw [htk] at hbuf ⊢
      have hrow := Hl.out.keep HK9.out (fun i h1 h2 => by omega)
      have hbx := HBoxW.out.keep HK.out (fun hS => by
        have := HsW.out
        rcases hS with h | h
        · omega
        · omega)
      have hlow : 0 < l.length → ∀ q, lp = some q → q.block < w.heap.size := fun h0 q hq => by
        obtain ⟨a, ha, hc⟩ := Hl.out 0 h0
        obtain rfl := Option.some.inj (hq.symm.trans ha)
        have := ltOfCell hc
        rwa [addBlock] at this
      have hlenX : (enums l).length ≤ 240 := by
        rw [enums_length]
        have := Hn.out
        omega
      have hgw : w1.heap.size < wr.heap.size := by have := HK.out.size; have := HsW.out; omega
      obtain ⟨X, hX⟩ : ∃ X, X = enums l := ⟨_, rfl⟩
      rw [← hX] at hbuf hlenX ⊢
      have HXl := Lib.hid hX; have HBuf := Lib.hid hbuf; have HRow := Lib.hid hrow; have HBx := Lib.hid hbx; have HLow := Lib.hid hlow; have HGw := Lib.hid hgw
      clear hX hbuf hrow hbx hlow htk hk hgw
      go_wp2_with fail
      have k2 : Keeps NoBlock wr (wr.alloc (.cells #[.bool true] 4)) := (Keeps.refl _ wr).alloc _
      refine (bufBytes W0.heap.size w1.heap.size X _ (HBuf.out.keepO k2 (fun h => h) (fun _ _ _ _ h => h)) (by omega)).mono ?_
      rintro e w5 ⟨v5, rfl, q5, c5, rfl, f1, f2, f3, f4, f5⟩
      have k5 : Keeps NoBlock wr w5 := k2.trans f5
      have hRB : Whole w5 wr.heap.size 4 #[.bool true] := (Whole.new wr _ _).keep f5 (fun h => h)
      have hgt := hRB.lt
      have hgw := HGw.out
      have hrun : Calls Try.prog 20 #[.slice q5 X.length c5, .func (.func 22) #[] #[.pointer (some ⟨w.heap.size, 0, none⟩), .pointer (some ⟨wr.heap.size, 0, none⟩)]] w5 (RunTold w5 X.length 0 (fun w2 => Keeps (Just wr.heap.size) w5 w2 ∧ Whole w2 wr.heap.size 4 #[.bool true])) :=
        run_any _ _ q5 X.length c5 X.length 0 _ w5 enterERead (fun W hB hK _ =>
          HLp.out w5 W wr.heap.size w.heap.size q5 X c5 HXl.out hB hgt ((HBx.out.keep k5 (fun h => h)).keep hK (fun h => h)) (hRB.keep hK (fun h => h)) ((HRow.out.keep k5 (fun _ _ h => h)).keep hK (fun _ _ h => h)) (fun h0 q hq => by have := HLow.out h0 q hq; omega) (f3.keep hK (fun _ _ h => h)) (fun h0 q hq => by have := f4 q hq; simp at this; omega) Hn.out (by simp) f1 (by unfold maxLen at f2; omega) (by omega) Bl.out hK)
      have H5 := Lib.hid (And.intro k5 hRB)
      have HRun := Lib.hid hrun
      clear hrun f1 f2 f3 f4 f5 k2 k5 hRB
      go_wp2_with fail
      refine HRun.out.mono ?_
      clear HRun
      rintro e w6 ⟨rfl, w7, ⟨hR1, hR2⟩, hT⟩
      have hr6 := hR2.keep hT.2.2.2.2 (by omega)
      have e6 := hr6.cell 0 rfl
      simp only [List.getElem_toArray, List.getElem_cons_zero] at e6
      have k56 : Keeps (Just wr.heap.size) w5 w6 := hR1.then hT.2.2.2.2 (by omega)
      have hb6 : BufAt w6 W0.heap.size w1.heap.size X := (HBuf.out.keepO H5.out.1 (fun h => h) (fun _ _ _ _ h => h)).keepO k56 (by unfold Just; omega) (fun j cs hj _ hJ => by
          obtain rfl : j = wr.heap.size := hJ
          exact absurd (hj.unique H5.out.2).1 (by decide))
      have k6 : Keeps NoBlock w w6 := by
        have h1 : Keeps NoBlock w wr := HkW.out.then HK.out (fun i hi hS => by
          rcases hS with h | h
          · omega
          · have := HsW.out; omega)
        exact (h1.trans H5.out.1).then k56 (fun i hi h => by unfold Just at h; omega)
      have H6 := Lib.hid (And.intro hb6 k6)
      clear hR1 hR2 hT hr6 hb6 k6 k56
      go_wp2_with fail
      refine (bufBytes W0.heap.size w1.heap.size X _ H6.out.1 (by omega)).mono ?_
      rintro e w8 ⟨v8, rfl, q8, c8, rfl, f1, f2, f3, f4, f5⟩
      have hcv := textOf q8 X.length c8 X w8 rfl f3
      have H8 := Lib.hid (H6.out.2.trans f5)
      clear f1 f2 f3 f4 f5 e6
      go_wp2_with fail
      refine (HRn.out w8.heap.size _ (Whole.new w8 _ _) ((HB0.out.keep H8.out (fun _ _ h => h)).keep ((Keeps.refl NoBlock w8).alloc _) (fun _ _ h => h))).mono ?_
      clear HRn
      rintro e w9 ⟨rfl, hD, hk9⟩
      have hk9' : Keeps NoBlock w8 w9 := ((Keeps.refl NoBlock w8).alloc _).then hk9 (fun i hi h => by unfold Just at h; omega)
      have H9 := Lib.hid (H8.out.trans hk9')
      have hcv := textOf p N c xs w9 HX.out ((HB0.out.keep H8.out (fun _ _ h => h)).keep hk9' (fun _ _ h => h))
      have HD := Lib.hid hD
      have hsame : (textW (if (eget xs).e = 0 then (eget xs).x else 0) == textW (eget xs).x) = true := by
        rw [beq_iff_eq]
        unfold eget
        split
        · rfl
        · split <;> rfl
      have HSm := Lib.hid (fun w => same_law (if (eget xs).e = 0 then (eget xs).x else 0) (eget xs).x w)
      rw [hsame] at HSm
      unfold egot at HD
      unfold erefOut rdr at HRf
      obtain ⟨g, hg⟩ : ∃ g, g = (if (eget xs).e = 0 then (eget xs).x else 0) := ⟨_, rfl⟩
      rw [← hg] at HSm HD
      obtain ⟨t, ht⟩ : ∃ t, t = eget xs := ⟨_, rfl⟩
      rw [← ht] at HRf HSm ⊢
      rw [Int.zero_add] at HRf
      clear hD hk9 hk9' hsame hg ht
      go_wp2_with fail
      refine (HRf.out _).mono ?_
      rintro e wa ⟨rfl, hka⟩
      have hda := HD.out.keep hka (fun h => h)
      have da0 := (hda.alloc (.cells #[.string (strOfNums (xs.drop t.n)), .int .i64 (t.n : Int), .int .i64 t.e] 47)).cell 0 rfl
      simp only [List.getElem_toArray, List.getElem_cons_zero] at da0
      have HA := Lib.hid (H9.out.trans hka)
      clear hka hda
      go_wp2_with fail
      refine (HSm.out _).mono ?_
      rintro e wb ⟨rfl, rfl⟩
      go_wp2_with fail
      go_ret
      exact ⟨rfl, HA.out.alloc _⟩

set_option maxRecDepth 10000 in
theorem ereads_walk (H : EdgeOk) (lp : Option Addr) (n lc : Nat) (l : List Nat) (p : Option Addr) (N c : Nat) (xs : List Int) (w : World) (hn : n = l.length) (hl : RowF w lp l) (bl : ∀ z ∈ l, Word64 z) (hx : N = xs.length) (hb : Bytes8 w p xs) (ho : Octets xs) (hc : N ≤ c) (hc' : c ≤ 9223372036854775807) :
    Calls Try.prog 5 #[.slice lp n lc, .slice p N c] w fun e w' => e = .returned (.bool true) ∧ Keeps NoBlock w w' := by
  by_cases hg : n ≤ 30 ∧ N ≤ 100
  · exact ereads_small H lp n lc l p N c xs w hn hl bl hx hb ho hc hc' hg.1 hg.2
  · have HLv := Lib.hid (fun w => lives6_true H w)
    have hor : (30 : Int) < (n : Int) ∨ (100 : Int) < (N : Int) := by omega
    clear hn hl bl hx hb ho H hg
    by_cases h1 : (30 : Int) < (n : Int)
    · have hd1 : decide ((30 : Int) < (n : Int)) = true := decide_eq_true h1
      clear hor
      go_enter Try.func5, Try.ntmps5
      go_wp2_with fail
      refine (HLv.out _).mono ?_
      rintro e w1 ⟨rfl, hk⟩
      have d1 := ((Whole.new w 32 #[.slice lp n lc]).keep hk (fun h => h)).cell 0 rfl
      simp only [List.getElem_toArray, List.getElem_cons_zero] at d1
      have HK := Lib.hid (((Keeps.refl NoBlock w).alloc _).trans hk)
      clear hk
      go_wp2_with fail
      refine (HLv.out _).mono ?_
      rintro e w2 ⟨rfl, hk2⟩
      have HK2 := Lib.hid (HK.out.trans hk2)
      clear hk2
      go_wp2_with fail
      go_ret
      exact ⟨rfl, HK2.out⟩
    · have hd1 : decide ((30 : Int) < (n : Int)) = false := decide_eq_false h1
      have hd2 : decide ((100 : Int) < (N : Int)) = true := decide_eq_true (by omega)
      clear hor
      go_enter Try.func5, Try.ntmps5
      go_wp2_with fail
      refine (HLv.out _).mono ?_
      rintro e w1 ⟨rfl, hk⟩
      have d1 := ((Whole.new w 32 #[.slice lp n lc]).keep hk (fun h => h)).cell 0 rfl
      simp only [List.getElem_toArray, List.getElem_cons_zero] at d1
      have HK := Lib.hid (((Keeps.refl NoBlock w).alloc _).trans hk)
      clear hk
      go_wp2_with fail
      refine (HLv.out _).mono ?_
      rintro e w2 ⟨rfl, hk2⟩
      have HK2 := Lib.hid (HK.out.trans hk2)
      clear hk2
      go_wp2_with fail
      go_ret
      exact ⟨rfl, HK2.out⟩
end Go.Proofs.Ytillkgbnokkacaa

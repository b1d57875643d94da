/-
  The law CursorBack: its walk.
-/
import Derived.Test.YthgjipgkbinjkaaLawBack
import Derived.Test.YthgjipgkbinjkaaBackLoop
namespace Go.Proofs.Ythgjipgkbinjkaa
open Go.RowKit

theorem BufAt.drewN {w : World} {base g : Nat} {xs : List Int} (h : BufAt w base g xs) (n : Nat) : BufAt (w.drewN n) base g xs := h
theorem BufAt.keepS {w w' : World} {base g : Nat} {xs : List Int} (h : BufAt w base g xs) {S : Nat → Prop} (hk : Keeps S w w') (hg : ¬ S g) (ho : ∀ j cs, Whole w j 5 cs → ¬ S j) : BufAt w' base g xs := by
  obtain ⟨v, hv, hown⟩ := h
  refine ⟨v, hv.keep hk hg, hown.1, ?_⟩
  rcases hown.2 with h2 | ⟨j, cap, cur, rfl, hb, hh, r⟩
  · exact .inl h2
  · exact .inr ⟨j, cap, cur, rfl, hb, Whole.keep (show Whole w j 5 cur from hh) hk (ho j cur hh), r⟩
theorem RawAt.drewN {w : World} {g b3 : Nat} {pr : Option Addr} {ys : List Int} {N c : Nat} (h : RawAt g b3 pr ys N c w) (n : Nat) : RawAt g b3 pr ys N c (w.drewN n) := ⟨h.raw, h.text, h.lo, h.loT⟩

/-- Between the calls of a round: the Buffer, and the raw bytes. -/
structure Mid (w1 : World) (g b3 : Nat) (pr : Option Addr) (ys A : List Int) (N c : Nat) (w : World) : Prop where
  buf : BufAt w g g A
  raw : RawAt g b3 pr ys N c w
  keep : Below g w1 w
  size : g ≤ w.heap.size

section
variable {w1 w : World} {g b3 : Nat} {pr : Option Addr} {ys A : List Int} {N c : Nat}
theorem Mid.drewN (h : Mid w1 g b3 pr ys A N c w) (n : Nat) : Mid w1 g b3 pr ys A N c (w.drewN n) := ⟨h.buf, h.raw.drewN n, h.keep.trans ⟨rfl, rfl, rfl, Nat.le_refl _, fun _ _ => rfl⟩, h.size⟩
theorem Mid.ok (h : Mid w1 g b3 pr ys A N c w) {A' : List Int} {e : Ending} {w' : World} (hb : BufOk g g A' w e w') : e = .returned (.pointer (some ⟨g, 0, none⟩)) ∧ Mid w1 g b3 pr ys A' N c w' :=
  ⟨hb.1, hb.2.1, h.raw.below hb.2.2, h.keep.trans hb.2.2, Nat.le_trans h.size hb.2.2.size⟩
theorem Mid.none (h : Mid w1 g b3 pr ys A N c w) {w' : World} (hk : Keeps NoBlock w w') : Mid w1 g b3 pr ys A N c w' :=
  ⟨h.buf.keepS hk (fun h => h) (fun _ _ _ h => h), h.raw.below (hk.below h.size (fun _ _ h => h)), h.keep.trans (hk.below h.size (fun _ _ h => h)), Nat.le_trans h.size hk.size⟩

theorem mid_byte (h : Mid w1 g b3 pr ys A N c w) (x : Int) (hx : A.length + 1 ≤ 140737488355328) : Calls Try.prog 13 #[.pointer (some ⟨g, 0, none⟩), .int .u8 x] w fun e w' => e = .returned (.pointer (some ⟨g, 0, none⟩)) ∧ Mid w1 g b3 pr ys (A ++ [x]) N c w' :=
  (bufByte g g A x w h.buf (Nat.le_refl _) h.size hx).mono fun _ _ hb => h.ok hb
theorem mid_four (h : Mid w1 g b3 pr ys A N c w) (x : Int) (hx : A.length + 4 ≤ 140737488355328) (x0 : 0 ≤ x) (x1 : x < 4294967296) : Calls Try.prog 14 #[.pointer (some ⟨g, 0, none⟩), .int .u32 x] w fun e w' => e = .returned (.pointer (some ⟨g, 0, none⟩)) ∧ Mid w1 g b3 pr ys (A ++ digits x 4) N c w' :=
  (bufFour g g A x w h.buf (Nat.le_refl _) h.size hx x0 x1).mono fun _ _ hb => h.ok hb
theorem mid_eight (h : Mid w1 g b3 pr ys A N c w) (x : Int) (hx : A.length + 8 ≤ 140737488355328) (x0 : 0 ≤ x) (x1 : x < 18446744073709551616) : Calls Try.prog 15 #[.pointer (some ⟨g, 0, none⟩), .int .u64 x] w fun e w' => e = .returned (.pointer (some ⟨g, 0, none⟩)) ∧ Mid w1 g b3 pr ys (A ++ digits x 8) N c w' :=
  (bufEight g g A x w h.buf (Nat.le_refl _) h.size hx x0 x1).mono fun _ _ hb => h.ok hb
theorem mid_raw (h : Mid w1 g b3 pr ys A N c w) (hN : N = ys.length) (h0 : pr = none → N = 0 ∧ c = 0) (hx : A.length + ys.length ≤ 140737488355328) : Calls Try.prog 16 #[.pointer (some ⟨g, 0, none⟩), .slice pr N c] w fun e w' => e = .returned (.pointer (some ⟨g, 0, none⟩)) ∧ Mid w1 g b3 pr ys (A ++ ys) N c w' :=
  (bufRaw g g A ys pr N c w h.buf hN h.raw.text h0 (Nat.le_refl _) h.size hx).mono fun _ _ hb => h.ok hb
theorem mid_num (h : Mid w1 g b3 pr ys A N c w) (x : Int) (n : Nat) (z : Int) (hz : z = n) (hn : n ≤ 8) (x0 : 0 ≤ x) (x1 : x < 18446744073709551616) : Calls Try.prog 17 #[.int .u64 x, .int .i64 z] w fun e w' => e = .returned (.string (strOfNums (digits x n))) ∧ Mid w1 g b3 pr ys A N c w' :=
  (num_any x n z hz hn x0 x1 w).mono fun _ _ hb => ⟨hb.1, h.none hb.2⟩
theorem mid_numZ (h : Mid w1 g b3 pr ys A N c w) (x z : Int) (hz : 0 ≤ z ∧ z ≤ 8) (x0 : 0 ≤ x) (x1 : x < 18446744073709551616) : Calls Try.prog 17 #[.int .u64 x, .int .i64 z] w fun e w' => e = .returned (.string (strOfNums (digits x z.toNat))) ∧ Mid w1 g b3 pr ys A N c w' := mid_num h x z.toNat z (by omega) (by omega) x0 x1
end

theorem WLoop.step {w1 : World} {g b1 b3 : Nat} {lp pr : Option Addr} {ys zs A : List Int} {N c n lc k : Nat} {wr wG : World} {z : Int} (h : WLoop w1 g b1 b3 lp pr ys zs N c n lc k wr) (hn : n = zs.length) (_hN : N = ys.length) (hk : k < n) (hA : A = allOf ys (zs.take k)) (hz : z = zs.getD k 0) (hM : Mid w1 g b3 pr ys (A ++ recOf ys z) N c wG) :
    allOf ys (zs.take (k + 1)) = A ++ recOf ys z ∧ WLoop w1 g b1 b3 lp pr ys zs N c n lc (k + 1) wG := by
  have e : allOf ys (zs.take (k + 1)) = A ++ recOf ys z := by rw [take_succ_getD zs k (by omega), allOf_snoc, hA, hz]
  exact ⟨e, by rw [e]; exact hM.buf, hM.keep, h.lo, h.sl, h.raw, h.ws, h.text, h.loW, h.loT⟩

set_option maxRecDepth 100000 in
set_option maxHeartbeats 4000000 in
theorem back_small (lp pr : Option Addr) (n lc N c : Nat) (zs ys : List Int) (w : World) (hn : n = zs.length) (hN : N = ys.length) (hw : Words w lp zs) (hy : Bytes8 w pr ys) (hz : ∀ z ∈ zs, 0 ≤ z ∧ z < 18446744073709551616) (ho : Octets ys)
    (h0 : pr = none → N = 0 ∧ c = 0) (g1 : n ≤ 40) (g2 : N ≤ 500) :
    Calls Try.prog 5 #[.slice lp n lc, .slice pr N c] w fun e w' => e = .returned (.bool true) ∧ Keeps NoBlock w w' := by
  have hmf : ∀ (fn : Fn) (first cap : Array Value) (w : World), (Instr.makeFunc fn first cap).run Try.prog w = .ok (.func fn first cap) w := fun _ _ _ _ => rfl
  have hnb := neqBuffer
  have Hn := Lib.hid hn; have HN := Lib.hid hN; have Hw := Lib.hid hw; have Hy := Lib.hid hy; have Hz := Lib.hid hz; have Ho := Lib.hid ho; have H0 := Lib.hid h0
  clear hn hN hw hy hz ho h0
  go_enter Try.func5, Try.ntmps5
  go_wp2_with fail
  refine (lives_true _).mono ?_
  rintro e w1 ⟨rfl, hk⟩
  have hk1 : Keeps NoBlock w w1 := (((Keeps.refl _ w).alloc _).alloc _).trans hk
  have hsl : Whole w1 w.heap.size 38 #[.slice lp n lc] := ((Whole.new w _ _).alloc _).keep hk (fun h => h)
  have hrw : Whole w1 (w.heap.size + 1) 22 #[.slice pr N c] := (Whole.newAt _ _ _ _ (by simp)).keep hk (fun h => h)
  have d1 := hsl.cell 0 rfl
  have d3 := hrw.cell 0 rfl
  have d1' := (hsl.alloc (.cells #[.slice none 0 0] 40)).cell 0 rfl
  simp only [List.getElem_toArray, List.getElem_cons_zero] at d1 d3 d1'
  have hg1 := hsl.lt
  have hg3 := hrw.lt
  have hk2 : Keeps NoBlock w (w1.alloc (.cells #[.slice none 0 0] 40)) := hk1.alloc _
  have HL0 := Lib.hid (show WLoop (w1.alloc (.cells #[.slice none 0 0] 40)) w1.heap.size w.heap.size (w.heap.size + 1) lp pr ys zs N c n lc 0 (w1.alloc (.cells #[.slice none 0 0] 40)) from
    ⟨⟨.slice none 0 0, Whole.new _ _ _, by simp [allOf], .inl ⟨rfl, by simp [allOf]⟩⟩, Below.refl _ _, ⟨hg1, hg3, by simp⟩, hsl.alloc _, hrw.alloc _, Hw.out.keep hk2 (fun _ _ h => h), Hy.out.keep hk2 (fun _ _ h => h),
      fun i hi q hq => by obtain ⟨a, ha, hc⟩ := Hw.out i hi; obtain rfl := Option.some.inj (hq.symm.trans ha); have := ltOfCell hc; rw [addBlock] at this; have := hk1.size; omega,
      fun h0 q hq => by obtain ⟨a, ha, hc⟩ := Hy.out h0; obtain rfl := Option.some.inj (hq.symm.trans ha); have := ltOfCell (hc 0 h0); rw [addBlock] at this; have := hk1.size; omega⟩)
  have HK1 := Lib.hid hk1
  clear hk hk1 hsl hrw hk2
  go_wp2_with fail
  go_loopw [6, 27] (fun o i wr => ∃ k : Nat, k ≤ n ∧ i = .int .i64 k ∧ o = .string (strOfNums (allOf ys (zs.take k))) ∧ WLoop (w1.alloc (.cells #[.slice none 0 0] 40)) w1.heap.size w.heap.size (w.heap.size + 1) lp pr ys zs N c n lc k wr) (fun _ i _ => n - (intOf i).toNat)
  case atStart => exact ⟨0, Nat.zero_le _, rfl, rfl, HL0.out⟩
  case round =>
    obtain ⟨k, hk, rfl, rfl, hbl⟩ := hrel
    have HB := Lib.hid hbl
    clear hbl d1 d3 d1'
    by_cases hlt : k < n
    · have hkl : k < zs.length := by have := Hn.out; omega
      have hkz := Hz.out _ (List.getElem_mem hkl)
      obtain ⟨a, rfl, hc⟩ := HB.out.wsNow k hkl
      obtain ⟨z, hzdef⟩ : ∃ z, z = zs.getD k 0 := ⟨_, rfl⟩
      rw [← hzdef] at hc
      have hz0 : 0 ≤ z := by rw [hzdef]; simpa [hkl] using hkz.1
      have hz1 : z < 18446744073709551616 := by rw [hzdef]; simpa [hkl] using hkz.2
      have HD := Lib.hid hzdef
      have HZ1 := Lib.hid hz1
      have hlen : (allOf ys (zs.take k)).length ≤ 20520 := by
        have h1 : k * (13 + ys.length) ≤ 40 * 513 := Nat.mul_le_mul (by omega) (by have := HN.out; omega)
        have h2 : (zs.take k).length = k := by simp; omega
        rw [allOf_length, h2]
        omega
      obtain ⟨A, hA⟩ : ∃ A, A = allOf ys (zs.take k) := ⟨_, rfl⟩
      have hM := (show Mid (w1.alloc (.cells #[.slice none 0 0] 40)) w1.heap.size (w.heap.size + 1) pr ys (allOf ys (zs.take k)) N c wr from ⟨HB.out.buf, HB.out.rawAt, HB.out.keep, by have := HB.out.keep.size; simp at this; omega⟩)
      rw [← hA] at hM hlen ⊢
      have HM := Lib.hid hM; have HA := Lib.hid hA; have HLen := Lib.hid hlen
      clear hkz hzdef hz1 hkl hA hM hlen hk
      have s0 := HM.out.raw.cell
      go_wp2_with fail
      have HB13 := Lib.hid (show A.length + 1 ≤ 140737488355328 by have := HLen.out; omega)
      have HB14 := Lib.hid (show ∀ x : Int, (A ++ [x]).length + 4 ≤ 140737488355328 from fun x => by have := HLen.out; simp; omega)
      have HB15 := Lib.hid (show ∀ x y : Int, ((A ++ [x]) ++ digits y 4).length + 8 ≤ 140737488355328 from fun x y => by have := HLen.out; simp [digits_length]; omega)
      have HB16 := Lib.hid (show ∀ x y u : Int, (((A ++ [x]) ++ digits y 4) ++ digits u 8).length + ys.length ≤ 140737488355328 from fun x y u => by have := HLen.out; have := HN.out; simp [digits_length]; omega)
      have H32 := Lib.hid (show 0 ≤ IntKind.u32.wrap z ∧ IntKind.u32.wrap z < 4294967296 by rw [IntKind.wrap_u32]; omega)
      go_region_held3 (fun w' => w'.cell? ⟨w.heap.size + 1, 0, none⟩ = some (.slice pr N c))
        (first | exact s0 | exact sA | exact sB | exact sC | exact sE)
        (first
          | (go_at_call 13; refine (mid_byte (HM.out.drewN _) _ HB13.out).mono ?_; rintro e wA ⟨rfl, hA⟩; have MA := Lib.hid hA; have sA := hA.raw.cell; clear hA)
          | (go_at_call 14; refine (mid_four MA.out _ (HB14.out _) H32.out.1 H32.out.2).mono ?_; rintro e wB ⟨rfl, hB⟩; have MB := Lib.hid hB; have sB := hB.raw.cell; clear hB)
          | (go_at_call 15; refine (mid_eight MB.out _ (HB15.out _ _) hz0 HZ1.out).mono ?_; rintro e wC ⟨rfl, hC⟩; have MC := Lib.hid hC; have sC := hC.raw.cell; clear hC)
          | (go_at_call 16; refine (mid_raw MC.out HN.out H0.out (HB16.out _ _ _)).mono ?_; rintro e wE ⟨rfl, hE⟩; have ME := Lib.hid hE; have sE := hE.raw.cell; clear hE))
      have hfull := ME.out
      rw [rec_bytes] at hfull
      have MF := Lib.hid hfull
      have tE := hfull.raw.conv HN.out
      clear hfull ME MA MB MC s0 sA sB sC
      go_wp2_with fail
      have sF := And.intro (MF.out.drewN 1).raw.cell ((MF.out.drewN 1).raw.conv HN.out)
      clear tE
      have MG := Lib.hid (MF.out.drewN 1)
      have sG := sF
      have hss : ∀ L : List Int, (strOfNums L).size = L.length := str_size
      have hsa : ∀ X Y : List Int, strOfNums X ++ strOfNums Y = strOfNums (X ++ Y) := str_append
      have hdl : ∀ (x : Int) (m : Nat), (digits x m).length = m := digits_length
      have hl1 : ¬ 9223372036854775807 < 13 + ys.length := by have := HN.out; omega
      have hl2 : ¬ 9223372036854775807 < A.length + (1 + (4 + (8 + ys.length))) := by have := HN.out; have := HLen.out; omega
      go_region_held3 (fun w' => w'.cell? ⟨w.heap.size + 1, 0, none⟩ = some (.slice pr N c) ∧ (convert 22 9 (.slice pr N c)).run Try.prog w' = .ok (.string (strOfNums ys)) w')
        (first | exact sG | exact sF)
        (first | (go_at_call 17; refine (mid_numZ MG.out z _ ?_ hz0 HZ1.out).mono ?_; (decide); rintro e wG ⟨rfl, hG⟩; have MG := Lib.hid hG; have sG := And.intro hG.raw.cell (hG.raw.conv HN.out); clear hG))
      have HE := Lib.hid (HB.out.step Hn.out HN.out hlt HA.out HD.out MG.out)
      clear hss hsa hdl hl1 hl2 sG sF
      go_wp2_with fail
      go_roundw
      case rel => exact ⟨k + 1, by omega, by go_num, by rw [HE.out.1]; rfl, HE.out.2⟩
      case measure => simp [intOf]; omega
    · obtain rfl : n = k := by omega
      have hfull := HB.out
      have htk : zs.take n = zs := List.take_of_length_le (by have := Hn.out; omega)
      rw [htk]
      have hbuf : BufAt wr w1.heap.size w1.heap.size (allOf ys zs) := by have := hfull.buf; rw [htk] at this; exact this
      have hraw := hfull.rawAt
      have hslr := hfull.slNow
      have hwsr := hfull.wsNow
      have hge : w1.heap.size < wr.heap.size := by have := hfull.keep.size; simp at this; omega
      have hle : w.heap.size ≤ w1.heap.size := HK1.out.size
      have hbw : Below w.heap.size w wr := (((HK1.out.alloc (.cells #[.slice none 0 0] 40)).below (Nat.le_refl _) (fun _ _ h => h))).trans (hfull.keep.mono hle)
      have hlo1 := hfull.lo
      have hloW := hfull.loW
      have hlen : (allOf ys zs).length = n * (13 + N) := by rw [allOf_length, ← Hn.out, ← HN.out]
      have hsmall : (allOf ys zs).length ≤ 20520 := by
        have h1 : n * (13 + N) ≤ 40 * 513 := Nat.mul_le_mul g1 (by omega)
        omega
      obtain ⟨X, hX⟩ : ∃ X, X = allOf ys zs := ⟨_, rfl⟩
      rw [← hX] at hbuf hlen hsmall ⊢
      have HX := Lib.hid hX; have HBuf := Lib.hid hbuf; have HRaw := Lib.hid hraw; have HSl := Lib.hid hslr; have HWs := Lib.hid hwsr; have HBw := Lib.hid hbw; have HLo := Lib.hid hlo1; have HLoW := Lib.hid hloW; have HLen := Lib.hid hlen
      have HGe := Lib.hid hge
      clear hX hbuf hraw hslr hwsr hbw hlo1 hloW hfull htk hk hlen hge hle
      go_wp2_with fail
      have k2 : Keeps NoBlock wr (wr.alloc (.cells #[.bool true] 4)) := (Keeps.refl _ wr).alloc _
      refine (bufBytes w1.heap.size w1.heap.size X _ (HBuf.out.keepS k2 (fun h => h) (fun _ _ _ h => h)) (by omega)).mono ?_
      rintro e w5 ⟨v5, rfl, q5, c5, rfl, f1, f2, f3, f4, f5⟩
      have k5 : Keeps NoBlock wr w5 := k2.trans f5
      have hRB : Whole w5 wr.heap.size 4 #[.bool true] := (Whole.new wr _ _).keep f5 (fun h => h)
      have hgw := HGe.out
      have hgt := hRB.lt
      have H5 := Lib.hid (And.intro k5 hRB); have F := Lib.hid (And.intro f1 (And.intro f2 (And.intro f3 f4)))
      have hrun : Calls Try.prog 7 #[.slice q5 X.length c5, .func (.func 19) #[] #[.pointer (some ⟨w.heap.size, 0, none⟩), .pointer (some ⟨wr.heap.size, 0, none⟩), .pointer (some ⟨w.heap.size + 1, 0, none⟩)]] w5 (RunTold w5 X.length 0 (fun w2 => Keeps (Just wr.heap.size) w5 w2 ∧ Whole w2 wr.heap.size 4 #[.bool true])) :=
        run_any _ _ q5 X.length c5 X.length 0 _ w5 enterBack (fun W hB hK _ => by
          have hraw5 := (HRaw.out.raw.keep k5 (fun h => h)).keep hK (fun h => h)
          have htext5 := (HRaw.out.text.keep k5 (fun _ _ h => h)).keep hK (fun _ _ h => h)
          have hcur := hB.cur
          refine back_loop w5 W wr.heap.size w.heap.size (w.heap.size + 1) q5 pr lp ys zs X.length c5 N c n lc hB hgt ⟨⟨by simpa using hcur, ?_, hRB.keep hK (fun h => h), hraw5, htext5, ⟨by omega, by have := HLo.out; omega⟩, ?_, ?_⟩, Keeps.refl _ _, (HSl.out.keep k5 (fun h => h)).keep hK (fun h => h), ?_, ⟨by have := HLo.out; omega, hgt, ?_⟩⟩ HN.out Hn.out HLen.out f1 (by omega) (by unfold maxLen at f2; omega) Ho.out Hz.out hK
          · have := (f3.keep hK (fun _ _ h => h)); rw [HX.out] at this; exact this
          · intro h0 q hq; have := (f4 q hq).2; omega
          · intro h0 q hq; have := HRaw.out.loT h0 q hq; omega
          · intro j hj
            obtain ⟨a, ha, hc⟩ := HWs.out j hj
            exact ⟨a, ha, hK.cell (k5.cell hc (fun h => h)) (fun h => h)⟩
          · intro j hj q hq; have := HLoW.out j hj q hq; omega)
      have HRun := Lib.hid hrun
      clear hrun f1 f2 f3 f4 f5 k2 k5 hRB
      go_wp2_with fail
      refine HRun.out.mono ?_
      clear HRun
      rintro e w6 ⟨rfl, w7, ⟨hR1, hR2⟩, hT⟩
      have hr6 := hR2.keep hT.2.2.2.2 (by omega)
      have e6 := hr6.cell 0 rfl
      simp only [List.getElem_toArray, List.getElem_cons_zero] at e6
      have k56 : Keeps (Just wr.heap.size) w5 w6 := hR1.then hT.2.2.2.2 (by omega)
      have hb6 : BufAt w6 w1.heap.size w1.heap.size X := (HBuf.out.keepS H5.out.1 (fun h => h) (fun _ _ _ h => h)).keepS k56 (by have := HGe.out; unfold Just; omega) (fun j cs hj hJ => by
          obtain rfl : j = wr.heap.size := hJ
          exact absurd (hj.unique H5.out.2).1 (by decide))
      have k6 : Below w.heap.size w w6 := HBw.out.trans ((((H5.out.1.wider (S' := Just wr.heap.size) (fun _ _ h => h.elim)).trans k56)).below (B := w.heap.size) (by have := HGe.out; have := HLo.out; omega) (by have := HLo.out; have := HGe.out; unfold Just; omega))
      have H6 := Lib.hid (And.intro hb6 k6)
      clear hR1 hR2 hT hr6 hb6 k6 k56
      go_wp2_with fail
      refine (bufBytes w1.heap.size w1.heap.size X _ H6.out.1 (by omega)).mono ?_
      rintro e w8 ⟨v8, rfl, q8, c8, rfl, f1, f2, f3, f4, f5⟩
      have hcv := textOf q8 X.length c8 X w8 rfl f3
      have hss : (strOfNums X).size = X.length := str_size X
      have H8 := Lib.hid (show BufAt w8 w1.heap.size w1.heap.size X ∧ Keeps NoBlock w w8 from ⟨H6.out.1.keepS f5 (fun h => h) (fun _ _ _ h => h), .ofBelow (H6.out.2.trans (f5.below H6.out.2.size (fun _ _ h => h)))⟩)
      clear f1 f2 f3 f4 f5 e6
      go_wp2_with (go_at_call 24; refine (bufLen w1.heap.size w1.heap.size X _ H8.out.1).mono ?_; rintro e wz ⟨rfl, rfl⟩)
      go_ret
      exact ⟨rfl, H8.out.2⟩
end Go.Proofs.Ythgjipgkbinjkaa

/-
  The law CursorDead: its reading, its loop, its walk.
-/
import Derived.Test.YthgjipgkbinjkaaLawLives
import Derived.Test.YthgjipgkbinjkaaLawOne
namespace Go.Proofs.Ythgjipgkbinjkaa
open Go.RowKit

theorem enterDead (args : Array Value) (w : World) : (callFunc 8 args).run Try.prog w = .ok (.enter 8 args) w := by kernel_rfl

/-- Behind the reading: the law's variable holds the cursor. -/
def KeptIt (w0 : World) (B : Nat) (w2 : World) : Prop := Whole w2 B 25 #[.pointer (some ⟨w0.heap.size + 1 + 1, 0, none⟩)] ∧ Keeps (Just B) w0 w2

theorem deadRead_some (w0 W : World) (B : Nat) (p : Option Addr) (xs : List Int) (N c : Nat) (hx : N = xs.length) (h1 : 1 ≤ N) (hN : N ≤ c) (hN' : N ≤ 140737488355328) (hc : c ≤ 9223372036854775807) (v : Value) (hV : Whole w0 B 25 #[v]) (hB : Begun w0 p N c 0 0 W) (hK : Keeps NoBlock w0 W) (hb : Bytes8 w0 p xs) (hp : ∀ q, p = some q → q.block < B) :
    Calls Try.prog 8 (#[.pointer (some ⟨w0.heap.size + 1 + 1, 0, none⟩)] ++ #[.pointer (some ⟨B, 0, none⟩)]) W (ReadEnds w0 p N c 1 0 (KeptIt w0 B)) := by
  have hlt := hV.lt
  have hVW := hV.keep hK (fun h => h)
  have cB := hVW.cell 0 rfl
  have fB := hVW.free 0
  simp only [List.getElem_toArray, List.getElem_cons_zero] at cB
  have HV := Lib.hid hVW; have HB := Lib.hid hB; have HK := Lib.hid hK; have Hb := Lib.hid (hb.keep hK (fun _ _ h => h)); have HP := Lib.hid hp
  clear hV hVW hB hK hb hp
  simp only [List.append_toArray, List.nil_append, List.cons_append]
  go_enter Try.func8, Try.ntmps8
  go_wp2_with fail
  have hs := (Keeps.refl (Just B) W).setIn (Just.self B) 0 (.pointer (some ⟨w0.heap.size + 1 + 1, 0, none⟩))
  have hcur := Whole.keep HB.out.cur hs (by unfold Just; omega)
  have hbb := Hb.out.keep hs (fun q hq => by unfold Just; have := HP.out q hq; omega)
  refine (take_at _ p xs N c 0 1 1 _ hx (by omega) hcur hbb (fun _ q hq => by have := HP.out q hq; omega) (by omega) hN hN' hc).mono ?_
  rintro e w2 ⟨v', rfl, ⟨q, c', rfl, _, _, _, _, hk⟩, hcur2⟩
  have hk1 : Keeps (Just B) w0 w2 := ((HK.out.wider (S' := Just B) (fun _ _ h => h.elim)).trans hs).then hk (fun i hi h => by unfold Just at h; omega)
  have HE := Lib.hid (show Begun w0 p N c 1 0 w2 ∧ KeptIt w0 B w2 from ⟨(HB.out.stay hs (by unfold Just; omega)).keep hk hcur2, (Whole.set HV.out 0 _).keep hk (by unfold Just; omega), hk1⟩)
  clear hs hcur hbb hk hk1 hcur2
  go_wp2_with fail
  go_returns
  exact ⟨.inl rfl, HE.out⟩

theorem deadRead_none (w0 W : World) (B : Nat) (p : Option Addr) (N c : Nat) (h0 : N = 0) (v : Value) (hV : Whole w0 B 25 #[v]) (hB : Begun w0 p N c 0 0 W) (hK : Keeps NoBlock w0 W) :
    Calls Try.prog 8 (#[.pointer (some ⟨w0.heap.size + 1 + 1, 0, none⟩)] ++ #[.pointer (some ⟨B, 0, none⟩)]) W (ReadEnds w0 p N c 0 2 (KeptIt w0 B)) := by
  subst h0
  have hlt := hV.lt
  have hVW := hV.keep hK (fun h => h)
  have cB := hVW.cell 0 rfl
  have fB := hVW.free 0
  simp only [List.getElem_toArray, List.getElem_cons_zero] at cB
  have HV := Lib.hid hVW; have HB := Lib.hid hB; have HK := Lib.hid hK
  clear hV hVW hB hK
  simp only [List.append_toArray, List.nil_append, List.cons_append]
  go_enter Try.func8, Try.ntmps8
  go_wp2_with fail
  have hs := (Keeps.refl (Just B) W).setIn (Just.self B) 0 (.pointer (some ⟨w0.heap.size + 1 + 1, 0, none⟩))
  have hcur := Whole.keep HB.out.cur hs (by unfold Just; omega)
  refine (take_short _ p 0 c 0 1 _ hcur (by omega) (by omega) (by omega)).mono ?_
  rintro e w2 ⟨rfl, hcur2, hk⟩
  have hk1 : Keeps (Just B) w0 w2 := ((HK.out.wider (S' := Just B) (fun _ _ h => h.elim)).trans hs).then hk (fun i hi h => by unfold Just at h; omega)
  exact ⟨rfl, .inr (gave_given _), (HB.out.stay hs (by unfold Just; omega)).keep hk hcur2, (Whole.set HV.out 0 _).keep hk (by unfold Just; omega), hk1⟩

/-- A list of asks, as the law's argument holds it: for each its kind, its number, its error. -/
def Asks (w : World) (p : Option Addr) (n : Nat) : Prop :=
  ∀ i, i < n → ∃ (a : Addr) (kd m ee : Int), p = some a ∧ w.cell? (a.add (i * 3)) = some (.int .u8 kd) ∧ w.cell? ⟨(a.add (i * 3)).block, (a.add (i * 3)).off + 1, none⟩ = some (.int .i64 m) ∧ w.cell? ⟨(a.add (i * 3)).block, (a.add (i * 3)).off + 2, none⟩ = some (.int .u8 ee) ∧ 0 ≤ kd ∧ kd < 256 ∧ 0 ≤ ee ∧ ee < 256

set_option maxHeartbeats 1000000 in
theorem dead_walk (p q : Option Addr) (N c n k : Nat) (xs : List Int) (w : World) (hx : N = xs.length) (hN : N ≤ c) (hc : c ≤ 9223372036854775807) (hb : Bytes8 w p xs) (hp : 1 ≤ N → ∀ r, p = some r → r.block < w.heap.size) (hl : Asks w q n) (hn : n ≤ 9223372036854775807) :
    Calls Try.prog 3 #[.slice p N c, .slice q n k] w fun e w' => e = .returned (.bool true) ∧ Keeps NoBlock w w' := by
  have hmf : ∀ (fn : Fn) (first cap : Array Value) (w : World), (Instr.makeFunc fn first cap).run Try.prog w = .ok (.func fn first cap) w := fun _ _ _ _ => rfl
  have Hb := Lib.hid hb; have Hl := Lib.hid hl; have Hp := Lib.hid hp
  have HX := Lib.hid hx
  clear hb hl hp hx
  by_cases hg : n ≤ 40 ∧ N ≤ 500
  · obtain ⟨g1, g2⟩ := hg
    go_enter Try.func3, Try.ntmps3
    go_wp2_with fail
    refine (lives_true _).mono ?_
    rintro e w1 ⟨rfl, hk⟩
    have HK := Lib.hid hk
    clear hk
    go_wp2_with fail
    have hbytes : Bytes8 (w1.alloc (.cells #[.pointer none] 25)) p xs := (Hb.out.keep HK.out (fun _ _ h => h)).keep ((Keeps.refl NoBlock _).alloc _) (fun _ _ h => h)
    have hpB : 1 ≤ N → ∀ r, p = some r → r.block < w1.heap.size := fun h1 r hr => by have := Hp.out h1 r hr; have := HK.out.size; omega
    have hrun : Calls Try.prog 7 #[.slice p N c, .func (.func 8) #[] #[.pointer (some ⟨w1.heap.size, 0, none⟩)]] (w1.alloc (.cells #[.pointer none] 25)) (fun e w' => (N = 0 ∧ RunTold (w1.alloc (.cells #[.pointer none] 25)) 0 2 (KeptIt (w1.alloc (.cells #[.pointer none] 25)) w1.heap.size) e w') ∨ (1 ≤ N ∧ RunTold (w1.alloc (.cells #[.pointer none] 25)) 1 0 (KeptIt (w1.alloc (.cells #[.pointer none] 25)) w1.heap.size) e w')) := by
      rcases Nat.eq_zero_or_pos N with h0 | h1
      · exact (run_any _ _ p N c 0 2 _ _ enterDead (fun W hB hK _ => deadRead_none _ W _ p N c h0 _ (Whole.new _ _ _) hB hK)).mono fun e w' h => .inl ⟨h0, h⟩
      · exact (run_any _ _ p N c 1 0 _ _ enterDead (fun W hB hK _ => deadRead_some _ W _ p xs N c HX.out h1 hN (by omega) hc _ (Whole.new _ _ _) hB hK hbytes (hpB h1))).mono fun e w' h => .inr ⟨h1, h⟩
    refine hrun.mono ?_
    clear hrun hbytes hpB
    rintro e w2 (⟨h0, rfl, w3, ⟨hR, hR'⟩, hT⟩ | ⟨h1, rfl, w3, ⟨hR, hR'⟩, hT⟩)
    all_goals
      have hd := (hR.keep hT.2.2.2.2 (by simp only [World.size_alloc]; omega))
      have cd := hd.cell 0 rfl
      simp only [List.getElem_toArray, List.getElem_cons_zero] at cd
      have HD := Lib.hid (show Dead w2 (some ⟨w1.heap.size + 1 + 1 + 1, 0, none⟩) from by have := CurB.dead hT.2.2.2.1; simpa only [World.size_alloc] using this)
      have HK2 := Lib.hid (show Keeps NoBlock w w2 from HK.out.then (((Keeps.refl NoBlock w1).alloc _).then (hR'.then hT.2.2.2.2 (S := Just w1.heap.size) (fun k hk h => by simp only [World.size_alloc] at hk h; omega)) (fun k hk h => by unfold Just at h; omega)) (fun _ _ h => h))
      have HW := Lib.hid hd
      clear hT hR hR' hd
      have hd1 : decide (40 < (n : Int)) = false := by simp; omega
      have hd2 : decide (500 < (N : Int)) = false := by simp; omega
    · obtain rfl : N = 0 := h0
      go_wp2_with fail
      go_loopw [52] (fun i wr => ∃ m : Nat, m ≤ n ∧ i = .int .i64 m ∧ Keeps NoBlock w2 wr) (fun i _ => n - (intOf i).toNat)
      case atStart => exact ⟨0, Nat.zero_le _, rfl, Keeps.refl _ _⟩
      case round =>
        obtain ⟨m, hm, rfl, hkr⟩ := hrel
        by_cases hlt : m < n
        · obtain ⟨a, kd, mm, ee, rfl, c0, c1, c2, hk0, hk1, he0, he1⟩ := Hl.out m hlt
          have hfr := HK2.out.trans hkr
          have d0 := hfr.cell c0 (fun h => h)
          have d1 := hfr.cell c1 (fun h => h)
          have d2 := hfr.cell c2 (fun h => h)
          have dB := (HW.out.keep hkr (fun h => h)).cell 0 rfl
          simp only [List.getElem_toArray, List.getElem_cons_zero] at dB
          have dB2 : ∀ o, (wr.alloc o).cell? ⟨w1.heap.size, 0, none⟩ = some (.pointer (some ⟨w1.heap.size + 1 + 1 + 1, 0, none⟩)) := fun o => by
            have := ((HW.out.keep hkr (fun h => h)).alloc o).cell 0 rfl
            simpa only [World.size_alloc, List.getElem_toArray, List.getElem_cons_zero] using this
          have HR := Lib.hid hkr
          clear hkr hfr c0 c1 c2 dB
          go_wp2_with fail
          refine (one_any _ kd mm ee _ (HD.out.keep (HR.out.alloc _) (fun _ _ h => h)) hk0 hk1 he0 he1).mono ?_
          rintro e w5 ⟨rfl, hk5⟩
          have hblk := (Whole.new wr 32 #[.int .u8 kd, .int .i64 mm, .int .u8 ee]).keep hk5 (fun h => h)
          have e0 := hblk.cell 0 rfl
          have e1 := hblk.cell 1 rfl
          have e2 := hblk.cell 2 rfl
          simp only [List.getElem_toArray, List.getElem_cons_zero, List.getElem_cons_succ] at e0 e1 e2
          have H5 := Lib.hid ((HR.out.alloc _).trans hk5)
          clear hk5 hblk d0 d1 d2 dB2
          go_wp2_with fail
          refine (one_any none kd mm ee _ (.inl rfl) hk0 hk1 he0 he1).mono ?_
          rintro e w6 ⟨rfl, hk6⟩
          have H6 := Lib.hid (H5.out.trans hk6)
          clear hk6 e0 e1 e2
          go_wp2_with fail
          go_roundw
          case rel => exact ⟨m + 1, by omega, by go_num, H6.out⟩
          case measure => simp [intOf]; omega
        · have HR := Lib.hid hkr
          clear hkr
          go_wp2_with fail
          refine (run_nil p _ c _).mono ?_
          rintro e w5 ⟨rfl, hk5⟩
          have H5 := Lib.hid ((HK2.out.trans HR.out).trans hk5)
          clear hk5
          go_wp2_with fail
          go_ret
          exact ⟨rfl, H5.out⟩
    · rcases (show N = 1 ∨ 2 ≤ N by omega) with hN1 | h2
      · subst hN1
        go_wp2_with fail
        go_loopw [52] (fun i wr => ∃ m : Nat, m ≤ n ∧ i = .int .i64 m ∧ Keeps NoBlock w2 wr) (fun i _ => n - (intOf i).toNat)
        case atStart => exact ⟨0, Nat.zero_le _, rfl, Keeps.refl _ _⟩
        case round =>
          obtain ⟨m, hm, rfl, hkr⟩ := hrel
          by_cases hlt : m < n
          · obtain ⟨a, kd, mm, ee, rfl, c0, c1, c2, hk0, hk1, he0, he1⟩ := Hl.out m hlt
            have hfr := HK2.out.trans hkr
            have d0 := hfr.cell c0 (fun h => h)
            have d1 := hfr.cell c1 (fun h => h)
            have d2 := hfr.cell c2 (fun h => h)
            have dB := (HW.out.keep hkr (fun h => h)).cell 0 rfl
            simp only [List.getElem_toArray, List.getElem_cons_zero] at dB
            have dB2 : ∀ o, (wr.alloc o).cell? ⟨w1.heap.size, 0, none⟩ = some (.pointer (some ⟨w1.heap.size + 1 + 1 + 1, 0, none⟩)) := fun o => by
              have := ((HW.out.keep hkr (fun h => h)).alloc o).cell 0 rfl
              simpa only [World.size_alloc, List.getElem_toArray, List.getElem_cons_zero] using this
            have HR := Lib.hid hkr
            clear hkr hfr c0 c1 c2 dB
            go_wp2_with fail
            refine (one_any _ kd mm ee _ (HD.out.keep (HR.out.alloc _) (fun _ _ h => h)) hk0 hk1 he0 he1).mono ?_
            rintro e w5 ⟨rfl, hk5⟩
            have hblk := (Whole.new wr 32 #[.int .u8 kd, .int .i64 mm, .int .u8 ee]).keep hk5 (fun h => h)
            have e0 := hblk.cell 0 rfl
            have e1 := hblk.cell 1 rfl
            have e2 := hblk.cell 2 rfl
            simp only [List.getElem_toArray, List.getElem_cons_zero, List.getElem_cons_succ] at e0 e1 e2
            have H5 := Lib.hid ((HR.out.alloc _).trans hk5)
            clear hk5 hblk d0 d1 d2 dB2
            go_wp2_with fail
            refine (one_any none kd mm ee _ (.inl rfl) hk0 hk1 he0 he1).mono ?_
            rintro e w6 ⟨rfl, hk6⟩
            have H6 := Lib.hid (H5.out.trans hk6)
            clear hk6 e0 e1 e2
            go_wp2_with fail
            go_roundw
            case rel => exact ⟨m + 1, by omega, by go_num, H6.out⟩
            case measure => simp [intOf]; omega
          · have HR := Lib.hid hkr
            clear hkr
            go_wp2_with fail
            refine (run_nil p _ c _).mono ?_
            rintro e w5 ⟨rfl, hk5⟩
            have H5 := Lib.hid ((HK2.out.trans HR.out).trans hk5)
            clear hk5
            go_wp2_with fail
            go_ret
            exact ⟨rfl, H5.out⟩
      · have hm : ¬ (N : Int) ≤ 1 := by omega
        have h0 : 0 < N := by omega
        go_wp2_with fail
        go_loopw [52] (fun i wr => ∃ m : Nat, m ≤ n ∧ i = .int .i64 m ∧ Keeps NoBlock w2 wr) (fun i _ => n - (intOf i).toNat)
        case atStart => exact ⟨0, Nat.zero_le _, rfl, Keeps.refl _ _⟩
        case round =>
          obtain ⟨m, hm, rfl, hkr⟩ := hrel
          by_cases hlt : m < n
          · obtain ⟨a, kd, mm, ee, rfl, c0, c1, c2, hk0, hk1, he0, he1⟩ := Hl.out m hlt
            have hfr := HK2.out.trans hkr
            have d0 := hfr.cell c0 (fun h => h)
            have d1 := hfr.cell c1 (fun h => h)
            have d2 := hfr.cell c2 (fun h => h)
            have dB := (HW.out.keep hkr (fun h => h)).cell 0 rfl
            simp only [List.getElem_toArray, List.getElem_cons_zero] at dB
            have dB2 : ∀ o, (wr.alloc o).cell? ⟨w1.heap.size, 0, none⟩ = some (.pointer (some ⟨w1.heap.size + 1 + 1 + 1, 0, none⟩)) := fun o => by
              have := ((HW.out.keep hkr (fun h => h)).alloc o).cell 0 rfl
              simpa only [World.size_alloc, List.getElem_toArray, List.getElem_cons_zero] using this
            have HR := Lib.hid hkr
            clear hkr hfr c0 c1 c2 dB
            go_wp2_with fail
            refine (one_any _ kd mm ee _ (HD.out.keep (HR.out.alloc _) (fun _ _ h => h)) hk0 hk1 he0 he1).mono ?_
            rintro e w5 ⟨rfl, hk5⟩
            have hblk := (Whole.new wr 32 #[.int .u8 kd, .int .i64 mm, .int .u8 ee]).keep hk5 (fun h => h)
            have e0 := hblk.cell 0 rfl
            have e1 := hblk.cell 1 rfl
            have e2 := hblk.cell 2 rfl
            simp only [List.getElem_toArray, List.getElem_cons_zero, List.getElem_cons_succ] at e0 e1 e2
            have H5 := Lib.hid ((HR.out.alloc _).trans hk5)
            clear hk5 hblk d0 d1 d2 dB2
            go_wp2_with fail
            refine (one_any none kd mm ee _ (.inl rfl) hk0 hk1 he0 he1).mono ?_
            rintro e w6 ⟨rfl, hk6⟩
            have H6 := Lib.hid (H5.out.trans hk6)
            clear hk6 e0 e1 e2
            go_wp2_with fail
            go_roundw
            case rel => exact ⟨m + 1, by omega, by go_num, H6.out⟩
            case measure => simp [intOf]; omega
          · have HR := Lib.hid hkr
            clear hkr
            go_wp2_with fail
            refine (run_nil p _ c _).mono ?_
            rintro e w5 ⟨rfl, hk5⟩
            have H5 := Lib.hid ((HK2.out.trans HR.out).trans hk5)
            clear hk5
            go_wp2_with fail
            go_ret
            exact ⟨rfl, H5.out⟩
  · go_enter Try.func3, Try.ntmps3
    go_wp2_with fail
    refine (lives_true _).mono ?_
    rintro e w1 ⟨rfl, hk⟩
    have HK := Lib.hid hk
    clear hk
    go_wp2_with fail
    all_goals
      refine (lives_true _).mono ?_
      rintro e w2 ⟨rfl, hk2⟩
      have HK2 := Lib.hid hk2
      clear hk2
      go_wp2_with fail
      go_ret
      exact ⟨rfl, HK.out.trans HK2.out⟩
end Go.Proofs.Ythgjipgkbinjkaa

/-
  The law VarintReads: its walk.
-/
import Derived.Test.YthgpkimnhgjloaaVarRead
import Derived.Test.YthgpkimnhgjloaaRef2
import Derived.Test.YthgpkimnhgjloaaLives2
import Derived.Test.YthgpkimnhgjloaaApartWalk
namespace Go.Proofs.Ythgpkimnhgjloaa
open Go.RowKit

theorem enter_readsIn (args : Array Value) (w : World) : (callFunc 17 args).run Try.prog w = .ok (.enter 17 args) w := by kernel_rfl

set_option maxHeartbeats 1000000 in
theorem readsIn (w0 W : World) (D : Nat) (p : Option Addr) (xs : List Int) (N c : Nat) (hx : N = xs.length) (hB : Begun w0 p N c 0 0 W) (hK : Keeps NoBlock w0 W) (hD : Whole W D 27 #[.int .u64 0]) (hDlt : D < w0.heap.size) (hb : Bytes8 W p xs) (ho : Octets xs)
    (hp : 0 < xs.length → ∀ q, p = some q → q.block < w0.heap.size) (hc : N ≤ c) (hc' : c ≤ 9223372036854775807) :
    Calls Try.prog 17 (#[.pointer (some ⟨w0.heap.size + 1 + 1, 0, none⟩)] ++ #[.pointer (some ⟨D, 0, none⟩)]) W (ReadEnds w0 p N c (vget xs).n (vget xs).e (fun w2 => Keeps (Just D) w0 w2 ∧ Whole w2 D 27 #[gotVal (vget xs)])) := by
  have hg := get_any (w0.heap.size + 1 + 1) p xs N c 0 W hx hB.cur hb ho (fun h0 q hq => by have := hp h0 q hq; omega) (Nat.zero_le _) hc hc'
  rw [List.drop_zero] at hg
  obtain ⟨t, ht⟩ : ∃ t, t = vget xs := ⟨_, rfl⟩
  rw [← ht] at hg ⊢
  have HG := Lib.hid hg; have HB := Lib.hid hB; have HK := Lib.hid hK; have HD := Lib.hid hD; have HT := Lib.hid ht
  clear hg hB hK hD hb ho hp hx hc hc' ht
  simp only [List.append_toArray, List.nil_append, List.cons_append]
  go_enter Try.func17, Try.ntmps17
  go_wp2_with fail
  refine HG.out.mono ?_
  rintro e w1 ⟨hk, ⟨he, rfl, hcur⟩ | ⟨he, rfl, hcur⟩⟩
  · rw [Nat.zero_add] at hcur
    have hD1 := HD.out.keep hk (by unfold Just; omega)
    have d0 := hD1.cell 0 rfl
    have f0 := hD1.free 0
    simp only [List.getElem_toArray, List.getElem_cons_zero] at d0
    have HB1 := Lib.hid ((HB.out.keep hk hcur).store hDlt (.int .u64 t.x))
    have HR := Lib.hid (show Keeps (Just D) w0 (w1.setCell ⟨D, 0, none⟩ (.int .u64 t.x)) from ((HK.out.wider (S' := Just D) (fun _ _ h => h.elim)).then hk (fun i hi h => by unfold Just at h; omega)).setIn (Just.self D) 0 _)
    have HD2 := Lib.hid (hD1.set 0 (.int .u64 t.x))
    have HE := Lib.hid he
    clear hk hcur hD1 HG he
    go_wp2_with fail
    go_returns
    refine ⟨.inl rfl, by rw [HE.out]; exact HB1.out, HR.out, ?_⟩
    unfold gotVal
    rw [if_pos HE.out]
    exact HD2.out
  · rw [Nat.zero_add] at hcur
    refine ⟨rfl, .inr (gave_given _), HB.out.keep hk hcur, (HK.out.wider (S' := Just D) (fun _ _ h => h.elim)).then hk (fun i hi h => by unfold Just at h; omega), ?_⟩
    unfold gotVal
    rw [if_neg he]
    exact HD.out.keep hk (by unfold Just; omega)

/-- A reading of one number, into block D. -/
theorem run_readsIn (D : Nat) (p : Option Addr) (xs : List Int) (N c : Nat) (hx : N = xs.length) (w0 : World) (hD : Whole w0 D 27 #[.int .u64 0]) (hb : Bytes8 w0 p xs) (ho : Octets xs) (hc : N ≤ c) (hc' : c ≤ 9223372036854775807) :
    Calls Try.prog 12 #[.slice p N c, .func (.func 17) #[] #[.pointer (some ⟨D, 0, none⟩)]] w0 (GotIn D (vget xs) w0) := by
  have hDlt := hD.lt
  refine (run_any _ _ p N c (vget xs).n (vget xs).e _ w0 enter_readsIn (fun W hB hK _ => readsIn w0 W D p xs N c hx hB hK (hD.keep hK (fun h => h)) hDlt (hb.keep hK (fun _ _ h => h)) ho (fun h0 q hq => by
    obtain ⟨a, ha, hcell⟩ := hb h0
    obtain rfl := Option.some.inj (hq.symm.trans ha)
    have := ltOfCell (hcell 0 h0)
    rwa [addBlock] at this) hc hc')).mono ?_
  rintro e w' ⟨rfl, w2, ⟨hR1, hR2⟩, hT⟩
  exact ⟨rfl, hR2.keep hT.2.2.2.2 (by omega), hR1.then hT.2.2.2.2 (fun i hi h => by unfold Just; omega)⟩

theorem Keeps.fromDrewN {S : Nat → Prop} {a b : World} {n : Nat} (h : Keeps S (a.drewN n) b) : Keeps S a b := ⟨h.os, h.tape, h.output, h.size, h.block⟩

theorem vget_only (xs : List Int) (ho : Octets xs) (h : (vget xs).e = 0) : xs.take (vget xs).n = vnum (vget xs).x.toNat ∧ 0 ≤ (vget xs).x ∧ (vget xs).x < 18446744073709551616 := by
  have hb := vread_bound 9 true xs ho h
  exact ⟨(vread_only 9 true xs ho h).1, hb.1, Int.lt_of_lt_of_le hb.2 (by decide)⟩

set_option maxHeartbeats 4000000 in
set_option maxRecDepth 10000 in
theorem reads_small (p : Option Addr) (N c : Nat) (xs : List Int) (w : World) (hx : N = xs.length) (hb : Bytes8 w p xs) (ho : Octets xs) (hc : N ≤ c) (hc' : c ≤ 9223372036854775807) (g : N ≤ 100) :
    Calls Try.prog 5 #[.slice p N c] w fun e w' => e = .returned (.bool true) ∧ Keeps NoBlock w w' := by
  have hmf := getFnOk
  obtain ⟨t, ht⟩ : ∃ t, t = vget xs := ⟨_, rfl⟩
  have HG := Lib.hid (get_ref xs 0 (by omega) (by omega) ho)
  have HR := Lib.hid (fun w (hb : Bytes8 w p xs) => read_any p xs N c hx w hb ho hc hc')
  have HI := Lib.hid (fun D w (hD : Whole w D 27 #[.int .u64 0]) (hb : Bytes8 w p xs) => run_readsIn D p xs N c hx w hD hb ho hc hc')
  have hon := vget_only xs ho
  have hnl := vread_n 10 true xs
  rw [show vread 10 true xs = vget xs from rfl] at hnl
  rw [← ht] at HG HR HI hon hnl
  rw [← hx] at hnl
  have HX := Lib.hid hx; have HO := Lib.hid ho; have HB := Lib.hid hb; have HOn := Lib.hid hon
  clear ht hx ho hb hon
  unfold refOut rdr at HG
  unfold readOut gotVal at HR
  by_cases he : t.e = 0
  all_goals
    go_enter Try.func5, Try.ntmps5
    go_wp2_with fail
    refine (lives2_true _).mono ?_
    rintro e w1 ⟨rfl, hk⟩
    have hb1 := HB.out.keep hk (fun _ _ h => h)
    have hcv := textOf p N c xs w1 HX.out hb1
    have HK1 := Lib.hid hk; have HB1 := Lib.hid hb1
    clear hk hb1
    go_wp2_with fail
    refine (HG.out _).mono ?_
    rintro e w2 ⟨rfl, hk⟩
    have HK2 := Lib.hid (HK1.out.trans hk); have HB2 := Lib.hid (HB1.out.keep hk (fun _ _ h => h))
    clear hk hcv HG
    go_wp2_with fail
    refine (HI.out (w2.heap.size + 1) _ (Whole.newAt _ _ _ _ (by simp)) (HB2.out.keep (((Keeps.refl NoBlock w2).alloc _).alloc _) (fun _ _ h => h))).mono ?_
    clear HI
    rintro e w3 ⟨rfl, hD, hk⟩
    have hr3 := ((Whole.new w2 42 _).alloc _).keep hk (by unfold Just; omega)
    have hb3 := HB2.out.keep (((((Keeps.refl NoBlock w2).alloc _).alloc _)).then hk (S := NoBlock) (fun i hi h => by unfold Just at h; omega)) (fun _ _ h => h)
    have hk3 : Keeps NoBlock w w3 := HK2.out.trans (((((Keeps.refl NoBlock w2).alloc _).alloc _)).then hk (fun i hi h => by unfold Just at h; omega))
    have HD3 := Lib.hid hD; have HR3 := Lib.hid hr3; have HB3 := Lib.hid hb3; have HK3 := Lib.hid hk3
    clear hD hr3 hb3 hk3 hk
    go_wp2_with fail
    refine (HR.out w3 HB3.out).mono ?_
    clear HR
    rintro e w4 ⟨rfl, hk⟩
    have hD4 := HD3.out.keep hk (fun h => h)
    have hR4 := HR3.out.keep hk (fun h => h)
    have HB4 := Lib.hid (HB3.out.keep hk (fun _ _ h => h)); have HK4 := Lib.hid (HK3.out.trans hk)
    have d0 := hD4.cell 0 rfl
    have r0 := hR4.cell 0 rfl
    have r1 := hR4.cell 1 rfl
    have r2 := hR4.cell 2 rfl
    simp only [List.getElem_toArray, List.getElem_cons_zero, List.getElem_cons_succ] at d0 r0 r1 r2
    unfold gotVal at d0 hD4
    have HD4 := Lib.hid hD4
    clear hk hD4 hR4
  · rw [if_pos he] at d0 HD4
    have hx0 := HOn.out he
    obtain ⟨hn1, hn2, hn3⟩ := hx0
    have hlen : t.n = (vnum t.x.toNat).length := by rw [← hn1, List.length_take]; have := HX.out; omega
    have h8 : Bytes8 w4 p (vnum t.x.toNat) := by
      have := HB4.out.piece (q := p) 0 t.n (by have := HX.out; omega) (fun _ => by cases p <;> simp [Addr.add])
      rw [List.drop_zero, hn1] at this
      exact this
    have HLen := Lib.hid hlen; have H8 := Lib.hid h8
    obtain ⟨t1, t2⟩ := textBoth (c := c) hlen h8
    have HNum := Lib.hid (num_bytes t.x.toNat t.x (by omega) (by omega))
    clear hlen h8 hn1 hn2 hn3
    go_wp2_with fail
    have s0 := And.intro (show w4.drew.cell? ⟨w2.heap.size + 1, 0, none⟩ = some (.int .u64 t.x) from d0) t2
    have sN := And.intro d0 t1
    clear t1 t2
    have hz0 : (0 : Int) ≤ (t.n : Int) := by omega
    have hz1 : (t.n : Int) ≤ (c : Int) := by omega
    have hz2 : t.n ≤ c := by omega
    go_region_held3 (fun w' => w'.cell? ⟨w2.heap.size + 1, 0, none⟩ = some (.int .u64 t.x) ∧ (convert 24 9 (.slice p t.n c)).run Try.prog w' = .ok (.string (strOfNums (vnum t.x.toNat))) w')
      (first | exact s5 | exact s0 | exact sN)
      (first | (go_at_call 10; refine (HNum.out _).mono ?_; rintro e w5 ⟨rfl, hk⟩; have hk : Keeps NoBlock w4 w5 := (by first | exact hk | exact hk.fromDrew | exact hk.fromDrewN); have s5 := And.intro ((HD4.out.keep hk (fun h => h)).cell 0 rfl) (textOf p t.n c _ w5 HLen.out (H8.out.keep hk (fun _ _ h => h))); have HK5 := Lib.hid (HK4.out.trans hk); clear hk))
    go_wp2_with fail
    go_ret
    exact ⟨rfl, HK5.out⟩
  · go_wp2_with fail
    go_ret
    exact ⟨rfl, HK4.out⟩

set_option maxRecDepth 10000 in
theorem reads_walk (p : Option Addr) (N c : Nat) (xs : List Int) (w : World) (hx : N = xs.length) (hb : Bytes8 w p xs) (ho : Octets xs) (hc : N ≤ c) (hc' : c ≤ 9223372036854775807) :
    Calls Try.prog 5 #[.slice p N c] w fun e w' => e = .returned (.bool true) ∧ Keeps NoBlock w w' := by
  by_cases hg : N ≤ 100
  · exact reads_small p N c xs w hx hb ho hc hc' hg
  · clear hx hb ho
    go_enter Try.func5, Try.ntmps5
    go_wp2_with fail
    refine (lives2_true _).mono ?_
    rintro e w1 ⟨rfl, hk⟩
    have HK := Lib.hid hk
    clear hk
    go_wp2_with fail
    refine (lives2_true _).mono ?_
    rintro e w2 ⟨rfl, hk2⟩
    have HK2 := Lib.hid (HK.out.trans hk2)
    clear hk2
    go_wp2_with fail
    go_ret
    exact ⟨rfl, HK2.out⟩
end Go.Proofs.Ythgpkimnhgjloaa

/-
  SgPaWalk; SgBuNo.
-/
import Derived.Deep.LoopGhost
import Derived.Deep.Cut
import Derived.Deep.RegionHeld3
import Derived.Test.YtlejobomjgccnaaGreatM17
namespace Go.Proofs.YtlejobomjgccnaaGreat
open Go.RowKit

set_option maxHeartbeats 8000000 in
set_option maxRecDepth 10000 in
theorem segparses_walk {At : BAt} (HB : SgBuild At) (HNw : SgNewOk At) (HOp : SgOpenOk At) (HPa : SgParseOk) (k num less : Nat) (p : Option Addr) (N c : Nat) (ys : List Int) (w : World) (hk : k < 256) (hn : num < 4294967296) (hls : less < 256) (hin : In8 w p N c ys) :
    Calls Tryz.prog 4 #[.int .u8 (k : Int), .int .u32 (num : Int), .slice p N c, .int .u8 (less : Int)] w fun e w' => e = .returned (.bool true) ∧ Keeps NoBlock w w' := by
  have HL := Lib.hid (fun w => lives15_true HB HNw HOp w)
  by_cases hN : N ≤ 600
  rotate_left
  · have hd : decide ((600 : Int) < (N : Int)) = true := decide_eq_true (by omega)
    have hd2 : decide (600 < N) = true := decide_eq_true (by omega)
    clear hin HB HNw HOp HPa hN
    go_enter Tryz.func4, Tryz.ntmps4
    go_wp2_with fail
    refine (HL.out _).mono ?_
    rintro e1 w1 ⟨rfl, hk1⟩
    have HK := Lib.hid hk1
    clear hk1
    go_wp2_with fail
    refine (HL.out _).mono ?_
    rintro e2 w2 ⟨rfl, hk1⟩
    have HK := Lib.hid (HK.out.trans hk1)
    clear hk1
    go_wp2_with fail
    go_ret
    exact ⟨rfl, HK.out⟩
  have hd : decide ((600 : Int) < (N : Int)) = false := decide_eq_false (by omega)
  have hd2 : decide (600 < N) = false := decide_eq_false (by omega)
  obtain ⟨he1, he2, hs1, hs2⟩ := small_room k
  have HSm := Lib.hid (fun w => small15_go k hk w)
  have hsh := shl15 (k := k)
  have hz := two15 k
  obtain ⟨e, hed⟩ : ∃ e, e = smallE k := ⟨_, rfl⟩
  obtain ⟨s, hsd⟩ : ∃ s, s = smallS k := ⟨_, rfl⟩
  rw [← hed] at HSm hsh he1 he2 hz
  rw [← hsd] at HSm hs1 hs2
  clear hed hsd
  obtain ⟨Z, hZ⟩ : ∃ Z, Z = 2 ^ e := ⟨_, rfl⟩
  rw [← hZ] at hsh hz
  have HZ := Lib.hid hZ
  clear hZ
  obtain ⟨qq, hqq⟩ : ∃ qq, qq = less / 250 := ⟨_, rfl⟩
  have hq1 : (less : Int) / 250 = (qq : Int) := by omega
  have hq2 : qq ≤ 1 := by omega
  obtain ⟨D, hD⟩ : ∃ D, D = Z - qq := ⟨_, rfl⟩
  have hD1 : (Z : Int) - (qq : Int) = (D : Int) := by omega
  have hD2 : 4095 ≤ D ∧ D ≤ 8192 := by omega
  have hDe : D ≤ 2 ^ e := by rw [← HZ.out, hD]; exact Nat.sub_le _ _
  clear hqq hD
  obtain ⟨hD3, hD4⟩ := hD2
  have HI := Lib.hid hin
  have hcap := hin.cap
  obtain ⟨T, hT⟩ : ∃ T, T = ys ++ List.replicate (D - N) 255 := ⟨_, rfl⟩
  have hTl : T.length = D := by rw [hT, List.length_append, List.length_replicate, ← hin.len]; omega
  have hTo : Octets T := by rw [hT]; exact hin.oct.app (fun b hb => by rw [(List.mem_replicate.1 hb).2]; decide)
  have HT := Lib.hid hT
  have HTl := Lib.hid hTl
  have HTo := Lib.hid hTo
  have HMy := Lib.hid (fun w => may9_ref e s num (by omega) w)
  have HPr := Lib.hid (fun q d w h => HPa.parse e s num q D d T w h (by omega) hDe (by omega) (by omega) hn)
  clear hDe
  have HRf := Lib.hid (fun w => parse15_ref e s num (by omega) (by omega) (by omega) T hTo (by omega) w)
  have HSeg := Lib.hid (fun (l : List Rec) (hf : ∀ r ∈ l, r.Fine ∧ checkR r = 0) (hr : (recsB l).length ≤ T.length) => seg_scan (e := e) (s := s) (n := num) (by omega) (by omega) (by omega) (by omega) hf hr)
  have hnu : IntKind.u64.wrap (num : Int) = (num : Int) := by rw [IntKind.wrap_u64]; omega
  clear hin HB HNw HOp HPa hT hTl hTo he1 he2 hs1 hs2 hk
  unfold confV at HSm HMy HPr HRf
  go_enter Tryz.func4, Tryz.ntmps4
  go_wp2_with fail
  refine (HL.out _).mono ?_
  rintro e1 w1 ⟨rfl, hk1⟩
  have HK := Lib.hid hk1
  clear hk1
  go_wp2_with fail
  refine (HSm.out _).mono ?_
  rintro e2 w2 ⟨rfl, hk1⟩
  have HK := Lib.hid ((HK.out.trans hk1).alloc (.cells #[.int .u8 (e : Int), .int .u32 (s : Int)] 27))
  obtain ⟨wC, hwC⟩ : ∃ wC, wC = w2.alloc (.cells #[.int .u8 (e : Int), .int .u32 (s : Int)] 27) := ⟨_, rfl⟩
  have HC : Hid (Whole wC w2.heap.size 27 (confCells e s)) := Lib.hid (by rw [hwC]; exact Whole.new w2 _ _)
  have hszC : wC.heap.size = w2.heap.size + 1 := by rw [hwC]; simp
  rw [← hwC] at HK
  have HIc := Lib.hid ((HI.out.at_.keep HK.out (fun _ _ h => h)).keep ((Keeps.refl NoBlock wC).alloc (.cells #[] 5)) (fun _ _ h => h))
  have HMade : Hid ((wC.alloc (.cells #[] 5)).ownsRow (w2.heap.size + 1) 5 1 (.slice (some ⟨w2.heap.size + 1, 0, none⟩) 0 0) 0 (([] : List Int).map (Value.int .u8))) := Lib.hid (by
    have h := World.ownsRow_made (base := wC.heap.size) (e := 5) (size := 1) wC #[] 0 (Nat.le_refl _) (Nat.zero_le _) (by simp)
    rw [hszC] at h
    exact h)
  have HSz : Hid (w2.heap.size + 1 ≤ (wC.alloc (.cells #[] 5)).heap.size) := Lib.hid (by simp; omega)
  have HKm := Lib.hid ((Below.refl (w2.heap.size + 1) wC).alloc (by omega) (.cells #[] 5))
  have HBare := Lib.hid HI.out.bare
  have HLn := Lib.hid HI.out.len
  have HCp := Lib.hid (And.intro HI.out.cap HI.out.room)
  have HSc := Lib.hid hszC
  rw [hwC] at HIc HMade HSz
  have HWc := Lib.hid hwC
  clear hk1 HI hwC hszC
  go_wp2_with (at_builtin; refine wpList_append_bytes rfl _ _ rfl (w2.heap.size + 1) _ 0 [] rfl HMade.out p N c ys rfl HBare.out HLn.out HIc.out (by omega) HSz.out ?_)
  intro v3 w3 hown hbel
  rw [← HWc.out] at hbel
  have HB3 := Lib.hid (HKm.out.trans hbel)
  obtain ⟨q3, d3, hv3⟩ := own_slice hown
  subst hv3
  have HO3 := Lib.hid hown
  clear hown hbel HKm HMade HIc HSz HWc
  have hnD : N ≤ D := by omega
  go_wp2_with fail
  go_loopg [10] D (fun kx v wr => ∃ (m : Nat) (q : Option Addr) (d : Nat), v = .slice q m d ∧ N ≤ m ∧ m ≤ D ∧ D - m ≤ kx ∧ Hid (wr.ownsRow (w2.heap.size + 1) 5 1 (.slice q m d) m ((ys ++ List.replicate (m - N) 255).map (Value.int .u8))) ∧ Hid (Below (w2.heap.size + 1) wC wr))
  case atStart => exact ⟨N, q3, d3, rfl, Nat.le_refl _, hnD, Nat.sub_le _ _, Lib.hid (by rw [Nat.sub_self, List.replicate_zero, List.append_nil]; exact HO3.out), HB3⟩
  case round =>
    obtain ⟨m, q, d, rfl, hm1, hm2, hkx, HO4, HB4⟩ := hrel
    have HK4 := Lib.hid (Keeps.ofBelow (S := NoBlock) (by rw [HSc.out]; exact HB4.out))
    have HC4 := Lib.hid (HC.out.keep HK4.out (fun h => h))
    have g0 := HC4.out.cell 0 rfl
    have g1 := HC4.out.cell 1 rfl
    simp only [confCells, List.getElem_toArray, List.getElem_cons_zero, List.getElem_cons_succ] at g0 g1
    by_cases hlt : m < D
    · have dm : decide ((m : Int) < (D : Int)) = true := decide_eq_true (by omega)
      have HBx := Lib.hid (show Bytes8 (wr.alloc (.cells #[.int .u8 255] 5)) (some ⟨wr.heap.size, 0, none⟩) [255] from fun _ => ⟨_, rfl, fun i hi => by
        obtain rfl : i = 0 := by simpa using hi
        exact Whole.cell (Whole.new wr _ _) 0 rfl⟩)
      have HO5 := Lib.hid (World.ownsRow.alloc HO4.out (.cells #[.int .u8 255] 5))
      have HB5 := Lib.hid (HB4.out.alloc (by have := HB4.out.size; have := HSc.out; omega) (.cells #[.int .u8 255] 5))
      have HS5 : Hid (w2.heap.size + 1 ≤ (wr.alloc (.cells #[.int .u8 255] 5)).heap.size) := Lib.hid (by have := HB4.out.size; have := HSc.out; simp; omega)
      clear HO4 HB4
      go_wp2_with (at_builtin; refine wpList_append_bytes rfl _ _ rfl (w2.heap.size + 1) _ m _ rfl HO5.out (some ⟨wr.heap.size, 0, none⟩) 1 1 [255] rfl (fun h => by simp at h) rfl HBx.out (by omega) HS5.out ?_)
      intro v6 w6 hown hbel
      obtain ⟨q6, d6, hv6⟩ := own_slice hown
      subst hv6
      have HO6 := Lib.hid hown
      have HB6 := Lib.hid (HB5.out.trans hbel)
      clear hown hbel HO5 HB5 g0 g1
      go_wp2_with fail
      go_roundg (D - (m + 1))
      case measure => omega
      case rel =>
        refine ⟨m + 1, q6, d6, rfl, by omega, by omega, Nat.le_refl _, Lib.hid ?_, HB6⟩
        rw [show m + 1 - N = (m - N) + 1 by omega, List.replicate_succ', List.map_append, List.map_append, List.map_replicate]
        exact HO6.out
    · have dm : decide ((m : Int) < (D : Int)) = false := decide_eq_false (by omega)
      obtain rfl : m = D := by omega
      have hTown := HO4.out
      rw [← HT.out] at hTown
      have HIn : Hid (In8 wr q m d T) := Lib.hid (by
        have hob : OwnB wC T (.slice q m d) wr := by
          unfold OwnB
          rw [HTl.out, HSc.out]
          exact OwnP.ofRow hTown
        obtain ⟨q', d', h1, h2, h3, h4, h5, _⟩ := hob.read
        simp only [Value.slice.injEq] at h1
        obtain ⟨rfl, h1, rfl⟩ := h1
        rw [← h1] at h2 h5
        exact ⟨h1, h2, h3, h5, HTo.out, h4⟩)
      have HK5 := Lib.hid (HK.out.trans HK4.out)
      have HPr2 := Lib.hid (HPr.out q d wr HIn.out)
      clear hTown HO4 HB4 HPr HK4
      go_wp2_with fail
      refine HPr2.out.mono ?_
      rintro e5 w5 h
      unfold ViewPost noView at h
      rcases h with ⟨hm, rfl, hk5⟩ | ⟨hm, hp, rfl, hk5⟩ | ⟨hm, l, b, vr, va, hp, rfl, hr, ha, _⟩
      · have HC5 := Lib.hid (HC4.out.keep hk5 (fun h => h))
        have HK6 := Lib.hid ((HK5.out.trans hk5).alloc (.cells #[.slice none 0 0, .slice none 0 0, .int .u32 0, .bool false] 60))
        have HV := Lib.hid (Whole.new w5 60 #[.slice none 0 0, .slice none 0 0, .int .u32 0, .bool false])
        have g0 := HC5.out.cell 0 rfl
        have g1 := HC5.out.cell 1 rfl
        simp only [confCells, List.getElem_toArray, List.getElem_cons_zero, List.getElem_cons_succ] at g0 g1
        have hlt5 := HC5.out.lt
        rw [hm] at HMy
        clear hk5 hm
        go_wp2_with fail
        refine (HMy.out _).mono ?_
        rintro e6 w6 ⟨rfl, hk6⟩
        have HK7 := Lib.hid (HK6.out.trans hk6)
        have HV7 := Lib.hid (HV.out.keep hk6 (fun h => h))
        have v0 := HV7.out.cell 0 rfl
        simp only [List.getElem_toArray, List.getElem_cons_zero] at v0
        clear hk6 g0 g1 hlt5
        go_wp2_with fail
        go_ret
        exact ⟨rfl, HK7.out⟩
      · have HC5 := Lib.hid (HC4.out.keep hk5 (fun h => h))
        have HK6 := Lib.hid ((HK5.out.trans hk5).alloc (.cells #[.slice none 0 0, .slice none 0 0, .int .u32 0, .bool false] 60))
        have HV := Lib.hid (Whole.new w5 60 #[.slice none 0 0, .slice none 0 0, .int .u32 0, .bool false])
        have HC6 := Lib.hid (HC5.out.alloc (.cells #[.slice none 0 0, .slice none 0 0, .int .u32 0, .bool false] 60))
        have HB6 := Lib.hid ((HIn.out.at_.keep hk5 (fun _ _ h => h)).keep ((Keeps.refl NoBlock w5).alloc (.cells #[.slice none 0 0, .slice none 0 0, .int .u32 0, .bool false] 60)) (fun _ _ h => h))
        have g0 := HC5.out.cell 0 rfl
        have g1 := HC5.out.cell 1 rfl
        simp only [confCells, List.getElem_toArray, List.getElem_cons_zero, List.getElem_cons_succ] at g0 g1
        have hlt5 := HC5.out.lt
        rw [hm] at HMy
        rw [hp] at HRf
        unfold Parsed15 at HRf
        clear hk5 hm hp
        go_wp2_with fail
        refine (HMy.out _).mono ?_
        rintro e6 w6 ⟨rfl, hk6⟩
        have HK7 := Lib.hid (HK6.out.trans hk6)
        have HV7 := Lib.hid (HV.out.keep hk6 (fun h => h))
        have HC7 := Lib.hid (HC6.out.keep hk6 (fun h => h))
        have ht := textOf q m d T w6 HIn.out.len (HB6.out.keep hk6 (fun _ _ h => h))
        have g0 := HC7.out.cell 0 rfl
        have g1 := HC7.out.cell 1 rfl
        simp only [confCells, List.getElem_toArray, List.getElem_cons_zero, List.getElem_cons_succ] at g0 g1
        clear hk6 hlt5
        go_wp2_with fail
        refine (HRf.out _).mono ?_
        rintro e7 w7 ⟨rfl, hk7⟩
        have HK8 := Lib.hid (HK7.out.trans hk7)
        have HV8 := Lib.hid (HV7.out.keep hk7 (fun h => h))
        have v0 := HV8.out.cell 0 rfl
        have v1 := HV8.out.cell 1 rfl
        have v2 := HV8.out.cell 2 rfl
        have v3 := HV8.out.cell 3 rfl
        simp only [List.getElem_toArray, List.getElem_cons_zero, List.getElem_cons_succ] at v0 v1 v2 v3
        clear hk7 g0 g1 ht
        go_wp2_with fail
        go_ret
        exact ⟨rfl, HK8.out⟩
      · obtain ⟨q1, m1, d1, rfl, hm1', hmd1, hd1, hq1, hrec, hk5⟩ := hr
        obtain ⟨q2, m2, d2, rfl, hm2', hmd2, hd2, hq2, hrow, _⟩ := ha
        have hsc := parse_scan hp
        have hsf := scan_fine HTo.out
        rw [← hsc] at hsf
        have HSi := Lib.hid (HSeg.out l hsf.1 hsf.2)
        have hll : l.length ≤ 100000 := HSi.out.few
        have hol : (outS e s num l).length ≤ 100000000 := HSi.out.long
        rw [places_length] at hm2'
        have HPlc := Lib.hid (fun i (h : i < l.length) => places_at (e := e) (s := s) (n := num) h)
        have HFr := Lib.hid (fun j q d w h => frames15_ref e s num q (l.take j).length d (l.take j) (HSi.out.take j) rfl w h)
        have HLj := Lib.hid (fun j => (HSi.out.take j).long)
        have HFw := Lib.hid (fun q d w h => frames15_ref e s num q l.length d l HSi.out rfl w h)
        subst hm1'
        subst hm2'
        obtain ⟨O, hO⟩ : ∃ O, O = outS e s num l := ⟨_, rfl⟩
        rw [← hO] at hol HFw ⊢
        obtain ⟨Lv, hLv⟩ : ∃ Lv : Array Value, Lv = #[.slice q1 l.length d1, .slice q2 l.length d2, .int .u32 (O.length : Int), .bool b] := ⟨_, rfl⟩
        have HC5 := Lib.hid (HC4.out.keep hk5 (fun h => h))
        have HK6 := Lib.hid ((HK5.out.trans hk5).alloc (.cells Lv 60))
        have HV := Lib.hid (Whole.new w5 60 Lv)
        have HC6 := Lib.hid (HC5.out.alloc (.cells Lv 60))
        have HB6 := Lib.hid ((HIn.out.at_.keep hk5 (fun _ _ h => h)).keep ((Keeps.refl NoBlock w5).alloc (.cells Lv 60)) (fun _ _ h => h))
        have HR6 := Lib.hid (hrec.keep ((Keeps.refl NoBlock w5).alloc (.cells Lv 60)) (fun _ _ h => h))
        have HA6 := Lib.hid (hrow.keep ((Keeps.refl NoBlock w5).alloc (.cells Lv 60)) (fun _ _ h => h))
        have HD1 := Lib.hid (And.intro hmd1 hmd2)
        rw [hLv] at HK6 HV HC6 HB6 HR6 HA6
        have g0 := HC5.out.cell 0 rfl
        have g1 := HC5.out.cell 1 rfl
        simp only [confCells, List.getElem_toArray, List.getElem_cons_zero, List.getElem_cons_succ] at g0 g1
        have hlt5 := HC5.out.lt
        rw [hm] at HMy
        rw [hp] at HRf
        unfold Parsed15 at HRf
        unfold confV at HFr HFw
        have z1 := str_size O
        have HOd := Lib.hid hO
        clear hk5 hm hp hrec hrow hsc hsf hLv hO hq1 hq2
        obtain ⟨L, hL⟩ : ∃ L, L = l.length := ⟨_, rfl⟩
        rw [← hL] at hll HV HC6 HB6 HR6 HA6 HK6 HD1 HFw hmd1 hmd2 ⊢
        have HLd := Lib.hid hL
        clear hL
        go_wp2_with fail
        refine (HMy.out _).mono ?_
        rintro e6 w6 ⟨rfl, hk6⟩
        have HK7 := Lib.hid (HK6.out.trans hk6)
        have HV7 := Lib.hid (HV.out.keep hk6 (fun h => h))
        have HC7 := Lib.hid (HC6.out.keep hk6 (fun h => h))
        have HR7 := Lib.hid (HR6.out.keep hk6 (fun _ _ h => h))
        have HA7 := Lib.hid (HA6.out.keep hk6 (fun _ _ h => h))
        have ht := textOf q m d T w6 HIn.out.len (HB6.out.keep hk6 (fun _ _ h => h))
        have g0 := HC7.out.cell 0 rfl
        have g1 := HC7.out.cell 1 rfl
        simp only [confCells, List.getElem_toArray, List.getElem_cons_zero, List.getElem_cons_succ] at g0 g1
        clear hk6 hlt5
        go_wp2_with fail
        refine (HRf.out _).mono ?_
        rintro e7 w7 ⟨v7, rfl, q3, m3, d3, rfl, hm3, hmd3, hd3, hq3, hrec3, hk7⟩
        rw [← HLd.out] at hm3
        have hm3' : L = m3 := hm3.symm
        subst hm3'
        clear hm3
        have HK8 := Lib.hid (HK7.out.trans hk7)
        have HV8 := Lib.hid (HV7.out.keep hk7 (fun h => h))
        have HC8 := Lib.hid (HC7.out.keep hk7 (fun h => h))
        have HR8 := Lib.hid (HR7.out.keep hk7 (fun _ _ h => h))
        have HA8 := Lib.hid (HA7.out.keep hk7 (fun _ _ h => h))
        have HQ8 := Lib.hid hrec3
        have g0 := HC8.out.cell 0 rfl
        have g1 := HC8.out.cell 1 rfl
        simp only [confCells, List.getElem_toArray, List.getElem_cons_zero, List.getElem_cons_succ] at g0 g1
        clear hk7 ht hrec3 hq3
        go_wp2_with fail
        refine (HFw.out q3 d3 _ HQ8.out).mono ?_
        rintro e8 w8 ⟨v8, rfl, q8, m8, c8, rfl, _, _, _, _, _, hk8⟩
        have HK9 := Lib.hid (HK8.out.trans hk8)
        have HV9 := Lib.hid (HV8.out.keep hk8 (fun h => h))
        have HC9 := Lib.hid (HC8.out.keep hk8 (fun h => h))
        have HR9 := Lib.hid (HR8.out.keep hk8 (fun _ _ h => h))
        have HA9 := Lib.hid (HA8.out.keep hk8 (fun _ _ h => h))
        have HQ9 := Lib.hid (HQ8.out.keep hk8 (fun _ _ h => h))
        have v0 := HV9.out.cell 0 rfl
        have v1 := HV9.out.cell 1 rfl
        have v2 := HV9.out.cell 2 rfl
        have v3 := HV9.out.cell 3 rfl
        simp only [List.getElem_toArray, List.getElem_cons_zero, List.getElem_cons_succ] at v0 v1 v2 v3
        have n1 : ((L : Int) != (L : Int)) = false := by simp
        have n2 : (b != b) = false := by cases b <;> rfl
        have n3 : ((O.length : Int) != (O.length : Int)) = false := by simp
        have n4 : IntKind.i64.wrap (O.length : Int) = (O.length : Int) := by rw [IntKind.wrap_i64]; omega
        clear hk8 g0 g1
        go_wp2_with fail
        clear v0 v1 v2 v3
        go_loopw [151] (fun i wr => ∃ j : Nat, j ≤ L ∧ i = .int .i64 (j : Int) ∧ Hid (Keeps NoBlock w8 wr)) (fun i _ => L - (intOf i).toNat)
        case atStart => exact ⟨0, Nat.zero_le _, rfl, Lib.hid (Keeps.refl _ _)⟩
        case round =>
          obtain ⟨j, hj, rfl, HKr⟩ := hrel
          by_cases hlt : j < L
          · have hdj : decide ((j : Int) < (L : Int)) = true := decide_eq_true (by omega)
            have hjl : j < l.length := by rw [← HLd.out]; exact hlt
            have HVr := Lib.hid (HV9.out.keep HKr.out (fun h => h))
            have HCr := Lib.hid (HC9.out.keep HKr.out (fun h => h))
            have HRr := Lib.hid (HR9.out.keep HKr.out (fun _ _ h => h))
            have HAr := Lib.hid (HA9.out.keep HKr.out (fun _ _ h => h))
            have HQr := Lib.hid (HQ9.out.keep HKr.out (fun _ _ h => h))
            have hjlt : (l.take j).length = j := by rw [List.length_take]; omega
            have HFj := Lib.hid (fun w h => HFr.out j q3 d3 w h)
            rw [hjlt] at HFj
            have HPj := Lib.hid (HPlc.out j hjl)
            have hlj := HLj.out j
            obtain ⟨G, hG⟩ : ∃ G, G = outS e s num (l.take j) := ⟨_, rfl⟩
            rw [← hG] at HFj HPj hlj
            have HTk := Lib.hid (show RecsAt wr q3 (l.take j) from fun i hi => by
              have hi2 : i < l.length := by omega
              have e1 : (l.take j).getD i Rec.none = l.getD i Rec.none := by
                rw [List.getD_eq_getElem?_getD, List.getElem?_take_of_lt (by omega), ← List.getD_eq_getElem?_getD]
              rw [e1]
              exact HQr.out i hi2)
            have zG := str_size G
            have hjd : j ≤ d3 := by omega
            have hjd2 : (j : Int) ≤ (d3 : Int) := by omega
            clear hG hjlt
            have s0 : wr.drew.cell? ⟨w2.heap.size, 0, none⟩ = some (.int .u8 (e : Int)) ∧ wr.drew.cell? ⟨w2.heap.size, 1, none⟩ = some (.int .u32 (s : Int)) := ⟨HCr.out.cell 0 rfl, HCr.out.cell 1 rfl⟩
            have sN : wr.cell? ⟨w2.heap.size, 0, none⟩ = some (.int .u8 (e : Int)) ∧ wr.cell? ⟨w2.heap.size, 1, none⟩ = some (.int .u32 (s : Int)) := ⟨HCr.out.cell 0 rfl, HCr.out.cell 1 rfl⟩
            go_upto_region 19 with (fail)
            go_wp2_with fail
            go_region_held3 (fun w' => w'.cell? ⟨w2.heap.size, 0, none⟩ = some (.int .u8 (e : Int)) ∧ w'.cell? ⟨w2.heap.size, 1, none⟩ = some (.int .u32 (s : Int)))
              (first | exact s5 | exact s0 | exact sN)
              (first | (go_at_call 18; refine (HFj.out _ (by exact HTk.out)).mono ?_; rintro e9 w9 ⟨v9, rfl, q9, m9, c9, rfl, _, _, _, _, _, hk9⟩; have HKa := Lib.hid (show Keeps NoBlock wr w9 by first | exact hk9 | exact hk9.ofDrew | exact hk9.ofDrewN); have HCa := Lib.hid (HCr.out.keep HKa.out (fun h => h)); have s5 : w9.cell? ⟨w2.heap.size, 0, none⟩ = some (.int .u8 (e : Int)) ∧ w9.cell? ⟨w2.heap.size, 1, none⟩ = some (.int .u32 (s : Int)) := ⟨HCa.out.cell 0 rfl, HCa.out.cell 1 rfl⟩; clear hk9))
            have HVa := Lib.hid (HVr.out.keep HKa.out (fun h => h))
            have v0 := HVa.out.cell 0 rfl
            have v1 := HVa.out.cell 1 rfl
            simp only [List.getElem_toArray, List.getElem_cons_zero, List.getElem_cons_succ] at v0 v1
            obtain ⟨a1, rfl, x0, x1, x2, x3⟩ := (HRr.out.keep HKa.out (fun _ _ h => h)) j hjl
            obtain ⟨a3, rfl, y0, y1, y2, y3⟩ := (HQr.out.keep HKa.out (fun _ _ h => h)) j hjl
            obtain ⟨a2, rfl, p0⟩ := (HAr.out.keep HKa.out (fun _ _ h => h)) j (by rw [places_length]; exact hjl)
            rw [HPj.out] at p0
            obtain ⟨r, hr⟩ : ∃ r, r = l.getD j Rec.none := ⟨_, rfl⟩
            rw [← hr] at x0 x1 x2 x3 y0 y1 y2 y3
            have hne := fun w => recNe15 r w
            unfold recV at hne
            have n5 : ((G.length : Int) != (G.length : Int)) = false := by simp
            have n6 : IntKind.i64.wrap (G.length : Int) = (G.length : Int) := by rw [IntKind.wrap_i64]; omega
            have hjL : (j : Int) < (L : Int) := by omega
            clear hr s0 sN s5
            go_wp2_with fail
            go_quiet (fail)
            have HKb := Lib.hid (HKr.out.trans HKa.out)
            go_wp2_with fail
            go_roundw
            case rel => exact ⟨j + 1, by omega, by go_num, Lib.hid (by first | exact HKb.out.drewN _ | exact HKb.out)⟩
            case measure => simp [intOf]; omega
          · have hdj : decide ((j : Int) < (L : Int)) = false := decide_eq_false (by omega)
            have HKf := Lib.hid (HK9.out.trans HKr.out)
            go_wp2_with fail
            go_ret
            exact ⟨rfl, HKf.out⟩
end Go.Proofs.YtlejobomjgccnaaGreat

namespace Go.Proofs.YtlejobomjgccnaaGreat
open Go.RowKit

set_option maxHeartbeats 4000000 in
set_option maxRecDepth 10000 in
theorem segbuilds_many {At : BAt} (HB : SgBuild At) (HNw : SgNewOk At) (HOp : SgOpenOk At) (k num : Nat) (p : Option Addr) (n c : Nat) (l : List Rec) (w : World) (hn : n = l.length) (hc : n ≤ c) (hc' : c ≤ 9223372036854775807) (hb : ∀ r ∈ l, r.key.length ≤ 9223372036854775807 ∧ r.val.length ≤ 9223372036854775807) (hl : RecsAt w p l) (hlt : fewR l 60 5000 = false) :
    Calls Tryz.prog 3 #[.int .u8 (k : Int), .int .u32 (num : Int), .slice p n c] w fun e w' => e = .returned (.bool true) ∧ Keeps NoBlock w w' := by
  have HL := Lib.hid (fun w => lives15_true HB HNw HOp w)
  have HFw := Lib.hid (fun (w : World) hl => few_any p n c l 60 5000 60 5000 rfl rfl hn (by omega) hb w hl)
  have HR := Lib.hid hl
  rw [hlt] at HFw
  clear hl hb HB HNw HOp hn hlt
  go_enter Tryz.func3, Tryz.ntmps3
  go_wp2_with fail
  refine (HL.out _).mono ?_
  rintro e w1 ⟨rfl, hk1⟩
  have HK := Lib.hid hk1
  have HR := Lib.hid (HR.out.keep hk1 (fun _ _ h => h))
  clear hk1
  go_wp2_with fail
  refine (HFw.out _ HR.out).mono ?_
  rintro e w2 ⟨rfl, hk1⟩
  have HK := Lib.hid (HK.out.trans hk1)
  clear hk1
  go_wp2_with fail
  refine (HL.out _).mono ?_
  rintro e w3 ⟨rfl, hk1⟩
  have HK := Lib.hid (HK.out.trans hk1)
  clear hk1
  go_wp2_with fail
  go_ret
  exact ⟨rfl, HK.out⟩

set_option maxHeartbeats 4000000 in
set_option maxRecDepth 10000 in
theorem segbuilds_not {At : BAt} (HB : SgBuild At) (HNw : SgNewOk At) (HOp : SgOpenOk At) (k num : Nat) (p : Option Addr) (n c : Nat) (l : List Rec) (w : World) (hk : k < 256) (hnum : num < 4294967296) (hn : n = l.length) (hc : n ≤ c) (hc' : c ≤ 9223372036854775807) (hb : ∀ r ∈ l, r.key.length ≤ 9223372036854775807 ∧ r.val.length ≤ 9223372036854775807) (hl : RecsAt w p l) (hlt : fewR l 60 5000 = true) (hm : mayHead (smallE k) (smallS k) num = false) :
    Calls Tryz.prog 3 #[.int .u8 (k : Int), .int .u32 (num : Int), .slice p n c] w fun e w' => e = .returned (.bool true) ∧ Keeps NoBlock w w' := by
  have HL := Lib.hid (fun w => lives15_true HB HNw HOp w)
  have HFw := Lib.hid (fun (w : World) hl => few_any p n c l 60 5000 60 5000 rfl rfl hn (by omega) hb w hl)
  have HR := Lib.hid hl
  rw [hlt] at HFw
  obtain ⟨he1, he2, hs1, hs2⟩ := small_room k
  have HSm := Lib.hid (fun w => small15_go k hk w)
  obtain ⟨e, hed⟩ : ∃ e, e = smallE k := ⟨_, rfl⟩
  obtain ⟨s, hsd⟩ : ∃ s, s = smallS k := ⟨_, rfl⟩
  rw [← hed] at HSm he1 he2 hm
  rw [← hsd] at HSm hs1 hs2 hm
  clear hed hsd
  have HN := Lib.hid (fun w => HNw.not e s num w (by omega) (by omega) hnum hm)
  have HMy := Lib.hid (fun w => may9_ref e s num (by omega) w)
  rw [hm] at HMy
  have hnu : (num : Int) % 18446744073709551616 = (num : Int) := by omega
  unfold confV at HSm HN HMy
  clear hl hb HB HNw HOp hn hlt hm hk hnum hs1 hs2 he1 he2
  go_enter Tryz.func3, Tryz.ntmps3
  go_wp2_with fail
  refine (HL.out _).mono ?_
  rintro e w1 ⟨rfl, hk1⟩
  have HK := Lib.hid hk1
  have HR := Lib.hid (HR.out.keep hk1 (fun _ _ h => h))
  clear hk1
  go_wp2_with fail
  refine (HFw.out _ HR.out).mono ?_
  rintro e w2 ⟨rfl, hk1⟩
  have HK := Lib.hid (HK.out.trans hk1)
  clear hk1
  go_wp2_with fail
  refine (HSm.out _).mono ?_
  rintro e w3 ⟨rfl, hk1⟩
  have HK := Lib.hid ((HK.out.trans hk1).alloc (.cells #[.int .u8 (e : Int), .int .u32 (s : Int)] 27))
  clear hk1
  go_wp2_with fail
  obtain ⟨wC, hwC⟩ : ∃ wC, wC = w3.alloc (.cells #[.int .u8 (e : Int), .int .u32 (s : Int)] 27) := ⟨_, rfl⟩
  have HC : Hid (Whole wC w3.heap.size 27 (confCells e s)) := Lib.hid (by rw [hwC]; exact Whole.new w3 _ _)
  rw [← hwC] at HK ⊢
  clear hwC
  refine (HN.out _).mono ?_
  rintro e4 w4 ⟨rfl, hk4⟩
  have HK := Lib.hid (HK.out.trans hk4)
  have HC := Lib.hid (HC.out.keep hk4 (fun h => h))
  clear hk4
  have g0 := HC.out.cell 0 rfl
  have g1 := HC.out.cell 1 rfl
  simp only [confCells, List.getElem_toArray, List.getElem_cons_zero, List.getElem_cons_succ] at g0 g1
  go_wp2_with fail
  refine (HMy.out _).mono ?_
  rintro e5 w5 ⟨rfl, hk5⟩
  have HK := Lib.hid (HK.out.trans hk5)
  clear hk5 g0 g1
  go_wp2_with fail
  go_ret
  exact ⟨rfl, HK.out⟩
end Go.Proofs.YtlejobomjgccnaaGreat

/-
  The law WideParts: its walk.
-/
import Derived.Test.YtpajljjhmmjeeaaWSumsWalk
import Derived.Test.YtpajljjhmmjeeaaTailsWalk
namespace Go.Proofs.Ytpajljjhmmjeeaa
open Go.RowKit

/-- The first k parts, one behind the other. -/
def catN (f : Nat → List Int) : Nat → List Int
  | 0 => []
  | k + 1 => catN f k ++ f k
theorem catN_octets {f : Nat → List Int} {n : Nat} (h : ∀ i, i < n → Octets (f i)) : ∀ k, k ≤ n → Octets (catN f k)
  | 0, _ => fun b hb => by simp [catN] at hb
  | k + 1, hk => fun b hb => (List.mem_append.1 hb).elim (catN_octets h k (by omega) b) (h k (by omega) b)

/-- A row of slices of bytes that can be read. -/
def RowB (w : World) (q : Option Addr) (n : Nat) (f : Nat → List Int) : Prop :=
  ∀ i, i < n → ∃ (a : Addr) (p : Option Addr) (N c : Nat), q = some a ∧ w.cell? (a.add i) = some (.slice p N c) ∧ N = (f i).length ∧ N ≤ c ∧ c ≤ 9223372036854775807 ∧ Bytes8 w p (f i) ∧ Octets (f i) ∧ (p = none → N = 0 ∧ c = 0)

theorem RowB.keep {w w' : World} {q : Option Addr} {n : Nat} {f : Nat → List Int} (h : RowB w q n f) (hk : Keeps NoBlock w w') : RowB w' q n f := fun i hi => by
  obtain ⟨a, p, N, c, hq, hc, h1, h2, h3, h4, h5, h6⟩ := h i hi
  exact ⟨a, p, N, c, hq, hk.cell hc (fun h => h), h1, h2, h3, h4.keep hk (fun _ _ h => h), h5, h6⟩

/-- A block of n bytes at least. -/
def Bytish (w : World) (g n : Nat) : Prop := ∃ cur, Whole w g 5 cur ∧ ∀ i, i < n → ∃ x : Int, cur[i]? = some (.int .u8 x) ∧ 0 ≤ x ∧ x < 256

theorem Copied.both {w0 wx : World} {N : Nat} {xs : List Int} {v : Value} (h : Copied w0 N xs v wx) (hn : N = xs.length) (ho : Octets xs) :
    ∃ (q : Option Addr) (d g : Nat), v = .slice q N d ∧ N ≤ d ∧ d ≤ 9223372036854775807 ∧ Bytes8 wx q xs ∧ (q = none → N = 0 ∧ d = 0) ∧ w0.heap.size ≤ g ∧ (0 < N → q = some ⟨g, 0, none⟩) ∧ (0 < N → Bytish wx g N) := by
  obtain ⟨q, d, hv, h1, h2, h3, h4⟩ := h.read2 hn
  by_cases h0 : 0 < N
  · obtain ⟨g, d', cur, hv', _, _, hg, hw, hc⟩ := h.whole hn h0
    have e := hv.symm.trans hv'
    simp only [Value.slice.injEq] at e
    refine ⟨q, d, g, hv, h1, h2, h3, h4, hg, fun _ => e.1, fun _ => ⟨cur, hw, fun i hi => ⟨_, hc i hi, ?_⟩⟩⟩
    exact ho.getD i
  · exact ⟨q, d, w0.heap.size, hv, h1, h2, h3, h4, Nat.le_refl _, fun h => absurd h h0, fun h => absurd h h0⟩

set_option maxHeartbeats 4000000 in
set_option maxRecDepth 10000 in
theorem parts_small (s : Int) (hs : U64 s) (q : Option Addr) (n c : Nat) (f : Nat → List Int) (w : World) (hr : RowB w q n f) (hg : n ≤ 16) :
    Calls Try.prog 4 #[.int .u64 s, .slice q n c] w fun e w' => e = .returned (.bool true) ∧ Keeps NoBlock w w' := by
  obtain ⟨i0, hi, hz0, hz1, hz2⟩ := info_parts infoByte
  have HR0 := Lib.hid hr
  have HS := Lib.hid hs
  have HFO : Hid (∀ i, i < n → Octets (f i)) := Lib.hid (fun i hi => by
    obtain ⟨_, _, _, _, _, _, _, _, _, _, h, _⟩ := hr i hi
    exact h)
  have HN := Lib.hid (fun w => new_wide s hs w)
  have hgn : decide ((16 : Int) < (n : Int)) = false := decide_eq_false (by omega)
  clear hr hs
  go_enter Try.func4, Try.ntmps4
  go_wp2_with fail
  refine (lives4_true _).mono ?_
  rintro e w1 ⟨rfl, hk⟩
  have HK1 := Lib.hid hk
  clear hk
  go_wp2_with fail
  refine (HN.out _).mono ?_
  rintro e w2 ⟨rfl, hh2, hk2⟩
  have HK2 := Lib.hid (HK1.out.trans hk2)
  have HH2 := Lib.hid hh2
  obtain ⟨g, hgd⟩ : ∃ g, g = w1.heap.size := ⟨_, rfl⟩
  have hgw : w.heap.size ≤ g := by rw [hgd]; exact HK1.out.size
  rw [← hgd] at HH2 ⊢
  clear hh2 hk2 hgd
  have HGW := Lib.hid hgw
  go_wp2_with fail
  go_loopw [6, 24] (fun s6 i wr => ∃ k : Nat, k ≤ n ∧ i = .int .i64 (k : Int) ∧ s6 = .string (strOfNums (catN f k)) ∧ (catN f k).length ≤ 100 * k ∧ Holds wr g s (catN f k) ∧ Keeps NoBlock w wr) (fun _ i _ => n - (intOf i).toNat)
  case atStart => exact ⟨0, Nat.zero_le _, rfl, rfl, Nat.le_refl _, HH2.out, HK2.out⟩
  case round =>
    clear HH2 HK2 HK1
    obtain ⟨k, hkn, rfl, rfl, hcl, hh, hk⟩ := hrel
    have HH := Lib.hid hh
    have HK := Lib.hid hk
    have HCL := Lib.hid hcl
    clear hh hk
    by_cases hlt : k < n
    · obtain ⟨a, p, N, c', rfl, hcell, hx, hc, hc', hb, ho, hn0⟩ := HR0.out k hlt
      have hcell := HK.out.cell hcell (fun h => h)
      have HA := Lib.hid (catN_octets HFO.out k (by omega))
      have HA1 := Lib.hid (catN_octets HFO.out (k + 1) (by omega))
      have hcs : catN f (k + 1) = catN f k ++ f k := rfl
      have HCS := Lib.hid hcs
      obtain ⟨A, hA⟩ : ∃ A, A = catN f k := ⟨_, rfl⟩
      obtain ⟨A1, hA1⟩ : ∃ A1, A1 = catN f (k + 1) := ⟨_, rfl⟩
      obtain ⟨ys, hy⟩ : ∃ ys, ys = f k := ⟨_, rfl⟩
      have HA1E := Lib.hid hA1
      rw [← hA] at hcl HA HCS HH ⊢
      rw [← hA1] at HA1 HCS
      rw [← hy] at HCS hx hb ho
      have HX := Lib.hid hx
      have HB := Lib.hid hb
      have HO := Lib.hid ho
      have HN0 := Lib.hid hn0
      have ha1 : (0 : Int) ≤ (k : Int) := by omega
      have ha2 : (k : Int) < (n : Int) := by omega
      have hdk : decide ((k : Int) < (n : Int)) = true := decide_eq_true ha2
      clear hcs hA hA1 hy hx hb ho hn0 HCL
      by_cases h100 : N ≤ 100
      · have hd100 : decide ((100 : Int) < (N : Int)) = false := decide_eq_false (by omega)
        go_upto_region 10 with (fail)
        obtain ⟨W1, rfl⟩ : ∃ W1, W1 = wr := ⟨_, rfl⟩
        go_cut [9] (fun s9 wx => Copied W1 N ys s9 wx)
        case first =>
          have HB1 := Lib.hid (HB.out.keep HK.out (fun _ _ h => h))
          clear hcell
          cases p with
          | none =>
            obtain ⟨rfl, rfl⟩ := HN0.out rfl
            go_wp2_with (at_builtin; refine wpList_append_own_none rfl _ _ 23 rfl W1.heap.size 5 i0 1 Try.underlying23 hi _ _ _ rfl (World.ownsRow_made W1 #[] 0 (Nat.le_refl _) (Nat.zero_le _) rfl) rfl ?_)
            go_meet
            case rel =>
              have hys : ys = [] := List.length_eq_zero_iff.1 HX.out.symm
              subst hys
              exact ⟨World.ownsRow_made W1 #[] 0 (Nat.le_refl _) (Nat.zero_le _) rfl, (Below.refl _ W1).alloc (Nat.le_refl _) _⟩
          | some a2 =>
            go_wp2_with (at_builtin; refine wpList_append_own _ rfl _ _ 23 rfl W1.heap.size 5 i0 (.int .u8 0) 1 1 Try.underlying23 hi hz0 hz1 hz2 rfl (by decide) _ _ _ rfl (World.ownsRow_made W1 #[] 0 (Nat.le_refl _) (Nat.zero_le _) rfl) a2 N c' (ys.map (Value.int .u8)) rfl ?qc1 ?qc2 ?qc3 ?qc4 ?qc5 ?qc6 ?_)
            case qc1 => have := HX.out; simp; omega
            case qc2 =>
              intro j u hj
              have hjn : j < ys.length := by
                have := (List.getElem?_eq_some_iff.1 hj).1
                simpa using this
              obtain ⟨a', ha', hcell⟩ := HB1.out (by omega)
              obtain rfl := Option.some.inj ha'
              refine Lib.cell?_alloc_some _ ?_
              rw [hcell j hjn]
              have e : (ys.map (Value.int .u8))[j]? = some (Value.int .u8 (ys.getD j 0)) := by simp [List.getElem?_eq_getElem hjn]
              rw [e] at hj
              exact hj
            case qc3 => intro u hu; obtain ⟨x, _, rfl⟩ := List.mem_map.1 hu; rfl
            case qc4 => unfold maxLen; omega
            case qc5 => omega
            case qc6 => simp
            intro v' wg hown hgrow hnil
            have hbel : Below W1.heap.size W1 wg := ((Below.refl _ W1).alloc (Nat.le_refl _) _).grown hgrow (by simp) (by intro k hk; simp [Value.ownBlock] at hk; omega)
            have HC := Lib.hid (show Copied W1 N ys v' wg from ⟨by simpa using hown, hbel⟩)
            clear hown hgrow hnil hbel
            go_wp2_with fail
            go_meet
            case rel => exact HC.out
        case rest =>
          obtain ⟨q2, d2, g2, rfl, hd, hd', hb2, hq2, hg2, hqg, hbt⟩ := hcut.both HX.out HO.out
          have hkc := Keeps.ofBelow (S := NoBlock) hcut.2
          have hglt : g < W1.heap.size := by obtain ⟨_, h, _⟩ := HH.out; exact h.2.2.lt
          have hgg : g ≠ g2 := by omega
          have HGG := Lib.hid hgg
          have HG2 := Lib.hid (show w.heap.size ≤ g2 from Nat.le_trans HK.out.size hg2)
          have HQG := Lib.hid hqg
          have HBT := Lib.hid hbt
          have HKc := Lib.hid (HK.out.trans hkc)
          have HWr := Lib.hid (write_wide g s A q2 N d2 ys wc (HH.out.keep hkc (fun h => h)) HS.out HA.out HX.out hd hd' hq2 HO.out hb2 (fun h a ha => by
            have e := hqg h
            rw [ha] at e
            rw [Option.some.inj e]
            exact fun h => hgg h.symm) (by omega))
          rw [← HCS.out] at HWr
          clear hcut hkc hb2 hg2 hqg hbt hglt hgg hcell HH
          go_wp2_with fail
          refine HWr.out.mono ?_
          rintro e w3 ⟨rfl, hh3, hk3⟩
          have HH3 := Lib.hid hh3
          have HK3 := Lib.hid (HKc.out.then hk3 (fun i hi h => by unfold Just at h; have := HGW.out; omega))
          have HBT3 : Hid (0 < N → Bytish w3 g2 N) := Lib.hid (fun h => by
            obtain ⟨cur, h1, h2⟩ := HBT.out h
            exact ⟨cur, h1.keep hk3 (fun h => HGG.out h.symm), h2⟩)
          clear hh3 hk3 HWr HKc HBT
          go_wp2_with fail
          go_loopw [39] (fun i wr => ∃ j : Nat, j ≤ N ∧ i = .int .i64 (j : Int) ∧ Hid (0 < N → Bytish wr g2 N) ∧ Keeps (Just g2) w3 wr) (fun i _ => N - (intOf i).toNat)
          case atStart => exact ⟨0, Nat.zero_le _, rfl, HBT3, Keeps.refl _ _⟩
          case round =>
            clear HBT3
            obtain ⟨j, hjN, rfl, HBT, hk4⟩ := hrel
            have HK4 := Lib.hid hk4
            clear hk4
            by_cases hj : j < N
            · have hb1 : (0 : Int) ≤ (j : Int) := by omega
              have hb2 : (j : Int) < (N : Int) := by omega
              have hdj : decide ((j : Int) < (N : Int)) = true := decide_eq_true hb2
              obtain ⟨cur, hwh, hcur⟩ := HBT.out (by omega)
              obtain ⟨x, hx, hx0, hx1⟩ := hcur j hj
              obtain rfl := HQG.out (by omega)
              have c0 := hwh.cell j hx
              have f0 := hwh.free j
              have HWh := Lib.hid hwh
              have HCur := Lib.hid hcur
              clear hwh hcur hx
              go_wp2_with fail
              go_roundw
              case rel =>
                refine ⟨j + 1, by omega, rfl, Lib.hid fun _ => ⟨_, HWh.out.set j _, fun i hi => ?_⟩, HK4.out.setIn (Just.self g2) _ _⟩
                rw [Array.getElem?_setIfInBounds]
                by_cases h : j = i
                · have hsz : i < cur.size := by
                    obtain ⟨_, h1, _⟩ := HCur.out i hi
                    exact (Array.getElem?_eq_some_iff.1 h1).1
                  subst h
                  rw [if_pos rfl, if_pos hsz]
                  exact ⟨_, rfl, by omega, by omega⟩
                · rw [if_neg h]
                  exact HCur.out i hi
              case measure => simp [intOf]; omega
            · have hdj : decide ((j : Int) < (N : Int)) = false := decide_eq_false (by omega)
              have HK5 := Lib.hid (HK3.out.then HK4.out (fun i hi h => by unfold Just at h; have := HG2.out; omega))
              have HH5 := Lib.hid (HH3.out.keep HK4.out (fun h => HGG.out h))
              have hBp := HB.out.keep HK5.out (fun _ _ h => h)
              have hsx := textOf p N c' ys wr HX.out hBp
              have hs1 : (strOfNums A).size = A.length := str_size A
              have hs2 : (strOfNums ys).size = ys.length := str_size ys
              have hyl : ys.length ≤ 100 := by have := HX.out; omega
              have hal : A.length ≤ 1600 := by omega
              have hap : strOfNums A ++ strOfNums ys = strOfNums A1 := by rw [HCS.out]; exact str_append A ys
              have hl1 : A1.length = A.length + N := by rw [HCS.out, List.length_append, HX.out]
              have hs3 : (strOfNums A1).size = A1.length := str_size A1
              have HSu := Lib.hid (fun w hh => ssum_wide g s A1 w hh HS.out HA1.out (by omega))
              have HRf := Lib.hid (fun w => wsum_ref s A1 HS.out HA1.out (by omega) w)
              have HLe := Lib.hid (fun w hh => len_wide g s A1 w hh)
              have HL1 := Lib.hid hl1
              obtain ⟨z, hz⟩ : ∃ z, z = wxxh s A1 := ⟨_, rfl⟩
              rw [← hz] at HSu HRf
              obtain ⟨l1, hl1d⟩ : ∃ l1, l1 = A1.length := ⟨_, rfl⟩
              have hll : l1 ≤ 9999 := by omega
              rw [← hl1d] at hs3 HLe
              obtain ⟨W5, rfl⟩ : ∃ W5, W5 = wr := ⟨_, rfl⟩
              clear hBp hl1 hz hl1d
              go_wp2_with fail
              refine (HSu.out _ HH5.out).mono ?_
              rintro e w6 ⟨rfl, hk6⟩
              have HK6 := Lib.hid (HK5.out.trans hk6)
              have HH6 := Lib.hid (HH5.out.keep hk6 (fun h => h))
              clear hk6
              go_wp2_with fail
              refine (HRf.out _).mono ?_
              rintro e w7 ⟨rfl, hk7⟩
              have HK7 := Lib.hid (HK6.out.trans hk7)
              have HH7 := Lib.hid (HH6.out.keep hk7 (fun h => h))
              clear hk7
              go_wp2_with fail
              refine (HSu.out _ HH7.out).mono ?_
              rintro e w8 ⟨rfl, hk8⟩
              have HK8 := Lib.hid (HK7.out.trans hk8)
              have HH8 := Lib.hid (HH7.out.keep hk8 (fun h => h))
              clear hk8
              go_wp2_with fail
              refine (HLe.out _ HH8.out).mono ?_
              rintro e w9 ⟨rfl, rfl⟩
              go_wp2_with fail
              go_roundw
              case rel => exact ⟨k + 1, by omega, rfl, by rw [HA1E.out], by rw [← HA1E.out, HL1.out]; omega, by rw [← HA1E.out]; exact HH8.out, HK8.out⟩
              case measure => simp [intOf]; omega
      · have hd100 : decide ((100 : Int) < (N : Int)) = true := decide_eq_true (by omega)
        go_wp2_with fail
        go_ret
        exact ⟨rfl, HK.out⟩
    · obtain rfl : k = n := by omega
      have hdk : decide ((k : Int) < (k : Int)) = false := decide_eq_false (by omega)
      go_wp2_with fail
      go_ret
      exact ⟨rfl, HK.out⟩
end Go.Proofs.Ytpajljjhmmjeeaa

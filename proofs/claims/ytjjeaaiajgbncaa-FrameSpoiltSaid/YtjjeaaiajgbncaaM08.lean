/-
  FrRef2; FrStep; Swap; FrHead; FrGetH2.
-/
import Derived.Deep.RegionWith
import Derived.Deep.RegionHeld3
import Derived.BigQuiet
import Derived.Deep.Cut
import Derived.Test.YtjjeaaiajgbncaaM02
import Derived.Test.YtjjeaaiajgbncaaM07
namespace Go.Proofs.Ytjjeaaiajgbncaa
open Go.RowKit

theorem bodyR_length {r : Rec} (h : r.Fine) (h1 : r.key.length ≤ 2000000) (h2 : r.val.length ≤ 2000000) : (bodyR r).length ≤ 31 + r.key.length + r.val.length := by
  have a := vnum_ten h.seq
  have b := vnum_ten (x := r.key.length) (by omega)
  have c := vnum_ten (x := r.val.length) (by omega)
  unfold bodyR textB
  split
  · simp only [List.length_cons, List.length_append]; omega
  · simp only [List.length_cons, List.length_append]; omega

set_option maxHeartbeats 800000 in
set_option maxRecDepth 10000 in
theorem record9_ref (r : Rec) (hf : r.Fine) (h1 : r.key.length ≤ 2000000) (h2 : r.val.length ≤ 2000000) (w : World) :
    Calls Try.prog 18 #[recV r] w fun e w' => e = .returned (.string (strOfNums (sealN (bodyR r)))) ∧ Keeps NoBlock w w' := by
  have HB := Lib.hid (fun w => body7_ref r hf (by omega) (by omega) w)
  have HS := Lib.hid (fun w => seal9_ref (bodyR r) (bodyR_octets hf) (by have := bodyR_length hf h1 h2; omega) w)
  clear hf h1 h2
  unfold recV at *
  go_enter Try.func18, Try.ntmps18
  go_wp2_with fail
  refine (HB.out _).mono ?_
  rintro e w1 ⟨rfl, hk⟩
  have HK := Lib.hid (((Keeps.refl NoBlock w).alloc _).trans hk)
  clear hk
  go_wp2_with fail
  refine (HS.out _).mono ?_
  rintro e w2 ⟨rfl, hk⟩
  have HK := Lib.hid (HK.out.trans hk)
  clear hk
  go_wp2_with fail
  go_ret
  exact ⟨rfl, HK.out⟩

set_option maxHeartbeats 1600000 in
set_option maxRecDepth 10000 in
theorem getrec9_ref (ys : List Int) (ho : Octets ys) (hl : ys.length ≤ 10000000) (w : World) :
    Calls Try.prog 19 #[.string (strOfNums ys)] w fun e w' => e = .returned (readOut7 (getR ys)) ∧ Keeps NoBlock w w' := by
  have HO := Lib.hid (fun w => open9_ref ys ho hl w)
  obtain ⟨hb1, hb2⟩ := open_bound ho
  unfold openOut at HO
  unfold getR
  obtain ⟨y, hy⟩ : ∃ y, y = (openN ys).1 := ⟨_, rfl⟩
  obtain ⟨T, hT⟩ : ∃ T, T = (openN ys).2 := ⟨_, rfl⟩
  rw [← hy] at HO ⊢
  rw [← hT] at HO hb1 hb2 ⊢
  clear hy hT
  by_cases h0 : y = 0
  · subst h0
    rw [if_neg (by simp)]
    have HR := Lib.hid (fun w => read7_ref T hb1 (by omega) w)
    obtain ⟨z, hz⟩ : ∃ z, z = readR T := ⟨_, rfl⟩
    rw [← hz] at HR ⊢
    clear hz hb1 hb2 ho hl
    go_enter Try.func19, Try.ntmps19
    go_wp2_with fail
    refine (HO.out _).mono ?_
    rintro e w1 ⟨rfl, hk⟩
    have HN0 : Hid (Whole w1 w.heap.size 35 (recCells Rec.none)) := Lib.hid ((Whole.new w _ (recCells Rec.none)).keep hk (fun h => h))
    have HK := Lib.hid (((Keeps.refl NoBlock w).alloc _).trans hk)
    clear hk
    go_wp2_with fail
    refine (HR.out _).mono ?_
    rintro e w2 ⟨rfl, hk⟩
    have hN := HN0.out.keep hk (fun h => h)
    have HK := Lib.hid (HK.out.trans hk)
    have c0 := hN.cell 0 rfl
    have c1 := hN.cell 1 rfl
    have c2 := hN.cell 2 rfl
    have c3 := hN.cell 3 rfl
    have f0 := hN.free 0
    have f1 := hN.free 1
    have f2 := hN.free 2
    have f3 := hN.free 3
    simp only [recCells, List.getElem_toArray, List.getElem_cons_zero, List.getElem_cons_succ] at c0 c1 c2 c3
    clear hk hN
    unfold readOut7 recV
    go_wp2_with fail
    exact bodyPost_ret (v := .tuple #[recV z.2, .int .i64 z.1]) (by simp [results, Try.results19, go_sem, recV, c0, c1, c2, c3]) rfl ⟨rfl, ((((HK.out.setNew (g := w.heap.size) (Nat.le_refl _) 0 _).setNew (g := w.heap.size) (Nat.le_refl _) 1 _).setNew (g := w.heap.size) (Nat.le_refl _) 2 _).setNew (g := w.heap.size) (Nat.le_refl _) 3 _)⟩
  · rw [if_pos h0]
    have hne : (y != 0) = true := by rw [bne_iff_ne]; exact h0
    clear hb1 hb2 ho hl h0
    go_enter Try.func19, Try.ntmps19
    go_wp2_with fail
    refine (HO.out _).mono ?_
    rintro e w1 ⟨rfl, hk⟩
    have hN : Whole w1 w.heap.size 35 (recCells Rec.none) := (Whole.new w _ (recCells Rec.none)).keep hk (fun h => h)
    have HK := Lib.hid (((Keeps.refl NoBlock w).alloc _).trans hk)
    have c0 := hN.cell 0 rfl
    have c1 := hN.cell 1 rfl
    have c2 := hN.cell 2 rfl
    have c3 := hN.cell 3 rfl
    have f0 := hN.free 0
    have f1 := hN.free 1
    have f2 := hN.free 2
    have f3 := hN.free 3
    simp only [recCells, List.getElem_toArray, List.getElem_cons_zero, List.getElem_cons_succ] at c0 c1 c2 c3
    clear hk hN
    go_wp2_with fail
    exact bodyPost_ret (v := .tuple #[recV Rec.none, .int .i64 y]) (by simp [results, Try.results19, go_sem, recV, Rec.none, c0, c1, c2, c3]; rfl) rfl ⟨rfl, ((((HK.out.setNew (g := w.heap.size) (Nat.le_refl _) 0 _).setNew (g := w.heap.size) (Nat.le_refl _) 1 _).setNew (g := w.heap.size) (Nat.le_refl _) 2 _).setNew (g := w.heap.size) (Nat.le_refl _) 3 _)⟩

set_option maxHeartbeats 1600000 in
set_option maxRecDepth 10000 in
theorem may9_ref (e s n : Nat) (hs : s < 4294967296) (w : World) : Calls Try.prog 21 #[confV e s, .int .u64 (n : Int)] w fun r w' => r = .returned (.bool (mayHead e s n)) ∧ Keeps NoBlock w w' := by
  have HM := Lib.hid (fun w => may_ref e s w)
  have HW := Lib.hid (Whole.new w 48 (confCells e s))
  have hdef : mayHead e s n = (mayC e s && decide (n < s)) := rfl
  obtain ⟨m, hm⟩ : ∃ m, m = mayC e s := ⟨_, rfl⟩
  rw [← hm] at HM hdef
  have HD := Lib.hid hdef
  have HS := Lib.hid (show IntKind.u64.wrap (s : Int) = (s : Int) by rw [IntKind.wrap_u64]; omega)
  unfold confV at *
  clear hm hdef hs
  cases m
  · go_enter Try.func21, Try.ntmps21
    go_wp2_with fail
    refine (HM.out _).mono ?_
    rintro e w1 ⟨rfl, hk⟩
    have HK := Lib.hid (((Keeps.refl NoBlock w).alloc _).trans hk)
    clear hk
    go_wp2_with fail
    go_ret
    exact ⟨by rw [HD.out]; rfl, HK.out⟩
  · go_enter Try.func21, Try.ntmps21
    go_wp2_with fail
    refine (HM.out _).mono ?_
    rintro e w1 ⟨rfl, hk⟩
    have HK := Lib.hid (((Keeps.refl NoBlock w).alloc _).trans hk)
    have c1 := (HW.out.keep hk (fun h => h)).cell 1 rfl
    simp only [confCells, List.getElem_toArray, List.getElem_cons_zero, List.getElem_cons_succ] at c1
    clear hk
    go_wp2_with fail
    go_ret
    exact ⟨by rw [HD.out]; simp [HS.out], HK.out⟩
end Go.Proofs.Ytjjeaaiajgbncaa

namespace Go.Proofs.Ytjjeaaiajgbncaa
open Go.RowKit

def d1 (X : List Int) (E : Int) : Nat := if E = 0 then (if X = [] then 0 else 1) else 0
def f1 (X : List Int) (E : Int) : Int := if E = 0 then (if X = [] then 2 else 0) else E
def b1 (X : List Int) (E : Int) : Int := if E = 0 then X.headD 0 else 0
def get1Out (X : List Int) (A E : Int) : Value := .tuple #[rdr (X.drop (d1 X E)) (A + (d1 X E : Int)) (f1 X E), .int .u64 (b1 X E)]
theorem d1_le (X : List Int) (E : Int) : d1 X E ≤ X.length := by
  unfold d1
  split
  · split
    · omega
    · rename_i h
      exact List.length_pos_iff.2 h
  · omega
theorem b1_bound {X : List Int} (h : Octets X) (E : Int) : 0 ≤ b1 X E ∧ b1 X E < 256 := by
  unfold b1
  split
  · cases X with
    | nil => simp
    | cons x r => exact h x List.mem_cons_self
  · omega
theorem get1_all (X : List Int) (A E : Int) (hl : X.length ≤ 140737488355328) (ha : 0 ≤ A ∧ A ≤ 140737488355328) (ho : Octets X) (w : World) :
    Calls Try.prog 48 #[rdr X A E, .int .i64 1] w fun e w' => e = .returned (get1Out X A E) ∧ Keeps NoBlock w w' := by
  unfold get1Out d1 f1 b1
  by_cases hE : E = 0
  · subst hE
    simp only [if_true]
    cases X with
    | nil =>
      have h := get1_ref_short [] A 1 1 rfl (by decide) (by decide) w
      simpa using h
    | cons x r =>
      have h := get1_ref (x :: r) A 1 1 rfl (by decide) (by simp) (by decide) hl ha ho w
      have hle : le ((x :: r).take 1) = x := by simp [le]
      rw [hle] at h
      simp only [reduceCtorEq, if_false]
      exact h
  · simp only [if_neg hE]
    have h := get1_gone X A E 1 hE w
    simpa using h

def dv (X : List Int) (E : Int) : Nat := if E = 0 then (vget X).n else 0
def fv (X : List Int) (E : Int) : Int := if E = 0 then (vget X).e else E
def bv (X : List Int) (E : Int) : Int := if E = 0 then (if (vget X).e = 0 then (vget X).x else 0) else 0
def getvOut (X : List Int) (A E : Int) : Value := .tuple #[rdr (X.drop (dv X E)) (A + (dv X E : Int)) (fv X E), .int .u64 (bv X E)]
theorem dv_le (X : List Int) (E : Int) : dv X E ≤ X.length := by
  unfold dv
  split
  · exact vread_n 10 true X
  · omega
theorem bv_bound {X : List Int} (h : Octets X) (E : Int) : 0 ≤ bv X E ∧ bv X E < 18446744073709551616 := by
  unfold bv
  split
  · split
    · rename_i h1
      have := vread_bound 9 true X h h1
      exact ⟨this.1, this.2⟩
    · omega
  · omega
theorem getv_all (X : List Int) (A E : Int) (hl : X.length ≤ 140737488355328) (ha : 0 ≤ A ∧ A + X.length ≤ 140737488355328) (ho : Octets X) (w : World) :
    Calls Try.prog 49 #[rdr X A E] w fun e w' => e = .returned (getvOut X A E) ∧ Keeps NoBlock w w' := by
  unfold getvOut dv fv bv
  by_cases hE : E = 0
  · subst hE
    simp only [if_true]
    exact get_ref X A hl ha ho w
  · simp only [if_neg hE]
    have h := get_gone X A E hE w
    simpa using h

/-- The readings of a head, one behind the other. -/
structure HS where
  X : List Int
  E : Int
  v : Int
def s1 (X : List Int) (E : Int) : HS := ⟨X.drop (d1 X E), f1 X E, b1 X E⟩
def sv (X : List Int) (E : Int) : HS := ⟨X.drop (dv X E), fv X E, bv X E⟩
def lastH (a b c : Int) : Int × Nat × Nat × Nat :=
  if b ≤ 4294967295 ∧ c ≤ 4294967295 ∧ mayHead a.toNat b.toNat c.toNat = true then (0, a.toNat, b.toNat, c.toNat) else (1, 0, 0, 0)
def behindH (a : HS) (b : HS) (c : HS) : Int × Nat × Nat × Nat := if endE c.X c.E ≠ 0 then (endE c.X c.E, 0, 0, 0) else lastH a.v b.v c.v
def numsH (a : HS) : Int × Nat × Nat × Nat := behindH a (sv a.X a.E) (sv (sv a.X a.E).X (sv a.X a.E).E)
def verH (a : HS) : Int × Nat × Nat × Nat := if a.E = 0 ∧ a.v ≠ 2 then (4, 0, 0, 0) else numsH (s1 a.X a.E)
def kindH (a : HS) : Int × Nat × Nat × Nat := if a.E = 0 ∧ a.v ≠ 1 then (4, 0, 0, 0) else verH (s1 a.X a.E)
def stepsH (T : List Int) : Int × Nat × Nat × Nat := kindH (s1 T 0)

theorem endE_bad {X : List Int} {E : Int} (h : E ≠ 0) : endE X E = E := by unfold endE; rw [if_neg h]
theorem numsH_bad {a : HS} (h : a.E ≠ 0) : numsH a = (a.E, 0, 0, 0) := by
  have h1 : (sv a.X a.E).E = a.E := by unfold sv fv; rw [if_neg h]
  have h2 : (sv (sv a.X a.E).X (sv a.X a.E).E).E = a.E := by
    rw [h1]
    exact if_neg h
  unfold numsH behindH
  rw [h2, endE_bad h, if_pos h]
theorem verH_bad {a : HS} (h : a.E ≠ 0) : verH a = (a.E, 0, 0, 0) := by
  have h1 : (s1 a.X a.E).E = a.E := by unfold s1 f1; rw [if_neg h]
  unfold verH
  rw [if_neg (fun hh => h hh.1), numsH_bad (by rw [h1]; exact h), h1]
theorem numsH_read (e : Nat) (r : List Int) (hr : Octets r) : numsH ⟨r, 0, (e : Int)⟩ = headNums e r := by
  unfold numsH headNums
  by_cases h1 : (vget r).e ≠ 0
  · rw [if_pos h1]
    have e1 : sv r 0 = ⟨r.drop (vget r).n, (vget r).e, 0⟩ := by unfold sv dv fv bv; simp only [if_true]; rw [if_neg h1]
    simp only [e1]
    have e2 : (sv (r.drop (vget r).n) (vget r).e).E = (vget r).e := by unfold sv fv; rw [if_neg h1]
    unfold behindH
    rw [e2, endE_bad h1, if_pos h1]
  · have h1' : (vget r).e = 0 := by simpa using h1
    rw [if_neg h1]
    have e1 : sv r 0 = ⟨r.drop (vget r).n, 0, (vget r).x⟩ := by unfold sv dv fv bv; simp only [if_true]; rw [if_pos h1', h1']
    simp only [e1]
    have b1 := vread_bound 9 true r hr h1'
    rw [show vread (9 + 1) true r = vget r from rfl] at b1
    obtain ⟨s, hs⟩ := Int.eq_ofNat_of_zero_le b1.1
    have ho2 : Octets (r.drop (vget r).n) := hr.drop _
    obtain ⟨r2, hr2⟩ : ∃ r2, r2 = r.drop (vget r).n := ⟨_, rfl⟩
    rw [← hr2] at ho2 ⊢
    by_cases h2 : (vget r2).e ≠ 0
    · rw [if_pos h2]
      have e2 : (sv r2 0).E = (vget r2).e := by unfold sv fv; simp only [if_true]
      unfold behindH
      rw [e2, endE_bad h2, if_pos h2]
    · have h2' : (vget r2).e = 0 := by simpa using h2
      rw [if_neg h2]
      have e2 : sv r2 0 = ⟨r2.drop (vget r2).n, 0, (vget r2).x⟩ := by unfold sv dv fv bv; simp only [if_true]; rw [if_pos h2', h2']
      have b2 := vread_bound 9 true r2 ho2 h2'
      rw [show vread (9 + 1) true r2 = vget r2 from rfl] at b2
      obtain ⟨n, hn⟩ := Int.eq_ofNat_of_zero_le b2.1
      rw [e2]
      show (if endE (r2.drop (vget r2).n) 0 ≠ 0 then (endE (r2.drop (vget r2).n) 0, 0, 0, 0) else lastH (e : Int) (vget r).x (vget r2).x) = headLast e (vget r).x.toNat (vget r2).x.toNat (r2.drop (vget r2).n)
      unfold headLast
      by_cases h3 : r2.drop (vget r2).n = []
      · have e0 : endE (r2.drop (vget r2).n) 0 = 0 := by unfold endE; rw [if_pos rfl, if_pos h3]
        rw [e0, if_neg (by simp), if_neg (fun hh => hh h3)]
        unfold lastH
        rw [hs, hn]
        simp only [Int.toNat_natCast]
        have e3 : (((s : Int) ≤ 4294967295) ↔ s ≤ 4294967295) := by omega
        have e4 : (((n : Int) ≤ 4294967295) ↔ n ≤ 4294967295) := by omega
        simp only [e3, e4]
      · have e0 : endE (r2.drop (vget r2).n) 0 = 3 := by unfold endE; rw [if_pos rfl, if_neg h3]
        rw [e0, if_pos (by decide), if_pos h3]
theorem stepsH_read (T : List Int) (hT : Octets T) : stepsH T = headR T := by
  unfold stepsH
  cases T with
  | nil => rfl
  | cons b r =>
    have e1 : s1 (b :: r) 0 = ⟨r, 0, b⟩ := by simp [s1, d1, f1, b1]
    rw [e1]
    unfold kindH
    show _ = if b ≠ 1 then _ else headVer r
    by_cases h1 : b ≠ 1
    · rw [if_pos ⟨rfl, h1⟩, if_pos h1]
    · rw [if_neg (fun h => h1 h.2), if_neg h1]
      cases r with
      | nil =>
        have e2 : s1 [] 0 = ⟨[], 2, 0⟩ := rfl
        rw [e2, verH_bad (by decide)]
        rfl
      | cons b r =>
        have e2 : s1 (b :: r) 0 = ⟨r, 0, b⟩ := by simp [s1, d1, f1, b1]
        rw [e2]
        unfold verH
        show _ = if b ≠ 2 then _ else headExp r
        by_cases h2 : b ≠ 2
        · rw [if_pos ⟨rfl, h2⟩, if_pos h2]
        · rw [if_neg (fun h => h2 h.2), if_neg h2]
          cases r with
          | nil =>
            have e3 : s1 [] 0 = ⟨[], 2, 0⟩ := rfl
            rw [e3, numsH_bad (by decide)]
            rfl
          | cons x r =>
            have e3 : s1 (x :: r) 0 = ⟨r, 0, x⟩ := by simp [s1, d1, f1, b1]
            have hx := hT x (by simp)
            obtain ⟨e, he⟩ := Int.eq_ofNat_of_zero_le hx.1
            rw [e3, he]
            show numsH ⟨r, 0, (e : Int)⟩ = headNums (e : Int).toNat r
            rw [Int.toNat_natCast]
            exact numsH_read e r (fun b hb => hT b (by simp [hb]))
end Go.Proofs.Ytjjeaaiajgbncaa

namespace Go.Proofs.Ytjjeaaiajgbncaa
open Go.RowKit

/-- A region's condition may be made stronger on the way. -/
theorem wpAnyH_swap {P : Program} {md : Region.Mode} {ops : Array Oper} {Q : Exit → Act → World → Prop} {S S' : World → Prop} (h : ∀ w, S' w → S w) : ∀ (fuel : Nat) (listed : Array Bool) (a : Act) (w : World), wpAnyH P md ops Q S' fuel listed a w → wpAnyH P md ops Q S fuel listed a w
  | 0, _, _, _, hh => hh
  | fuel + 1, _, _, _, hh => ⟨hh.1, fun i hi => wpOp_mono (fun _ _ h' => ⟨h _ h'.1, wpAnyH_swap h fuel _ _ _ h'.2⟩) (hh.2 i hi)⟩
end Go.Proofs.Ytjjeaaiajgbncaa

namespace Go.Proofs.Ytjjeaaiajgbncaa
open Go.RowKit

set_option maxHeartbeats 4000000 in
set_option maxRecDepth 10000 in
theorem head9_ref (e s n : Nat) (he : e < 256) (hs : s < 4294967296) (hn : n < 18446744073709551616) (w : World) :
    Calls Try.prog 23 #[confV e s, .int .u64 (n : Int)] w fun r w' => r = .returned (.string (strOfNums (sealN (headB e s n)))) ∧ Keeps NoBlock w w' := by
  have HNs := Lib.hid (fun w => num_bytes s (IntKind.u64.wrap (s : Int)) (by rw [IntKind.wrap_u64]; omega) (by omega) w)
  have HNn := Lib.hid (fun w => num_bytes n (n : Int) rfl hn w)
  have HSl := Lib.hid (fun w => seal9_ref (headB e s n) (headB_octets he) (by have := headB_length (e := e) (s := s) (n := n) (by omega) hn; omega) w)
  have t1 := vnum_ten (x := s) (by omega)
  have t2 := vnum_ten hn
  have z1 := str_size (vnum s)
  have z2 := str_size (vnum n)
  have a1 : (⟨#[1, 2]⟩ : ByteArray) ++ strOfNums [(e : Int)] = strOfNums [1, 2, (e : Int)] := str_append [1, 2] [(e : Int)]
  have a2 : strOfNums [1, 2, (e : Int)] ++ strOfNums (vnum s) = strOfNums (1 :: 2 :: (e : Int) :: vnum s) := str_append [1, 2, (e : Int)] (vnum s)
  have a3 : strOfNums (1 :: 2 :: (e : Int) :: vnum s) ++ strOfNums (vnum n) = strOfNums (headB e s n) := str_append (1 :: 2 :: (e : Int) :: vnum s) (vnum n)
  have z3 : (⟨#[1, 2]⟩ : ByteArray).size = 2 := rfl
  have z4 : (strOfNums [(e : Int)]).size = 1 := str_size _
  have z5 : (strOfNums [1, 2, (e : Int)]).size = 3 := str_size _
  have z6 : (strOfNums (1 :: 2 :: (e : Int) :: vnum s)).size = 3 + (vnum s).length := by rw [str_size]; simp; omega
  have HWc := Lib.hid (Whole.new w 48 (confCells e s))
  obtain ⟨S, hS⟩ : ∃ S, S = vnum s := ⟨_, rfl⟩
  obtain ⟨N, hN⟩ : ∃ N, N = vnum n := ⟨_, rfl⟩
  obtain ⟨B, hB⟩ : ∃ B, B = headB e s n := ⟨_, rfl⟩
  rw [← hS] at HNs t1 z1 a2 a3 z6
  rw [← hN] at HNn t2 z2 a3
  rw [← hB] at HSl a3 ⊢
  clear hS hN hB he hs hn
  have r1 : ¬ 9223372036854775807 < 2 + 1 := by decide
  have r2 : ¬ 9223372036854775807 < 3 + S.length := by omega
  have r3 : ¬ 9223372036854775807 < 3 + S.length + N.length := by omega
  unfold confV
  go_enter Try.func23, Try.ntmps23
  go_wp2_with fail
  obtain ⟨W, hW⟩ : ∃ W, W = w.alloc (.cells #[.int .u8 (e : Int), .int .u32 (s : Int)] 48) := ⟨_, rfl⟩
  have HC : Hid (Whole W w.heap.size 48 (confCells e s)) := Lib.hid (by rw [hW]; exact HWc.out)
  have HK : Hid (Keeps NoBlock w W) := Lib.hid (by rw [hW]; exact (Keeps.refl _ _).alloc _)
  rw [← hW]
  clear hW HWc
  have HC : Hid (Whole W.drew w.heap.size 48 (confCells e s)) := Lib.hid (HC.out.drewN 1)
  have HK : Hid (Keeps NoBlock w W.drew) := Lib.hid (HK.out.drewN 1)
  have s0 := And.intro (HC.out.cell 0 rfl) (HC.out.cell 1 rfl)
  simp only [confCells, List.getElem_toArray, List.getElem_cons_zero, List.getElem_cons_succ] at s0
  refine wp_region_held_drew (S := fun w' => w'.cell? ⟨w.heap.size, 0, none⟩ = some (.int .u8 (e : Int)) ∧ w'.cell? ⟨w.heap.size, 1, none⟩ = some (.int .u32 (s : Int))) (by kernel_rfl) s0 (fun hHeld => ?_)
  refine wpAnyH_take (i := 0) (v := ?vT1) rfl ?aT1 ?bT1 ?cT1 ?dT1 (Or.inl ⟨?eT1, ?fT1⟩) hHeld ?gT1
  case fT1 => intro w hSw; (try dsimp only at hSw); go_simp; (try with_reducible rfl)
  case aT1 => kernel_rfl
  case bT1 => kernel_rfl
  case cT1 => kernel_rfl
  case dT1 => exact fun _ _ _ h => h
  case eT1 => rfl
  simp only [Act.put, List.getElem_toArray, List.getElem_cons_zero, List.setIfInBounds_toArray, List.set_cons_zero, List.set_cons_succ]
  refine wpAnyH_take (i := 1) (v := ?vT2) rfl ?aT2 ?bT2 ?cT2 ?dT2 (Or.inl ⟨?eT2, ?fT2⟩) hHeld ?gT2
  case fT2 => intro w hSw; (try dsimp only at hSw); go_simp; (try with_reducible rfl)
  case aT2 => kernel_rfl
  case bT2 => kernel_rfl
  case cT2 => kernel_rfl
  case dT2 => exact fun _ _ _ h => h
  case eT2 => rfl
  simp only [Act.put, List.getElem_toArray, List.getElem_cons_zero, List.getElem_cons_succ, List.setIfInBounds_toArray, List.set_cons_zero, List.set_cons_succ]
  refine wpAnyH_take (i := 5) (v := ?vT3) rfl ?aT3 ?bT3 ?cT3 ?dT3 (Or.inl ⟨?eT3, ?fT3⟩) hHeld ?gT3
  case fT3 => intro w hSw; (try dsimp only at hSw); go_simp; (try with_reducible rfl)
  case aT3 => kernel_rfl
  case bT3 => kernel_rfl
  case cT3 => kernel_rfl
  case dT3 => exact fun _ _ _ h => h
  case eT3 => rfl
  simp only [Act.put, List.getElem_toArray, List.getElem_cons_zero, List.getElem_cons_succ, List.setIfInBounds_toArray, List.set_cons_zero, List.set_cons_succ]
  refine wpAnyH_take (i := 6) (v := ?vT4) rfl ?aT4 ?bT4 ?cT4 ?dT4 (Or.inl ⟨?eT4, ?fT4⟩) hHeld ?gT4
  case fT4 => intro w hSw; (try dsimp only at hSw); go_simp; (try with_reducible rfl)
  case aT4 => kernel_rfl
  case bT4 => kernel_rfl
  case cT4 => kernel_rfl
  case dT4 => exact fun _ _ _ h => h
  case eT4 => rfl
  simp only [Act.put, List.getElem_toArray, List.getElem_cons_zero, List.getElem_cons_succ, List.setIfInBounds_toArray, List.set_cons_zero, List.set_cons_succ]
  refine wpAnyH_take (i := 7) (v := ?vT5) rfl ?aT5 ?bT5 ?cT5 ?dT5 (Or.inl ⟨?eT5, ?fT5⟩) hHeld ?gT5
  case fT5 => intro w hSw; (try dsimp only at hSw); go_simp; (try with_reducible rfl)
  case aT5 => kernel_rfl
  case bT5 => kernel_rfl
  case cT5 => kernel_rfl
  case dT5 => exact fun _ _ _ h => h
  case eT5 => rfl
  simp only [Act.put, List.getElem_toArray, List.getElem_cons_zero, List.getElem_cons_succ, List.setIfInBounds_toArray, List.set_cons_zero, List.set_cons_succ]
  refine wpAnyH_take (i := 10) (v := ?vT6) rfl ?aT6 ?bT6 ?cT6 ?dT6 (Or.inl ⟨?eT6, ?fT6⟩) hHeld ?gT6
  case fT6 => intro w hSw; (try dsimp only at hSw); go_simp; (try with_reducible rfl)
  case aT6 => kernel_rfl
  case bT6 => kernel_rfl
  case cT6 => kernel_rfl
  case dT6 => exact fun _ _ _ h => h
  case eT6 => rfl
  simp only [Act.put, List.getElem_toArray, List.getElem_cons_zero, List.getElem_cons_succ, List.setIfInBounds_toArray, List.set_cons_zero, List.set_cons_succ]
  refine wpAnyH_ready (rs := [2, 8]) (by kernel_rfl) (by simp) ?_
  refine (AllReadyH.cons (o := _) rfl (fun K hK => ?_) (AllReadyH.cons (o := _) rfl (fun K hK => ?_) AllReadyH.nil))
  · go_simp
    have HC := Lib.hid (HC.out.alloc (.cells #[.int .u8 (e : Int)] 5))
    have HK := Lib.hid (HK.out.alloc (.cells #[.int .u8 (e : Int)] 5))
    have HNB : Hid (Whole (W.drew.alloc (.cells #[.int .u8 (e : Int)] 5)) W.heap.size 5 #[.int .u8 (e : Int)]) := Lib.hid (Whole.new _ _ _)
    refine hK.out _ _ (And.intro (HC.out.cell 0 rfl) (HC.out.cell 1 rfl)) (fun _ => ?_)
    clear hK K
    refine wpAnyH_swap (S' := fun w' => (w'.cell? ⟨w.heap.size, 0, none⟩ = some (.int .u8 (e : Int)) ∧ w'.cell? ⟨w.heap.size, 1, none⟩ = some (.int .u32 (s : Int))) ∧ (convert 22 9 (.slice (some ⟨W.heap.size, 0, none⟩) 1 1)).run Try.prog w' = .ok (.string (strOfNums [(e : Int)])) w') (fun _ h => h.1) _ _ _ _ ?_
    have hS : ((fun w' => w'.cell? ⟨w.heap.size, 0, none⟩ = some (.int .u8 (e : Int)) ∧ w'.cell? ⟨w.heap.size, 1, none⟩ = some (.int .u32 (s : Int))) (W.drew.alloc (.cells #[.int .u8 (e : Int)] 5))) ∧ ((fun w' => (convert 22 9 (.slice (some ⟨W.heap.size, 0, none⟩) 1 1)).run Try.prog w' = .ok (.string (strOfNums [(e : Int)])) w') (W.drew.alloc (.cells #[.int .u8 (e : Int)] 5))) := And.intro (And.intro (HC.out.cell 0 rfl) (HC.out.cell 1 rfl)) (one_conv HNB.out)
    refine wpAnyH_take (i := 3) (v := ?vT7) rfl ?aT7 ?bT7 ?cT7 ?dT7 (Or.inl ⟨?eT7, ?fT7⟩) hS ?gT7
    case fT7 => intro w hSw; (try dsimp only at hSw); go_simp; (try with_reducible rfl)
    case aT7 => kernel_rfl
    case bT7 => kernel_rfl
    case cT7 => kernel_rfl
    case dT7 => exact fun _ _ _ h => h
    case eT7 => rfl
    simp only [Act.put, List.getElem_toArray, List.getElem_cons_zero, List.getElem_cons_succ, List.setIfInBounds_toArray, List.set_cons_zero, List.set_cons_succ]
    refine wpAnyH_take (i := 4) (v := ?vT8) rfl ?aT8 ?bT8 ?cT8 ?dT8 (Or.inl ⟨?eT8, ?fT8⟩) hS ?gT8
    case fT8 => intro w hSw; (try dsimp only at hSw); go_simp; (try with_reducible rfl)
    case aT8 => kernel_rfl
    case bT8 => kernel_rfl
    case cT8 => kernel_rfl
    case dT8 => exact fun _ _ _ h => h
    case eT8 => rfl
    simp only [Act.put, List.getElem_toArray, List.getElem_cons_zero, List.getElem_cons_succ, List.setIfInBounds_toArray, List.set_cons_zero, List.set_cons_succ]
    refine wpAnyH_ready (rs := [8]) (by kernel_rfl) (by simp) ?_
    refine (AllReadyH.cons (o := _) rfl (fun K hK => ?_) AllReadyH.nil)
    go_simp
    refine (HNs.out _).mono ?_
    rintro r w5 ⟨rfl, hk⟩
    have hk2 : Keeps NoBlock (W.drew.alloc (.cells #[.int .u8 (e : Int)] 5)) w5 := by first | exact hk | exact hk.ofDrew | exact hk.ofDrewN
    have HC := Lib.hid (HC.out.keep hk2 (fun h => h))
    have HK := Lib.hid (HK.out.trans hk2)
    have HNB := Lib.hid (HNB.out.keep hk2 (fun h => h))
    have hS : ((fun w' => w'.cell? ⟨w.heap.size, 0, none⟩ = some (.int .u8 (e : Int)) ∧ w'.cell? ⟨w.heap.size, 1, none⟩ = some (.int .u32 (s : Int))) w5) ∧ ((fun w' => (convert 22 9 (.slice (some ⟨W.heap.size, 0, none⟩) 1 1)).run Try.prog w' = .ok (.string (strOfNums [(e : Int)])) w') w5) := And.intro (And.intro (HC.out.cell 0 rfl) (HC.out.cell 1 rfl)) (one_conv HNB.out)
    clear hk hk2
    go_wp2_with fail
    refine hK.out _ _ hS (fun _ => ?_)
    clear hK K
    refine wpAnyH_take (i := 9) (v := ?vT9) rfl ?aT9 ?bT9 ?cT9 ?dT9 (Or.inl ⟨?eT9, ?fT9⟩) hS ?gT9
    case fT9 => intro w hSw; (try dsimp only at hSw); go_simp; (try with_reducible rfl)
    case aT9 => kernel_rfl
    case bT9 => kernel_rfl
    case cT9 => kernel_rfl
    case dT9 => exact fun _ _ _ h => h
    case eT9 => rfl
    simp only [Act.put, List.getElem_toArray, List.getElem_cons_zero, List.getElem_cons_succ, List.setIfInBounds_toArray, List.set_cons_zero, List.set_cons_succ]
    refine wpAnyH_ready (rs := [11]) (by kernel_rfl) (by simp) ?_
    refine (AllReadyH.cons (o := _) rfl (fun K hK => ?_) AllReadyH.nil)
    go_simp
    refine (HNn.out _).mono ?_
    rintro r w6 ⟨rfl, hk⟩
    have hk2 : Keeps NoBlock w5 w6 := by first | exact hk | exact hk.ofDrew | exact hk.ofDrewN
    have HC := Lib.hid (HC.out.keep hk2 (fun h => h))
    have HK := Lib.hid (HK.out.trans hk2)
    have HNB := Lib.hid (HNB.out.keep hk2 (fun h => h))
    have hS : ((fun w' => w'.cell? ⟨w.heap.size, 0, none⟩ = some (.int .u8 (e : Int)) ∧ w'.cell? ⟨w.heap.size, 1, none⟩ = some (.int .u32 (s : Int))) w6) ∧ ((fun w' => (convert 22 9 (.slice (some ⟨W.heap.size, 0, none⟩) 1 1)).run Try.prog w' = .ok (.string (strOfNums [(e : Int)])) w') w6) := And.intro (And.intro (HC.out.cell 0 rfl) (HC.out.cell 1 rfl)) (one_conv HNB.out)
    clear hk hk2
    go_wp2_with fail
    refine hK.out _ _ hS (fun _ => ?_)
    clear hK K
    refine wpAnyH_take (i := 12) (v := ?vT10) rfl ?aT10 ?bT10 ?cT10 ?dT10 (Or.inl ⟨?eT10, ?fT10⟩) hS ?gT10
    case fT10 => intro w hSw; (try dsimp only at hSw); go_simp; (try with_reducible rfl)
    case aT10 => kernel_rfl
    case bT10 => kernel_rfl
    case cT10 => kernel_rfl
    case dT10 => exact fun _ _ _ h => h
    case eT10 => rfl
    simp only [Act.put, List.getElem_toArray, List.getElem_cons_zero, List.getElem_cons_succ, List.setIfInBounds_toArray, List.set_cons_zero, List.set_cons_succ]
    refine wpAnyH_ready (rs := [13]) (by kernel_rfl) (by simp) ?_
    refine (AllReadyH.cons (o := _) rfl (fun K hK => ?_) AllReadyH.nil)
    go_simp
    refine (HSl.out _).mono ?_
    rintro r w7 ⟨rfl, hk⟩
    have hk2 : Keeps NoBlock w6 w7 := by first | exact hk | exact hk.ofDrew | exact hk.ofDrewN
    have HC := Lib.hid (HC.out.keep hk2 (fun h => h))
    have HK := Lib.hid (HK.out.trans hk2)
    have HNB := Lib.hid (HNB.out.keep hk2 (fun h => h))
    have hS : ((fun w' => w'.cell? ⟨w.heap.size, 0, none⟩ = some (.int .u8 (e : Int)) ∧ w'.cell? ⟨w.heap.size, 1, none⟩ = some (.int .u32 (s : Int))) w7) ∧ ((fun w' => (convert 22 9 (.slice (some ⟨W.heap.size, 0, none⟩) 1 1)).run Try.prog w' = .ok (.string (strOfNums [(e : Int)])) w') w7) := And.intro (And.intro (HC.out.cell 0 rfl) (HC.out.cell 1 rfl)) (one_conv HNB.out)
    clear hk hk2
    go_wp2_with fail
    refine hK.out _ _ hS (fun _ => ?_)
    clear hK K
    refine wpAnyH_take (i := 14) (v := ?vT11) rfl ?aT11 ?bT11 ?cT11 ?dT11 (Or.inl ⟨?eT11, ?fT11⟩) hS ?gT11
    case fT11 => intro w hSw; (try dsimp only at hSw); go_simp; (try with_reducible rfl)
    case aT11 => kernel_rfl
    case bT11 => kernel_rfl
    case cT11 => kernel_rfl
    case dT11 => exact fun _ _ _ h => h
    case eT11 => rfl
    simp only [Act.put, List.getElem_toArray, List.getElem_cons_zero, List.getElem_cons_succ, List.setIfInBounds_toArray, List.set_cons_zero, List.set_cons_succ]
    refine wpAnyH_done (by kernel_rfl) ?_ _
    go_wp2_with fail
    go_ret
    exact ⟨rfl, HK.out⟩
  · go_simp
    refine (HNs.out _).mono ?_
    rintro r w8 ⟨rfl, hk⟩
    have hk2 : Keeps NoBlock W.drew w8 := by first | exact hk | exact hk.ofDrew | exact hk.ofDrewN
    have HC := Lib.hid (HC.out.keep hk2 (fun h => h))
    have HK := Lib.hid (HK.out.trans hk2)
    have hS : (fun w' => w'.cell? ⟨w.heap.size, 0, none⟩ = some (.int .u8 (e : Int)) ∧ w'.cell? ⟨w.heap.size, 1, none⟩ = some (.int .u32 (s : Int))) w8 := And.intro (HC.out.cell 0 rfl) (HC.out.cell 1 rfl)
    clear hk hk2
    go_wp2_with fail
    refine hK.out _ _ hS (fun _ => ?_)
    clear hK K
    refine wpAnyH_ready (rs := [2, 11]) (by kernel_rfl) (by simp) ?_
    refine (AllReadyH.cons (o := _) rfl (fun K hK => ?_) (AllReadyH.cons (o := _) rfl (fun K hK => ?_) AllReadyH.nil))
    · go_simp
      have HC := Lib.hid (HC.out.alloc (.cells #[.int .u8 (e : Int)] 5))
      have HK := Lib.hid (HK.out.alloc (.cells #[.int .u8 (e : Int)] 5))
      have HNB : Hid (Whole (w8.alloc (.cells #[.int .u8 (e : Int)] 5)) w8.heap.size 5 #[.int .u8 (e : Int)]) := Lib.hid (Whole.new _ _ _)
      refine hK.out _ _ (And.intro (HC.out.cell 0 rfl) (HC.out.cell 1 rfl)) (fun _ => ?_)
      clear hK K
      refine wpAnyH_swap (S' := fun w' => (w'.cell? ⟨w.heap.size, 0, none⟩ = some (.int .u8 (e : Int)) ∧ w'.cell? ⟨w.heap.size, 1, none⟩ = some (.int .u32 (s : Int))) ∧ (convert 22 9 (.slice (some ⟨w8.heap.size, 0, none⟩) 1 1)).run Try.prog w' = .ok (.string (strOfNums [(e : Int)])) w') (fun _ h => h.1) _ _ _ _ ?_
      have hS : ((fun w' => w'.cell? ⟨w.heap.size, 0, none⟩ = some (.int .u8 (e : Int)) ∧ w'.cell? ⟨w.heap.size, 1, none⟩ = some (.int .u32 (s : Int))) (w8.alloc (.cells #[.int .u8 (e : Int)] 5))) ∧ ((fun w' => (convert 22 9 (.slice (some ⟨w8.heap.size, 0, none⟩) 1 1)).run Try.prog w' = .ok (.string (strOfNums [(e : Int)])) w') (w8.alloc (.cells #[.int .u8 (e : Int)] 5))) := And.intro (And.intro (HC.out.cell 0 rfl) (HC.out.cell 1 rfl)) (one_conv HNB.out)
      refine wpAnyH_take (i := 3) (v := ?vT12) rfl ?aT12 ?bT12 ?cT12 ?dT12 (Or.inl ⟨?eT12, ?fT12⟩) hS ?gT12
      case fT12 => intro w hSw; (try dsimp only at hSw); go_simp; (try with_reducible rfl)
      case aT12 => kernel_rfl
      case bT12 => kernel_rfl
      case cT12 => kernel_rfl
      case dT12 => exact fun _ _ _ h => h
      case eT12 => rfl
      simp only [Act.put, List.getElem_toArray, List.getElem_cons_zero, List.getElem_cons_succ, List.setIfInBounds_toArray, List.set_cons_zero, List.set_cons_succ]
      refine wpAnyH_take (i := 4) (v := ?vT13) rfl ?aT13 ?bT13 ?cT13 ?dT13 (Or.inl ⟨?eT13, ?fT13⟩) hS ?gT13
      case fT13 => intro w hSw; (try dsimp only at hSw); go_simp; (try with_reducible rfl)
      case aT13 => kernel_rfl
      case bT13 => kernel_rfl
      case cT13 => kernel_rfl
      case dT13 => exact fun _ _ _ h => h
      case eT13 => rfl
      simp only [Act.put, List.getElem_toArray, List.getElem_cons_zero, List.getElem_cons_succ, List.setIfInBounds_toArray, List.set_cons_zero, List.set_cons_succ]
      refine wpAnyH_take (i := 9) (v := ?vT14) rfl ?aT14 ?bT14 ?cT14 ?dT14 (Or.inl ⟨?eT14, ?fT14⟩) hS ?gT14
      case fT14 => intro w hSw; (try dsimp only at hSw); go_simp; (try with_reducible rfl)
      case aT14 => kernel_rfl
      case bT14 => kernel_rfl
      case cT14 => kernel_rfl
      case dT14 => exact fun _ _ _ h => h
      case eT14 => rfl
      simp only [Act.put, List.getElem_toArray, List.getElem_cons_zero, List.getElem_cons_succ, List.setIfInBounds_toArray, List.set_cons_zero, List.set_cons_succ]
      refine wpAnyH_ready (rs := [11]) (by kernel_rfl) (by simp) ?_
      refine (AllReadyH.cons (o := _) rfl (fun K hK => ?_) AllReadyH.nil)
      go_simp
      refine (HNn.out _).mono ?_
      rintro r w9 ⟨rfl, hk⟩
      have hk2 : Keeps NoBlock (w8.alloc (.cells #[.int .u8 (e : Int)] 5)) w9 := by first | exact hk | exact hk.ofDrew | exact hk.ofDrewN
      have HC := Lib.hid (HC.out.keep hk2 (fun h => h))
      have HK := Lib.hid (HK.out.trans hk2)
      have HNB := Lib.hid (HNB.out.keep hk2 (fun h => h))
      have hS : ((fun w' => w'.cell? ⟨w.heap.size, 0, none⟩ = some (.int .u8 (e : Int)) ∧ w'.cell? ⟨w.heap.size, 1, none⟩ = some (.int .u32 (s : Int))) w9) ∧ ((fun w' => (convert 22 9 (.slice (some ⟨w8.heap.size, 0, none⟩) 1 1)).run Try.prog w' = .ok (.string (strOfNums [(e : Int)])) w') w9) := And.intro (And.intro (HC.out.cell 0 rfl) (HC.out.cell 1 rfl)) (one_conv HNB.out)
      clear hk hk2
      go_wp2_with fail
      refine hK.out _ _ hS (fun _ => ?_)
      clear hK K
      refine wpAnyH_take (i := 12) (v := ?vT15) rfl ?aT15 ?bT15 ?cT15 ?dT15 (Or.inl ⟨?eT15, ?fT15⟩) hS ?gT15
      case fT15 => intro w hSw; (try dsimp only at hSw); go_simp; (try with_reducible rfl)
      case aT15 => kernel_rfl
      case bT15 => kernel_rfl
      case cT15 => kernel_rfl
      case dT15 => exact fun _ _ _ h => h
      case eT15 => rfl
      simp only [Act.put, List.getElem_toArray, List.getElem_cons_zero, List.getElem_cons_succ, List.setIfInBounds_toArray, List.set_cons_zero, List.set_cons_succ]
      refine wpAnyH_ready (rs := [13]) (by kernel_rfl) (by simp) ?_
      refine (AllReadyH.cons (o := _) rfl (fun K hK => ?_) AllReadyH.nil)
      go_simp
      refine (HSl.out _).mono ?_
      rintro r w10 ⟨rfl, hk⟩
      have hk2 : Keeps NoBlock w9 w10 := by first | exact hk | exact hk.ofDrew | exact hk.ofDrewN
      have HC := Lib.hid (HC.out.keep hk2 (fun h => h))
      have HK := Lib.hid (HK.out.trans hk2)
      have HNB := Lib.hid (HNB.out.keep hk2 (fun h => h))
      have hS : ((fun w' => w'.cell? ⟨w.heap.size, 0, none⟩ = some (.int .u8 (e : Int)) ∧ w'.cell? ⟨w.heap.size, 1, none⟩ = some (.int .u32 (s : Int))) w10) ∧ ((fun w' => (convert 22 9 (.slice (some ⟨w8.heap.size, 0, none⟩) 1 1)).run Try.prog w' = .ok (.string (strOfNums [(e : Int)])) w') w10) := And.intro (And.intro (HC.out.cell 0 rfl) (HC.out.cell 1 rfl)) (one_conv HNB.out)
      clear hk hk2
      go_wp2_with fail
      refine hK.out _ _ hS (fun _ => ?_)
      clear hK K
      refine wpAnyH_take (i := 14) (v := ?vT16) rfl ?aT16 ?bT16 ?cT16 ?dT16 (Or.inl ⟨?eT16, ?fT16⟩) hS ?gT16
      case fT16 => intro w hSw; (try dsimp only at hSw); go_simp; (try with_reducible rfl)
      case aT16 => kernel_rfl
      case bT16 => kernel_rfl
      case cT16 => kernel_rfl
      case dT16 => exact fun _ _ _ h => h
      case eT16 => rfl
      simp only [Act.put, List.getElem_toArray, List.getElem_cons_zero, List.getElem_cons_succ, List.setIfInBounds_toArray, List.set_cons_zero, List.set_cons_succ]
      refine wpAnyH_done (by kernel_rfl) ?_ _
      go_wp2_with fail
      go_ret
      exact ⟨rfl, HK.out⟩
    · go_simp
      refine (HNn.out _).mono ?_
      rintro r w11 ⟨rfl, hk⟩
      have hk2 : Keeps NoBlock w8 w11 := by first | exact hk | exact hk.ofDrew | exact hk.ofDrewN
      have HC := Lib.hid (HC.out.keep hk2 (fun h => h))
      have HK := Lib.hid (HK.out.trans hk2)
      have hS : (fun w' => w'.cell? ⟨w.heap.size, 0, none⟩ = some (.int .u8 (e : Int)) ∧ w'.cell? ⟨w.heap.size, 1, none⟩ = some (.int .u32 (s : Int))) w11 := And.intro (HC.out.cell 0 rfl) (HC.out.cell 1 rfl)
      clear hk hk2
      go_wp2_with fail
      refine hK.out _ _ hS (fun _ => ?_)
      clear hK K
      refine wpAnyH_ready (rs := [2]) (by kernel_rfl) (by simp) ?_
      refine (AllReadyH.cons (o := _) rfl (fun K hK => ?_) AllReadyH.nil)
      go_simp
      have HC := Lib.hid (HC.out.alloc (.cells #[.int .u8 (e : Int)] 5))
      have HK := Lib.hid (HK.out.alloc (.cells #[.int .u8 (e : Int)] 5))
      have HNB : Hid (Whole (w11.alloc (.cells #[.int .u8 (e : Int)] 5)) w11.heap.size 5 #[.int .u8 (e : Int)]) := Lib.hid (Whole.new _ _ _)
      refine hK.out _ _ (And.intro (HC.out.cell 0 rfl) (HC.out.cell 1 rfl)) (fun _ => ?_)
      clear hK K
      refine wpAnyH_swap (S' := fun w' => (w'.cell? ⟨w.heap.size, 0, none⟩ = some (.int .u8 (e : Int)) ∧ w'.cell? ⟨w.heap.size, 1, none⟩ = some (.int .u32 (s : Int))) ∧ (convert 22 9 (.slice (some ⟨w11.heap.size, 0, none⟩) 1 1)).run Try.prog w' = .ok (.string (strOfNums [(e : Int)])) w') (fun _ h => h.1) _ _ _ _ ?_
      have hS : ((fun w' => w'.cell? ⟨w.heap.size, 0, none⟩ = some (.int .u8 (e : Int)) ∧ w'.cell? ⟨w.heap.size, 1, none⟩ = some (.int .u32 (s : Int))) (w11.alloc (.cells #[.int .u8 (e : Int)] 5))) ∧ ((fun w' => (convert 22 9 (.slice (some ⟨w11.heap.size, 0, none⟩) 1 1)).run Try.prog w' = .ok (.string (strOfNums [(e : Int)])) w') (w11.alloc (.cells #[.int .u8 (e : Int)] 5))) := And.intro (And.intro (HC.out.cell 0 rfl) (HC.out.cell 1 rfl)) (one_conv HNB.out)
      refine wpAnyH_take (i := 3) (v := ?vT17) rfl ?aT17 ?bT17 ?cT17 ?dT17 (Or.inl ⟨?eT17, ?fT17⟩) hS ?gT17
      case fT17 => intro w hSw; (try dsimp only at hSw); go_simp; (try with_reducible rfl)
      case aT17 => kernel_rfl
      case bT17 => kernel_rfl
      case cT17 => kernel_rfl
      case dT17 => exact fun _ _ _ h => h
      case eT17 => rfl
      simp only [Act.put, List.getElem_toArray, List.getElem_cons_zero, List.getElem_cons_succ, List.setIfInBounds_toArray, List.set_cons_zero, List.set_cons_succ]
      refine wpAnyH_take (i := 4) (v := ?vT18) rfl ?aT18 ?bT18 ?cT18 ?dT18 (Or.inl ⟨?eT18, ?fT18⟩) hS ?gT18
      case fT18 => intro w hSw; (try dsimp only at hSw); go_simp; (try with_reducible rfl)
      case aT18 => kernel_rfl
      case bT18 => kernel_rfl
      case cT18 => kernel_rfl
      case dT18 => exact fun _ _ _ h => h
      case eT18 => rfl
      simp only [Act.put, List.getElem_toArray, List.getElem_cons_zero, List.getElem_cons_succ, List.setIfInBounds_toArray, List.set_cons_zero, List.set_cons_succ]
      refine wpAnyH_take (i := 9) (v := ?vT19) rfl ?aT19 ?bT19 ?cT19 ?dT19 (Or.inl ⟨?eT19, ?fT19⟩) hS ?gT19
      case fT19 => intro w hSw; (try dsimp only at hSw); go_simp; (try with_reducible rfl)
      case aT19 => kernel_rfl
      case bT19 => kernel_rfl
      case cT19 => kernel_rfl
      case dT19 => exact fun _ _ _ h => h
      case eT19 => rfl
      simp only [Act.put, List.getElem_toArray, List.getElem_cons_zero, List.getElem_cons_succ, List.setIfInBounds_toArray, List.set_cons_zero, List.set_cons_succ]
      refine wpAnyH_take (i := 12) (v := ?vT20) rfl ?aT20 ?bT20 ?cT20 ?dT20 (Or.inl ⟨?eT20, ?fT20⟩) hS ?gT20
      case fT20 => intro w hSw; (try dsimp only at hSw); go_simp; (try with_reducible rfl)
      case aT20 => kernel_rfl
      case bT20 => kernel_rfl
      case cT20 => kernel_rfl
      case dT20 => exact fun _ _ _ h => h
      case eT20 => rfl
      simp only [Act.put, List.getElem_toArray, List.getElem_cons_zero, List.getElem_cons_succ, List.setIfInBounds_toArray, List.set_cons_zero, List.set_cons_succ]
      refine wpAnyH_ready (rs := [13]) (by kernel_rfl) (by simp) ?_
      refine (AllReadyH.cons (o := _) rfl (fun K hK => ?_) AllReadyH.nil)
      go_simp
      refine (HSl.out _).mono ?_
      rintro r w12 ⟨rfl, hk⟩
      have hk2 : Keeps NoBlock (w11.alloc (.cells #[.int .u8 (e : Int)] 5)) w12 := by first | exact hk | exact hk.ofDrew | exact hk.ofDrewN
      have HC := Lib.hid (HC.out.keep hk2 (fun h => h))
      have HK := Lib.hid (HK.out.trans hk2)
      have HNB := Lib.hid (HNB.out.keep hk2 (fun h => h))
      have hS : ((fun w' => w'.cell? ⟨w.heap.size, 0, none⟩ = some (.int .u8 (e : Int)) ∧ w'.cell? ⟨w.heap.size, 1, none⟩ = some (.int .u32 (s : Int))) w12) ∧ ((fun w' => (convert 22 9 (.slice (some ⟨w11.heap.size, 0, none⟩) 1 1)).run Try.prog w' = .ok (.string (strOfNums [(e : Int)])) w') w12) := And.intro (And.intro (HC.out.cell 0 rfl) (HC.out.cell 1 rfl)) (one_conv HNB.out)
      clear hk hk2
      go_wp2_with fail
      refine hK.out _ _ hS (fun _ => ?_)
      clear hK K
      refine wpAnyH_take (i := 14) (v := ?vT21) rfl ?aT21 ?bT21 ?cT21 ?dT21 (Or.inl ⟨?eT21, ?fT21⟩) hS ?gT21
      case fT21 => intro w hSw; (try dsimp only at hSw); go_simp; (try with_reducible rfl)
      case aT21 => kernel_rfl
      case bT21 => kernel_rfl
      case cT21 => kernel_rfl
      case dT21 => exact fun _ _ _ h => h
      case eT21 => rfl
      simp only [Act.put, List.getElem_toArray, List.getElem_cons_zero, List.getElem_cons_succ, List.setIfInBounds_toArray, List.set_cons_zero, List.set_cons_succ]
      refine wpAnyH_done (by kernel_rfl) ?_ _
      go_wp2_with fail
      go_ret
      exact ⟨rfl, HK.out⟩
end Go.Proofs.Ytjjeaaiajgbncaa

namespace Go.Proofs.Ytjjeaaiajgbncaa
open Go.RowKit

def headOut (t : Int × Nat × Nat × Nat) : Value := .tuple #[confV t.2.1 t.2.2.1, .int .u64 (t.2.2.2 : Int), .int .i64 t.1]

theorem step_room {X : List Int} {A : Int} {d : Nat} (hd : d ≤ X.length) (h0 : 0 ≤ A) (h1 : A + X.length ≤ 10000000) : 0 ≤ A + (d : Int) ∧ A + (d : Int) + (X.drop d).length ≤ 10000000 ∧ (X.drop d).length ≤ X.length := by
  rw [List.length_drop]
  omega

set_option maxHeartbeats 8000000 in
set_option maxRecDepth 10000 in
theorem gethead9_bad (ys T : List Int) (hcase : ¬ ((s1 T 0).E = 0 ∧ (s1 T 0).v = 1 ∧ (s1 (s1 T 0).X (s1 T 0).E).E = 0 ∧ (s1 (s1 T 0).X (s1 T 0).E).v = 2)) (hopen : openN ys = (0, T)) (ho : Octets ys) (hl : ys.length ≤ 10000000) (w : World) :
    Calls Try.prog 24 #[.string (strOfNums ys)] w fun e w' => e = .returned (headOut (stepsH T)) ∧ Keeps NoBlock w w' := by
  have HO := Lib.hid (fun w => open9_ref ys ho hl w)
  obtain ⟨hb1, hb2⟩ := open_bound ho
  unfold openOut at HO
  rw [hopen] at HO hb1 hb2
  simp only at HO hb1 hb2
  have hTl : T.length ≤ 10000000 := by omega
  clear hb2 hopen
  have G1 := Lib.hid (fun w => get1_all T 0 0 (by omega) (by omega) hb1 w)
  unfold get1Out at G1
  have hB := step_room (X := T) (A := 0) (d1_le T 0) (by omega) (by omega)
  have hbv1 := b1_bound hb1 0
  have ho1 : Octets (T.drop (d1 T 0)) := hb1.drop _
  obtain ⟨X1, hX1⟩ : ∃ X, X = T.drop (d1 T 0) := ⟨_, rfl⟩
  obtain ⟨A1, hA1⟩ : ∃ A, A = 0 + (d1 T 0 : Int) := ⟨_, rfl⟩
  obtain ⟨E1, hE1⟩ : ∃ E, E = f1 T 0 := ⟨_, rfl⟩
  obtain ⟨v1, hv1⟩ : ∃ v, v = b1 T 0 := ⟨_, rfl⟩
  rw [← hX1, ← hA1, ← hE1, ← hv1] at G1
  rw [← hX1, ← hA1] at hB
  rw [← hX1] at ho1
  rw [← hv1] at hbv1
  obtain ⟨hB1, hC1, hD1⟩ := hB
  have G2 := Lib.hid (fun w => get1_all X1 A1 E1 (by omega) (by omega) ho1 w)
  unfold get1Out at G2
  have hB := step_room (X := X1) (A := A1) (d1_le X1 E1) (by omega) (by omega)
  have hbv2 := b1_bound ho1 E1
  have ho2 : Octets (X1.drop (d1 X1 E1)) := ho1.drop _
  obtain ⟨X2, hX2⟩ : ∃ X, X = X1.drop (d1 X1 E1) := ⟨_, rfl⟩
  obtain ⟨A2, hA2⟩ : ∃ A, A = A1 + (d1 X1 E1 : Int) := ⟨_, rfl⟩
  obtain ⟨E2, hE2⟩ : ∃ E, E = f1 X1 E1 := ⟨_, rfl⟩
  obtain ⟨v2, hv2⟩ : ∃ v, v = b1 X1 E1 := ⟨_, rfl⟩
  rw [← hX2, ← hA2, ← hE2, ← hv2] at G2
  rw [← hX2, ← hA2] at hB
  rw [← hX2] at ho2
  rw [← hv2] at hbv2
  obtain ⟨hB2, hC2, hD2⟩ := hB
  have G3 := Lib.hid (fun w => get1_all X2 A2 E2 (by omega) (by omega) ho2 w)
  unfold get1Out at G3
  have hB := step_room (X := X2) (A := A2) (d1_le X2 E2) (by omega) (by omega)
  have hbv3 := b1_bound ho2 E2
  have ho3 : Octets (X2.drop (d1 X2 E2)) := ho2.drop _
  obtain ⟨X3, hX3⟩ : ∃ X, X = X2.drop (d1 X2 E2) := ⟨_, rfl⟩
  obtain ⟨A3, hA3⟩ : ∃ A, A = A2 + (d1 X2 E2 : Int) := ⟨_, rfl⟩
  obtain ⟨E3, hE3⟩ : ∃ E, E = f1 X2 E2 := ⟨_, rfl⟩
  obtain ⟨v3, hv3⟩ : ∃ v, v = b1 X2 E2 := ⟨_, rfl⟩
  rw [← hX3, ← hA3, ← hE3, ← hv3] at G3
  rw [← hX3, ← hA3] at hB
  rw [← hX3] at ho3
  rw [← hv3] at hbv3
  obtain ⟨hB3, hC3, hD3⟩ := hB
  have G4 := Lib.hid (fun w => getv_all X3 A3 E3 (by omega) (by omega) ho3 w)
  unfold getvOut at G4
  have hB := step_room (X := X3) (A := A3) (dv_le X3 E3) (by omega) (by omega)
  have hbv4 := bv_bound ho3 E3
  have ho4 : Octets (X3.drop (dv X3 E3)) := ho3.drop _
  obtain ⟨X4, hX4⟩ : ∃ X, X = X3.drop (dv X3 E3) := ⟨_, rfl⟩
  obtain ⟨A4, hA4⟩ : ∃ A, A = A3 + (dv X3 E3 : Int) := ⟨_, rfl⟩
  obtain ⟨E4, hE4⟩ : ∃ E, E = fv X3 E3 := ⟨_, rfl⟩
  obtain ⟨v4, hv4⟩ : ∃ v, v = bv X3 E3 := ⟨_, rfl⟩
  rw [← hX4, ← hA4, ← hE4, ← hv4] at G4
  rw [← hX4, ← hA4] at hB
  rw [← hX4] at ho4
  rw [← hv4] at hbv4
  obtain ⟨hB4, hC4, hD4⟩ := hB
  have G5 := Lib.hid (fun w => getv_all X4 A4 E4 (by omega) (by omega) ho4 w)
  unfold getvOut at G5
  have hB := step_room (X := X4) (A := A4) (dv_le X4 E4) (by omega) (by omega)
  have hbv5 := bv_bound ho4 E4
  have ho5 : Octets (X4.drop (dv X4 E4)) := ho4.drop _
  obtain ⟨X5, hX5⟩ : ∃ X, X = X4.drop (dv X4 E4) := ⟨_, rfl⟩
  obtain ⟨A5, hA5⟩ : ∃ A, A = A4 + (dv X4 E4 : Int) := ⟨_, rfl⟩
  obtain ⟨E5, hE5⟩ : ∃ E, E = fv X4 E4 := ⟨_, rfl⟩
  obtain ⟨v5, hv5⟩ : ∃ v, v = bv X4 E4 := ⟨_, rfl⟩
  rw [← hX5, ← hA5, ← hE5, ← hv5] at G5
  rw [← hX5, ← hA5] at hB
  rw [← hX5] at ho5
  rw [← hv5] at hbv5
  obtain ⟨hB5, hC5, hD5⟩ := hB
  have hcase2 : ¬ (E1 = 0 ∧ v1 = 1 ∧ E2 = 0 ∧ v2 = 2) := by
    subst hv2 hE2 hA2 hX2 hv1 hE1 hA1 hX1
    exact hcase
  have HCase := Lib.hid hcase2
  clear hcase hcase2
  have G6 := Lib.hid (fun w => end_ref X5 A5 E5 w)
  obtain ⟨z, hz⟩ : ∃ z, z = endE X5 E5 := ⟨_, rfl⟩
  rw [← hz] at G6
  have hfin : stepsH T = if E1 = 0 ∧ v1 ≠ 1 then (4, 0, 0, 0) else if E2 = 0 ∧ v2 ≠ 2 then (4, 0, 0, 0) else if z ≠ 0 then (z, 0, 0, 0) else lastH v3 v4 v5 := by
    subst hz hv5 hE5 hA5 hX5 hv4 hE4 hA4 hX4 hv3 hE3 hA3 hX3 hv2 hE2 hA2 hX2 hv1 hE1 hA1 hX1
    rfl
  have hst1 : E1 ≠ 0 → E2 ≠ 0 := fun h => by rw [hE2]; unfold f1; rw [if_neg h]; exact h
  have hst2 : E2 ≠ 0 → z ≠ 0 := fun h => by
    have h3 : E3 = E2 := by rw [hE3]; exact if_neg h
    have h4 : E4 = E2 := by rw [hE4, h3]; exact if_neg h
    have h5 : E5 = E2 := by rw [hE5, h4]; exact if_neg h
    rw [hz, h5, endE_bad h]
    exact h
  clear hz hv5 hE5 hA5 hX5 hv4 hE4 hA4 hX4 hv3 hE3 hA3 hX3 hv2 hE2 hA2 hX2 hv1 hE1 hA1 hX1 hTl hb1 ho1 ho2 ho3 ho4 ho5 hB1 hB2 hB3 hB4 hB5 hC1 hC2 hC3 hC4 hC5 hD1 hD2 hD3 hD4 hD5 ho hl
  have HST1 := Lib.hid hst1; have HST2 := Lib.hid hst2; have HF := Lib.hid hfin
  have HB3 := Lib.hid hbv3; have HB4 := Lib.hid hbv4; have HB5 := Lib.hid hbv5
  clear hst1 hst2 hfin hbv1 hbv2 hbv3 hbv4 hbv5
  unfold rdr at G1 G2 G3 G4 G5 G6
  go_enter Try.func24, Try.ntmps24
  go_wp2_with fail
  refine (HO.out _).mono ?_
  rintro e w1 ⟨rfl, hk⟩
  have hR : Whole w1 w.heap.size 48 #[.int .u8 0, .int .u32 0] := ((Whole.new w _ _).alloc _).keep hk (fun h => h)
  have hN : Whole w1 (w.heap.size + 1) 48 #[.int .u8 0, .int .u32 0] := (Whole.newAt _ _ _ _ (by simp)).keep hk (fun h => h)
  have HK := Lib.hid ((((Keeps.refl NoBlock w).alloc _).alloc _).trans hk)
  have HR := Lib.hid hR; have HN := Lib.hid hN
  clear hk hR hN
  go_wp2_with fail
  refine (G1.out _).mono ?_
  rintro e w2 ⟨rfl, hk⟩
  have hR := HR.out.keep hk (fun h => h)
  have hN := HN.out.keep hk (fun h => h)
  have hK := HK.out.trans hk
  obtain ⟨W, hW⟩ : ∃ W, W = w2.alloc (.cells #[.string (strOfNums X1), .int .i64 A1, .int .i64 E1] 79) := ⟨_, rfl⟩
  have HR : Hid (Whole W w.heap.size 48 #[.int .u8 0, .int .u32 0]) := Lib.hid (by rw [hW]; exact hR.alloc _)
  have HN : Hid (Whole W (w.heap.size + 1) 48 #[.int .u8 0, .int .u32 0]) := Lib.hid (by rw [hW]; exact hN.alloc _)
  have HD : Hid (Whole W w2.heap.size 79 #[.string (strOfNums X1), .int .i64 A1, .int .i64 E1]) := Lib.hid (by rw [hW]; exact Whole.new _ _ _)
  have HK : Hid (Keeps NoBlock w W) := Lib.hid (by rw [hW]; exact hK.alloc _)
  have hlt := hN.lt
  obtain ⟨D, hD⟩ : ∃ D, D = w2.heap.size := ⟨_, rfl⟩
  rw [← hD] at HD hlt
  clear hk hR hN hK
  go_upto_region 6 with (fail)
  rw [← hW, ← hD]
  clear hW hD
  have d0 := HD.out.cell 0 rfl
  have d1 := HD.out.cell 1 rfl
  have d2 := HD.out.cell 2 rfl
  have e0 := HD.out.free 0
  have e1 := HD.out.free 1
  have e2 := HD.out.free 2
  simp only [List.getElem_toArray, List.getElem_cons_zero, List.getElem_cons_succ] at d0 d1 d2
  by_cases h1 : E1 = 0
  · have hz1 : (E1 == 0) = true := by rw [h1]; rfl
    by_cases g1 : v1 = 1
    · have hg1 : (v1 != 1) = false := by rw [g1]; rfl
      have H1 := Lib.hid h1; have H1g := Lib.hid g1
      clear h1 g1
      go_wp2_with fail
      refine (G2.out _).mono ?_
      rintro e u2 ⟨rfl, hk⟩
      have HR := Lib.hid ((HR.out.keep hk (fun h => h)).other3 (h := D) (by omega) (.string (strOfNums X2)) (.int .i64 A2) (.int .i64 E2))
      have HN := Lib.hid ((HN.out.keep hk (fun h => h)).other3 (h := D) (by omega) (.string (strOfNums X2)) (.int .i64 A2) (.int .i64 E2))
      have HK := Lib.hid ((HK.out.trans hk).set3 (g := D) (by omega) (.string (strOfNums X2)) (.int .i64 A2) (.int .i64 E2))
      have hD2 := HD.out.keep hk (fun h => h)
      have HD := Lib.hid (hD2.set3 (.string (strOfNums X2)) (.int .i64 A2) (.int .i64 E2))
      clear d0 d1 d2 e0 e1 e2
      have d0 := hD2.cell 0 rfl
      have d1 := hD2.cell 1 rfl
      have d2 := hD2.cell 2 rfl
      have e0 := hD2.free 0
      have e1 := hD2.free 1
      have e2 := hD2.free 2
      simp only [List.getElem_toArray, List.getElem_cons_zero, List.getElem_cons_succ] at d0 d1 d2
      clear hk hD2
      go_upto_region 9 with (fail)
      obtain ⟨Y2, hY⟩ : ∃ Y, Y = ((u2.setCell ⟨D, 0, none⟩ (.string (strOfNums X2))).setCell ⟨D, 1, none⟩ (.int .i64 A2)).setCell ⟨D, 2, none⟩ (.int .i64 E2) := ⟨_, rfl⟩
      rw [← hY] at HR HN HK HD ⊢
      clear hY
      clear d0 d1 d2 e0 e1 e2
      have d0 := HD.out.cell 0 rfl
      have d1 := HD.out.cell 1 rfl
      have d2 := HD.out.cell 2 rfl
      have e0 := HD.out.free 0
      have e1 := HD.out.free 1
      have e2 := HD.out.free 2
      simp only [List.getElem_toArray, List.getElem_cons_zero, List.getElem_cons_succ] at d0 d1 d2
      by_cases h2 : E2 = 0
      · have hz2 : (E2 == 0) = true := by rw [h2]; rfl
        have g2 : ¬ v2 = 2 := fun g => HCase.out ⟨H1.out, H1g.out, h2, g⟩
        have hg2 : (v2 != 2) = true := by rw [bne_iff_ne]; exact g2
        have HF4 := Lib.hid (show stepsH T = (4, 0, 0, 0) by rw [HF.out, if_neg (fun h => h.2 H1g.out), if_pos ⟨h2, g2⟩])
        clear h2 g2
        have c0 := HR.out.cell 0 rfl
        have c1 := HR.out.cell 1 rfl
        have q0 := HR.out.free 0
        have q1 := HR.out.free 1
        have n0 := HN.out.cell 0 rfl
        have n1 := HN.out.cell 1 rfl
        simp only [List.getElem_toArray, List.getElem_cons_zero, List.getElem_cons_succ] at c0 c1 n0 n1
        go_wp2_with fail
        rw [show stepsH T = (4, 0, 0, 0) from HF4.out]
        exact bodyPost_ret (v := headOut (4, 0, 0, 0)) (by simp [results, Try.results24, go_sem, headOut, confV, c0, c1]) rfl ⟨rfl, ((HK.out.setNew (g := w.heap.size) (Nat.le_refl _) 0 _).setNew (g := w.heap.size) (Nat.le_refl _) 1 _)⟩
      · have hz2 : (E2 == 0) = false := beq_eq_false_iff_ne.2 h2
        have H2 := Lib.hid h2; have HZ := Lib.hid (HST2.out h2)
        clear h2
        go_wp2_with fail
        refine (G3.out _).mono ?_
        rintro e u3 ⟨rfl, hk⟩
        have HR := Lib.hid ((HR.out.keep hk (fun h => h)).other3 (h := D) (by omega) (.string (strOfNums X3)) (.int .i64 A3) (.int .i64 E3))
        have HN := Lib.hid ((HN.out.keep hk (fun h => h)).other3 (h := D) (by omega) (.string (strOfNums X3)) (.int .i64 A3) (.int .i64 E3))
        have HK := Lib.hid ((HK.out.trans hk).set3 (g := D) (by omega) (.string (strOfNums X3)) (.int .i64 A3) (.int .i64 E3))
        have hD2 := HD.out.keep hk (fun h => h)
        have HD := Lib.hid (hD2.set3 (.string (strOfNums X3)) (.int .i64 A3) (.int .i64 E3))
        clear d0 d1 d2 e0 e1 e2
        have d0 := hD2.cell 0 rfl
        have d1 := hD2.cell 1 rfl
        have d2 := hD2.cell 2 rfl
        have e0 := hD2.free 0
        have e1 := hD2.free 1
        have e2 := hD2.free 2
        simp only [List.getElem_toArray, List.getElem_cons_zero, List.getElem_cons_succ] at d0 d1 d2
        clear hk hD2
        go_upto_region 12 with (fail)
        obtain ⟨Y3, hY⟩ : ∃ Y, Y = ((u3.setCell ⟨D, 0, none⟩ (.string (strOfNums X3))).setCell ⟨D, 1, none⟩ (.int .i64 A3)).setCell ⟨D, 2, none⟩ (.int .i64 E3) := ⟨_, rfl⟩
        rw [← hY] at HR HN HK HD ⊢
        clear hY
        clear d0 d1 d2 e0 e1 e2
        have d0 := HD.out.cell 0 rfl
        have d1 := HD.out.cell 1 rfl
        have d2 := HD.out.cell 2 rfl
        have e0 := HD.out.free 0
        have e1 := HD.out.free 1
        have e2 := HD.out.free 2
        simp only [List.getElem_toArray, List.getElem_cons_zero, List.getElem_cons_succ] at d0 d1 d2
        go_wp2_with fail
        refine (G4.out _).mono ?_
        rintro e u4 ⟨rfl, hk⟩
        have HR := Lib.hid ((HR.out.keep hk (fun h => h)).other3 (h := D) (by omega) (.string (strOfNums X4)) (.int .i64 A4) (.int .i64 E4))
        have HN := Lib.hid ((HN.out.keep hk (fun h => h)).other3 (h := D) (by omega) (.string (strOfNums X4)) (.int .i64 A4) (.int .i64 E4))
        have HK := Lib.hid ((HK.out.trans hk).set3 (g := D) (by omega) (.string (strOfNums X4)) (.int .i64 A4) (.int .i64 E4))
        have hD2 := HD.out.keep hk (fun h => h)
        have HD := Lib.hid (hD2.set3 (.string (strOfNums X4)) (.int .i64 A4) (.int .i64 E4))
        clear d0 d1 d2 e0 e1 e2
        have d0 := hD2.cell 0 rfl
        have d1 := hD2.cell 1 rfl
        have d2 := hD2.cell 2 rfl
        have e0 := hD2.free 0
        have e1 := hD2.free 1
        have e2 := hD2.free 2
        simp only [List.getElem_toArray, List.getElem_cons_zero, List.getElem_cons_succ] at d0 d1 d2
        clear hk hD2
        go_upto_region 13 with (fail)
        obtain ⟨Y4, hY⟩ : ∃ Y, Y = ((u4.setCell ⟨D, 0, none⟩ (.string (strOfNums X4))).setCell ⟨D, 1, none⟩ (.int .i64 A4)).setCell ⟨D, 2, none⟩ (.int .i64 E4) := ⟨_, rfl⟩
        rw [← hY] at HR HN HK HD ⊢
        clear hY
        clear d0 d1 d2 e0 e1 e2
        have d0 := HD.out.cell 0 rfl
        have d1 := HD.out.cell 1 rfl
        have d2 := HD.out.cell 2 rfl
        have e0 := HD.out.free 0
        have e1 := HD.out.free 1
        have e2 := HD.out.free 2
        simp only [List.getElem_toArray, List.getElem_cons_zero, List.getElem_cons_succ] at d0 d1 d2
        go_wp2_with fail
        refine (G5.out _).mono ?_
        rintro e u5 ⟨rfl, hk⟩
        have HR := Lib.hid ((HR.out.keep hk (fun h => h)).other3 (h := D) (by omega) (.string (strOfNums X5)) (.int .i64 A5) (.int .i64 E5))
        have HN := Lib.hid ((HN.out.keep hk (fun h => h)).other3 (h := D) (by omega) (.string (strOfNums X5)) (.int .i64 A5) (.int .i64 E5))
        have HK := Lib.hid ((HK.out.trans hk).set3 (g := D) (by omega) (.string (strOfNums X5)) (.int .i64 A5) (.int .i64 E5))
        have hD2 := HD.out.keep hk (fun h => h)
        have HD := Lib.hid (hD2.set3 (.string (strOfNums X5)) (.int .i64 A5) (.int .i64 E5))
        clear d0 d1 d2 e0 e1 e2
        have d0 := hD2.cell 0 rfl
        have d1 := hD2.cell 1 rfl
        have d2 := hD2.cell 2 rfl
        have e0 := hD2.free 0
        have e1 := hD2.free 1
        have e2 := hD2.free 2
        simp only [List.getElem_toArray, List.getElem_cons_zero, List.getElem_cons_succ] at d0 d1 d2
        clear hk hD2
        go_upto_region 14 with (fail)
        obtain ⟨Y5, hY⟩ : ∃ Y, Y = ((u5.setCell ⟨D, 0, none⟩ (.string (strOfNums X5))).setCell ⟨D, 1, none⟩ (.int .i64 A5)).setCell ⟨D, 2, none⟩ (.int .i64 E5) := ⟨_, rfl⟩
        rw [← hY] at HR HN HK HD ⊢
        clear hY
        clear d0 d1 d2 e0 e1 e2
        have d0 := HD.out.cell 0 rfl
        have d1 := HD.out.cell 1 rfl
        have d2 := HD.out.cell 2 rfl
        have e0 := HD.out.free 0
        have e1 := HD.out.free 1
        have e2 := HD.out.free 2
        simp only [List.getElem_toArray, List.getElem_cons_zero, List.getElem_cons_succ] at d0 d1 d2
        go_wp2_with fail
        refine (G6.out _).mono ?_
        rintro e u6 ⟨rfl, hk⟩
        have HR := Lib.hid ((HR.out.keep hk (fun h => h)).other3 (h := D) (by omega) (.string (strOfNums X5)) (.int .i64 A5) (.int .i64 z))
        have HN := Lib.hid ((HN.out.keep hk (fun h => h)).other3 (h := D) (by omega) (.string (strOfNums X5)) (.int .i64 A5) (.int .i64 z))
        have HK := Lib.hid ((HK.out.trans hk).set3 (g := D) (by omega) (.string (strOfNums X5)) (.int .i64 A5) (.int .i64 z))
        have hD2 := HD.out.keep hk (fun h => h)
        have HD := Lib.hid (hD2.set3 (.string (strOfNums X5)) (.int .i64 A5) (.int .i64 z))
        clear d0 d1 d2 e0 e1 e2
        have d0 := hD2.cell 0 rfl
        have d1 := hD2.cell 1 rfl
        have d2 := hD2.cell 2 rfl
        have e0 := hD2.free 0
        have e1 := hD2.free 1
        have e2 := hD2.free 2
        simp only [List.getElem_toArray, List.getElem_cons_zero, List.getElem_cons_succ] at d0 d1 d2
        clear hk hD2
        go_upto_region 15 with (fail)
        obtain ⟨Y6, hY⟩ : ∃ Y, Y = ((u6.setCell ⟨D, 0, none⟩ (.string (strOfNums X5))).setCell ⟨D, 1, none⟩ (.int .i64 A5)).setCell ⟨D, 2, none⟩ (.int .i64 z) := ⟨_, rfl⟩
        rw [← hY] at HR HN HK HD ⊢
        clear hY
        clear d0 d1 d2 e0 e1 e2
        have d0 := HD.out.cell 0 rfl
        have d1 := HD.out.cell 1 rfl
        have d2 := HD.out.cell 2 rfl
        have e0 := HD.out.free 0
        have e1 := HD.out.free 1
        have e2 := HD.out.free 2
        simp only [List.getElem_toArray, List.getElem_cons_zero, List.getElem_cons_succ] at d0 d1 d2
        have hzt : (z != 0) = true := by rw [bne_iff_ne]; exact HZ.out
        have HFz := Lib.hid (show stepsH T = (z, 0, 0, 0) by rw [HF.out, if_neg (fun h => h.2 H1g.out), if_neg (fun h => H2.out h.1), if_pos HZ.out])
        have c0 := HR.out.cell 0 rfl
        have c1 := HR.out.cell 1 rfl
        have q0 := HR.out.free 0
        have q1 := HR.out.free 1
        have n0 := HN.out.cell 0 rfl
        have n1 := HN.out.cell 1 rfl
        simp only [List.getElem_toArray, List.getElem_cons_zero, List.getElem_cons_succ] at c0 c1 n0 n1
        go_wp2_with fail
        have s0 : Y6.drew.cell? ⟨D, 2, none⟩ = some (.int .i64 z) := d2
        have s1 : Y6.drew.cell? ⟨w.heap.size + 1, 0, none⟩ = some (.int .u8 0) := n0
        have s2 : Y6.drew.cell? ⟨w.heap.size + 1, 1, none⟩ = some (.int .u32 0) := n1
        have s3 : Y6.drew.frozen? ⟨w.heap.size, 0, none⟩ = false := q0
        have s4 : Y6.drew.frozen? ⟨w.heap.size, 1, none⟩ = false := q1
        have s5 : Y6.drew.cell? ⟨w.heap.size, 0, none⟩ = some (.int .u8 0) := c0
        have s6 : Y6.drew.cell? ⟨w.heap.size, 1, none⟩ = some (.int .u32 0) := c1
        go_region
        all_goals
          go_wp2_with fail
          rw [HFz.out]
          exact bodyPost_ret (v := headOut (z, 0, 0, 0)) (by simp [results, Try.results24, go_sem, headOut, confV, c0, c1]) rfl ⟨rfl, by first | exact ((HK.out.setNew (g := w.heap.size) (Nat.le_refl _) 0 _).setNew (g := w.heap.size) (Nat.le_refl _) 1 _).drew | exact ((HK.out.drew.setNew (g := w.heap.size) (Nat.le_refl _) 0 _).setNew (g := w.heap.size) (Nat.le_refl _) 1 _) | exact ((HK.out.setNew (g := w.heap.size) (Nat.le_refl _) 0 _).setNew (g := w.heap.size) (Nat.le_refl _) 1 _)⟩
    · have hg1 : (v1 != 1) = true := by rw [bne_iff_ne]; exact g1
      have HF4 := Lib.hid (show stepsH T = (4, 0, 0, 0) by rw [HF.out, if_pos ⟨h1, g1⟩])
      clear h1 g1
      have c0 := HR.out.cell 0 rfl
      have c1 := HR.out.cell 1 rfl
      have q0 := HR.out.free 0
      have q1 := HR.out.free 1
      have n0 := HN.out.cell 0 rfl
      have n1 := HN.out.cell 1 rfl
      simp only [List.getElem_toArray, List.getElem_cons_zero, List.getElem_cons_succ] at c0 c1 n0 n1
      go_wp2_with fail
      rw [show stepsH T = (4, 0, 0, 0) from HF4.out]
      exact bodyPost_ret (v := headOut (4, 0, 0, 0)) (by simp [results, Try.results24, go_sem, headOut, confV, c0, c1]) rfl ⟨rfl, ((HK.out.setNew (g := w.heap.size) (Nat.le_refl _) 0 _).setNew (g := w.heap.size) (Nat.le_refl _) 1 _)⟩
  · have hz1 : (E1 == 0) = false := beq_eq_false_iff_ne.2 h1
    have H1 := Lib.hid h1; have H2 := Lib.hid (HST1.out h1); have HZ := Lib.hid (HST2.out (HST1.out h1))
    have hz2 : (E2 == 0) = false := beq_eq_false_iff_ne.2 H2.out
    clear h1
    go_wp2_with fail
    refine (G2.out _).mono ?_
    rintro e u2 ⟨rfl, hk⟩
    have HR := Lib.hid ((HR.out.keep hk (fun h => h)).other3 (h := D) (by omega) (.string (strOfNums X2)) (.int .i64 A2) (.int .i64 E2))
    have HN := Lib.hid ((HN.out.keep hk (fun h => h)).other3 (h := D) (by omega) (.string (strOfNums X2)) (.int .i64 A2) (.int .i64 E2))
    have HK := Lib.hid ((HK.out.trans hk).set3 (g := D) (by omega) (.string (strOfNums X2)) (.int .i64 A2) (.int .i64 E2))
    have hD2 := HD.out.keep hk (fun h => h)
    have HD := Lib.hid (hD2.set3 (.string (strOfNums X2)) (.int .i64 A2) (.int .i64 E2))
    clear d0 d1 d2 e0 e1 e2
    have d0 := hD2.cell 0 rfl
    have d1 := hD2.cell 1 rfl
    have d2 := hD2.cell 2 rfl
    have e0 := hD2.free 0
    have e1 := hD2.free 1
    have e2 := hD2.free 2
    simp only [List.getElem_toArray, List.getElem_cons_zero, List.getElem_cons_succ] at d0 d1 d2
    clear hk hD2
    go_upto_region 9 with (fail)
    obtain ⟨Y2, hY⟩ : ∃ Y, Y = ((u2.setCell ⟨D, 0, none⟩ (.string (strOfNums X2))).setCell ⟨D, 1, none⟩ (.int .i64 A2)).setCell ⟨D, 2, none⟩ (.int .i64 E2) := ⟨_, rfl⟩
    rw [← hY] at HR HN HK HD ⊢
    clear hY
    clear d0 d1 d2 e0 e1 e2
    have d0 := HD.out.cell 0 rfl
    have d1 := HD.out.cell 1 rfl
    have d2 := HD.out.cell 2 rfl
    have e0 := HD.out.free 0
    have e1 := HD.out.free 1
    have e2 := HD.out.free 2
    simp only [List.getElem_toArray, List.getElem_cons_zero, List.getElem_cons_succ] at d0 d1 d2
    go_wp2_with fail
    refine (G3.out _).mono ?_
    rintro e u3 ⟨rfl, hk⟩
    have HR := Lib.hid ((HR.out.keep hk (fun h => h)).other3 (h := D) (by omega) (.string (strOfNums X3)) (.int .i64 A3) (.int .i64 E3))
    have HN := Lib.hid ((HN.out.keep hk (fun h => h)).other3 (h := D) (by omega) (.string (strOfNums X3)) (.int .i64 A3) (.int .i64 E3))
    have HK := Lib.hid ((HK.out.trans hk).set3 (g := D) (by omega) (.string (strOfNums X3)) (.int .i64 A3) (.int .i64 E3))
    have hD2 := HD.out.keep hk (fun h => h)
    have HD := Lib.hid (hD2.set3 (.string (strOfNums X3)) (.int .i64 A3) (.int .i64 E3))
    clear d0 d1 d2 e0 e1 e2
    have d0 := hD2.cell 0 rfl
    have d1 := hD2.cell 1 rfl
    have d2 := hD2.cell 2 rfl
    have e0 := hD2.free 0
    have e1 := hD2.free 1
    have e2 := hD2.free 2
    simp only [List.getElem_toArray, List.getElem_cons_zero, List.getElem_cons_succ] at d0 d1 d2
    clear hk hD2
    go_upto_region 12 with (fail)
    obtain ⟨Y3, hY⟩ : ∃ Y, Y = ((u3.setCell ⟨D, 0, none⟩ (.string (strOfNums X3))).setCell ⟨D, 1, none⟩ (.int .i64 A3)).setCell ⟨D, 2, none⟩ (.int .i64 E3) := ⟨_, rfl⟩
    rw [← hY] at HR HN HK HD ⊢
    clear hY
    clear d0 d1 d2 e0 e1 e2
    have d0 := HD.out.cell 0 rfl
    have d1 := HD.out.cell 1 rfl
    have d2 := HD.out.cell 2 rfl
    have e0 := HD.out.free 0
    have e1 := HD.out.free 1
    have e2 := HD.out.free 2
    simp only [List.getElem_toArray, List.getElem_cons_zero, List.getElem_cons_succ] at d0 d1 d2
    go_wp2_with fail
    refine (G4.out _).mono ?_
    rintro e u4 ⟨rfl, hk⟩
    have HR := Lib.hid ((HR.out.keep hk (fun h => h)).other3 (h := D) (by omega) (.string (strOfNums X4)) (.int .i64 A4) (.int .i64 E4))
    have HN := Lib.hid ((HN.out.keep hk (fun h => h)).other3 (h := D) (by omega) (.string (strOfNums X4)) (.int .i64 A4) (.int .i64 E4))
    have HK := Lib.hid ((HK.out.trans hk).set3 (g := D) (by omega) (.string (strOfNums X4)) (.int .i64 A4) (.int .i64 E4))
    have hD2 := HD.out.keep hk (fun h => h)
    have HD := Lib.hid (hD2.set3 (.string (strOfNums X4)) (.int .i64 A4) (.int .i64 E4))
    clear d0 d1 d2 e0 e1 e2
    have d0 := hD2.cell 0 rfl
    have d1 := hD2.cell 1 rfl
    have d2 := hD2.cell 2 rfl
    have e0 := hD2.free 0
    have e1 := hD2.free 1
    have e2 := hD2.free 2
    simp only [List.getElem_toArray, List.getElem_cons_zero, List.getElem_cons_succ] at d0 d1 d2
    clear hk hD2
    go_upto_region 13 with (fail)
    obtain ⟨Y4, hY⟩ : ∃ Y, Y = ((u4.setCell ⟨D, 0, none⟩ (.string (strOfNums X4))).setCell ⟨D, 1, none⟩ (.int .i64 A4)).setCell ⟨D, 2, none⟩ (.int .i64 E4) := ⟨_, rfl⟩
    rw [← hY] at HR HN HK HD ⊢
    clear hY
    clear d0 d1 d2 e0 e1 e2
    have d0 := HD.out.cell 0 rfl
    have d1 := HD.out.cell 1 rfl
    have d2 := HD.out.cell 2 rfl
    have e0 := HD.out.free 0
    have e1 := HD.out.free 1
    have e2 := HD.out.free 2
    simp only [List.getElem_toArray, List.getElem_cons_zero, List.getElem_cons_succ] at d0 d1 d2
    go_wp2_with fail
    refine (G5.out _).mono ?_
    rintro e u5 ⟨rfl, hk⟩
    have HR := Lib.hid ((HR.out.keep hk (fun h => h)).other3 (h := D) (by omega) (.string (strOfNums X5)) (.int .i64 A5) (.int .i64 E5))
    have HN := Lib.hid ((HN.out.keep hk (fun h => h)).other3 (h := D) (by omega) (.string (strOfNums X5)) (.int .i64 A5) (.int .i64 E5))
    have HK := Lib.hid ((HK.out.trans hk).set3 (g := D) (by omega) (.string (strOfNums X5)) (.int .i64 A5) (.int .i64 E5))
    have hD2 := HD.out.keep hk (fun h => h)
    have HD := Lib.hid (hD2.set3 (.string (strOfNums X5)) (.int .i64 A5) (.int .i64 E5))
    clear d0 d1 d2 e0 e1 e2
    have d0 := hD2.cell 0 rfl
    have d1 := hD2.cell 1 rfl
    have d2 := hD2.cell 2 rfl
    have e0 := hD2.free 0
    have e1 := hD2.free 1
    have e2 := hD2.free 2
    simp only [List.getElem_toArray, List.getElem_cons_zero, List.getElem_cons_succ] at d0 d1 d2
    clear hk hD2
    go_upto_region 14 with (fail)
    obtain ⟨Y5, hY⟩ : ∃ Y, Y = ((u5.setCell ⟨D, 0, none⟩ (.string (strOfNums X5))).setCell ⟨D, 1, none⟩ (.int .i64 A5)).setCell ⟨D, 2, none⟩ (.int .i64 E5) := ⟨_, rfl⟩
    rw [← hY] at HR HN HK HD ⊢
    clear hY
    clear d0 d1 d2 e0 e1 e2
    have d0 := HD.out.cell 0 rfl
    have d1 := HD.out.cell 1 rfl
    have d2 := HD.out.cell 2 rfl
    have e0 := HD.out.free 0
    have e1 := HD.out.free 1
    have e2 := HD.out.free 2
    simp only [List.getElem_toArray, List.getElem_cons_zero, List.getElem_cons_succ] at d0 d1 d2
    go_wp2_with fail
    refine (G6.out _).mono ?_
    rintro e u6 ⟨rfl, hk⟩
    have HR := Lib.hid ((HR.out.keep hk (fun h => h)).other3 (h := D) (by omega) (.string (strOfNums X5)) (.int .i64 A5) (.int .i64 z))
    have HN := Lib.hid ((HN.out.keep hk (fun h => h)).other3 (h := D) (by omega) (.string (strOfNums X5)) (.int .i64 A5) (.int .i64 z))
    have HK := Lib.hid ((HK.out.trans hk).set3 (g := D) (by omega) (.string (strOfNums X5)) (.int .i64 A5) (.int .i64 z))
    have hD2 := HD.out.keep hk (fun h => h)
    have HD := Lib.hid (hD2.set3 (.string (strOfNums X5)) (.int .i64 A5) (.int .i64 z))
    clear d0 d1 d2 e0 e1 e2
    have d0 := hD2.cell 0 rfl
    have d1 := hD2.cell 1 rfl
    have d2 := hD2.cell 2 rfl
    have e0 := hD2.free 0
    have e1 := hD2.free 1
    have e2 := hD2.free 2
    simp only [List.getElem_toArray, List.getElem_cons_zero, List.getElem_cons_succ] at d0 d1 d2
    clear hk hD2
    go_upto_region 15 with (fail)
    obtain ⟨Y6, hY⟩ : ∃ Y, Y = ((u6.setCell ⟨D, 0, none⟩ (.string (strOfNums X5))).setCell ⟨D, 1, none⟩ (.int .i64 A5)).setCell ⟨D, 2, none⟩ (.int .i64 z) := ⟨_, rfl⟩
    rw [← hY] at HR HN HK HD ⊢
    clear hY
    clear d0 d1 d2 e0 e1 e2
    have d0 := HD.out.cell 0 rfl
    have d1 := HD.out.cell 1 rfl
    have d2 := HD.out.cell 2 rfl
    have e0 := HD.out.free 0
    have e1 := HD.out.free 1
    have e2 := HD.out.free 2
    simp only [List.getElem_toArray, List.getElem_cons_zero, List.getElem_cons_succ] at d0 d1 d2
    have hzt : (z != 0) = true := by rw [bne_iff_ne]; exact HZ.out
    have HFz := Lib.hid (show stepsH T = (z, 0, 0, 0) by rw [HF.out, if_neg (fun h => H1.out h.1), if_neg (fun h => H2.out h.1), if_pos HZ.out])
    have c0 := HR.out.cell 0 rfl
    have c1 := HR.out.cell 1 rfl
    have q0 := HR.out.free 0
    have q1 := HR.out.free 1
    have n0 := HN.out.cell 0 rfl
    have n1 := HN.out.cell 1 rfl
    simp only [List.getElem_toArray, List.getElem_cons_zero, List.getElem_cons_succ] at c0 c1 n0 n1
    go_wp2_with fail
    have s0 : Y6.drew.cell? ⟨D, 2, none⟩ = some (.int .i64 z) := d2
    have s1 : Y6.drew.cell? ⟨w.heap.size + 1, 0, none⟩ = some (.int .u8 0) := n0
    have s2 : Y6.drew.cell? ⟨w.heap.size + 1, 1, none⟩ = some (.int .u32 0) := n1
    have s3 : Y6.drew.frozen? ⟨w.heap.size, 0, none⟩ = false := q0
    have s4 : Y6.drew.frozen? ⟨w.heap.size, 1, none⟩ = false := q1
    have s5 : Y6.drew.cell? ⟨w.heap.size, 0, none⟩ = some (.int .u8 0) := c0
    have s6 : Y6.drew.cell? ⟨w.heap.size, 1, none⟩ = some (.int .u32 0) := c1
    go_region
    all_goals
      go_wp2_with fail
      rw [HFz.out]
      exact bodyPost_ret (v := headOut (z, 0, 0, 0)) (by simp [results, Try.results24, go_sem, headOut, confV, c0, c1]) rfl ⟨rfl, by first | exact ((HK.out.setNew (g := w.heap.size) (Nat.le_refl _) 0 _).setNew (g := w.heap.size) (Nat.le_refl _) 1 _).drew | exact ((HK.out.drew.setNew (g := w.heap.size) (Nat.le_refl _) 0 _).setNew (g := w.heap.size) (Nat.le_refl _) 1 _) | exact ((HK.out.setNew (g := w.heap.size) (Nat.le_refl _) 0 _).setNew (g := w.heap.size) (Nat.le_refl _) 1 _)⟩
end Go.Proofs.Ytjjeaaiajgbncaa

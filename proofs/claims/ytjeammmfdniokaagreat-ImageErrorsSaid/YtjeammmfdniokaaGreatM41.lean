/-
  ImPlA; ImPlWalk; ImErWalk; OpenCf.
-/
import Derived.Lib.SmallJoins
import Derived.Test.YtjeammmfdniokaaGreatM08
import Derived.Test.YtjeammmfdniokaaGreatM20
import Derived.Test.YtjeammmfdniokaaGreatM21
import Derived.Test.YtjeammmfdniokaaGreatM26
import Derived.Test.YtjeammmfdniokaaGreatM40
namespace Go.Proofs.YtjeammmfdniokaaGreat
open Go.RowKit

theorem shl_small {e j : Nat} (he : e ≤ 24) (hj : j ≤ 100000) : Op.shift BinOp.shl IntKind.i64 (j : Int) IntKind.u8 (e : Int) = pure (.int .i64 ((j * 2 ^ e : Nat) : Int)) := by
  have hp : 2 ^ e ≤ 16777216 := Nat.pow_le_pow_right (n := 2) (by decide) he
  have hm : j * 2 ^ e ≤ 100000 * 16777216 := Nat.mul_le_mul hj hp
  have e2 : (j : Int) * (2 : Int) ^ e = ((j * 2 ^ e : Nat) : Int) := by push_cast; rfl
  have e1 : min ((e : Int)).toNat IntKind.i64.bits = e := by
    have : IntKind.i64.bits = 64 := rfl
    rw [Int.toNat_natCast, this]
    omega
  have e3 : IntKind.i64.wrap ((j * 2 ^ e : Nat) : Int) = ((j * 2 ^ e : Nat) : Int) := by
    obtain ⟨y, hy⟩ : ∃ y, y = j * 2 ^ e := ⟨_, rfl⟩
    rw [← hy] at hm ⊢
    rw [IntKind.wrap_i64]
    omega
  have h0 : ¬ ((e : Int) < 0) := by omega
  show (if (e : Int) < 0 then _ else pure (Value.int .i64 (IntKind.i64.wrap ((j : Int) * 2 ^ min ((e : Int)).toNat IntKind.i64.bits)))) = _
  rw [if_neg h0, e1, e2, e3]

theorem shl_wrap {e j : Nat} (he : e ≤ 24) (hj : j ≤ 100000) : wrap64 ((j : Int) * 2 ^ e) = ((j * 2 ^ e : Nat) : Int) := by
  have hp : 2 ^ e ≤ 16777216 := Nat.pow_le_pow_right (n := 2) (by decide) he
  have hm : j * 2 ^ e ≤ 100000 * 16777216 := Nat.mul_le_mul hj hp
  have e2 : (j : Int) * (2 : Int) ^ e = ((j * 2 ^ e : Nat) : Int) := by push_cast; rfl
  rw [e2]
  obtain ⟨y, hy⟩ : ∃ y, y = j * 2 ^ e := ⟨_, rfl⟩
  rw [← hy] at hm ⊢
  unfold wrap64
  omega

set_option maxHeartbeats 4000000 in
set_option maxRecDepth 10000 in
theorem implaces_many {At : BAt} (HB : SgBuild At) (HNw : SgNewOk At) (HOp : SgOpenOk At) (H : ImEncOk) (k : Nat) (p : Option Addr) (n c : Nat) (l : List Rec) (w : World) (hn : n = l.length) (hc : n ≤ c) (hc' : c ≤ 9223372036854775807) (hb : ∀ r ∈ l, r.key.length ≤ 9223372036854775807 ∧ r.val.length ≤ 9223372036854775807) (hl : RecsAt w p l) (hlt : fewR l 40 2000 = false) :
    Calls Tryz.prog 4 #[.int .u8 (k : Int), .slice p n c] w fun e w' => e = .returned (.bool true) ∧ Keeps NoBlock w w' := by
  have HL := Lib.hid (fun w => lives16_true HB HNw HOp H w)
  have HFw := Lib.hid (fun (w : World) hl => few_any p n c l 40 2000 40 2000 rfl rfl hn (by omega) hb w hl)
  have HR := Lib.hid hl
  rw [hlt] at HFw
  clear hl hb HB HNw HOp H hn hlt
  go_enter Tryz.func4, Tryz.ntmps4
  go_wp2_with fail
  refine (HL.out _).mono ?_
  rintro e w1 ⟨rfl, hk1⟩
  have HK := Lib.hid hk1
  have HR := Lib.hid (HR.out.keep hk1 (fun _ _ h => h))
  clear hk1
  go_wp2_with fail
  refine (HFw.out _ HR.out).mono ?_
  rintro e w2 ⟨rfl, hk1⟩
  have HK := Lib.hid (HK.out.trans hk1)
  clear hk1
  go_wp2_with fail
  refine (HL.out _).mono ?_
  rintro e w3 ⟨rfl, hk1⟩
  have HK := Lib.hid (HK.out.trans hk1)
  clear hk1
  go_wp2_with fail
  go_ret
  exact ⟨rfl, HK.out⟩

end Go.Proofs.YtjeammmfdniokaaGreat

namespace Go.Proofs.YtjeammmfdniokaaGreat
open Go.RowKit

set_option maxHeartbeats 16000000 in
set_option maxRecDepth 10000 in
theorem implaces_few {At : BAt} (HB : SgBuild At) (HNw : SgNewOk At) (HOp : SgOpenOk At) (H : ImEncOk) (HPl : ImPlOk) (HSe : ImSegOk) (k : Nat) (p : Option Addr) (n c : Nat) (l : List Rec) (w : World) (hk : k < 256) (hn : n = l.length) (hc : n ≤ c) (hc' : c ≤ 9223372036854775807) (hf : ∀ r ∈ l, r.Fine) (hb : ∀ r ∈ l, r.key.length ≤ 9223372036854775807 ∧ r.val.length ≤ 9223372036854775807) (hl : RecsAt w p l) (hlt : fewR l 40 2000 = true) :
    Calls Tryz.prog 4 #[.int .u8 (k : Int), .slice p n c] w fun e w' => e = .returned (.bool true) ∧ Keeps NoBlock w w' := by
  have HL := Lib.hid (fun w => lives16_true HB HNw HOp H w)
  have HFw := Lib.hid (fun (w : World) hl => few_any p n c l 40 2000 40 2000 rfl rfl hn (by omega) hb w hl)
  rw [hlt] at HFw
  obtain ⟨l1, l2⟩ := few_lit hlt
  have HI := Lib.hid (show InR w p n c l from ⟨hn, hc, hc', hf, fun r hr => by have := (l2 r hr).1; omega, fun r hr => by have := (l2 r hr).2; omega, hl⟩)
  obtain ⟨he1, he2, hs1, hs2⟩ := small_room k
  have HSm := Lib.hid (fun w => small15_go k hk w)
  have HEn := Lib.hid (fun w h => H.enc (smallE k) (smallS k) p n c l w (by omega) (by omega) (by omega) (by omega) h)
  have HPs := Lib.hid (fun w h => HPl.places (smallE k) (smallS k) p n c l w (by omega) (by omega) (by omega) (by omega) h)
  have HSs := Lib.hid (fun w h => HSe.segs (smallE k) (smallS k) p n c l w (by omega) (by omega) (by omega) h)
  have hst := fun h => image_stands (e := smallE k) (s := smallS k) (l := l) (by omega) h
  have hsmall := fun h => enc_small (k := k) (l := l) (by omega) h
  have hz : 4096 ≤ 2 ^ smallE k ∧ 2 ^ smallE k ≤ 8192 := two15 k
  have HSh := Lib.hid (fun j (hj : j ≤ 100000) => shl_small (e := smallE k) (j := j) (by omega) hj)
  have HSw := Lib.hid (fun (j : Nat) (hj : j ≤ 100000) => shl_wrap (e := smallE k) (j := j) (by omega) hj)
  have HRc := Lib.hid (fun (r : Rec) (hr : r ∈ l) w => record9_ref r (hf r hr) (by have := (l2 r hr).1; omega) (by have := (l2 r hr).2; omega) w)
  obtain ⟨e, hed⟩ : ∃ e, e = smallE k := ⟨_, rfl⟩
  obtain ⟨s, hsd⟩ : ∃ s, s = smallS k := ⟨_, rfl⟩
  rw [← hed, ← hsd] at HSm HEn HPs HSs hst hsmall
  rw [← hed] at hz HSh HSw
  have hPn : (planI e s l).1 ≠ 0 → placesI e s l = [] ∧ countI e s l = 0 ∧ (encI e s l).2.length = 0 := fun h => by
    refine ⟨by unfold placesI; rw [if_pos h], by unfold countI; rw [if_pos h], by unfold encI; rw [if_pos h]; rfl⟩
  have hey : (encI e s l).1 = (planI e s l).1 := by
    by_cases h : (planI e s l).1 = 0
    · rw [h]; exact enc_ok.2 h
    · unfold encI
      rw [if_pos h]
  obtain ⟨Q, hQ⟩ : ∃ Q, Q = 2 ^ e := ⟨_, rfl⟩
  obtain ⟨X, hX⟩ : ∃ X, X = (encI e s l).2 := ⟨_, rfl⟩
  obtain ⟨P, hP⟩ : ∃ P, P = placesI e s l := ⟨_, rfl⟩
  obtain ⟨K, hK⟩ : ∃ K, K = countI e s l := ⟨_, rfl⟩
  rw [hey] at HEn hsmall
  obtain ⟨y, hy⟩ : ∃ y, y = (planI e s l).1 := ⟨_, rfl⟩
  rw [← hX, ← hy] at HEn
  rw [← hP, ← hy] at HPs
  rw [← hK, ← hy] at HSs
  rw [← hX, ← hP, ← hK, ← hQ, ← hy] at hst
  rw [← hX, ← hy] at hsmall
  rw [← hX, ← hP, ← hK, ← hy] at hPn
  rw [← hQ] at hz
  have HSq := Lib.hid (fun (j : Nat) (hj : j ≤ 100000) => (show wrap64 ((j : Int) * 2 ^ e) = ((j * Q : Nat) : Int) by rw [hQ]; exact HSw.out j hj))
  obtain ⟨N, hN⟩ : ∃ N, N = X.length := ⟨_, rfl⟩
  have HN := Lib.hid hN
  rw [← hN] at hsmall hPn
  have HSt0 := Lib.hid hst
  have HSm0 := Lib.hid hsmall
  have HPn := Lib.hid hPn
  have HZ := Lib.hid hz
  clear hst hsmall hPn hz
  have hs9 : s ≤ 8 := by omega
  have he9 : e ≤ 13 := by omega
  clear hX hP hK hy hed hsd hQ hl hb hf HB HNw HOp H HPl HSe he1 he2 hs1 hs2 l1 l2 hn hN hlt hey
  unfold confV at HSm HEn HPs HSs
  unfold recV at HRc
  go_enter Tryz.func4, Tryz.ntmps4
  go_wp2_with fail
  refine (HL.out _).mono ?_
  rintro e1 w1 ⟨rfl, hk1⟩
  have HK := Lib.hid hk1
  clear hk1
  go_wp2_with fail
  refine (HFw.out _ (HI.out.at_.keep HK.out (fun _ _ h => h))).mono ?_
  rintro e2 w2 ⟨rfl, hk1⟩
  have HK := Lib.hid (HK.out.trans hk1)
  clear hk1
  go_wp2_with fail
  refine (HSm.out _).mono ?_
  rintro e3 w3 ⟨rfl, hk1⟩
  have HK := Lib.hid (HK.out.trans hk1)
  clear hk1
  go_wp2_with fail
  obtain ⟨wC, hwC⟩ : ∃ wC, wC = w3.alloc (.cells #[.int .u8 (e : Int), .int .u32 (s : Int)] 27) := ⟨_, rfl⟩
  have HK : Hid (Keeps NoBlock w wC) := Lib.hid (by rw [hwC]; exact HK.out.alloc _)
  have HC : Hid (Whole wC w3.heap.size 27 (confCells e s)) := Lib.hid (by rw [hwC]; exact Whole.new w3 _ _)
  rw [← hwC]
  clear hwC
  refine (HEn.out _ (HI.out.keep HK.out)).mono ?_
  rintro e4 w4 ⟨u, rfl, ho, hk1⟩
  obtain ⟨q1, d1, rfl, hd1, hd1', h8, hq1, -⟩ := ho.read
  rw [← HN.out] at hd1 hq1 ⊢
  have HK := Lib.hid (HK.out.trans hk1)
  have HC := Lib.hid (HC.out.keep hk1 (fun h => h))
  have H8 := Lib.hid h8
  clear hk1 ho h8
  have g0 := HC.out.cell 0 rfl
  have g1 := HC.out.cell 1 rfl
  simp only [confCells, List.getElem_toArray, List.getElem_cons_zero, List.getElem_cons_succ] at g0 g1
  go_wp2_with fail
  refine (HPs.out _ (HI.out.keep HK.out)).mono ?_
  rintro e5 w5 ⟨v, rfl, q4, m4, d4, rfl, hm4, hmd4, hd4, hq4, hat4, hk1⟩
  have HK := Lib.hid (HK.out.trans hk1)
  have HC := Lib.hid (HC.out.keep hk1 (fun h => h))
  have H8 := Lib.hid (H8.out.keep hk1 (fun _ _ h => h))
  have HAt := Lib.hid hat4
  have HM4 := Lib.hid hm4
  have HQ4 := Lib.hid (And.intro hmd4 (And.intro hd4 hq4))
  clear hk1 g0 g1 hat4 hm4 hmd4 hd4 hq4
  have g0 := HC.out.cell 0 rfl
  have g1 := HC.out.cell 1 rfl
  simp only [confCells, List.getElem_toArray, List.getElem_cons_zero, List.getElem_cons_succ] at g0 g1
  go_wp2_with fail
  refine (HSs.out _ (HI.out.keep HK.out)).mono ?_
  rintro e6 w6 ⟨rfl, hk1⟩
  have HK := Lib.hid (HK.out.trans hk1)
  have HC := Lib.hid (HC.out.keep hk1 (fun h => h))
  have H8 := Lib.hid (H8.out.keep hk1 (fun _ _ h => h))
  have HAt := Lib.hid (TwosAt.keep HAt.out hk1 (fun _ _ h => h))
  clear hk1 g0 g1
  have g0 := HC.out.cell 0 rfl
  have g1 := HC.out.cell 1 rfl
  simp only [confCells, List.getElem_toArray, List.getElem_cons_zero, List.getElem_cons_succ] at g0 g1
  have hyy : (y != y) = false := by simp
  by_cases hy0 : y = 0
  rotate_left
  · have hne : (y != 0) = true := by rw [bne_iff_ne]; exact hy0
    obtain ⟨p1, p2, p3⟩ := HPn.out hy0
    subst p2
    obtain rfl : N = 0 := p3
    have hm0 : m4 = 0 := by rw [HM4.out, p1]; rfl
    subst hm0
    clear hy0 p1
    go_wp2_with fail
    go_ret
    exact ⟨rfl, HK.out⟩
  subst hy0
  obtain ⟨t1, t2, t3, t4⟩ := HSt0.out rfl
  have hN9 : N ≤ 65536 := HSm0.out rfl
  rw [← HN.out] at t2
  have hmn : m4 = n := by rw [HM4.out, t1, HI.out.len]
  subst hmn
  have hK9 : K ≤ 8 := by omega
  have hsh := HSq.out K (by omega)
  rw [← t2] at hsh
  have hwk : IntKind.i64.wrap (K : Int) = (K : Int) := by rw [IntKind.wrap_i64]; omega
  have hmm : ((m4 : Int) != (m4 : Int)) = false := by simp
  have hNN : ((N : Int) != (N : Int)) = false := by simp
  have HT4 := Lib.hid t4
  clear t1 t2 t3 t4
  go_wp2_with fail
  go_loopw [83] (fun i wr => ∃ j : Nat, j ≤ m4 ∧ i = .int .i64 (j : Int) ∧ Hid (Keeps NoBlock w6 wr)) (fun i _ => m4 - (intOf i).toNat)
  case atStart => exact ⟨0, Nat.zero_le _, rfl, Lib.hid (Keeps.refl _ _)⟩
  case round =>
    obtain ⟨j, hj, rfl, HKr⟩ := hrel
    by_cases hlt : j < m4
    · have hdj : decide ((j : Int) < (m4 : Int)) = true := decide_eq_true (by omega)
      have hdj2 : decide (j < m4) = true := decide_eq_true hlt
      have hjz : (j : Int) < (m4 : Int) := by omega
      have hjl : j < l.length := by rw [← HI.out.len]; exact hlt
      have hjP : j < P.length := by rw [← HM4.out]; exact hlt
      obtain ⟨a, rfl, c0, c1⟩ := (TwosAt.keep HAt.out HKr.out (fun _ _ h => h)) j hjP
      obtain ⟨b, rfl, r0, r1, r2, r3⟩ := (HI.out.at_.keep (HK.out.trans HKr.out) (fun _ _ h => h)) j hjl
      have HSt := Lib.hid (HT4.out j hjl)
      obtain ⟨x, hx⟩ : ∃ x, x = P.getD j (0, 0) := ⟨_, rfl⟩
      obtain ⟨r, hr⟩ : ∃ r, r = l.getD j Rec.none := ⟨_, rfl⟩
      have hrm : r ∈ l := by rw [hr]; simp [hjl]
      rw [← hx] at c0 c1 HSt
      rw [← hr] at r0 r1 r2 r3 HSt
      have HRr := Lib.hid (fun w => HRc.out r hrm w)
      obtain ⟨sg, at_⟩ := x
      unfold p32A at c0
      unfold p32B at c1
      obtain ⟨t1, t2, t3, t4⟩ := HSt.out
      simp only [Nat.sub_zero, Nat.zero_add] at c0 c1 t1 t2 t3 t4
      have e1 : recB r = sealN (bodyR r) := rfl
      rw [← e1] at HRr
      obtain ⟨F, hF⟩ : ∃ F, F = recB r := ⟨_, rfl⟩
      have hF1 : 1 ≤ F.length := by rw [hF]; exact recB_pos r
      rw [← hF] at HRr t3 t4
      obtain ⟨L, hL⟩ : ∃ L, L = F.length := ⟨_, rfl⟩
      have hzF := str_size F
      rw [← hL] at t3 t4 hzF hF1
      have hsh2 := HSq.out sg (by omega)
      obtain ⟨G, hG⟩ : ∃ G, G = sg * Q := ⟨_, rfl⟩
      rw [← hG] at hsh2 t3 t4
      rw [← HN.out] at t4
      have hG9 : G + at_ + L ≤ N := t4
      clear HSt hx hr hG hF e1 t1 t4 hrm hjl hjP
      have wsg : IntKind.i64.wrap (sg : Int) = (sg : Int) := by rw [IntKind.wrap_i64]; omega
      have wat : IntKind.i64.wrap (at_ : Int) = (at_ : Int) := by rw [IntKind.wrap_i64]; omega
      have wsum : IntKind.i64.wrap ((G : Int) + (at_ : Int)) = (G : Int) + (at_ : Int) := by rw [IntKind.wrap_i64]; omega
      have wsum2 : IntKind.i64.wrap ((G : Int) + (at_ : Int) + (L : Int)) = (G : Int) + (at_ : Int) + (L : Int) := by rw [IntKind.wrap_i64]; omega
      have gK : decide ((K : Int) ≤ (sg : Int)) = false := decide_eq_false (by omega)
      have gK2 : decide (K ≤ sg) = false := decide_eq_false (by omega)
      have gN : decide ((N : Int) < (G : Int) + (at_ : Int) + (L : Int)) = false := decide_eq_false (by omega)
      have n0 := Lib.cell?_alloc_some (.cells #[.int .u32 (sg : Int), .int .u32 (at_ : Int)] 42) r0
      have n1 := Lib.cell?_alloc_some (.cells #[.int .u32 (sg : Int), .int .u32 (at_ : Int)] 42) r1
      have n2 := Lib.cell?_alloc_some (.cells #[.int .u32 (sg : Int), .int .u32 (at_ : Int)] 42) r2
      have n3 := Lib.cell?_alloc_some (.cells #[.int .u32 (sg : Int), .int .u32 (at_ : Int)] 42) r3
      have HWx := Lib.hid (Whole.new wr 42 #[.int .u32 (sg : Int), .int .u32 (at_ : Int)])
      have HKx := Lib.hid (HKr.out.alloc (.cells #[.int .u32 (sg : Int), .int .u32 (at_ : Int)] 42))
      go_wp2_with fail
      refine (HRr.out _).mono ?_
      rintro e7 w7 ⟨rfl, hk1⟩
      dsimp only
      have HKx := Lib.hid (HKx.out.trans hk1)
      have HWx := Lib.hid (HWx.out.keep hk1 (fun h => h))
      have HCx := Lib.hid (HC.out.keep HKx.out (fun h => h))
      have HBy := Lib.hid ((H8.out.keep HKx.out (fun _ _ h => h)).piece (q := q1.map (·.add (G + at_))) (G + at_) L (by have := HN.out; omega) (fun _ => rfl))
      rw [t3] at HBy
      have g0 := HCx.out.cell 0 rfl
      have y0 := HWx.out.cell 0 rfl
      have y1 := HWx.out.cell 1 rfl
      simp only [confCells, List.getElem_toArray, List.getElem_cons_zero, List.getElem_cons_succ] at g0 y0 y1
      obtain ⟨ab, rfl⟩ : ∃ ab, q1 = some ab := by
        obtain ⟨ab, hab, _⟩ := H8.out (by have := HN.out; omega)
        exact ⟨ab, hab⟩
      have htx := textOf (some (ab.add (G + at_))) L (d1 - (G + at_)) F w7 hL HBy.out
      clear hL
      have b1 : (G : Int) + (at_ : Int) ≤ (G : Int) + (at_ : Int) + (L : Int) := by omega
      have b2 : G + at_ + L ≤ d1 := by omega
      have b3 : ¬ d1 - (G + at_) = 0 := by omega
      have b4 : ¬ G + at_ = d1 := by omega
      have b5 : ((G : Int) + (at_ : Int)).toNat = G + at_ := by omega
      have b6 : ((G : Int) + (at_ : Int) + (L : Int)).toNat = G + at_ + L := by omega
      have b7 : G + at_ + L - (G + at_) = L := by omega
      clear hk1 n0 n1 n2 n3 r0 r1 r2 r3 c0 c1
      go_wp2_with fail
      exact ⟨⟨j + 1, by omega, by go_num, HKx⟩, by simp [intOf]; omega⟩
    · have hdj : decide ((j : Int) < (m4 : Int)) = false := decide_eq_false (by omega)
      have hdj2 : decide (j < m4) = false := decide_eq_false hlt
      go_wp2_with fail
      go_ret
      exact ⟨rfl, HK.out.trans HKr.out⟩
theorem implaces_walk {At : BAt} (HB : SgBuild At) (HNw : SgNewOk At) (HOp : SgOpenOk At) (H : ImEncOk) (HPl : ImPlOk) (HSe : ImSegOk) (k : Nat) (p : Option Addr) (n c : Nat) (l : List Rec) (w : World) (hk : k < 256) (hn : n = l.length) (hc : n ≤ c) (hc' : c ≤ 9223372036854775807) (hf : ∀ r ∈ l, r.Fine) (hb : ∀ r ∈ l, r.key.length ≤ 9223372036854775807 ∧ r.val.length ≤ 9223372036854775807) (hl : RecsAt w p l) :
    Calls Tryz.prog 4 #[.int .u8 (k : Int), .slice p n c] w fun e w' => e = .returned (.bool true) ∧ Keeps NoBlock w w' := by
  cases hlt : fewR l 40 2000
  · exact implaces_many HB HNw HOp H k p n c l w hn hc hc' hb hl hlt
  · exact implaces_few HB HNw HOp H HPl HSe k p n c l w hk hn hc hc' hf hb hl hlt
end Go.Proofs.YtjeammmfdniokaaGreat

namespace Go.Proofs.YtjeammmfdniokaaGreat
open Go.RowKit

set_option maxHeartbeats 4000000 in
set_option maxRecDepth 10000 in
theorem imerrors_walk {At : BAt} (HB : SgBuild At) (HNw : SgNewOk At) (HOp : SgOpenOk At) (H : ImEncOk) (HPl : ImPlOk) (HSe : ImSegOk) (e s : Nat) (p : Option Addr) (n c : Nat) (l : List Rec) (w : World) (he : e < 256) (hs : s < 4294967296) (hn : n = l.length) (hc : n ≤ c) (hc' : c ≤ 9223372036854775807) (hf : ∀ r ∈ l, r.Fine) (hb : ∀ r ∈ l, r.key.length ≤ 9223372036854775807 ∧ r.val.length ≤ 9223372036854775807) (hl : RecsAt w p l) :
    Calls Tryz.prog 5 #[confV e s, .slice p n c] w fun e w' => e = .returned (.bool true) ∧ Keeps NoBlock w w' := by
  have HL := Lib.hid (fun w => lives16_true HB HNw HOp H w)
  have HFw := Lib.hid (fun (w : World) hl => few_any p n c l 10 5000 10 5000 rfl rfl hn (by omega) hb w hl)
  have HR := Lib.hid hl
  have HK := Lib.hid ((Keeps.refl NoBlock w).alloc (.cells (confCells e s) 27))
  have HC := Lib.hid (Whole.new w 27 (confCells e s))
  by_cases hlt : fewR l 10 5000 = true
  rotate_left
  · rw [Bool.not_eq_true] at hlt
    rw [hlt] at HFw
    unfold confV
    clear hl hb hf HB HNw HOp H HPl HSe hn hlt
    go_enter Tryz.func5, Tryz.ntmps5
    go_wp2_with fail
    refine (HL.out _).mono ?_
    rintro e w1 ⟨rfl, hk1⟩
    have HK := Lib.hid (HK.out.trans hk1)
    clear hk1
    go_wp2_with fail
    refine (HFw.out _ (HR.out.keep HK.out (fun _ _ h => h))).mono ?_
    rintro e w2 ⟨rfl, hk1⟩
    have HK := Lib.hid (HK.out.trans hk1)
    clear hk1
    go_wp2_with fail
    refine (HL.out _).mono ?_
    rintro e w3 ⟨rfl, hk1⟩
    have HK := Lib.hid (HK.out.trans hk1)
    clear hk1
    go_wp2_with fail
    go_ret
    exact ⟨rfl, HK.out⟩
  rw [hlt] at HFw
  unfold fewR at hlt
  rw [Bool.and_eq_true, decide_eq_true_eq] at hlt
  obtain ⟨hlt1, hlt2⟩ := hlt
  have hlit : ∀ r ∈ l, r.key.length ≤ 5000 ∧ r.val.length ≤ 5000 := fun r hr => by
    have := List.all_eq_true.1 hlt1 r hr
    unfold littleR at this
    rw [Bool.and_eq_true, decide_eq_true_eq, decide_eq_true_eq] at this
    exact this
  have HI := Lib.hid (show InR w p n c l from ⟨hn, hc, hc', hf, fun r hr => by have := (hlit r hr).1; omega, fun r hr => by have := (hlit r hr).2; omega, hl⟩)
  have HRf := Lib.hid (fun w h => plan16_ref e s p n c l (by omega) w h)
  have HP := Lib.hid (fun w h => HPl.places e s p n c l w he hs (by omega) (by omega) h)
  have HS := Lib.hid (fun w h => HSe.segs e s p n c l w he hs (by omega) h)
  have hpl : (planI e s l).1 ≠ 0 → placesI e s l = [] ∧ countI e s l = 0 := fun h => by
    unfold placesI countI
    rw [if_pos h, if_pos h]
    exact ⟨rfl, rfl⟩
  obtain ⟨T, hT⟩ : ∃ T, T = planI e s l := ⟨_, rfl⟩
  rw [← hT] at HRf HP HS hpl
  obtain ⟨y, ks⟩ := T
  obtain ⟨PL, hPL⟩ : ∃ P, P = placesI e s l := ⟨_, rfl⟩
  obtain ⟨K, hKd⟩ : ∃ K, K = countI e s l := ⟨_, rfl⟩
  rw [← hPL] at HP hpl
  rw [← hKd] at HS hpl
  simp only at HP HS hpl
  have HPz := Lib.hid hpl
  clear hT hPL hKd hpl hlit hlt1 hlt2 hl hb hf HB HNw HOp H HPl HSe hn he hs
  unfold PlanPost at HRf
  simp only at HRf
  unfold confV at HRf HP HS ⊢
  go_enter Tryz.func5, Tryz.ntmps5
  go_wp2_with fail
  refine (HL.out _).mono ?_
  rintro e1 w1 ⟨rfl, hk1⟩
  have HK := Lib.hid (HK.out.trans hk1)
  have HC := Lib.hid (HC.out.keep hk1 (fun h => h))
  clear hk1
  go_wp2_with fail
  refine (HFw.out _ (HR.out.keep HK.out (fun _ _ h => h))).mono ?_
  rintro e2 w2 ⟨rfl, hk1⟩
  have HK := Lib.hid (HK.out.trans hk1)
  have HC := Lib.hid (HC.out.keep hk1 (fun h => h))
  clear hk1
  have g0 := HC.out.cell 0 rfl
  have g1 := HC.out.cell 1 rfl
  simp only [confCells, List.getElem_toArray, List.getElem_cons_zero, List.getElem_cons_succ] at g0 g1
  go_wp2_with fail
  refine (HRf.out _ (HI.out.keep HK.out)).mono ?_
  rintro e3 w3 ⟨q3, m3, d3, rfl, _, _, hk1⟩
  have HK := Lib.hid (HK.out.trans hk1)
  have HC := Lib.hid (HC.out.keep hk1 (fun h => h))
  clear hk1 g0 g1
  have g0 := HC.out.cell 0 rfl
  have g1 := HC.out.cell 1 rfl
  simp only [confCells, List.getElem_toArray, List.getElem_cons_zero, List.getElem_cons_succ] at g0 g1
  go_wp2_with fail
  refine (HP.out _ (HI.out.keep HK.out)).mono ?_
  rintro e4 w4 ⟨v, rfl, q4, m4, d4, rfl, hm4, _, _, _, _, hk1⟩
  have HK := Lib.hid (HK.out.trans hk1)
  have HC := Lib.hid (HC.out.keep hk1 (fun h => h))
  have HM4 := Lib.hid hm4
  clear hk1 g0 g1 hm4
  have g0 := HC.out.cell 0 rfl
  have g1 := HC.out.cell 1 rfl
  simp only [confCells, List.getElem_toArray, List.getElem_cons_zero, List.getElem_cons_succ] at g0 g1
  go_wp2_with fail
  refine (HS.out _ (HI.out.keep HK.out)).mono ?_
  rintro e5 w5 ⟨rfl, hk1⟩
  have HK := Lib.hid (HK.out.trans hk1)
  clear hk1 g0 g1
  by_cases hy : y = 0
  · subst hy
    go_wp2_with fail
    go_ret
    exact ⟨rfl, HK.out⟩
  · have hz0 : (y == 0) = false := beq_eq_false_iff_ne.2 hy
    obtain ⟨h1, h2⟩ := HPz.out hy
    have h3 : m4 = 0 := by rw [HM4.out, h1]; rfl
    subst h2
    subst h3
    clear h1 hy
    go_wp2_with fail
    go_ret
    exact ⟨rfl, HK.out⟩
end Go.Proofs.YtjeammmfdniokaaGreat

namespace Go.Proofs.YtjeammmfdniokaaGreat
open Go.Joins Go.ChangeShapes Go.WideShapes Go.ChangeAt Go.RowKit Go.Deep

set_option maxRecDepth 100000 in
theorem open_conf {H : Type} {enc : TypeId × Value → H} {W : World} {base : Nat} {v : Value} {d : DataW H} {ps : List MemPlace} (hv : Value.okWide Tryz.prog W .any base 27 v) (h : DataW.Trod enc Tryz.prog W 0 (fun _ => true) true 27 v d ps) :
    ∃ e s : Nat, v = confV e s ∧ e < 256 ∧ s < 4294967296 := by
  obtain ⟨v0, v1, y0, y1, n, rfl, _, _, t0, t1⟩ := open_agg2 Tryz.underlying27 (by kernel_rfl) (by kernel_rfl) hv h
  obtain ⟨a, e0, _, w0⟩ := DataW.trod_int Tryz.underlying5 t0
  obtain ⟨b, e1, _, w1⟩ := DataW.trod_int Tryz.underlying25 t1
  have ha : 0 ≤ a ∧ a ≤ 255 := by simpa [Lit.wf, IntKind.min, IntKind.max, IntKind.signed, IntKind.bits] using w0
  have hb : 0 ≤ b ∧ b ≤ 4294967295 := by simpa [Lit.wf, IntKind.min, IntKind.max, IntKind.signed, IntKind.bits] using w1
  obtain rfl : v0 = .int .u8 a := by simpa using e0
  obtain rfl : v1 = .int .u32 b := by simpa using e1
  obtain ⟨x, rfl⟩ : ∃ x : Nat, a = (x : Int) := ⟨a.toNat, by omega⟩
  obtain ⟨y, rfl⟩ : ∃ y : Nat, b = (y : Int) := ⟨b.toNat, by omega⟩
  exact ⟨x, y, rfl, by omega, by omega⟩
end Go.Proofs.YtjeammmfdniokaaGreat

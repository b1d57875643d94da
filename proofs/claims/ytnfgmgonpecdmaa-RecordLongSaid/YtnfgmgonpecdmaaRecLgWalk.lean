/-
  The law RecordLong: its walk.
-/
import Derived.Test.YtnfgmgonpecdmaaRecBdWalk
import Derived.Test.YtnfgmgonpecdmaaCurC
namespace Go.Proofs.Ytnfgmgonpecdmaa
open Go.RowKit

theorem made_zeros (n : Nat) : (madeCells #[Value.int .u8 0] n).toList = (List.replicate n (0 : Int)).map (Value.int .u8) := by
  unfold madeCells
  simp only [Array.toList_map, Array.toList_range, List.map_replicate]
  refine List.eq_replicate_iff.2 ⟨by simp, fun u hu => ?_⟩
  obtain ⟨x, _, rfl⟩ := List.mem_map.1 hu
  show (#[Value.int .u8 0])[x % 1]! = _
  rw [Nat.mod_one]
  rfl
theorem zeros_octets (n : Nat) : Octets (List.replicate n 0) := fun b hb => by
  rw [List.eq_of_mem_replicate hb]
  decide

theorem longV (g : Bool) (zk zv : List Int) : recV ⟨g, 18446744073709551615, zk, zv⟩ = .agg #[.bool g, .int .u64 18446744073709551615, .string (strOfNums zk), .string (strOfNums zv)] := rfl
theorem RecAt.long {w : World} {b : Nat} {g : Bool} {zk zv : List Int} (h : Whole w b 24 (recCells ⟨g, 18446744073709551615, zk, zv⟩)) :
    w.cell? ⟨b, 0, none⟩ = some (.bool g) ∧ w.cell? ⟨b, 1, none⟩ = some (.int .u64 18446744073709551615) ∧ w.cell? ⟨b, 2, none⟩ = some (.string (strOfNums zk)) ∧ w.cell? ⟨b, 3, none⟩ = some (.string (strOfNums zv)) := RecAt.ofWhole h
theorem longEq (g : Bool) (zk zv : List Int) (w : World) : (binOp .eql 24 (.agg #[.bool g, .int .u64 18446744073709551615, .string (strOfNums zk), .string (strOfNums zv)]) (.agg #[.bool g, .int .u64 18446744073709551615, .string (strOfNums zk), .string (strOfNums zv)])).run Try.prog w = .ok (.bool true) w := recEq ⟨g, 18446744073709551615, zk, zv⟩ w

set_option maxHeartbeats 8000000 in
set_option maxRecDepth 10000 in
theorem reclong_walk (H : RecordOk) (x y : Int) (gone : Bool) (hx : 0 ≤ x ∧ x < 256) (hy : 0 ≤ y ∧ y < 256) (w : World) :
    Calls Try.prog 5 #[.int .u8 x, .int .u8 y, .bool gone] w fun e w' => e = .returned (.bool true) ∧ Keeps NoBlock w w' := by
  have HLv := Lib.hid (fun w => lives7_true H w)
  obtain ⟨a, rfl⟩ : ∃ a : Nat, x = (a : Int) := ⟨x.toNat, by omega⟩
  obtain ⟨b, rfl⟩ : ∃ b : Nat, y = (b : Int) := ⟨y.toNat, by omega⟩
  obtain ⟨i0, hi, hz0, hz1, hz2⟩ := info_parts infoByte
  obtain ⟨k, hk⟩ : ∃ k : Nat, k = 4090 + a % 12 := ⟨_, rfl⟩
  obtain ⟨v, hv⟩ : ∃ v : Nat, v = 1048570 + b % 12 := ⟨_, rfl⟩
  have e1 : 4090 + (a : Int) % 12 = (k : Int) := by omega
  have e2 : 1048570 + (b : Int) % 12 = (v : Int) := by omega
  have k1 : 4090 ≤ k ∧ k ≤ 4101 := by omega
  have v1 : 1048570 ≤ v ∧ v ≤ 1048581 := by omega
  obtain ⟨ZK, hZK⟩ : ∃ ZK, ZK = List.replicate k (0 : Int) := ⟨_, rfl⟩
  obtain ⟨ZV, hZV⟩ : ∃ ZV, ZV = List.replicate v (0 : Int) := ⟨_, rfl⟩
  have lk : ZK.length = k := by rw [hZK]; simp
  have lv : ZV.length = v := by rw [hZV]; simp
  have ok : Octets ZK := by rw [hZK]; exact zeros_octets k
  have ov : Octets ZV := by rw [hZV]; exact zeros_octets v
  clear hk hv
  cases gone with
  | true =>
    have hmod : Rec.Modest ⟨true, 18446744073709551615, ZK, []⟩ := ⟨⟨by show (18446744073709551615 : Nat) < 18446744073709551616; omega, ok, fun _ h => by simp at h⟩, by simp only; omega, by simp⟩
    have hrv := longV true ZK []
    have HE := Lib.hid (longEq true ZK [])
    have HB := Lib.hid (fun w => H.body _ w hmod)
    have HSz := Lib.hid (fun w => H.size _ w hmod)
    have HRd := Lib.hid (fun (p : Option Addr) (N c : Nat) (w : World) (h : checkR ⟨true, 18446744073709551615, ZK, []⟩ = 0) hN hc1 hc2 hn0 hb8 => H.read p N c (bodyR ⟨true, 18446744073709551615, ZK, []⟩) w hN hc1 hc2 hn0 (bodyR_octets hmod.fine) (by rw [hN]; exact bodyR_len hmod) hb8)
    rw [hrv] at HB HSz
    rw [str_nil] at HB HSz HE
    have hck : checkR ⟨true, 18446744073709551615, ZK, []⟩ = if 4096 < k then 3 else 0 := by
      unfold checkR
      simp only [List.length_nil, lk]
      rw [if_neg (by omega)]
      by_cases h1 : 4096 < k
      · rw [if_pos h1, if_pos (by simp [h1])]
      · rw [if_neg h1]
        simp [h1]
    have HCk := Lib.hid hck
    have HMo := Lib.hid hmod
    clear H hck hmod hrv ok ov hZV lv
    go_enter Try.func5, Try.ntmps5
    go_wp2_with fail
    refine (HLv.out _).mono ?_
    rintro e w1 ⟨rfl, hk⟩
    have HK := Lib.hid hk
    clear hk
    go_upto_region 4 with (fail)
    go_wp2_with (at_make; refine wpList_make_full _ rfl _ _ 28 rfl w1.heap.size 5 i0 (.int .u8 0) 1 Try.underlying28 hi hz0 hz1 .i64 .i64 (k : Int) (k : Int) k rfl rfl rfl rfl (by rw [hz2]; omega) (by unfold maxLen; omega) (Nat.le_refl _) ?_)
    intro w2 hrow hgrow
    have HK := Lib.hid (HK.out.trans (Keeps.ofBelow (S := NoBlock) ((Below.refl _ w1).grown hgrow (Nat.le_refl _) (fun k hk => by cases hk))))
    rw [made_zeros, ← hZK] at hrow
    obtain ⟨pz, cz, hpc, hb8, _⟩ := own_bytes lk.symm hrow
    have ht := textOf pz k cz ZK w2 lk.symm hb8
    rw [← hpc] at ht
    clear hrow hgrow hpc hb8 hZK
    have hk : Keeps NoBlock w2 (w2.alloc (.cells #[.bool true, .int .u64 18446744073709551615, .string (strOfNums ZK), .string ⟨#[]⟩] 24)) := (Keeps.refl _ _).alloc _
    have HR : Hid (Whole (w2.alloc (.cells #[.bool true, .int .u64 18446744073709551615, .string (strOfNums ZK), .string ⟨#[]⟩] 24)) w2.heap.size 24 (recCells ⟨true, 18446744073709551615, ZK, []⟩)) := Lib.hid (Whole.new w2 _ (recCells ⟨true, 18446744073709551615, ZK, []⟩))
    have HK := Lib.hid (HK.out.trans hk)
    clear hk
    go_wp2_with fail
    refine (HB.out _).mono ?_
    rintro e w3 ⟨vb, rfl, q, m, d, rfl, hm, hmd, hd, hq0, hb8, hk⟩
    have HK := Lib.hid (HK.out.trans hk)
    have HR := Lib.hid (HR.out.keep hk (fun h => h))
    have HBy := Lib.hid hb8
    have HQ := Lib.hid hq0
    clear hk hb8 hq0
    have hck := HCk.out
    rw [hck] at HRd ⊢
    by_cases hbad : 4096 < k
    · have hd1 : decide ((4096 : Int) < (k : Int)) = true := decide_eq_true (by omega)
      have hbe : bodyE ⟨true, 18446744073709551615, ZK, []⟩ = [] := by unfold bodyE; rw [if_neg (by rw [hck]; simp [hbad])]
      rw [if_pos hbad]
      rw [hbe] at hm
      obtain rfl : m = 0 := hm
      clear HRd HBy HQ hbe hck
      go_wp2_with fail
      go_ret
      exact ⟨rfl, HK.out⟩
    · have hd1 : decide ((4096 : Int) < (k : Int)) = false := decide_eq_false (by omega)
      have hgood := hbad
      have hc0 : checkR ⟨true, 18446744073709551615, ZK, []⟩ = 0 := by rw [hck, if_neg hgood]
      have hbe : bodyE ⟨true, 18446744073709551615, ZK, []⟩ = bodyR ⟨true, 18446744073709551615, ZK, []⟩ := by unfold bodyE; rw [if_pos hc0]
      rw [if_neg hgood]
      rw [if_neg hgood] at HRd
      rw [hbe] at hm HBy HSz
      have HRz := Lib.hid (fun w hb8 => HRd.out q m d w rfl hm hmd hd HQ.out hb8)
      rw [readR_body HMo.out.fine hc0] at HRz
      clear HRd
      rw [longV] at HRz
      rw [str_nil] at HRz
      rw [← hm] at HSz
      obtain ⟨Bz, hBz⟩ : ∃ Bz, Bz = bodyR ⟨true, 18446744073709551615, ZK, []⟩ := ⟨_, rfl⟩
      rw [← hBz] at HRz HBy
      clear hbe hck hc0 hBz hm
      go_wp2_with fail
      refine (HRz.out _ HBy.out).mono ?_
      rintro e w4 ⟨rfl, hk⟩
      have HK := Lib.hid (HK.out.trans hk)
      have HR := Lib.hid (HR.out.keep hk (fun h => h))
      clear hk HRz
      have hk : Keeps NoBlock w4 (w4.alloc (.cells #[.bool true, .int .u64 18446744073709551615, .string (strOfNums ZK), .string ⟨#[]⟩] 24)) := (Keeps.refl _ _).alloc _
      have HX : Hid (Whole (w4.alloc (.cells #[.bool true, .int .u64 18446744073709551615, .string (strOfNums ZK), .string ⟨#[]⟩] 24)) w4.heap.size 24 (recCells ⟨true, 18446744073709551615, ZK, []⟩)) := Lib.hid (Whole.new w4 _ (recCells ⟨true, 18446744073709551615, ZK, []⟩))
      have HR := Lib.hid (HR.out.keep hk (fun h => h))
      have HK := Lib.hid (HK.out.trans hk)
      obtain ⟨c0, c1, c2, c3⟩ := RecAt.long HR.out
      obtain ⟨d0, d1, d2, d3⟩ := RecAt.long HX.out
      rw [str_nil] at c3 d3
      have he := HE.out (w4.alloc (.cells #[.bool true, .int .u64 18446744073709551615, .string (strOfNums ZK), .string ⟨#[]⟩] 24))
      clear hk
      go_wp2_with fail
      refine (HSz.out _).mono ?_
      rintro e w5 ⟨rfl, hk⟩
      have HK := Lib.hid (HK.out.trans hk)
      clear hk c0 c1 c2 c3 d0 d1 d2 d3 he
      go_wp2_with fail
      go_ret
      exact ⟨rfl, HK.out⟩
  | false =>
    have hmod : Rec.Modest ⟨false, 18446744073709551615, ZK, ZV⟩ := ⟨⟨by show (18446744073709551615 : Nat) < 18446744073709551616; omega, ok, ov⟩, by simp only; omega, by simp only; omega⟩
    have hrv := longV false ZK ZV
    have HE := Lib.hid (longEq false ZK ZV)
    have HB := Lib.hid (fun w => H.body _ w hmod)
    have HSz := Lib.hid (fun w => H.size _ w hmod)
    have HRd := Lib.hid (fun (p : Option Addr) (N c : Nat) (w : World) (h : checkR ⟨false, 18446744073709551615, ZK, ZV⟩ = 0) hN hc1 hc2 hn0 hb8 => H.read p N c (bodyR ⟨false, 18446744073709551615, ZK, ZV⟩) w hN hc1 hc2 hn0 (bodyR_octets hmod.fine) (by rw [hN]; exact bodyR_len hmod) hb8)
    rw [hrv] at HB HSz
    have hck : checkR ⟨false, 18446744073709551615, ZK, ZV⟩ = if 4096 < k ∨ 1048576 < v then 3 else 0 := by
      unfold checkR
      simp only [lk, lv]
      rw [if_neg (by omega)]
      by_cases h1 : 4096 < k
      · rw [if_pos h1, if_pos (by simp [h1])]
      · rw [if_neg h1]
        simp [h1]
    have HCk := Lib.hid hck
    have HMo := Lib.hid hmod
    clear H hck hmod hrv ok ov
    go_enter Try.func5, Try.ntmps5
    go_wp2_with fail
    refine (HLv.out _).mono ?_
    rintro e w1 ⟨rfl, hk⟩
    have HK := Lib.hid hk
    clear hk
    go_upto_region 4 with (fail)
    go_wp2_with (at_make; refine wpList_make_full _ rfl _ _ 28 rfl w1.heap.size 5 i0 (.int .u8 0) 1 Try.underlying28 hi hz0 hz1 .i64 .i64 (k : Int) (k : Int) k rfl rfl rfl rfl (by rw [hz2]; omega) (by unfold maxLen; omega) (Nat.le_refl _) ?_)
    intro w2 hrow hgrow
    have HK := Lib.hid (HK.out.trans (Keeps.ofBelow (S := NoBlock) ((Below.refl _ w1).grown hgrow (Nat.le_refl _) (fun k hk => by cases hk))))
    rw [made_zeros, ← hZK] at hrow
    obtain ⟨pz, cz, hpc, hb8, _⟩ := own_bytes lk.symm hrow
    have ht := textOf pz k cz ZK w2 lk.symm hb8
    rw [← hpc] at ht
    clear hrow hgrow hpc hb8 hZK
    have hks := HK.out.size
    have hk : Keeps NoBlock w2 (w2.alloc (.cells #[.bool false, .int .u64 18446744073709551615, .string (strOfNums ZK), .string ⟨#[]⟩] 24)) := (Keeps.refl _ _).alloc _
    have HR0 : Hid (Whole (w2.alloc (.cells #[.bool false, .int .u64 18446744073709551615, .string (strOfNums ZK), .string ⟨#[]⟩] 24)) w2.heap.size 24 (recCells ⟨false, 18446744073709551615, ZK, []⟩)) := Lib.hid (Whole.new w2 _ (recCells ⟨false, 18446744073709551615, ZK, []⟩))
    have HK := Lib.hid (HK.out.trans hk)
    clear hk
    go_wp2_with (at_make; refine wpList_make_full _ rfl _ _ 28 rfl w2.heap.size 5 i0 (.int .u8 0) 1 Try.underlying28 hi hz0 hz1 .i64 .i64 (v : Int) (v : Int) v rfl rfl rfl rfl (by rw [hz2]; omega) (by unfold maxLen; omega) (by simp) ?_)
    intro w5 hrow hgrow
    have hk : Keeps NoBlock (w2.alloc (.cells #[.bool false, .int .u64 18446744073709551615, .string (strOfNums ZK), .string ⟨#[]⟩] 24)) w5 := Keeps.ofBelow ((Below.refl _ _).grown hgrow (Nat.le_refl _) (fun k hk => by cases hk))
    have HK := Lib.hid (HK.out.trans hk)
    have HR0 := Lib.hid (HR0.out.keep hk (fun h => h))
    rw [made_zeros, ← hZV] at hrow
    obtain ⟨py, cy, hpc, hb8, _⟩ := own_bytes lv.symm hrow
    have ht := textOf py v cy ZV w5 lv.symm hb8
    rw [← hpc] at ht
    obtain ⟨c0, c1, c2, c3⟩ := RecAt.long HR0.out
    rw [str_nil] at c3
    have f3 := HR0.out.free 3
    clear hrow hgrow hpc hb8 hZV hk
    go_wp2_with fail
    have hb0 : w.heap.size ≤ w2.heap.size := hks
    have HK := Lib.hid (HK.out.setNew hb0 3 (.string (strOfNums ZV)))
    have HR : Hid (Whole (w5.setCell ⟨w2.heap.size, 3, none⟩ (.string (strOfNums ZV))) w2.heap.size 24 (recCells ⟨false, 18446744073709551615, ZK, ZV⟩)) := Lib.hid (HR0.out.set 3 (.string (strOfNums ZV)))
    clear c0 c1 c2 c3 f3 ht HR0
    refine (HB.out _).mono ?_
    rintro e w3 ⟨vb, rfl, q, m, d, rfl, hm, hmd, hd, hq0, hb8, hk⟩
    have HK := Lib.hid (HK.out.trans hk)
    have HR := Lib.hid (HR.out.keep hk (fun h => h))
    have HBy := Lib.hid hb8
    have HQ := Lib.hid hq0
    clear hk hb8 hq0
    have hck := HCk.out
    rw [hck] at HRd ⊢
    by_cases hbig : 4096 < k
    · have hd1 : decide ((4096 : Int) < (k : Int)) = true := decide_eq_true (by omega)
      have hbad : 4096 < k ∨ 1048576 < v := .inl hbig
      have hbe : bodyE ⟨false, 18446744073709551615, ZK, ZV⟩ = [] := by unfold bodyE; rw [if_neg (by rw [hck]; simp [hbad])]
      rw [if_pos hbad]
      rw [hbe] at hm
      obtain rfl : m = 0 := hm
      clear HRd HBy HQ hbe hck
      go_wp2_with fail
      go_ret
      exact ⟨rfl, HK.out⟩
    · have hd1 : decide ((4096 : Int) < (k : Int)) = false := decide_eq_false (by omega)
      by_cases hbv : 1048576 < v
      · have hd2 : decide ((1048576 : Int) < (v : Int)) = true := decide_eq_true (by omega)
        have hbad : 4096 < k ∨ 1048576 < v := .inr hbv
        have hbe : bodyE ⟨false, 18446744073709551615, ZK, ZV⟩ = [] := by unfold bodyE; rw [if_neg (by rw [hck]; simp [hbad])]
        rw [if_pos hbad]
        rw [hbe] at hm
        obtain rfl : m = 0 := hm
        clear HRd HBy HQ hbe hck
        go_wp2_with fail
        go_ret
        exact ⟨rfl, HK.out⟩
      · have hd2 : decide ((1048576 : Int) < (v : Int)) = false := decide_eq_false (by omega)
        have hgood : ¬ (4096 < k ∨ 1048576 < v) := by omega
        have hc0 : checkR ⟨false, 18446744073709551615, ZK, ZV⟩ = 0 := by rw [hck, if_neg hgood]
        have hbe : bodyE ⟨false, 18446744073709551615, ZK, ZV⟩ = bodyR ⟨false, 18446744073709551615, ZK, ZV⟩ := by unfold bodyE; rw [if_pos hc0]
        rw [if_neg hgood]
        rw [if_neg hgood] at HRd
        rw [hbe] at hm HBy HSz
        have HRz := Lib.hid (fun w hb8 => HRd.out q m d w rfl hm hmd hd HQ.out hb8)
        rw [readR_body HMo.out.fine hc0] at HRz
        clear HRd
        rw [longV] at HRz
        rw [← hm] at HSz
        obtain ⟨Bz, hBz⟩ : ∃ Bz, Bz = bodyR ⟨false, 18446744073709551615, ZK, ZV⟩ := ⟨_, rfl⟩
        rw [← hBz] at HRz HBy
        clear hbe hck hc0 hBz hm
        go_wp2_with fail
        refine (HRz.out _ HBy.out).mono ?_
        rintro e w4 ⟨rfl, hk⟩
        have HK := Lib.hid (HK.out.trans hk)
        have HR := Lib.hid (HR.out.keep hk (fun h => h))
        clear hk HRz
        have hk : Keeps NoBlock w4 (w4.alloc (.cells #[.bool false, .int .u64 18446744073709551615, .string (strOfNums ZK), .string (strOfNums ZV)] 24)) := (Keeps.refl _ _).alloc _
        have HX : Hid (Whole (w4.alloc (.cells #[.bool false, .int .u64 18446744073709551615, .string (strOfNums ZK), .string (strOfNums ZV)] 24)) w4.heap.size 24 (recCells ⟨false, 18446744073709551615, ZK, ZV⟩)) := Lib.hid (Whole.new w4 _ (recCells ⟨false, 18446744073709551615, ZK, ZV⟩))
        have HR := Lib.hid (HR.out.keep hk (fun h => h))
        have HK := Lib.hid (HK.out.trans hk)
        obtain ⟨c0, c1, c2, c3⟩ := RecAt.long HR.out
        obtain ⟨d0, d1, d2, d3⟩ := RecAt.long HX.out
        have he := HE.out (w4.alloc (.cells #[.bool false, .int .u64 18446744073709551615, .string (strOfNums ZK), .string (strOfNums ZV)] 24))
        clear hk
        go_wp2_with fail
        refine (HSz.out _).mono ?_
        rintro e w5 ⟨rfl, hk⟩
        have HK := Lib.hid (HK.out.trans hk)
        clear hk c0 c1 c2 c3 d0 d1 d2 d3 he
        go_wp2_with fail
        go_ret
        exact ⟨rfl, HK.out⟩
end Go.Proofs.Ytnfgmgonpecdmaa

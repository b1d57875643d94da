/-
  OpenR; FrHdWalk; OpenCf; Open16; Open9.
-/
import Derived.Lib.SmallJoins
import Derived.Deep.Slices
import Derived.Test.YtjjeaaiajgbncaaM15
import Derived.Test.YtjjeaaiajgbncaaM16
import Derived.Test.YtjjeaaiajgbncaaM17
namespace Go.Proofs.Ytjjeaaiajgbncaa
open Go.Joins Go.ChangeShapes Go.WideShapes Go.ChangeAt Go.RowKit Go.Deep

/-- What is known of a record of an argument. -/
structure Rec.Arg (r : Rec) : Prop where
  fine : r.Fine
  key : r.key.length ≤ 9223372036854775807
  val : r.val.length ≤ 9223372036854775807

theorem seq_u64 {n : Int} (h : (Lit.int .u64 n).wf = true) : ∃ x : Nat, n = (x : Int) ∧ x < 18446744073709551616 := by
  have : 0 ≤ n ∧ n ≤ 18446744073709551615 := by simpa [Lit.wf, IntKind.min, IntKind.max, IntKind.signed, IntKind.bits] using h
  exact ⟨n.toNat, by omega, by omega⟩

theorem u32_nat {n : Int} (h : (Lit.int .u32 n).wf = true) : ∃ x : Nat, n = (x : Int) := by
  have : 0 ≤ n ∧ n ≤ 4294967295 := by simpa [Lit.wf, IntKind.min, IntKind.max, IntKind.signed, IntKind.bits] using h
  exact ⟨n.toNat, by omega⟩

theorem rec_of_four {H : Type} {enc : TypeId × Value → H} {W : World} {sp : Nat → Bool} {v0 v1 v2 v3 : Value} {y0 y1 y2 y3 : DataW H × List MemPlace} {n0 n1 n2 n3 : Nat}
    (t0 : DataW.trod enc Try.prog W 0 sp true n0 4 [v0] = some y0) (t1 : DataW.trod enc Try.prog W 0 sp true n1 33 [v1] = some y1)
    (t2 : DataW.trod enc Try.prog W 0 sp true n2 9 [v2] = some y2) (t3 : DataW.trod enc Try.prog W 0 sp true n3 9 [v3] = some y3) :
    ∃ r : Rec, v0 = .bool r.del ∧ v1 = .int .u64 (r.seq : Int) ∧ v2 = .string (strOfNums r.key) ∧ v3 = .string (strOfNums r.val) ∧ r.Arg := by
  obtain ⟨b, e0, _⟩ := DataW.trod_bool Try.underlying4 t0
  obtain ⟨z, e1, _, hz⟩ := DataW.trod_int Try.underlying33 t1
  obtain ⟨s, e2, _, hs⟩ := DataW.trod_string Try.underlying9 t2
  obtain ⟨u, e3, _, hu⟩ := DataW.trod_string Try.underlying9 t3
  obtain ⟨q, rfl, hq⟩ := seq_u64 hz
  obtain ⟨xs, rfl, ox, lx⟩ := nums_of_str s
  obtain ⟨ys, rfl, oy, ly⟩ := nums_of_str u
  unfold maxLen at hs hu
  exact ⟨⟨b, q, xs, ys⟩, by simpa using e0, by simpa using e1, by simpa using e2, by simpa using e3, ⟨⟨hq, ox, oy⟩, by simp only; omega, by simp only; omega⟩⟩

set_option maxRecDepth 100000 in
theorem open_rec {H : Type} {enc : TypeId × Value → H} {W : World} {base : Nat} {v : Value} {d : DataW H} {ps : List MemPlace} (hv : Value.okWide Try.prog W .any base 35 v) (h : DataW.Trod enc Try.prog W 0 (fun _ => true) true 35 v d ps) :
    ∃ r : Rec, v = recV r ∧ r.Arg := by
  obtain ⟨v0, v1, v2, v3, y0, y1, y2, y3, n, rfl, _, _, t0, t1, t2, t3⟩ := open_agg4 Try.underlying35 (by kernel_rfl) (by kernel_rfl) hv h
  obtain ⟨r, rfl, rfl, rfl, rfl, hr⟩ := rec_of_four t0 t1 t2 t3
  exact ⟨r, rfl, hr⟩

set_option maxRecDepth 100000 in
theorem open_recs {H : Type} {enc : TypeId × Value → H} {W : World} {base : Nat} {v : Value} {d : DataW H} {ps : List MemPlace} (hv : Value.okWide Try.prog W .any base 37 v) (h : DataW.Trod enc Try.prog W 0 (fun _ => true) true 37 v d ps) :
    ∃ (p : Option Addr) (n c : Nat) (l : List Rec), v = .slice p n c ∧ n = l.length ∧ n ≤ c ∧ c ≤ 9223372036854775807 ∧ RecsAt W p l ∧ (∀ r ∈ l, r.Arg) := by
  obtain ⟨a0, len, cap, rfl⟩ := okWide_slice Try.underlying37 hv
  obtain ⟨fuel, hf⟩ := h
  rcases Go.Deep.open_slice Try.underlying37 hf with ⟨hcs, _⟩ | ⟨a, len', cap', m, n, D, Pl, hcs, _, hl, hm, hmm, _, hi⟩
  · simp [Value.cells] at hcs
    obtain ⟨rfl, rfl, rfl⟩ := hcs
    exact ⟨none, 0, 0, [], rfl, rfl, Nat.le_refl _, by omega, fun i hi => by simp at hi, fun b hb => by simp at hb⟩
  · simp [Value.cells] at hcs
    obtain ⟨rfl, rfl, rfl⟩ := hcs
    simp only [if_true] at hmm
    have hall : ∀ i, i < len → ∃ r : Rec, (W.cell? (a.add (i * 4)) = some (.bool r.del) ∧ W.cell? ⟨(a.add (i * 4)).block, (a.add (i * 4)).off + 1, none⟩ = some (.int .u64 (r.seq : Int)) ∧
        W.cell? ⟨(a.add (i * 4)).block, (a.add (i * 4)).off + 2, none⟩ = some (.string (strOfNums r.key)) ∧ W.cell? ⟨(a.add (i * 4)).block, (a.add (i * 4)).off + 3, none⟩ = some (.string (strOfNums r.val))) ∧ r.Arg := by
      intro i hlt
      obtain ⟨cs, hc, ht⟩ := hi i (by omega)
      obtain ⟨ys, n', _, _, hlen, hyl, hfs⟩ := DataW.trod_struct Try.underlying35 ht
      have hyl4 : ys.length = 4 := hyl
      have h4 : Try.prog.cellsOf 35 = 4 := by kernel_rfl
      rw [h4] at hc hlen
      have hb : Try.prog.cellsOf 4 = 1 := by kernel_rfl
      have hu : Try.prog.cellsOf 33 = 1 := by kernel_rfl
      have hs : Try.prog.cellsOf 9 = 1 := by kernel_rfl
      obtain ⟨_, _, hat⟩ := World.cells?_some hc
      match cs, hlen with
      | [v0, v1, v2, v3], _ =>
        have t0 := hfs 0 _ rfl
        have t1 := hfs 1 _ rfl
        have t2 := hfs 2 _ rfl
        have t3 := hfs 3 _ rfl
        simp only [List.getElem_toArray, List.getElem_cons_zero, List.getElem_cons_succ] at t0 t1 t2 t3
        simp only [hb, hu, hs, List.drop_zero, List.drop_succ_cons, List.take_succ_cons, List.take_zero] at t0 t1 t2 t3
        obtain ⟨y0, hy0⟩ : ∃ y, ys[0]? = some y := ⟨_, List.getElem?_eq_getElem (by omega)⟩
        obtain ⟨y1, hy1⟩ : ∃ y, ys[1]? = some y := ⟨_, List.getElem?_eq_getElem (by omega)⟩
        obtain ⟨y2, hy2⟩ : ∃ y, ys[2]? = some y := ⟨_, List.getElem?_eq_getElem (by omega)⟩
        obtain ⟨y3, hy3⟩ : ∃ y, ys[3]? = some y := ⟨_, List.getElem?_eq_getElem (by omega)⟩
        rw [hy0] at t0; rw [hy1] at t1; rw [hy2] at t2; rw [hy3] at t3
        obtain ⟨r, rfl, rfl, rfl, rfl, hr⟩ := rec_of_four t0 t1 t2 t3
        have k0 : W.cell? (a.add (i * 4)) = some (.bool r.del) := hat 0 (by omega)
        have k1 := hat 1 (by omega)
        have k2 := hat 2 (by omega)
        have k3 := hat 3 (by omega)
        rw [plusPlain 1 k0] at k1
        rw [plusPlain 2 k0] at k2
        rw [plusPlain 3 k0] at k3
        exact ⟨r, ⟨k0, k1, k2, k3⟩, hr⟩
    haveI : Inhabited Rec := ⟨Rec.none⟩
    obtain ⟨f, hf⟩ := Go.Deep.choose_lt (α := Rec) hall
    refine ⟨some a, len, cap, (List.range len).map f, rfl, by simp, hl, by unfold maxLen at hm; omega, fun i hi => ⟨a, rfl, ?_⟩, fun z hz => ?_⟩
    · have hi' : i < len := by simpa using hi
      have := (hf i hi').1
      simpa [hi'] using this
    · obtain ⟨i, hi, rfl⟩ := List.mem_map.1 hz
      exact (hf i (by simpa using hi)).2
end Go.Proofs.Ytjjeaaiajgbncaa

namespace Go.Proofs.Ytjjeaaiajgbncaa
open Go.RowKit

theorem headR_small (xs : List Int) : (headR xs).2.2.2 < 65536 := by
  have key : ∀ a b c : Nat, ∀ r : List Int, (headLast a b c r).2.2.2 < 65536 := fun a b c r => by
    unfold headLast
    split
    · decide
    · split
      · rename_i h
        have := mayHead_true.1 h.2.2
        show c < 65536
        omega
      · decide
  unfold headR headVer headExp headNums
  repeat' split
  all_goals first
    | exact (by decide : 0 < 65536)
    | exact key _ _ _ _
theorem getH_small (ys : List Int) : (getH ys).2.2.2 < 65536 := by
  unfold getH
  split
  · exact (by decide : 0 < 65536)
  · exact headR_small _
theorem confEq (e s : Nat) (w : World) : (binOp .eql 48 (.agg #[.int .u8 (e : Int), .int .u32 (s : Int)]) (.agg #[.int .u8 (e : Int), .int .u32 (s : Int)])).run Try.prog w = .ok (.bool true) w := by
  simp [go_sem]
theorem confNe (e s : Nat) (w : World) : (binOp .neq 48 (.agg #[.int .u8 (e : Int), .int .u32 (s : Int)]) (.agg #[.int .u8 (e : Int), .int .u32 (s : Int)])).run Try.prog w = .ok (.bool false) w := by
  simp [go_sem]
theorem confAt2 {w : World} {g : Nat} {t : TypeId} {e s : Nat} (h : Whole w g t (confCells e s)) : w.cell? ⟨g, 0, none⟩ = some (.int .u8 (e : Int)) ∧ w.cell? ⟨g, 1, none⟩ = some (.int .u32 (s : Int)) := ⟨h.cell 0 rfl, h.cell 1 rfl⟩

set_option maxHeartbeats 8000000 in
set_option maxRecDepth 10000 in
theorem frhd_great (H : FrameOk) (x s n : Nat) (p : Option Addr) (N c : Nat) (ys : List Int) (w : World) (hin : In8 w p N c ys) (hg : 600 < N) :
    Calls Try.prog 6 #[confV x s, .int .u32 (n : Int), .slice p N c] w fun e w' => e = .returned (.bool true) ∧ Keeps NoBlock w w' := by
  have HLv := Lib.hid (fun w => lives9_true H w)
  have HCh := Lib.hid hin.at_
  have hcap := hin.cap; have hroom := hin.room
  have hgd : decide ((600 : Int) < (N : Int)) = true := decide_eq_true (by omega)
  clear H hin
  unfold confV
  go_enter Try.func6, Try.ntmps6
  go_wp2_with fail
  refine (HLv.out _).mono ?_
  rintro e w1 ⟨rfl, hk⟩
  have HR : Hid (Whole w1 w.heap.size 48 (confCells x s)) := Lib.hid ((Whole.new w _ _).keep hk (fun h => h))
  have HCh := Lib.hid ((HCh.out.keep ((Keeps.refl NoBlock w).alloc _) (fun _ _ h => h)).keep hk (fun _ _ h => h))
  have HK := Lib.hid (((Keeps.refl NoBlock w).alloc _).trans hk)
  clear hk
  obtain ⟨c0, c1⟩ := confAt2 HR.out
  go_wp2_with fail
  refine (HLv.out _).mono ?_
  rintro e w3 ⟨rfl, hk⟩
  have HK := Lib.hid (HK.out.trans hk)
  clear hk c0 c1
  go_wp2_with fail
  go_ret
  exact ⟨rfl, HK.out⟩
  
set_option maxHeartbeats 8000000 in
set_option maxRecDepth 10000 in
theorem frhd_bad (H : FrameOk) (x s n : Nat) (hx : x < 256) (hs : s < 4294967296) (hn : n < 4294967296) (p : Option Addr) (N c : Nat) (ys : List Int) (w : World) (hin : In8 w p N c ys) (hg : N ≤ 600) (hc : mayHead x s n = false) :
    Calls Try.prog 6 #[confV x s, .int .u32 (n : Int), .slice p N c] w fun e w' => e = .returned (.bool true) ∧ Keeps NoBlock w w' := by
  have HLv := Lib.hid (fun w => lives9_true H w)
  have hys := hin.oct
  have HPr := Lib.hid (fun w => H.puthead x s n w hx hs hn)
  have HMy := Lib.hid (fun w => may9_ref x s n hs w)
  have HG2 := Lib.hid (fun w (hb8 : Bytes8 w p ys) => H.gethead p N c ys w ⟨hin.len, hin.cap, hin.room, hin.bare, hys, hb8⟩ (by omega))
  have HW2 := Lib.hid (fun w => gethead9_ref ys hys (by have := hin.len; omega) w)
  unfold headOut at HW2
  have hsmall := getH_small ys
  obtain ⟨g, hg2⟩ : ∃ g, g = (getH ys).1 := ⟨_, rfl⟩
  obtain ⟨y, hy2⟩ : ∃ y, y = (getH ys).2.1 := ⟨_, rfl⟩
  obtain ⟨t, ht2⟩ : ∃ t, t = (getH ys).2.2.1 := ⟨_, rfl⟩
  obtain ⟨u, hu2⟩ : ∃ u, u = (getH ys).2.2.2 := ⟨_, rfl⟩
  rw [← hg2, ← hy2, ← ht2, ← hu2] at HG2 HW2
  rw [← hu2] at hsmall
  clear hg2 hy2 ht2 hu2
  have HEy := confEq y t
  have HX := Lib.hid hin.len
  have HCh := Lib.hid hin.at_
  have hcap := hin.cap; have hroom := hin.room
  have hgd : decide ((600 : Int) < (N : Int)) = false := decide_eq_false (by omega)
  have hwn : IntKind.u64.wrap (n : Int) = (n : Int) := by rw [IntKind.wrap_u64]; omega
  have hwu : IntKind.u64.wrap (u : Int) = (u : Int) := by rw [IntKind.wrap_u64]; omega
  have hpe : putH x s n = [] := by unfold putH; rw [if_neg (by rw [hc]; simp)]
  rw [hpe] at HPr
  rw [hc] at HPr HMy
  rw [if_neg (by simp)] at HPr
  unfold confV at HPr HMy HG2 HW2
  clear H hpe hys hin hg hc hx hs
  unfold confV
  go_enter Try.func6, Try.ntmps6
  go_wp2_with fail
  refine (HLv.out _).mono ?_
  rintro e w1 ⟨rfl, hk⟩
  have HR : Hid (Whole w1 w.heap.size 48 (confCells x s)) := Lib.hid ((Whole.new w _ _).keep hk (fun h => h))
  have HCh := Lib.hid ((HCh.out.keep ((Keeps.refl NoBlock w).alloc _) (fun _ _ h => h)).keep hk (fun _ _ h => h))
  have HK := Lib.hid (((Keeps.refl NoBlock w).alloc _).trans hk)
  clear hk
  obtain ⟨c0, c1⟩ := confAt2 HR.out
  go_wp2_with fail
  refine (HPr.out _).mono ?_
  rintro e w3 ⟨v, rfl, q, m, d, rfl, hm, hmd, hd, hq0, hb8, hk⟩
  have HBy := Lib.hid hb8
  have HM := Lib.hid hm
  have HQ := Lib.hid hq0
  clear hb8 hq0 hm
  have HR := Lib.hid (HR.out.keep hk (fun h => h))
  have HCh := Lib.hid (HCh.out.keep hk (fun _ _ h => h))
  have HK := Lib.hid (HK.out.trans hk)
  clear hk c0 c1
  obtain ⟨c0, c1⟩ := confAt2 HR.out
  go_wp2_with fail
  refine (HMy.out _).mono ?_
  rintro e w4 ⟨rfl, hk⟩
  have HR := Lib.hid (HR.out.keep hk (fun h => h))
  have HCh := Lib.hid (HCh.out.keep hk (fun _ _ h => h))
  have HK := Lib.hid (HK.out.trans hk)
  have HBy := Lib.hid (HBy.out.keep hk (fun _ _ h => h))
  clear hk c0 c1
  obtain ⟨c0, c1⟩ := confAt2 HR.out
  have hm0 : m = 0 := HM.out
  subst hm0
  go_wp2_with fail
  refine (HG2.out _ HCh.out).mono ?_
  rintro e w8 ⟨rfl, hk⟩
  have hCh := HCh.out.keep hk (fun _ _ h => h)
  have hK := HK.out.trans hk
  obtain ⟨V, hV⟩ : ∃ V, V = w8.alloc (.cells #[.int .u8 (y : Int), .int .u32 (t : Int)] 48) := ⟨_, rfl⟩
  have HCh : Hid (Bytes8 V p ys) := Lib.hid (by rw [hV]; exact hCh.keep ((Keeps.refl NoBlock w8).alloc _) (fun _ _ h => h))
  have HK : Hid (Keeps NoBlock w V) := Lib.hid (by rw [hV]; exact hK.alloc _)
  have HY : Hid (Whole V w8.heap.size 48 (confCells y t)) := Lib.hid (by rw [hV]; exact Whole.new w8 _ (confCells y t))
  clear hk hCh hK c0 c1
  go_upto_region 12 with (fail)
  rw [← hV]
  clear hV
  have t1 := textOf p N c ys V HX.out HCh.out
  go_wp2_with fail
  refine (HW2.out _).mono ?_
  rintro e w9 ⟨rfl, hk⟩
  have hY := HY.out.keep hk (fun h => h)
  have hK := HK.out.trans hk
  obtain ⟨U, hU⟩ : ∃ U, U = w9.alloc (.cells #[.int .u8 (y : Int), .int .u32 (t : Int)] 48) := ⟨_, rfl⟩
  have HY : Hid (Whole U w8.heap.size 48 (confCells y t)) := Lib.hid (by rw [hU]; exact hY.alloc _)
  have HZ : Hid (Whole U w9.heap.size 48 (confCells y t)) := Lib.hid (by rw [hU]; exact Whole.new w9 _ (confCells y t))
  have HK : Hid (Keeps NoBlock w U) := Lib.hid (by rw [hU]; exact hK.alloc _)
  clear hk hY hK t1
  go_upto_region 13 with (fail)
  rw [← hU]
  clear hU
  obtain ⟨y0, y1⟩ := confAt2 HY.out
  obtain ⟨u0, u1⟩ := confAt2 HZ.out
  go_wp2_with fail
  go_ret
  exact ⟨rfl, HK.out⟩

set_option maxHeartbeats 8000000 in
set_option maxRecDepth 10000 in
theorem frhd_good (H : FrameOk) (x s n : Nat) (hx : x < 256) (hs : s < 4294967296) (hn : n < 4294967296) (p : Option Addr) (N c : Nat) (ys : List Int) (w : World) (hin : In8 w p N c ys) (hg : N ≤ 600) (hc : mayHead x s n = true) :
    Calls Try.prog 6 #[confV x s, .int .u32 (n : Int), .slice p N c] w fun e w' => e = .returned (.bool true) ∧ Keeps NoBlock w w' := by
  have HLv := Lib.hid (fun w => lives9_true H w)
  have hys := hin.oct
  have HPr := Lib.hid (fun w => H.puthead x s n w hx hs hn)
  have HMy := Lib.hid (fun w => may9_ref x s n hs w)
  have HG2 := Lib.hid (fun w (hb8 : Bytes8 w p ys) => H.gethead p N c ys w ⟨hin.len, hin.cap, hin.room, hin.bare, hys, hb8⟩ (by omega))
  have HW2 := Lib.hid (fun w => gethead9_ref ys hys (by have := hin.len; omega) w)
  unfold headOut at HW2
  have hsmall := getH_small ys
  obtain ⟨g, hg2⟩ : ∃ g, g = (getH ys).1 := ⟨_, rfl⟩
  obtain ⟨y, hy2⟩ : ∃ y, y = (getH ys).2.1 := ⟨_, rfl⟩
  obtain ⟨t, ht2⟩ : ∃ t, t = (getH ys).2.2.1 := ⟨_, rfl⟩
  obtain ⟨u, hu2⟩ : ∃ u, u = (getH ys).2.2.2 := ⟨_, rfl⟩
  rw [← hg2, ← hy2, ← ht2, ← hu2] at HG2 HW2
  rw [← hu2] at hsmall
  clear hg2 hy2 ht2 hu2
  have HEy := confEq y t
  have HX := Lib.hid hin.len
  have HCh := Lib.hid hin.at_
  have hcap := hin.cap; have hroom := hin.room
  have hgd : decide ((600 : Int) < (N : Int)) = false := decide_eq_false (by omega)
  have hwn : IntKind.u64.wrap (n : Int) = (n : Int) := by rw [IntKind.wrap_u64]; omega
  have hwu : IntKind.u64.wrap (u : Int) = (u : Int) := by rw [IntKind.wrap_u64]; omega
  have hpe : putH x s n = sealN (headB x s n) := by unfold putH; rw [if_pos hc]
  rw [hpe] at HPr
  have hgh := getH_put hx hc
  rw [hc] at HPr HMy
  rw [if_pos rfl] at HPr
  have hbo := headB_octets (s := s) (n := n) hx
  have hbf := headB_length (e := x) (s := s) (n := n) (by omega) (by omega)
  have HRf := Lib.hid (fun w => head9_ref x s n hx hs (by omega) w)
  obtain ⟨hlen, hmost⟩ := seal_length (headB x s n)
  have hsz : sizeN (headB x s n).length ≤ 300 := by unfold sizeN mostOf; split <;> omega
  have HG1 := Lib.hid (fun q m d w hi hm => H.gethead q m d (chunkN (headB x s n)) w hi hm)
  rw [hgh] at HG1
  simp only at HG1
  have hco := (chunk_solid hbo).octets
  have hFC : sealN (headB x s n) = chunkN (headB x s n) ++ [0] := rfl
  have hpos := chunk_pos (headB x s n)
  obtain ⟨C, hC⟩ : ∃ C, C = chunkN (headB x s n) := ⟨_, rfl⟩
  rw [← hC] at hlen HG1 hco hFC hpos
  obtain ⟨F, hF⟩ : ∃ F, F = sealN (headB x s n) := ⟨_, rfl⟩
  rw [← hF] at HPr HRf hlen hmost hFC
  have HFC := Lib.hid hFC
  have HLen := Lib.hid hlen
  have HCo := Lib.hid hco
  have HE := confEq x s
  have HNe := confNe x s
  have HLz := Lib.hid (show F.length ≤ 300 by omega)
  unfold confV at HPr HMy HG1 HG2 HW2 HRf
  clear H hpe hys hin hg hC hF hco hFC hlen hmost hsz hbo hbf hgh hc hx hs
  unfold confV
  go_enter Try.func6, Try.ntmps6
  go_wp2_with fail
  refine (HLv.out _).mono ?_
  rintro e w1 ⟨rfl, hk⟩
  have HR : Hid (Whole w1 w.heap.size 48 (confCells x s)) := Lib.hid ((Whole.new w _ _).keep hk (fun h => h))
  have HCh := Lib.hid ((HCh.out.keep ((Keeps.refl NoBlock w).alloc _) (fun _ _ h => h)).keep hk (fun _ _ h => h))
  have HK := Lib.hid (((Keeps.refl NoBlock w).alloc _).trans hk)
  clear hk
  obtain ⟨c0, c1⟩ := confAt2 HR.out
  go_wp2_with fail
  refine (HPr.out _).mono ?_
  rintro e w3 ⟨v, rfl, q, m, d, rfl, hm, hmd, hd, hq0, hb8, hk⟩
  have HBy := Lib.hid hb8
  have HM := Lib.hid hm
  have HQ := Lib.hid hq0
  clear hb8 hq0 hm
  have HR := Lib.hid (HR.out.keep hk (fun h => h))
  have HCh := Lib.hid (HCh.out.keep hk (fun _ _ h => h))
  have HK := Lib.hid (HK.out.trans hk)
  clear hk c0 c1
  obtain ⟨c0, c1⟩ := confAt2 HR.out
  go_wp2_with fail
  refine (HMy.out _).mono ?_
  rintro e w4 ⟨rfl, hk⟩
  have HR := Lib.hid (HR.out.keep hk (fun h => h))
  have HCh := Lib.hid (HCh.out.keep hk (fun _ _ h => h))
  have HK := Lib.hid (HK.out.trans hk)
  have HBy := Lib.hid (HBy.out.keep hk (fun _ _ h => h))
  clear hk c0 c1
  obtain ⟨c0, c1⟩ := confAt2 HR.out
  obtain ⟨M, hM⟩ : ∃ M, M = C.length := ⟨_, rfl⟩
  have HMC := Lib.hid hM
  have hML : m = M + 1 := by rw [HM.out, HLen.out, hM]
  have hsub : (m : Int) - 1 = (M : Int) := by omega
  have hm3 : m ≤ 300 := by have := HLz.out; have := HM.out; omega
  have hM1 : 1 ≤ M := by omega
  have hM2 : ¬ M = 0 := by omega
  have hMm : M ≤ m := by omega
  have hMd : M ≤ d := by omega
  clear hM hML
  obtain ⟨a, rfl, hcell⟩ := HBy.out (by rw [HLen.out]; omega)
  clear hcell
  go_wp2_with fail
  refine (HG1.out (some a) M d _ (by exact ⟨HMC.out, hMd, hd, fun h => by simp at h, HCo.out, Bytes8.left (ys := [0]) (by rw [← HFC.out]; exact HBy.out)⟩) (by omega)).mono ?_
  rintro e w6 ⟨rfl, hk⟩
  have HR := Lib.hid (HR.out.keep hk (fun h => h))
  have HCh := Lib.hid (HCh.out.keep hk (fun _ _ h => h))
  have HK := Lib.hid (HK.out.trans hk)
  have HBy := Lib.hid (HBy.out.keep hk (fun _ _ h => h))
  clear hk c0 c1
  obtain ⟨c0, c1⟩ := confAt2 HR.out
  obtain ⟨W, hW⟩ : ∃ W, W = w6.alloc (.cells #[.int .u8 (x : Int), .int .u32 (s : Int)] 48) := ⟨_, rfl⟩
  have hk : Keeps NoBlock w6 W := by rw [hW]; exact (Keeps.refl _ _).alloc _
  have HXr : Hid (Whole W w6.heap.size 48 (confCells x s)) := Lib.hid (by rw [hW]; exact Whole.new w6 _ (confCells x s))
  have HBy := Lib.hid (HBy.out.keep hk (fun _ _ h => h))
  have HCh := Lib.hid (HCh.out.keep hk (fun _ _ h => h))
  have HR := Lib.hid (HR.out.keep hk (fun h => h))
  have HK := Lib.hid (HK.out.trans hk)
  go_upto_region 9 with (fail)
  rw [← hW]
  clear hW hk c0 c1
  have s0 := And.intro (textOf (some a) m d F W.drew HM.out HBy.out) (And.intro (confAt2 (w := W.drew) HR.out) (confAt2 (w := W.drew) HXr.out))
  have sN := And.intro (textOf (some a) m d F W HM.out HBy.out) (And.intro (confAt2 HR.out) (confAt2 HXr.out))
  go_wp2_with fail
  go_region_held3 (fun w' => (convert 22 9 (.slice (some a) m d)).run Try.prog w' = .ok (.string (strOfNums F)) w' ∧ (w'.cell? ⟨w.heap.size, 0, none⟩ = some (.int .u8 (x : Int)) ∧ w'.cell? ⟨w.heap.size, 1, none⟩ = some (.int .u32 (s : Int))) ∧ w'.cell? ⟨w6.heap.size, 0, none⟩ = some (.int .u8 (x : Int)) ∧ w'.cell? ⟨w6.heap.size, 1, none⟩ = some (.int .u32 (s : Int)))
    (first | exact s5 | exact s0 | exact sN)
    (first | (go_at_call 23; (first | refine (HRf.out _).mono ?_ | (rw [hwn]; refine (HRf.out _).mono ?_)); rintro e w7 ⟨rfl, hk⟩; have hk' : Keeps NoBlock W w7 := (by first | exact hk | exact hk.ofDrew | exact hk.ofDrewN); have HK := Lib.hid (HK.out.trans hk'); have HR := Lib.hid (HR.out.keep hk' (fun h => h)); have HCh := Lib.hid (HCh.out.keep hk' (fun _ _ h => h)); have HXr := Lib.hid (HXr.out.keep hk' (fun h => h)); have HBy := Lib.hid (HBy.out.keep hk' (fun _ _ h => h)); have s5 := And.intro (textOf (some a) m d F w7 HM.out HBy.out) (And.intro (confAt2 HR.out) (confAt2 HXr.out)); clear hk hk'))
  obtain ⟨c0, c1⟩ := confAt2 HR.out
  go_wp2_with fail
  refine (HG2.out _ HCh.out).mono ?_
  rintro e w8 ⟨rfl, hk⟩
  have hCh := HCh.out.keep hk (fun _ _ h => h)
  have hK := HK.out.trans hk
  obtain ⟨V, hV⟩ : ∃ V, V = w8.alloc (.cells #[.int .u8 (y : Int), .int .u32 (t : Int)] 48) := ⟨_, rfl⟩
  have HCh : Hid (Bytes8 V p ys) := Lib.hid (by rw [hV]; exact hCh.keep ((Keeps.refl NoBlock w8).alloc _) (fun _ _ h => h))
  have HK : Hid (Keeps NoBlock w V) := Lib.hid (by rw [hV]; exact hK.alloc _)
  have HY : Hid (Whole V w8.heap.size 48 (confCells y t)) := Lib.hid (by rw [hV]; exact Whole.new w8 _ (confCells y t))
  clear hk hCh hK c0 c1
  go_upto_region 12 with (fail)
  rw [← hV]
  clear hV
  have t1 := textOf p N c ys V HX.out HCh.out
  go_wp2_with fail
  refine (HW2.out _).mono ?_
  rintro e w9 ⟨rfl, hk⟩
  have hY := HY.out.keep hk (fun h => h)
  have hK := HK.out.trans hk
  obtain ⟨U, hU⟩ : ∃ U, U = w9.alloc (.cells #[.int .u8 (y : Int), .int .u32 (t : Int)] 48) := ⟨_, rfl⟩
  have HY : Hid (Whole U w8.heap.size 48 (confCells y t)) := Lib.hid (by rw [hU]; exact hY.alloc _)
  have HZ : Hid (Whole U w9.heap.size 48 (confCells y t)) := Lib.hid (by rw [hU]; exact Whole.new w9 _ (confCells y t))
  have HK : Hid (Keeps NoBlock w U) := Lib.hid (by rw [hU]; exact hK.alloc _)
  clear hk hY hK t1
  go_upto_region 13 with (fail)
  rw [← hU]
  clear hU
  obtain ⟨y0, y1⟩ := confAt2 HY.out
  obtain ⟨u0, u1⟩ := confAt2 HZ.out
  go_wp2_with fail
  go_ret
  exact ⟨rfl, HK.out⟩

theorem frhd_walk (H : FrameOk) (x s n : Nat) (hx : x < 256) (hs : s < 4294967296) (hn : n < 4294967296) (p : Option Addr) (N c : Nat) (ys : List Int) (w : World) (hin : In8 w p N c ys) :
    Calls Try.prog 6 #[confV x s, .int .u32 (n : Int), .slice p N c] w fun e w' => e = .returned (.bool true) ∧ Keeps NoBlock w w' := by
  by_cases hg : N ≤ 600
  · cases hc : mayHead x s n with
    | true => exact frhd_good H x s n hx hs hn p N c ys w hin hg hc
    | false => exact frhd_bad H x s n hx hs hn p N c ys w hin hg hc
  · exact frhd_great H x s n p N c ys w hin (by omega)
end Go.Proofs.Ytjjeaaiajgbncaa

namespace Go.Proofs.Ytjjeaaiajgbncaa
open Go.Joins Go.ChangeShapes Go.WideShapes Go.ChangeAt Go.RowKit Go.Deep

theorem num_u64 {n : Int} (h : (Lit.int .u64 n).wf = true) : ∃ x : Nat, n = (x : Int) ∧ x < 18446744073709551616 := by
  have : 0 ≤ n ∧ n ≤ 18446744073709551615 := by simpa [Lit.wf, IntKind.min, IntKind.max, IntKind.signed, IntKind.bits] using h
  exact ⟨n.toNat, by omega, by omega⟩

set_option maxRecDepth 100000 in
theorem open_conf {H : Type} {enc : TypeId × Value → H} {W : World} {base : Nat} {v : Value} {d : DataW H} {ps : List MemPlace} (hv : Value.okWide Try.prog W .any base 48 v) (h : DataW.Trod enc Try.prog W 0 (fun _ => true) true 48 v d ps) :
    ∃ e s : Nat, v = confV e s ∧ e < 256 ∧ s < 4294967296 := by
  obtain ⟨v0, v1, y0, y1, n, rfl, _, _, t0, t1⟩ := open_agg2 Try.underlying48 (by kernel_rfl) (by kernel_rfl) hv h
  obtain ⟨a, e0, _, w0⟩ := DataW.trod_int Try.underlying5 t0
  obtain ⟨b, e1, _, w1⟩ := DataW.trod_int Try.underlying46 t1
  have ha : 0 ≤ a ∧ a ≤ 255 := by simpa [Lit.wf, IntKind.min, IntKind.max, IntKind.signed, IntKind.bits] using w0
  have hb : 0 ≤ b ∧ b ≤ 4294967295 := by simpa [Lit.wf, IntKind.min, IntKind.max, IntKind.signed, IntKind.bits] using w1
  obtain rfl : v0 = .int .u8 a := by simpa using e0
  obtain rfl : v1 = .int .u32 b := by simpa using e1
  obtain ⟨x, rfl⟩ : ∃ x : Nat, a = (x : Int) := ⟨a.toNat, by omega⟩
  obtain ⟨y, rfl⟩ : ∃ y : Nat, b = (y : Int) := ⟨b.toNat, by omega⟩
  exact ⟨x, y, rfl, by omega, by omega⟩
end Go.Proofs.Ytjjeaaiajgbncaa

namespace Go.Proofs.Ytjjeaaiajgbncaa

theorem u16_in {n : Int} (h : (Lit.int .u16 n).wf = true) : 0 ≤ n ∧ n < 65536 := by
  have : 0 ≤ n ∧ n ≤ 65535 := by simpa [Lit.wf, IntKind.min, IntKind.max, IntKind.signed, IntKind.bits] using h
  omega
end Go.Proofs.Ytjjeaaiajgbncaa

namespace Go.Proofs.Ytjjeaaiajgbncaa
open Go.RowKit

theorem u8_in {n : Int} (h : (Lit.int .u8 n).wf = true) : 0 ≤ n ∧ n < 256 := by
  simp [Lit.wf, IntKind.min, IntKind.max, IntKind.signed, IntKind.bits] at h
  omega
theorem nat_u32 {z : Int} (h : (Lit.int .u32 z).wf = true) : ∃ k : Nat, z = (k : Int) ∧ k < 4294967296 := by
  simp [Lit.wf, IntKind.min, IntKind.max, IntKind.signed, IntKind.bits] at h
  exact ⟨z.toNat, by omega, by omega⟩
end Go.Proofs.Ytjjeaaiajgbncaa

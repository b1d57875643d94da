/-
  The law VarintBack: its reading.
-/
import Derived.Test.YthgpkimnhgjloaaVarRead
import Derived.Test.YthgpkimnhgjloaaApartWalk
namespace Go.Proofs.Ythgpkimnhgjloaa
open Go.RowKit

theorem end_here {p : Option Addr} {Nb cb : Nat} {w : World} (k : Nat) (y : Int) (h : CurB w k p Nb cb Nb true y) (hc : (Nb : Int) ≤ 9223372036854775807) :
    Calls Try.prog 15 #[.pointer (some ⟨k, 0, none⟩)] w fun e w' => e = .returned (.tuple #[]) ∧ ∃ m, w' = w.drewN m := by
  have H := Lib.hid h; clear h
  go_enter Try.func15, Try.ntmps15
  go_wp2_with fail
  refine (left_at k p Nb cb Nb y _ H.out (Nat.le_refl _) hc).mono ?_
  rintro e w' ⟨rfl, m, rfl⟩
  go_wp2_with fail
  go_returns
  exact ⟨rfl, m, rfl⟩

theorem RowN.keepAt {w w' : World} {p : Option Addr} {l : List Nat} (h : RowN w p l) {S : Nat → Prop} (hk : Keeps S w w') (hs : 0 < l.length → ∀ q, p = some q → ¬ S q.block) : RowN w' p l := fun i hi => by
  obtain ⟨a, rfl, hc⟩ := h i hi
  exact ⟨a, rfl, hk.cell hc (by rw [addBlock]; exact hs (by omega) a rfl)⟩

theorem vnums_append : ∀ (l m : List Nat), vnums (l ++ m) = vnums l ++ vnums m
  | [], m => by simp [vnums]
  | x :: r, m => by simp [vnums, vnums_append r m]

theorem vnums_split (l : List Nat) (k : Nat) (hk : k < l.length) : (vnums l).drop (vnums (l.take k)).length = vnum (l.getD k 0) ++ vnums (l.drop (k + 1)) := by
  have e : l = l.take k ++ (l.getD k 0 :: l.drop (k + 1)) := by
    conv => lhs; rw [← List.take_append_drop k l, List.drop_eq_getElem_cons hk]
    simp [hk]
  conv => lhs; arg 2; rw [e]
  rw [vnums_append, List.drop_left]
  rfl

theorem vnums_take_le (l : List Nat) (k : Nat) : (vnums (l.take k)).length ≤ (vnums l).length := by
  conv => rhs; rw [← List.take_append_drop k l]
  rw [vnums_append, List.length_append]
  omega

theorem enterVBack (args : Array Value) (w : World) : (callFunc 13 args).run Try.prog w = .ok (.enter 13 args) w := by kernel_rfl

/-- What the reading's loop carries. -/
structure VLoop (w0 W : World) (RB : Nat) (p : Option Addr) (Nb cb a : Nat) (wr : World) : Prop where
  cur : CurB wr (w0.heap.size + 1 + 1) p Nb cb a true 0
  keep : Keeps (fun i => i = w0.heap.size + 1 + 1 ∨ i = RB) W wr
  right : Whole wr RB 4 #[.bool true]

set_option maxRecDepth 10000 in
set_option maxHeartbeats 4000000 in
theorem vback_loop (w0 W : World) (RB B : Nat) (p lp : Option Addr) (l : List Nat) (X : List Int) (Nb cb n lc : Nat) (hX : X = vnums l) (hB : Begun w0 p Nb cb 0 0 W) (hRB : RB < w0.heap.size) (hbox : Whole W B 22 #[.slice lp n lc]) (hright : Whole W RB 4 #[.bool true])
    (hrow : RowN W lp l) (hlo : 0 < l.length → ∀ q, lp = some q → q.block < RB) (hb : Bytes8 W p X) (hlb : 0 < X.length → ∀ q, p = some q → q.block < w0.heap.size ∧ q.block ≠ RB) (hn : n = l.length) (hNb : Nb = X.length) (hcb : Nb ≤ cb) (hcb' : cb ≤ 9223372036854775807) (hn9 : n ≤ 9223372036854775807)
    (h64 : ∀ z ∈ l, z < 18446744073709551616) (hK : Keeps NoBlock w0 W) :
    Calls Try.prog 13 (#[.pointer (some ⟨w0.heap.size + 1 + 1, 0, none⟩)] ++ #[.pointer (some ⟨B, 0, none⟩), .pointer (some ⟨RB, 0, none⟩)]) W (ReadEnds w0 p Nb cb Nb 0 (fun w2 => Keeps (Just RB) w0 w2 ∧ Whole w2 RB 4 #[.bool true])) := by
  have d1 := hbox.cell 0 rfl
  simp only [List.getElem_toArray, List.getElem_cons_zero] at d1
  have HV0 := Lib.hid (show VLoop w0 W RB p Nb cb (vnums (l.take 0)).length W from ⟨by simpa [vnums] using hB.cur, Keeps.refl _ _, hright⟩)
  have HX := Lib.hid hX; have HB := Lib.hid hB; have HBox := Lib.hid hbox; have HRow := Lib.hid hrow; have HLo := Lib.hid hlo; have HBy := Lib.hid hb; have HLb := Lib.hid hlb; have Hn := Lib.hid hn; have HNb := Lib.hid hNb; have H64 := Lib.hid h64; have HK := Lib.hid hK
  have HO := Lib.hid (show Octets X by rw [hX]; exact vnums_octets l)
  clear hX hB hbox hright hrow hlo hb hlb hn hNb h64 hK
  simp only [List.append_toArray, List.nil_append, List.cons_append]
  go_enter Try.func13, Try.ntmps13
  go_wp2_with fail
  go_loopw [8] (fun i wr => ∃ k : Nat, k ≤ n ∧ i = .int .i64 k ∧ VLoop w0 W RB p Nb cb (vnums (l.take k)).length wr) (fun i _ => n - (intOf i).toNat)
  case atStart => exact ⟨0, Nat.zero_le _, rfl, HV0.out⟩
  case round =>
    obtain ⟨k, hk, rfl, hv⟩ := hrel
    have HV := Lib.hid hv
    clear hv d1
    by_cases hlt : k < n
    · have hkl : k < l.length := by have := Hn.out; omega
      obtain ⟨a, rfl, hc⟩ := (HRow.out.keepAt HV.out.keep (fun h0 q hq => by have := HLo.out h0 q hq; omega)) k hkl
      obtain ⟨x, hxd⟩ : ∃ x, x = l.getD k 0 := ⟨_, rfl⟩
      have hx64 : x < 18446744073709551616 := by
        rw [hxd]
        have := H64.out _ (List.getElem_mem hkl)
        simpa [hkl] using this
      rw [← hxd] at hc
      have hsp := vnums_split l k hkl
      rw [← hxd] at hsp
      have hle := vnums_take_le l k
      have hg := get_any (w0.heap.size + 1 + 1) p X Nb cb (vnums (l.take k)).length wr HNb.out HV.out.cur (HBy.out.keepPos HV.out.keep (fun h0 q hq => by have := HLb.out h0 q hq; omega)) HO.out (fun h0 q hq => by have := HLb.out h0 q hq; omega) (by rw [HNb.out, HX.out]; exact hle) hcb hcb'
      have hvg : vget (X.drop (vnums (l.take k)).length) = ⟨0, (vnum x).length, x⟩ := by rw [HX.out, hsp]; exact vget_vnum x _ hx64
      have hnext : (vnums (l.take (k + 1))).length = (vnums (l.take k)).length + (vnum x).length := by rw [take_succ_nat l k hkl, vnums_snoc, hxd, List.length_append]
      rw [hvg] at hg
      have HG := Lib.hid hg; have HNext := Lib.hid hnext
      have hr0 := HV.out.right.cell 0 rfl
      simp only [List.getElem_toArray, List.getElem_cons_zero] at hr0
      clear hg hvg hsp hle hxd hx64 hkl hnext
      go_wp2_with fail
      refine HG.out.mono ?_
      rintro e w1 ⟨hk1, ⟨_, rfl, hcur⟩ | ⟨hne, _⟩⟩
      · have hR1 := HV.out.right.keep hk1 (by unfold Just; omega)
        have f0 := hR1.free 0
        have r0 := hR1.cell 0 rfl
        simp only [List.getElem_toArray, List.getElem_cons_zero] at r0
        have HV2 := Lib.hid (show VLoop w0 W RB p Nb cb (vnums (l.take (k + 1))).length (w1.setCell ⟨RB, 0, none⟩ (.bool true)) from ⟨by rw [HNext.out]; exact Whole.setOther hcur (by simp; omega) _, (HV.out.keep.trans (hk1.wider (fun i _ h => .inl h))).setIn (.inr rfl) 0 _, hR1.set 0 _⟩)
        clear hk1 hcur hR1 HG hr0
        go_wp2_with fail
        go_roundw
        case rel => exact ⟨k + 1, by omega, by go_num, HV2.out⟩
        case measure => simp [intOf]; omega
      · exact absurd rfl hne
    · obtain rfl : k = n := by omega
      have hcur : CurB wr (w0.heap.size + 1 + 1) p Nb cb Nb true 0 := by
        have := HV.out.cur
        rw [List.take_of_length_le (by have := Hn.out; omega), ← HX.out, ← HNb.out] at this
        exact this
      have HC := Lib.hid hcur
      clear hcur
      go_wp2_with fail
      refine (end_here _ _ HC.out (by omega)).mono ?_
      rintro e w2 ⟨rfl, m, rfl⟩
      go_wp2_with fail
      go_returns
      have hk2 : Keeps (fun i => i = w0.heap.size + 1 + 1 ∨ i = RB) W (wr.drewN m) := HV.out.keep.drewN m
      refine ⟨.inl rfl, ⟨HB.out.at_.keep hk2 (by omega), HB.out.why.keep hk2 (by omega), HC.out, HB.out.var.keep hk2 (by omega)⟩, (HK.out.wider (S' := Just RB) (fun _ _ h => h.elim)).then hk2 (fun i hi h => by unfold Just; omega), HV.out.right⟩
end Go.Proofs.Ythgpkimnhgjloaa

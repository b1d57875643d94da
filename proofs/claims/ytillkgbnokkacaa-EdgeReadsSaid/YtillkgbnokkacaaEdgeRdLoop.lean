/-
  The law EdgeReads: its readings.
-/
import Derived.Test.YtillkgbnokkacaaEdgeGet
import Derived.Test.YtillkgbnokkacaaVBackRead
namespace Go.Proofs.Ytillkgbnokkacaa
open Go.RowKit

theorem run_store_float (P : Program) (w : World) (a : Addr) (k : FloatKind) (b : Nat) (m : Mode) : (store a (.float k b) m).run P w = stored P w a (.float k b) m := run_store P w a _ m rfl
attribute [local go_sem] run_store_float

/-- The bytes of a row of doubles. -/
def enums : List Nat → List Int
  | [] => []
  | b :: r => digits (textW b : Int) 8 ++ enums r
theorem enums_length : ∀ l, (enums l).length = 8 * l.length
  | [] => rfl
  | b :: r => by rw [enums, List.length_append, digits_length, enums_length r, List.length_cons]; omega
theorem enums_append : ∀ (l m : List Nat), enums (l ++ m) = enums l ++ enums m
  | [], m => rfl
  | b :: r, m => by rw [List.cons_append, enums, enums, enums_append r m, List.append_assoc]
theorem enums_octets : ∀ l, Octets (enums l)
  | [] => fun b hb => by simp [enums] at hb
  | b :: r => fun x hx => by
    rw [enums, List.mem_append] at hx
    rcases hx with h | h
    · exact digits_octets _ 8 x h
    · exact enums_octets r x h
theorem enums_split (l : List Nat) (k : Nat) (hk : k < l.length) : (enums l).drop (8 * k) = digits (textW (l.getD k 0) : Int) 8 ++ enums (l.drop (k + 1)) := by
  have e : l = l.take k ++ (l.getD k 0 :: l.drop (k + 1)) := by
    conv => lhs; rw [← List.take_append_drop k l, List.drop_eq_getElem_cons hk]
    simp [hk]
  have hl : (enums (l.take k)).length = 8 * k := by rw [enums_length, List.length_take]; omega
  conv => lhs; arg 2; rw [e]
  rw [enums_append, ← hl, List.drop_left]
  rfl
theorem enums_snoc (l : List Nat) (b : Nat) : enums (l ++ [b]) = enums l ++ digits (textW b : Int) 8 := by
  rw [enums_append]
  simp [enums]
theorem take_succ_natE (l : List Nat) (k : Nat) (h : k < l.length) : l.take (k + 1) = l.take k ++ [l.getD k 0] := by
  rw [List.take_succ_eq_append_getElem h]
  simp [h]
theorem text_text (b : Nat) : textW (textW b) = textW b := by
  by_cases h : nanW b = true
  · have e : textW b = 9221120237041090560 := nan_text h
    rw [e]
    rfl
  · have e : textW b = b := by unfold textW; rw [if_neg h]
    rw [e, e]

theorem RowF.keepAt {w w' : World} {p : Option Addr} {l : List Nat} (h : RowF w p l) {S : Nat → Prop} (hk : Keeps S w w') (hs : 0 < l.length → ∀ q, p = some q → ¬ S q.block) : RowF w' p l := fun i hi => by
  obtain ⟨a, rfl, hc⟩ := h i hi
  exact ⟨a, rfl, hk.cell hc (by rw [addBlock]; exact hs (by omega) a rfl)⟩

theorem enterERead (args : Array Value) (w : World) : (callFunc 22 args).run Try.prog w = .ok (.enter 22 args) w := by kernel_rfl
theorem enterEOne (args : Array Value) (w : World) : (callFunc 25 args).run Try.prog w = .ok (.enter 25 args) w := by kernel_rfl

set_option maxRecDepth 10000 in
set_option maxHeartbeats 4000000 in
theorem eread_loop (H : EdgeOk) (w0 W : World) (RB B : Nat) (p lp : Option Addr) (l : List Nat) (X : List Int) (Nb cb n lc : Nat) (hX : X = enums l) (hB : Begun w0 p Nb cb 0 0 W) (hRB : RB < w0.heap.size) (hbox : Whole W B 32 #[.slice lp n lc]) (hright : Whole W RB 4 #[.bool true])
    (hrow : RowF W lp l) (hlo : 0 < l.length → ∀ q, lp = some q → q.block < RB) (hb : Bytes8 W p X) (hlb : 0 < X.length → ∀ q, p = some q → q.block < w0.heap.size ∧ q.block ≠ RB) (hn : n = l.length) (hNb : Nb = X.length) (hcb : Nb ≤ cb) (hcb' : cb ≤ 9223372036854775807) (hn9 : n ≤ 9223372036854775807)
    (h64 : ∀ z ∈ l, Word64 z) (hK : Keeps NoBlock w0 W) :
    Calls Try.prog 22 (#[.pointer (some ⟨w0.heap.size + 1 + 1, 0, none⟩)] ++ #[.pointer (some ⟨B, 0, none⟩), .pointer (some ⟨RB, 0, none⟩)]) W (ReadEnds w0 p Nb cb Nb 0 (fun w2 => Keeps (Just RB) w0 w2 ∧ Whole w2 RB 4 #[.bool true])) := by
  have d1 := hbox.cell 0 rfl
  simp only [List.getElem_toArray, List.getElem_cons_zero] at d1
  have HV0 := Lib.hid (show VLoop w0 W RB p Nb cb (8 * 0) W from ⟨by simpa using hB.cur, Keeps.refl _ _, hright⟩)
  have HX := Lib.hid hX; have HB := Lib.hid hB; have HBox := Lib.hid hbox; have HRow := Lib.hid hrow; have HLo := Lib.hid hlo; have HBy := Lib.hid hb; have HLb := Lib.hid hlb; have Hn := Lib.hid hn; have HNb := Lib.hid hNb; have H64 := Lib.hid h64; have HK := Lib.hid hK
  have HO := Lib.hid (show Octets X by rw [hX]; exact enums_octets l)
  have HGt := Lib.hid H.get
  have hXl : X.length = 8 * n := by rw [hX, enums_length, hn]
  have HXL := Lib.hid hXl
  clear hX hB hbox hright hrow hlo hb hlb hn hNb h64 hK H hXl
  simp only [List.append_toArray, List.nil_append, List.cons_append]
  go_enter Try.func22, Try.ntmps22
  go_wp2_with fail
  go_loopw [8] (fun i wr => ∃ k : Nat, k ≤ n ∧ i = .int .i64 k ∧ VLoop w0 W RB p Nb cb (8 * k) wr) (fun i _ => n - (intOf i).toNat)
  case atStart => exact ⟨0, Nat.zero_le _, rfl, HV0.out⟩
  case round =>
    obtain ⟨k, hk, rfl, hv⟩ := hrel
    have HV := Lib.hid hv
    clear hv d1
    by_cases hlt : k < n
    · have hkl : k < l.length := by have := Hn.out; omega
      obtain ⟨a, rfl, hc⟩ := (HRow.out.keepAt HV.out.keep (fun h0 q hq => by have := HLo.out h0 q hq; omega)) k hkl
      obtain ⟨x, hxd⟩ : ∃ x, x = l.getD k 0 := ⟨_, rfl⟩
      have hx64 : Word64 x := by
        rw [hxd]
        have := H64.out _ (List.getElem_mem hkl)
        simpa [hkl] using this
      rw [← hxd] at hc
      have hsp := enums_split l k hkl
      rw [← hxd] at hsp
      have hg := HGt.out (w0.heap.size + 1 + 1) p X Nb cb (8 * k) wr HNb.out HV.out.cur (HBy.out.keepPos HV.out.keep (fun h0 q hq => by have := HLb.out h0 q hq; omega)) HO.out (fun h0 q hq => by have := HLb.out h0 q hq; omega) (by have := HXL.out; have := HNb.out; omega) hcb hcb'
      have hvg : eget (X.drop (8 * k)) = ⟨0, 8, textW x⟩ := by rw [HX.out, hsp]; exact eget_digits hx64 _
      rw [hvg] at hg
      have HG := Lib.hid hg
      have HS := Lib.hid (fun w => same_law (textW x) x w)
      rw [text_text, beq_self_eq_true] at HS
      have hr0 := HV.out.right.cell 0 rfl
      simp only [List.getElem_toArray, List.getElem_cons_zero] at hr0
      obtain ⟨t, ht⟩ : ∃ t, t = textW x := ⟨_, rfl⟩
      rw [← ht] at HG HS
      clear hg hvg hsp hxd hx64 hkl ht
      go_wp2_with fail
      refine HG.out.mono ?_
      rintro e w1 ⟨hk1, ⟨_, rfl, hcur⟩ | ⟨hne, _⟩⟩
      · have hR1 := HV.out.right.keep hk1 (by unfold Just; omega)
        have f0 := hR1.free 0
        have r0 := hR1.cell 0 rfl
        simp only [List.getElem_toArray, List.getElem_cons_zero] at r0
        have HV2 := Lib.hid (show VLoop w0 W RB p Nb cb (8 * (k + 1)) (w1.setCell ⟨RB, 0, none⟩ (.bool true)) from ⟨by rw [show 8 * (k + 1) = 8 * k + 8 by omega]; exact Whole.setOther hcur (by simp; omega) _, (HV.out.keep.trans (hk1.wider (fun i _ h => .inl h))).setIn (.inr rfl) 0 _, hR1.set 0 _⟩)
        clear hk1 hcur hR1 HG hr0
        go_wp2_with fail
        refine (HS.out _).mono ?_
        rintro e w9 ⟨rfl, rfl⟩
        go_wp2_with fail
        go_roundw
        case rel => exact ⟨k + 1, by omega, by go_num, HV2.out⟩
        case measure => simp [intOf]; omega
      · exact absurd rfl hne
    · obtain rfl : k = n := by omega
      have hcur : CurB wr (w0.heap.size + 1 + 1) p Nb cb Nb true 0 := by
        have := HV.out.cur
        rw [← HXL.out, ← HNb.out] at this
        exact this
      have HC := Lib.hid hcur
      clear hcur
      go_wp2_with fail
      refine (end_here _ _ HC.out (by omega)).mono ?_
      rintro e w2 ⟨rfl, m, rfl⟩
      go_wp2_with fail
      go_returns
      have hk2 : Keeps (fun i => i = w0.heap.size + 1 + 1 ∨ i = RB) W (wr.drewN m) := HV.out.keep.drewN m
      refine ⟨.inl rfl, ⟨HB.out.at_.keep hk2 (by omega), HB.out.why.keep hk2 (by omega), HC.out, HB.out.var.keep hk2 (by omega)⟩, (HK.out.wider (S' := Just RB) (fun _ _ h => h.elim)).then hk2 (fun i hi h => by unfold Just; omega), HV.out.right⟩

/-- What was got. -/
def egot (t : ER) : Value := .float .f64 (if t.e = 0 then t.x else 0)

set_option maxHeartbeats 1000000 in
theorem eone (H : EdgeOk) (w0 W : World) (D : Nat) (p : Option Addr) (xs : List Int) (N c : Nat) (hx : N = xs.length) (hB : Begun w0 p N c 0 0 W) (hK : Keeps NoBlock w0 W) (hD : Whole W D 22 #[.float .f64 0]) (hDlt : D < w0.heap.size) (hb : Bytes8 W p xs) (ho : Octets xs)
    (hp : 0 < xs.length → ∀ q, p = some q → q.block < w0.heap.size) (hc : N ≤ c) (hc' : c ≤ 9223372036854775807) :
    Calls Try.prog 25 (#[.pointer (some ⟨w0.heap.size + 1 + 1, 0, none⟩)] ++ #[.pointer (some ⟨D, 0, none⟩)]) W (ReadEnds w0 p N c (eget xs).n (eget xs).e (fun w2 => Keeps (Just D) w0 w2 ∧ Whole w2 D 22 #[egot (eget xs)])) := by
  have hg := H.get (w0.heap.size + 1 + 1) p xs N c 0 W hx hB.cur hb ho (fun h0 q hq => by have := hp h0 q hq; omega) (Nat.zero_le _) hc hc'
  rw [List.drop_zero] at hg
  obtain ⟨t, ht⟩ : ∃ t, t = eget xs := ⟨_, rfl⟩
  rw [← ht] at hg ⊢
  have HG := Lib.hid hg; have HB := Lib.hid hB; have HK := Lib.hid hK; have HD := Lib.hid hD; have HT := Lib.hid ht
  clear hg hB hK hD hb ho hp hx hc hc' ht H
  simp only [List.append_toArray, List.nil_append, List.cons_append]
  go_enter Try.func25, Try.ntmps25
  go_wp2_with fail
  refine HG.out.mono ?_
  rintro e w1 ⟨hk, ⟨he, rfl, hcur⟩ | ⟨he, rfl, hcur⟩⟩
  · rw [Nat.zero_add] at hcur
    have hD1 := HD.out.keep hk (by unfold Just; omega)
    have d0 := hD1.cell 0 rfl
    have f0 := hD1.free 0
    simp only [List.getElem_toArray, List.getElem_cons_zero] at d0
    have HB1 := Lib.hid ((HB.out.keep hk hcur).store hDlt (.float .f64 t.x))
    have HR := Lib.hid (show Keeps (Just D) w0 (w1.setCell ⟨D, 0, none⟩ (.float .f64 t.x)) from ((HK.out.wider (S' := Just D) (fun _ _ h => h.elim)).then hk (fun i hi h => by unfold Just at h; omega)).setIn (Just.self D) 0 _)
    have HD2 := Lib.hid (hD1.set 0 (.float .f64 t.x))
    have HE := Lib.hid he
    clear hk hcur hD1 HG he
    go_wp2_with fail
    go_returns
    refine ⟨.inl rfl, by rw [HE.out]; exact HB1.out, HR.out, ?_⟩
    unfold egot
    rw [if_pos HE.out]
    exact HD2.out
  · rw [Nat.zero_add] at hcur
    refine ⟨rfl, .inr (gave_given _), HB.out.keep hk hcur, (HK.out.wider (S' := Just D) (fun _ _ h => h.elim)).then hk (fun i hi h => by unfold Just at h; omega), ?_⟩
    unfold egot
    rw [if_neg he]
    exact HD.out.keep hk (by unfold Just; omega)

def EGotIn (D : Nat) (t : ER) (w0 : World) (e : Ending) (w' : World) : Prop :=
  e = .returned (.tuple #[.int .i64 t.n, .int .i64 t.e]) ∧ Whole w' D 22 #[egot t] ∧ Keeps (Just D) w0 w'

/-- A reading of one number, into block D. -/
theorem run_eone (H : EdgeOk) (D : Nat) (p : Option Addr) (xs : List Int) (N c : Nat) (hx : N = xs.length) (w0 : World) (hD : Whole w0 D 22 #[.float .f64 0]) (hb : Bytes8 w0 p xs) (ho : Octets xs) (hc : N ≤ c) (hc' : c ≤ 9223372036854775807) :
    Calls Try.prog 20 #[.slice p N c, .func (.func 25) #[] #[.pointer (some ⟨D, 0, none⟩)]] w0 (EGotIn D (eget xs) w0) := by
  have hDlt := hD.lt
  refine (run_any _ _ p N c (eget xs).n (eget xs).e _ w0 enterEOne (fun W hB hK _ => eone H w0 W D p xs N c hx hB hK (hD.keep hK (fun h => h)) hDlt (hb.keep hK (fun _ _ h => h)) ho (fun h0 q hq => by
    obtain ⟨a, ha, hcell⟩ := hb h0
    obtain rfl := Option.some.inj (hq.symm.trans ha)
    have := ltOfCell (hcell 0 h0)
    rwa [addBlock] at this) hc hc')).mono ?_
  rintro e w' ⟨rfl, w2, ⟨hR1, hR2⟩, hT⟩
  exact ⟨rfl, hR2.keep hT.2.2.2.2 (by omega), hR1.then hT.2.2.2.2 (fun i hi h => by unfold Just; omega)⟩
end Go.Proofs.Ytillkgbnokkacaa

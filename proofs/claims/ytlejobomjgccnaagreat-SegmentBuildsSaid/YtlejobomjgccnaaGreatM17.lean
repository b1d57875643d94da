/-
  FtLaws; SgLaws; SgSt; SgPaNum; Rows1; SgBaNum.
-/
import Derived.Deep.AppendLies
import Derived.Test.YtlejobomjgccnaaGreatM03
import Derived.Test.YtlejobomjgccnaaGreatM05
import Derived.Test.YtlejobomjgccnaaGreatM07
import Derived.Test.YtlejobomjgccnaaGreatM08
import Derived.Test.YtlejobomjgccnaaGreatM11
import Derived.Test.YtlejobomjgccnaaGreatM15
import Derived.Test.YtlejobomjgccnaaGreatM16
namespace Go.Proofs.YtlejobomjgccnaaGreat
open Go.RowKit

/-- A row of numbers of 32 bits that can be read. -/
def Row32 (w : World) (p : Option Addr) (l : List Nat) : Prop := ∀ i, i < l.length → ∃ a, p = some a ∧ w.cell? (a.add i) = some (.int .u32 (l.getD i 0 : Nat))
theorem Row32.keep {w w' : World} {p : Option Addr} {l : List Nat} (h : Row32 w p l) {S : Nat → Prop} (hk : Keeps S w w') (hs : ∀ k, k < w.heap.size → ¬ S k) : Row32 w' p l := fun i hi => by
  obtain ⟨a, rfl, hc⟩ := h i hi
  exact ⟨a, rfl, hk.cell hc (hs _ (ltOfCell hc))⟩
/-- A row of numbers of 32 bits of new memory. -/
def NewRow32 (w : World) (l : List Nat) (v : Value) (w' : World) : Prop :=
  ∃ (q : Option Addr) (m d : Nat), v = .slice q m d ∧ m = l.length ∧ m ≤ d ∧ d ≤ 9223372036854775807 ∧ (q = none → m = 0 ∧ d = 0) ∧ Row32 w' q l ∧ Keeps NoBlock w w'

structure FtPutOk : Prop where
  put : ∀ (u : Nat) (q : Option Addr) (n c : Nat) (l : List En) (w : World), u < 4294967296 → InE w q n c l → n ≤ 10000 →
    Calls Tryz.prog 67 #[ftV u q n c] w fun e w' => ∃ v, e = .returned (.tuple #[v, .int .i64 (checkFt ⟨u, l⟩)]) ∧ NewBytes w (putFt ⟨u, l⟩) v w'
end Go.Proofs.YtlejobomjgccnaaGreat

namespace Go.Proofs.YtlejobomjgccnaaGreat
open Go.RowKit

/-- Bytes of one's own, whose block may go on behind what they may grow to. -/
def OwnP (w : World) (base : Nat) (u : Value) (n : Nat) (xs : List Value) : Prop :=
  xs.length = n ∧ ((u = .slice none 0 0 ∧ n = 0) ∨ ∃ g cap cur, u = .slice (some ⟨g, 0, none⟩) n cap ∧ base ≤ g ∧ w.heap[g]? = some (.cells cur 5 (0, 0)) ∧ n ≤ cap ∧ cap ≤ maxLen ∧ cap ≤ cur.size ∧ cur.toList.take n = xs)
theorem OwnP.ofRow {w : World} {base n : Nat} {u : Value} {xs : List Value} (h : w.ownsRow base 5 1 u n xs) : OwnP w base u n xs := by
  obtain ⟨hl, hn | ⟨g, cap, cur, rfl, hg, hh, hc1, hc2, hc3, hc4⟩⟩ := h
  · exact ⟨by omega, .inl hn⟩
  · exact ⟨by omega, .inr ⟨g, cap, cur, rfl, hg, hh, hc1, hc2, by omega, by rw [Nat.mul_one] at hc4; exact hc4⟩⟩
theorem OwnP.kept {w w' : World} {base n : Nat} {u : Value} {xs : List Value} (h : OwnP w base u n xs) (hb : ∀ k, u.ownBlock = some k → w'.heap[k]? = w.heap[k]?) : OwnP w' base u n xs := by
  refine ⟨h.1, ?_⟩
  rcases h.2 with hn | ⟨g, cap, cur, rfl, hg, hh, rest⟩
  · exact .inl hn
  · exact .inr ⟨g, cap, cur, rfl, hg, (hb g rfl).trans hh, rest⟩
theorem OwnP.base {w : World} {b1 b2 n : Nat} {u : Value} {xs : List Value} (h : OwnP w b1 u n xs) (hb : b2 ≤ b1) : OwnP w b2 u n xs := by
  refine ⟨h.1, ?_⟩
  rcases h.2 with hn | ⟨g, cap, cur, rfl, hg, rest⟩
  · exact .inl hn
  · exact .inr ⟨g, cap, cur, rfl, Nat.le_trans hb hg, rest⟩
theorem OwnP.lt {w : World} {base n : Nat} {u : Value} {xs : List Value} (h : OwnP w base u n xs) (k : Nat) (hk : u.ownBlock = some k) : base ≤ k ∧ k < w.heap.size := by
  rcases h.2 with ⟨rfl, _⟩ | ⟨g, cap, cur, rfl, hg, hh, rest⟩
  · simp [Value.ownBlock] at hk
  · have : g = k := by simpa [Value.ownBlock] using hk
    subst this
    exact ⟨hg, lt_of_block hh⟩
/-- .. their block seen. -/
theorem OwnP.whole {w : World} {base N : Nat} {u : Value} {ys : List Int} (h : OwnP w base u N (ys.map (Value.int .u8))) (hN : N = ys.length) (h0 : 0 < N) :
    ∃ g d cur, u = .slice (some ⟨g, 0, none⟩) N d ∧ N ≤ d ∧ d ≤ 9223372036854775807 ∧ base ≤ g ∧ Whole w g 5 cur ∧ ∀ i, i < N → cur[i]? = some (.int .u8 (ys.getD i 0)) := by
  obtain ⟨_, ⟨rfl, h1⟩ | ⟨g, cap, cur, rfl, hg, hh, hc1, hc2, hc3, hc4⟩⟩ := h
  · omega
  · unfold maxLen at hc2
    refine ⟨g, cap, cur, rfl, hc1, by omega, hg, hh, fun i hi => ?_⟩
    have e : (cur.toList.take N)[i]? = (ys.map (Value.int .u8))[i]? := by rw [hc4]
    rw [List.getElem?_take, if_pos (by omega)] at e
    rw [← Array.getElem?_toList, e]
    have : i < ys.length := by omega
    simp [this]
/-- New bytes of one's own. -/
def OwnB (w : World) (ys : List Int) (u : Value) (w' : World) : Prop := OwnP w' w.heap.size u ys.length (ys.map (Value.int .u8))
theorem OwnB.read {w w' : World} {ys : List Int} {u : Value} (h : OwnB w ys u w') : ∃ q d, u = .slice q ys.length d ∧ ys.length ≤ d ∧ d ≤ 9223372036854775807 ∧ Bytes8 w' q ys ∧ (q = none → ys.length = 0 ∧ d = 0) ∧ (∀ a, q = some a → u.ownBlock = some a.block ∧ a = ⟨a.block, 0, none⟩) := by
  obtain ⟨_, ⟨rfl, h0⟩ | ⟨g, cap, cur, rfl, hg, hh, hc1, hc2, hc3, hc4⟩⟩ := h
  · exact ⟨none, 0, by rw [h0], by omega, by decide, fun hx => by omega, fun _ => ⟨h0, rfl⟩, fun a ha => by simp at ha⟩
  · unfold maxLen at hc2
    refine ⟨_, cap, rfl, hc1, by omega, fun hx => ⟨_, rfl, fun i hi => ?_⟩, fun h => by simp at h, fun a ha => by obtain rfl := Option.some.inj ha; exact ⟨rfl, rfl⟩⟩
    have hw : Whole w' g 5 cur := hh
    have hcell : cur[i]? = some (.int .u8 (ys.getD i 0)) := by
      have e : (cur.toList.take ys.length)[i]? = (ys.map (Value.int .u8))[i]? := by rw [hc4]
      rw [List.getElem?_take, if_pos (by omega)] at e
      rw [← Array.getElem?_toList, e]
      simp [hi]
    rw [addZero]
    exact hw.cell i hcell

/-- A builder in memory: which blocks are its own, its config's Exp and Segments, its number, its records. -/
abbrev BAt := World → (Nat → Prop) → Value → Nat → Nat → Nat → List Rec → Prop
structure SgBuild (At : BAt) : Prop where
  keep : ∀ {w w' : World} {F S : Nat → Prop} {v : Value} {e s n : Nat} {l : List Rec}, At w F v e s n l → Keeps S w w' → (∀ k, F k → ¬ S k) → At w' F v e s n l
  old : ∀ {w : World} {F : Nat → Prop} {v : Value} {e s n : Nat} {l : List Rec}, At w F v e s n l → ∀ k, F k → k < w.heap.size
  ptr : ∀ {w : World} {F : Nat → Prop} {v : Value} {e s n : Nat} {l : List Rec}, At w F v e s n l → ∃ g, v = .pointer (some ⟨g, 0, none⟩)
/-- Behind a call the builder is there, in what was its own and in new memory. -/
def SgSame (At : BAt) (F : Nat → Prop) (w : World) (v : Value) (e s n : Nat) (l : List Rec) (w' : World) : Prop :=
  Keeps F w w' ∧ ∃ F' : Nat → Prop, (∀ k, F' k → F k ∨ w.heap.size ≤ k) ∧ At w' F' v e s n l
/-- .. and new bytes that are none of its own. -/
def SgGives (At : BAt) (F : Nat → Prop) (w : World) (v : Value) (e s n : Nat) (l : List Rec) (ys : List Int) (u : Value) (w' : World) : Prop :=
  Keeps F w w' ∧ OwnB w ys u w' ∧ ∃ F' : Nat → Prop, (∀ k, F' k → F k ∨ w.heap.size ≤ k) ∧ At w' F' v e s n l ∧ ∀ k, F' k → u.ownBlock ≠ some k
def sgRoom (e s n : Nat) (l : List Rec) : Rm := ⟨e, s, n, (outS e s n l).length, l.length⟩
/-- What Add answers. -/
def addE (e s n : Nat) (l : List Rec) (r : Rec) : Int :=
  if checkR r ≠ 0 then checkR r else if fitsP (emptyP e s (s - 1)) ((recB r).length : Int) = false then 6 else if fitsP (sgRoom e s n l) ((recB r).length : Int) = false then 7 else 0
def addL (e s n : Nat) (l : List Rec) (r : Rec) : List Rec := if addE e s n l r = 0 then l ++ [r] else l
def addAt (e s n : Nat) (l : List Rec) (r : Rec) : Nat := if addE e s n l r = 0 then (outS e s n l).length else 0

structure SgNewOk (At : BAt) : Prop where
  may : ∀ (e s n : Nat) (w : World), e < 256 → s < 4294967296 → n < 4294967296 → mayHead e s n = true →
    Calls Tryz.prog 9 #[confV e s, .int .u32 (n : Int)] w fun r w' => Keeps NoBlock w w' ∧ ∃ F v, r = .returned (.tuple #[v, .int .i64 0]) ∧ At w' F v e s n [] ∧ ∀ k, F k → w.heap.size ≤ k
  not : ∀ (e s n : Nat) (w : World), e < 256 → s < 4294967296 → n < 4294967296 → mayHead e s n = false →
    Calls Tryz.prog 9 #[confV e s, .int .u32 (n : Int)] w fun r w' => r = .returned (.tuple #[.pointer none, .int .i64 1]) ∧ Keeps NoBlock w w'
structure SgAddOk (At : BAt) : Prop where
  add : ∀ (F : Nat → Prop) (v : Value) (e s n : Nat) (l : List Rec) (r : Rec) (w : World), At w F v e s n l → InRoom (sgRoom e s n l) l → l.length < 1000 → (∀ x ∈ l, x.Fine ∧ checkR x = 0) → r.Fine → r.key.length ≤ 100000 → r.val.length ≤ 100000 →
    Calls Tryz.prog 12 #[v, recV r] w fun x w' => x = .returned (.tuple #[.int .u32 (addAt e s n l r : Int), .int .i64 (addE e s n l r)]) ∧ SgSame At F w v e s n (addL e s n l r) w'
structure SgRoomOk (At : BAt) : Prop where
  room : ∀ (F : Nat → Prop) (v : Value) (e s n : Nat) (l : List Rec) (w : World), At w F v e s n l → InRoom (sgRoom e s n l) l → l.length < 1000 → (∀ x ∈ l, x.Fine ∧ checkR x = 0) →
    Calls Tryz.prog 17 #[v] w fun x w' => x = .returned (roomV (sgRoom e s n l)) ∧ SgSame At F w v e s n l w'
structure SgFramesOk (At : BAt) : Prop where
  frames : ∀ (F : Nat → Prop) (v : Value) (e s n : Nat) (l : List Rec) (w : World), At w F v e s n l → InRoom (sgRoom e s n l) l → l.length < 1000 → (∀ x ∈ l, x.Fine ∧ checkR x = 0) →
    Calls Tryz.prog 20 #[v] w fun x w' => ∃ u, x = .returned u ∧ SgGives At F w v e s n l (outS e s n l) u w'
structure SgOpenOk (At : BAt) : Prop where
  open_ : ∀ (F : Nat → Prop) (v : Value) (e s n : Nat) (l : List Rec) (w : World), At w F v e s n l → InRoom (sgRoom e s n l) l → l.length < 1000 → (∀ x ∈ l, x.Fine ∧ checkR x = 0) →
    Calls Tryz.prog 21 #[v] w fun x w' => ∃ u, x = .returned u ∧ SgGives At F w v e s n l (textS e s n l false) u w'
structure SgSealOk (At : BAt) : Prop where
  seals : ∀ (F : Nat → Prop) (v : Value) (e s n : Nat) (l : List Rec) (w : World), At w F v e s n l → InRoom (sgRoom e s n l) l → l.length < 1000 → (∀ x ∈ l, x.Fine ∧ checkR x = 0) → 0 < l.length →
    Calls Tryz.prog 19 #[v] w fun x w' => ∃ u, x = .returned (.tuple #[u, .int .i64 0]) ∧ SgGives At F w v e s n l (textS e s n l true) u w'
  none : ∀ (F : Nat → Prop) (v : Value) (e s n : Nat) (w : World), At w F v e s n [] → InRoom (sgRoom e s n []) [] →
    Calls Tryz.prog 19 #[v] w fun x w' => ∃ q d, x = .returned (.tuple #[.slice q 0 d, .int .i64 10]) ∧ SgSame At F w v e s n [] w'

def noView : Value := .agg #[.slice none 0 0, .slice none 0 0, .int .u32 0, .bool false]
def placesS (e s n : Nat) (l : List Rec) : List Nat := (entsS e s n l).map En.at_
/-- What Parse answers. -/
def ViewPost (e s n : Nat) (ys : List Int) (w : World) (r : Ending) (w' : World) : Prop :=
  (mayHead e s n = false ∧ r = .returned (.tuple #[noView, .int .i64 1]) ∧ Keeps NoBlock w w') ∨
  (mayHead e s n = true ∧ parseS e s n ys = none ∧ r = .returned (.tuple #[noView, .int .i64 4]) ∧ Keeps NoBlock w w') ∨
  (mayHead e s n = true ∧ ∃ l b vr va, parseS e s n ys = some (l, b) ∧ r = .returned (.tuple #[.agg #[vr, va, .int .u32 ((outS e s n l).length : Int), .bool b], .int .i64 0]) ∧ NewRecs w l vr w' ∧ NewRow32 w (placesS e s n l) va w' ∧ ∀ k, vr.ownBlock = some k ∨ va.ownBlock = some k → w.heap.size ≤ k)
structure SgParseOk : Prop where
  parse : ∀ (e s n : Nat) (p : Option Addr) (N c : Nat) (ys : List Int) (w : World), In8 w p N c ys → N ≤ 100000 → N ≤ 2 ^ e → e < 256 → s < 4294967296 → n < 4294967296 →
    Calls Tryz.prog 23 #[confV e s, .int .u32 (n : Int), .slice p N c] w (ViewPost e s n ys w)

/-- A small config out of a number. -/
def smallE (k : Nat) : Nat := 12 + k % 2
def smallS (k : Nat) : Nat := 1 + k / 2 % 8
set_option maxHeartbeats 1000000 in
theorem small15_go (k : Nat) (hk : k < 256) (w : World) : Calls Tryz.prog 8 #[.int .u8 (k : Int)] w fun r w' => r = .returned (confV (smallE k) (smallS k)) ∧ Keeps NoBlock w w' := by
  have e1 : (12 : Int) + (k : Int) % 2 = ((12 + k % 2 : Nat) : Int) := by omega
  have e2 : (1 : Int) + (k : Int) / 2 % 8 = ((1 + k / 2 % 8 : Nat) : Int) := by omega
  have E1 := Lib.hid e1
  have E2 := Lib.hid e2
  clear e1 e2
  have HK := Lib.hid ((Keeps.refl NoBlock w).alloc (.cells #[.int .u8 (smallE k : Int), .int .u32 (smallS k : Int)] 27))
  unfold smallE smallS confV at *
  go_enter Tryz.func8, Tryz.ntmps8
  go_wp2_with fail
  rw [E1.out, E2.out]
  exact bodyPost_ret (v := .agg #[.int .u8 ((12 + k % 2 : Nat) : Int), .int .u32 ((1 + k / 2 % 8 : Nat) : Int)]) (by simp only [results, Tryz.results8]; simp [go_sem]) rfl ⟨rfl, HK.out⟩

theorem sgRoom_nil (e s n : Nat) : sgRoom e s n [] = emptyP e s n := by
  unfold sgRoom
  rw [outS_nil]
  rfl
theorem sgRoom_empty {e s n : Nat} (h : mayHead e s n = true) : InRoom (sgRoom e s n []) [] := by
  rw [sgRoom_nil]
  exact inRoom_empty h
theorem small_room (k : Nat) : 12 ≤ smallE k ∧ smallE k ≤ 13 ∧ 1 ≤ smallS k ∧ smallS k ≤ 8 := by
  unfold smallE smallS
  omega

theorem lives_text : (textS 12 1 0 [] false).length = 4096 ∧ (textS 12 1 0 [] false).getD 14 0 = 0 ∧ (textS 12 1 0 [] false).getD 15 0 = 255 ∧ (textS 12 1 0 [] false).getD 4095 0 = 255 := by
  have hm : mayHead 12 1 0 = true := by decide
  have hr := inRoom_empty hm
  have h1 : (textS 12 1 0 [] false).length = 4096 := text_length hr false (fun h => by simp at h)
  have hh : (sealN (headB 12 1 0)).length = 15 := by
    have := headLen_eq 12 1 0 (by decide) (by decide)
    unfold headLen at this
    rw [this]
    decide +kernel
  have hd : textS 12 1 0 [] false = sealN (headB 12 1 0) ++ List.replicate (4096 - 15) 255 := by
    unfold textS framesS
    rw [if_neg (by simp), List.append_nil, outS_nil, hh]
  refine ⟨h1, ?_, ?_, ?_⟩
  · rw [hd, List.getD_eq_getElem?_getD, List.getElem?_append_left (by omega)]
    have := (seal_nought (headB_octets (e := 12) (s := 1) (n := 0) (by decide)) (i := 14) (by omega)).1
    rw [hh] at this
    rw [← List.getD_eq_getElem?_getD]
    simpa using this
  · rw [hd, List.getD_eq_getElem?_getD, List.getElem?_append_right (by omega), hh]
    rfl
  · rw [hd, List.getD_eq_getElem?_getD, List.getElem?_append_right (by omega), hh]
    rw [List.getElem?_replicate]
    rfl

set_option maxHeartbeats 2000000 in
set_option maxRecDepth 10000 in
theorem lives15_true {At : BAt} (HB : SgBuild At) (HNw : SgNewOk At) (HOp : SgOpenOk At) (w : World) : Calls Tryz.prog 6 #[] w fun e w' => e = .returned (.bool true) ∧ Keeps NoBlock w w' := by
  have hm : mayHead 12 1 0 = true := by decide
  have HN := Lib.hid (fun w => HNw.may 12 1 0 w (by decide) (by decide) (by decide) hm)
  have HO := Lib.hid (fun F v w h => HOp.open_ F v 12 1 0 [] w h (sgRoom_empty hm) (by decide) (fun x hx => by simp at hx))
  have HPt := Lib.hid (fun F v w h => HB.ptr (w := w) (F := F) (v := v) (e := 12) (s := 1) (n := 0) (l := []) h)
  obtain ⟨t1, t2, t3, t4⟩ := lives_text
  obtain ⟨T, hT⟩ : ∃ T, T = textS 12 1 0 [] false := ⟨_, rfl⟩
  rw [← hT] at HO t1 t2 t3 t4
  clear hT HB HNw HOp hm
  unfold confV at HN
  go_enter Tryz.func6, Tryz.ntmps6
  go_wp2_with fail
  refine (HN.out _).mono ?_
  rintro e1 w1 ⟨hk, F, v, rfl, hat, hF⟩
  have HK := Lib.hid hk
  have HA := Lib.hid hat
  have HF := Lib.hid hF
  obtain ⟨g, rfl⟩ := HPt.out _ _ _ hat
  clear hk hat hF
  go_wp2_with fail
  refine (HO.out _ _ _ HA.out).mono ?_
  rintro e2 w2 ⟨u, rfl, hk, hown, _⟩
  obtain ⟨q, d, rfl, h1, h2, h8, _, hq⟩ := hown.read
  have HK2 := Lib.hid (HK.out.then hk (fun k hk9 hf => by have := HF.out k hf; omega))
  obtain ⟨a, rfl, hc⟩ := h8 (by omega)
  have c14 := hc 14 (by omega)
  have c15 := hc 15 (by omega)
  have c95 := hc 4095 (by omega)
  rw [t2] at c14
  rw [t3] at c15
  rw [t4] at c95
  obtain ⟨_, ha⟩ := hq a rfl
  rw [ha] at c14 c15 c95 ⊢
  simp only [Addr.add_lit, Nat.zero_add] at c14 c15 c95
  rw [t1]
  rw [t1] at h1
  clear hk hown h8 hc hq ha HO t1 t2 t3 t4
  go_wp2_with fail
  go_ret
  exact ⟨rfl, HK2.out⟩
end Go.Proofs.YtlejobomjgccnaaGreat

namespace Go.Proofs.YtlejobomjgccnaaGreat
open Go.RowKit

/-- What a builder has behind a call is its own already, or new. -/
def SubF (F' F : Nat → Prop) (w : World) : Prop := ∀ k, F' k → F k ∨ w.heap.size ≤ k
structure BSt (At : BAt) (w0 wr : World) (F : Nat → Prop) (v : Value) (e s n : Nat) (l : List Rec) : Prop where
  at_ : At wr F v e s n l
  new : ∀ k, F k → w0.heap.size ≤ k
  kept : Keeps NoBlock w0 wr
theorem BSt.keep {At : BAt} (HB : SgBuild At) {w0 wr w' : World} {F : Nat → Prop} {v : Value} {e s n : Nat} {l : List Rec} (h : BSt At w0 wr F v e s n l) (hk : Keeps NoBlock wr w') : BSt At w0 w' F v e s n l :=
  ⟨HB.keep h.at_ hk (fun _ _ h => h), h.new, h.kept.trans hk⟩
theorem BSt.call {At : BAt} {w0 wr w' : World} {F : Nat → Prop} {v : Value} {e s n : Nat} {l l2 : List Rec} (h : BSt At w0 wr F v e s n l) (hs : SgSame At F wr v e s n l2 w') : Keeps F wr w' ∧ ∃ F', SubF F' F wr ∧ BSt At w0 w' F' v e s n l2 := by
  obtain ⟨hk, F', h1, h2⟩ := hs
  exact ⟨hk, F', h1, h2, fun k hk' => (h1 k hk').elim (h.new k) (fun h3 => Nat.le_trans h.kept.size h3), h.kept.then hk (fun k _ hf => by have := h.new k hf; omega)⟩
theorem BSt.gives {At : BAt} {w0 wr w' : World} {F : Nat → Prop} {v u : Value} {e s n : Nat} {l : List Rec} {ys : List Int} (h : BSt At w0 wr F v e s n l) (hs : SgGives At F wr v e s n l ys u w') :
    Keeps F wr w' ∧ OwnB wr ys u w' ∧ ∃ F', SubF F' F wr ∧ BSt At w0 w' F' v e s n l ∧ ∀ k, F' k → u.ownBlock ≠ some k := by
  obtain ⟨hk, ho, F', h1, h2, h3⟩ := hs
  exact ⟨hk, ho, F', h1, ⟨h2, fun k hk' => (h1 k hk').elim (h.new k) (fun h3 => Nat.le_trans h.kept.size h3), h.kept.then hk (fun k _ hf => by have := h.new k hf; omega)⟩, h3⟩
theorem keepsOfGrown {w w' : World} {row : Option Nat} (hg : w.grownBy w' row) : Keeps (fun k => row = some k) w w' :=
  (Keeps.refl _ w).grown hg (fun _ hk => .inl hk)
theorem BSt.grown {At : BAt} (HB : SgBuild At) {w0 wr w' : World} {F : Nat → Prop} {v hv : Value} {e s n : Nat} {l : List Rec} (h : BSt At w0 wr F v e s n l) (hg : wr.grownBy w' hv.ownBlock) (hf : ∀ k, F k → hv.ownBlock ≠ some k) (hb : ∀ k, hv.ownBlock = some k → w0.heap.size ≤ k) : BSt At w0 w' F v e s n l :=
  ⟨HB.keep h.at_ (keepsOfGrown hg) hf, h.new, h.kept.then (keepsOfGrown hg) (fun k _ hr => by have := hb k hr; omega)⟩

/-- A row of one's own that the builder doesn't touch. -/
def OwnR (w0 : World) (F : Nat → Prop) (t : TypeId) (size : Nat) (hv : Value) (n : Nat) (xs : List Value) (wr : World) : Prop := wr.ownsRow w0.heap.size t size hv n xs ∧ ∀ k, F k → hv.ownBlock ≠ some k
theorem OwnR.start (w0 : World) (F : Nat → Prop) (t : TypeId) (size : Nat) (wr : World) : OwnR w0 F t size (.slice none 0 0) 0 [] wr := ⟨World.ownsRow_nil _ _ _ _, fun k _ h => by simp [Value.ownBlock] at h⟩
theorem ownBlocks {w w' : World} {base size n : Nat} {t : TypeId} {v : Value} {xs : List Value} (h : w.ownsRow base t size v n xs) (hb : ∀ k, v.ownBlock = some k → w'.heap[k]? = w.heap[k]?) : w'.ownsRow base t size v n xs := by
  refine ⟨h.1, ?_⟩
  rcases h.2 with hn | ⟨g, cap, cur, rfl, hg, hh, rest⟩
  · exact .inl hn
  · exact .inr ⟨g, cap, cur, rfl, hg, (hb g rfl).trans hh, rest⟩
theorem OwnR.keep {w0 wr w' : World} {F : Nat → Prop} {t : TypeId} {size n : Nat} {hv : Value} {xs : List Value} (h : OwnR w0 F t size hv n xs wr) (hk : Keeps NoBlock wr w') : OwnR w0 F t size hv n xs w' :=
  ⟨ownBlocks h.1 (fun k hk' => hk.block k (h.1.lt k hk').2 (fun h => h)), h.2⟩
theorem OwnR.call {w0 wr w' : World} {F F' : Nat → Prop} {t : TypeId} {size n : Nat} {hv : Value} {xs : List Value} (h : OwnR w0 F t size hv n xs wr) (hk : Keeps F wr w') (hs : SubF F' F wr) : OwnR w0 F' t size hv n xs w' :=
  ⟨ownBlocks h.1 (fun k hk' => hk.block k (h.1.lt k hk').2 (fun hf => h.2 k hf hk')), fun k hf he => (hs k hf).elim (fun h1 => h.2 k h1 he) (fun h1 => by have := (h.1.lt k he).2; omega)⟩
theorem OwnR.grown {w0 wr w' : World} {F : Nat → Prop} {t : TypeId} {size n : Nat} {hv ov : Value} {xs : List Value} (h : OwnR w0 F t size hv n xs wr) (hg : wr.grownBy w' ov.ownBlock) (ho : ∀ k, hv.ownBlock = some k → ov.ownBlock ≠ some k) : OwnR w0 F t size hv n xs w' :=
  ⟨ownBlocks h.1 (fun k hk' => hg.block k (h.1.lt k hk').2 (fun e => ho k hk' e.symm)), h.2⟩
theorem OwnR.added {w0 wr w' : World} {F : Nat → Prop} {t : TypeId} {size n m g cap : Nat} {hv : Value} {xs xs' : List Value} (h : OwnR w0 F t size hv n xs wr) (hF : ∀ k, F k → k < wr.heap.size) (hr : w'.ownsRow w0.heap.size t size (.slice (some ⟨g, 0, none⟩) m cap) m xs') (hg : hv.ownBlock = some g ∨ g = wr.heap.size) :
    OwnR w0 F t size (.slice (some ⟨g, 0, none⟩) m cap) m xs' w' :=
  ⟨hr, fun k hf e => by
    have e' : g = k := by simpa [Value.ownBlock] using e
    subst e'
    rcases hg with h1 | h1
    · exact h.2 _ hf h1
    · have := hF _ hf; omega⟩
theorem OwnR.from_ {w0 wr : World} {F : Nat → Prop} {t : TypeId} {size n : Nat} {hv : Value} {xs : List Value} (h : OwnR w0 F t size hv n xs wr) : ∀ k, hv.ownBlock = some k → w0.heap.size ≤ k := fun k hk => (h.1.lt k hk).1
/-- Bytes of one's own, whose block may go on, that the builder doesn't touch. -/
def OwnG (w0 : World) (F : Nat → Prop) (hv : Value) (n : Nat) (xs : List Value) (wr : World) : Prop := OwnP wr w0.heap.size hv n xs ∧ ∀ k, F k → hv.ownBlock ≠ some k
theorem OwnG.keep {w0 wr w' : World} {F : Nat → Prop} {n : Nat} {hv : Value} {xs : List Value} (h : OwnG w0 F hv n xs wr) (hk : Keeps NoBlock wr w') : OwnG w0 F hv n xs w' :=
  ⟨h.1.kept (fun k hk' => hk.block k (h.1.lt k hk').2 (fun h => h)), h.2⟩
theorem OwnG.call {w0 wr w' : World} {F F' : Nat → Prop} {n : Nat} {hv : Value} {xs : List Value} (h : OwnG w0 F hv n xs wr) (hk : Keeps F wr w') (hs : SubF F' F wr) : OwnG w0 F' hv n xs w' :=
  ⟨h.1.kept (fun k hk' => hk.block k (h.1.lt k hk').2 (fun hf => h.2 k hf hk')), fun k hf he => (hs k hf).elim (fun h1 => h.2 k h1 he) (fun h1 => by have := (h.1.lt k he).2; omega)⟩
/-- The bytes that a builder gave out, beside it. -/
theorem OwnG.given {w0 wr w' : World} {F' : Nat → Prop} {u : Value} {ys : List Int} (h : OwnB wr ys u w') (hk : w0.heap.size ≤ wr.heap.size) (hf : ∀ k, F' k → u.ownBlock ≠ some k) : OwnG w0 F' u ys.length (ys.map (Value.int .u8)) w' := ⟨h.base hk, hf⟩
theorem rows_apartP {w : World} {b1 b2 s1 n1 n2 : Nat} {t1 : TypeId} {v1 v2 : Value} {x1 x2 : List Value} (ht : t1 ≠ 5) (h1 : w.ownsRow b1 t1 s1 v1 n1 x1) (h2 : OwnP w b2 v2 n2 x2) : ∀ k, v1.ownBlock = some k → v2.ownBlock ≠ some k := fun k e1 e2 => by
  rcases h1.2 with ⟨rfl, _⟩ | ⟨g, cap, cur, rfl, _, hh, _⟩
  · simp [Value.ownBlock] at e1
  · rcases h2.2 with ⟨rfl, _⟩ | ⟨g', cap', cur', rfl, _, hh', _⟩
    · simp [Value.ownBlock] at e2
    · have a1 : g = k := by simpa [Value.ownBlock] using e1
      have a2 : g' = k := by simpa [Value.ownBlock] using e2
      subst a1
      subst a2
      rw [hh] at hh'
      simp at hh'
      exact ht hh'.2

/-- Rows of unlike types are apart. -/
theorem rows_apart {w : World} {b1 b2 s1 s2 n1 n2 : Nat} {t1 t2 : TypeId} {v1 v2 : Value} {x1 x2 : List Value} (ht : t1 ≠ t2) (h1 : w.ownsRow b1 t1 s1 v1 n1 x1) (h2 : w.ownsRow b2 t2 s2 v2 n2 x2) : ∀ k, v1.ownBlock = some k → v2.ownBlock ≠ some k := fun k e1 e2 => by
  rcases h1.2 with ⟨rfl, _⟩ | ⟨g, cap, cur, rfl, _, hh, _⟩
  · simp [Value.ownBlock] at e1
  · rcases h2.2 with ⟨rfl, _⟩ | ⟨g', cap', cur', rfl, _, hh', _⟩
    · simp [Value.ownBlock] at e2
    · have a1 : g = k := by simpa [Value.ownBlock] using e1
      have a2 : g' = k := by simpa [Value.ownBlock] using e2
      subst a1
      subst a2
      rw [hh] at hh'
      simp at hh'
      exact ht hh'.2

theorem addL_none {e s n : Nat} {l : List Rec} {r : Rec} (h : addE e s n l r ≠ 0) : addL e s n l r = l := by unfold addL; rw [if_neg h]
theorem addL_some {e s n : Nat} {l : List Rec} {r : Rec} (h : addE e s n l r = 0) : addL e s n l r = l ++ [r] := by unfold addL; rw [if_pos h]
theorem addE_zero {e s n : Nat} {l : List Rec} {r : Rec} (h : addE e s n l r = 0) : checkR r = 0 ∧ fitsP (sgRoom e s n l) ((recB r).length : Int) = true := by
  unfold addE at h
  split at h
  · rename_i h1
    exact absurd h h1
  · rename_i h1
    split at h
    · simp at h
    · split at h
      · simp at h
      · rename_i h2 h3
        exact ⟨by simpa using h1, by simpa using h3⟩
theorem sgRoom_take (e s n : Nat) (l : List Rec) (r : Rec) : sgRoom e s n (l ++ [r]) = takeP (sgRoom e s n l) ((recB r).length : Int) := by
  unfold sgRoom takeP
  rw [outS_snoc, List.length_append, List.length_append, Int.toNat_natCast]
  rfl
/-- The records that a builder has accepted so far. -/
def accS (e s n : Nat) (l : List Rec) : List Rec := l.foldl (addL e s n) []
structure AccOk (e s n : Nat) (m : Nat) (l : List Rec) : Prop where
  room : InRoom (sgRoom e s n l) l
  fine : ∀ x ∈ l, x.Fine ∧ checkR x = 0
  few : l.length ≤ m
theorem AccOk.start {e s n : Nat} (h : mayHead e s n = true) : AccOk e s n 0 [] := ⟨sgRoom_empty h, fun x hx => by simp at hx, Nat.le_refl _⟩
theorem AccOk.step {e s n m : Nat} {l : List Rec} (h : AccOk e s n m l) (hm : m < 10000) {r : Rec} (hr : r.Fine) : AccOk e s n (m + 1) (addL e s n l r) := by
  by_cases h0 : addE e s n l r = 0
  · rw [addL_some h0]
    obtain ⟨h1, h2⟩ := addE_zero h0
    have hf := h.few
    refine ⟨by rw [sgRoom_take]; exact inRoom_take h.room h2 (by show l.length < 10000; omega), fun x hx => ?_, by rw [List.length_append]; simp; omega⟩
    rcases List.mem_append.1 hx with hx | hx
    · exact h.fine x hx
    · obtain rfl := List.mem_singleton.1 hx
      exact ⟨hr, h1⟩
  · rw [addL_none h0]
    exact ⟨h.room, h.fine, by have := h.few; omega⟩
theorem accS_step {e s n : Nat} {l : List Rec} {j : Nat} (hj : j < l.length) : accS e s n (l.take (j + 1)) = addL e s n (accS e s n (l.take j)) (l.getD j Rec.none) := by
  unfold accS
  rw [List.take_succ_eq_append_getElem hj, List.foldl_append]
  simp [hj]
theorem places_snoc (e s n : Nat) (l : List Rec) (r : Rec) : placesS e s n (l ++ [r]) = placesS e s n l ++ [(outS e s n l).length] := by
  unfold placesS
  rw [entsS_snoc, List.map_append]
  rfl
end Go.Proofs.YtlejobomjgccnaaGreat

namespace Go.Proofs.YtlejobomjgccnaaGreat
open Go.RowKit

theorem scan_runs : ∀ (k : Nat) {ys : List Int} (_ : Octets ys) {i : Nat} {z : Int} {l : List Rec}, ScanSt ys i z l → ys.length - i = k → (∀ r ∈ scanS ys, r.Fine ∧ checkR r = 0) ∧ (recsB (scanS ys)).length ≤ ys.length
  | 0, ys, _, i, z, l, h, hk => by
    obtain ⟨h1, h2⟩ := h.done (by omega)
    rw [h1]
    exact ⟨h.fine, h2⟩
  | k + 1, ys, ho, i, z, l, h, hk => by
    have hi : i < ys.length := by omega
    by_cases hb : ys.getD i 0 = 0
    · rcases h.place with rfl | ⟨f, rfl, hf⟩
      · exact scan_runs k ho (h.first hi hb) (by omega)
      · by_cases hg : (getR ((ys.take i).drop f)).1 = 0
        · exact scan_runs k ho (h.good ho hi hb hg) (by omega)
        · obtain ⟨h1, h2⟩ := h.bad hi hb hg
          rw [h1]
          exact ⟨h.fine, h2⟩
    · exact scan_runs k ho (h.other hi hb) (by omega)
theorem scan_fine {ys : List Int} (ho : Octets ys) : (∀ r ∈ scanS ys, r.Fine ∧ checkR r = 0) ∧ (recsB (scanS ys)).length ≤ ys.length := scan_runs _ ho (ScanSt.start ys) rfl
theorem parse_scan {e s n : Nat} {ys : List Int} {l : List Rec} {b : Bool} (h : parseS e s n ys = some (l, b)) : l = scanS ys := by
  unfold parseS at h
  split at h
  · exact (Prod.mk.inj (Option.some.inj h)).1.symm
  · split at h
    · exact (Prod.mk.inj (Option.some.inj h)).1.symm
    · simp at h
theorem entsGo_at : ∀ (l : List Rec) (k i : Nat), i < l.length → ((entsGo k l).getD i En.none).at_ = k + (recsB (l.take i)).length
  | [], _, _, h => by simp at h
  | r :: l, k, 0, _ => by simp [entsGo, recsB]
  | r :: l, k, i + 1, h => by
    have e : recsB ((r :: l).take (i + 1)) = recB r ++ recsB (l.take i) := by unfold recsB; rw [List.take_succ_cons, List.flatMap_cons]
    rw [entsGo, List.getD_cons_succ, entsGo_at l _ i (by simpa using h), e, List.length_append, Nat.add_assoc]
theorem places_length (e s n : Nat) (l : List Rec) : (placesS e s n l).length = l.length := by
  unfold placesS entsS
  rw [List.length_map, entsGo_length]
theorem places_at {e s n : Nat} {l : List Rec} {i : Nat} (h : i < l.length) : (placesS e s n l).getD i 0 = (outS e s n (l.take i)).length := by
  have h2 : i < (entsGo (headLen e s n) l).length := by rw [entsGo_length]; exact h
  have h1 := entsGo_at l (headLen e s n) i h
  unfold placesS entsS
  rw [List.getD_eq_getElem?_getD, List.getElem?_map, List.getElem?_eq_getElem h2]
  rw [List.getD_eq_getElem?_getD, List.getElem?_eq_getElem h2] at h1
  show ((entsGo (headLen e s n) l)[i]).at_ = _
  simp only [Option.getD_some] at h1
  rw [h1]
  unfold outS headLen
  rw [List.length_append]
theorem shl15 {k : Nat} : Op.shift BinOp.shl IntKind.i64 1 IntKind.u8 (smallE k : Int) = pure (.int .i64 ((2 ^ smallE k : Nat) : Int)) := by
  have := small_room k
  have h : smallE k = 12 ∨ smallE k = 13 := by omega
  rcases h with h | h <;> rw [h] <;> rfl
theorem two15 (k : Nat) : 4096 ≤ 2 ^ smallE k ∧ 2 ^ smallE k ≤ 8192 := by
  have := small_room k
  have h : smallE k = 12 ∨ smallE k = 13 := by omega
  rcases h with h | h <;> rw [h] <;> decide
theorem recNe15 (r : Rec) (w : World) : (binOp .neq 39 (recV r) (recV r)).run Tryz.prog w = .ok (.bool false) w := by
  unfold recV
  simp [go_sem]
end Go.Proofs.YtlejobomjgccnaaGreat

namespace Go.Proofs.YtlejobomjgccnaaGreat
open Go.RowKit

section
variable {α : Type} {v0 : α → Value} {dd : α}

/-- A row that can be read. -/
def OnesAt (v0 : α → Value) (dd : α) (w : World) (p : Option Addr) (l : List α) : Prop :=
  ∀ i, i < l.length → ∃ a : Addr, p = some a ∧ w.cell? (a.add i) = some (v0 (l.getD i dd))
theorem OnesAt.keep {w w' : World} {p : Option Addr} {l : List α} (h : OnesAt v0 dd w p l) {S : Nat → Prop} (hk : Keeps S w w') (hs : ∀ k, k < w.heap.size → ¬ S k) : OnesAt v0 dd w' p l := fun i hi => by
  obtain ⟨a, rfl, hc⟩ := h i hi
  exact ⟨a, rfl, hk.cell hc (hs _ (ltOfCell hc))⟩
theorem OnesAt.nil (w : World) (p : Option Addr) : OnesAt v0 dd w p [] := fun i hi => by simp at hi
/-- The cells of a row that can be read, as an append asks for them. -/
theorem OnesAt.cells {w : World} {ad : Addr} {l : List α} (h : OnesAt v0 dd w (some ad) l) {j : Nat} {u : Value} (hj : (l.map v0)[j]? = some u) : w.cell? (ad.add j) = some u := by
  have hlt : j < l.length := by
    have := (List.getElem?_eq_some_iff.1 hj).1
    rwa [List.length_map] at this
  obtain ⟨a, ha, hc⟩ := h j hlt
  obtain rfl := Option.some.inj ha
  rw [hc, ← hj]
  simp [List.getElem?_eq_getElem hlt]
/-- A row of one's own so far. -/
def OnesSoFar (v0 : α → Value) (t : TypeId) (w0 : World) (l : List α) (v : Value) (wr : World) : Prop := wr.ownsRow w0.heap.size t 1 v l.length (l.map v0) ∧ Below w0.heap.size w0 wr
theorem OnesSoFar.start {t : TypeId} (w0 : World) : OnesSoFar v0 t w0 ([] : List α) (.slice none 0 0) w0 := ⟨World.ownsRow_nil _ _ _ _, Below.refl _ _⟩
theorem OnesSoFar.alloc {t : TypeId} {w0 wr : World} {l : List α} {v : Value} (h : OnesSoFar v0 t w0 l v wr) (o : Obj) : OnesSoFar v0 t w0 l v (wr.alloc o) := ⟨World.ownsRow.alloc h.1 o, h.2.alloc h.2.size o⟩
theorem OnesSoFar.keep {t : TypeId} {w0 wr w' : World} {l : List α} {v : Value} (h : OnesSoFar v0 t w0 l v wr) (hk : Keeps NoBlock wr w') : OnesSoFar v0 t w0 l v w' :=
  ⟨own_keep h.1 hk (fun _ _ h => h), h.2.trans (hk.below h.2.size (fun _ _ h => h))⟩
theorem OnesSoFar.keeps {t : TypeId} {w0 wr : World} {l : List α} {v : Value} (h : OnesSoFar v0 t w0 l v wr) : Keeps NoBlock w0 wr := .ofBelow h.2
theorem OnesSoFar.new {t : TypeId} {w0 wr : World} {l : List α} {v : Value} (h : OnesSoFar v0 t w0 l v wr) : ∃ (q : Option Addr) (m d : Nat), v = .slice q m d ∧ m = l.length ∧ m ≤ d ∧ d ≤ 9223372036854775807 ∧ (q = none → m = 0 ∧ d = 0) ∧ OnesAt v0 dd wr q l ∧ Keeps NoBlock w0 wr := by
  obtain ⟨h', hb⟩ := h
  have h9 := h'
  rcases h' with ⟨_, ⟨rfl, e⟩ | ⟨g, cap, cur, rfl, hg, hh, hc1, hc2, hc3, hc4⟩⟩
  · exact ⟨none, 0, 0, rfl, e.symm, Nat.le_refl _, by decide, fun _ => ⟨rfl, rfl⟩, fun i hi => by rw [e] at hi; omega, Keeps.ofBelow hb⟩
  · refine ⟨_, _, cap, rfl, rfl, hc1, by unfold maxLen at hc2; omega, fun h => by simp at h, fun i hi => ⟨_, rfl, ?_⟩, Keeps.ofBelow hb⟩
    exact h9.cells (g := g) rfl i _ (by simp [List.getElem?_eq_getElem hi])
theorem OnesSoFar.setOther {t : TypeId} {w0 wr : World} {l : List α} {v : Value} (h : OnesSoFar v0 t w0 l v wr) {p : Addr} (hp : v.ownBlock ≠ some p.block) (hb : w0.heap.size ≤ p.block) (x : Value) : OnesSoFar v0 t w0 l v (wr.setCell p x) :=
  ⟨ownsRow_setCell_other h.1 hp _, h.2.setCell hb _⟩
theorem OnesSoFar.apart {t : TypeId} {w0 wr : World} {l : List α} {v : Value} (h : OnesSoFar v0 t w0 l v wr) {k : Nat} (hk : wr.heap.size ≤ k) : v.ownBlock ≠ some k := fun e => by
  have := (h.1.lt k e).2
  omega
theorem OnesSoFar.made {t : TypeId} (w : World) (l : List α) (cs : Array Value) (hcs : cs.toList = l.map v0) (hl : l.length ≤ 1000000000) : OnesSoFar v0 t w l (.slice (some ⟨w.heap.size, 0, none⟩) l.length l.length) (w.alloc (.cells cs t)) := by
  have hs : cs.size = l.length := by rw [← Array.length_toList, hcs, List.length_map]
  exact ⟨⟨by simp, .inr ⟨w.heap.size, l.length, cs, rfl, Nat.le_refl _, heap_alloc_new w _, Nat.le_refl _, by unfold maxLen; omega, by rw [hs, Nat.mul_one], by rw [hcs, Nat.mul_one, ← List.length_map (f := v0), List.take_length]⟩⟩, (Below.refl _ w).alloc (Nat.le_refl _) _⟩

end
end Go.Proofs.YtlejobomjgccnaaGreat

namespace Go.Proofs.YtlejobomjgccnaaGreat
open Go.RowKit

theorem infoU32s : (Tryz.prog.info? 22).map (fun i => (i.zero, i.size, i.bytes)) = some (some (.int .u32 0), 1, 4) := by kernel_rfl
def u32V (x : Nat) : Value := .int .u32 (x : Int)
theorem may15 {e s n : Nat} (h1 : 12 ≤ e) (h2 : e ≤ 13) (h3 : 2 ≤ s) (h4 : s ≤ 9) (h5 : n ≤ 1) : mayHead e s n = true := by
  have he : e = 12 ∨ e = 13 := by omega
  have hs : s = 2 ∨ s = 3 ∨ s = 4 ∨ s = 5 ∨ s = 6 ∨ s = 7 ∨ s = 8 ∨ s = 9 := by omega
  have hn : n = 0 ∨ n = 1 := by omega
  rcases he with rfl | rfl <;> rcases hn with rfl | rfl <;> rcases hs with rfl | rfl | rfl | rfl | rfl | rfl | rfl | rfl <;> decide
theorem accS_ok {e s n : Nat} (hm : mayHead e s n = true) {l : List Rec} (hf : ∀ r ∈ l, r.Fine) : ∀ (j : Nat), j ≤ l.length → j ≤ 1000 → AccOk e s n j (accS e s n (l.take j))
  | 0, _, _ => by rw [List.take_zero]; exact AccOk.start hm
  | j + 1, h, h2 => by
    rw [accS_step (by omega)]
    refine (accS_ok hm hf j (by omega) (by omega)).step (by omega) (hf _ ?_)
    rw [List.getD_eq_getElem?_getD, List.getElem?_eq_getElem (show j < l.length by omega)]
    exact List.getElem_mem _
theorem recCmp {a b : Rec} (ha : a.Fine) (hb : b.Fine) : ∃ t : Bool, (∀ w, (binOp .eql 39 (recV a) (recV b)).run Tryz.prog w = .ok (.bool t) w) ∧ (t = true → a = b) := by
  by_cases h1 : a.del = b.del
  · by_cases h2 : a.seq = b.seq
    · by_cases h3 : (strOfNums a.key).toList = (strOfNums b.key).toList
      · by_cases h4 : (strOfNums a.val).toList = (strOfNums b.val).toList
        · refine ⟨true, fun w => ?_, fun _ => ?_⟩
          · unfold recV
            simp [go_sem, h1, h2, h3, h4]
          · have e3 := text_beq (strOfNums a.key) (strOfNums b.key)
            have e4 := text_beq (strOfNums a.val) (strOfNums b.val)
            rw [h3, beq_self_eq_true] at e3
            rw [h4, beq_self_eq_true] at e4
            have k3 := strOf_inj ha.key hb.key (of_decide_eq_true e3.symm)
            have k4 := strOf_inj ha.val hb.val (of_decide_eq_true e4.symm)
            cases a
            cases b
            simp only at h1 h2 k3 k4
            rw [h1, h2, k3, k4]
        · refine ⟨false, fun w => ?_, fun h => by simp at h⟩
          unfold recV
          simp [go_sem, h1, h2, h3, h4]
      · refine ⟨false, fun w => ?_, fun h => by simp at h⟩
        unfold recV
        simp [go_sem, h1, h2, h3]
    · refine ⟨false, fun w => ?_, fun h => by simp at h⟩
      have : ¬ (a.seq : Int) = (b.seq : Int) := by omega
      unfold recV
      simp [go_sem, h1, this]
  · refine ⟨false, fun w => ?_, fun h => by simp at h⟩
    unfold recV
    simp [go_sem, h1]
theorem out_fits {e s n : Nat} {l : List Rec} (h : InRoom (sgRoom e s n l) l) : (outS e s n l).length ≤ 2 ^ e := by
  have := frames_fit h false (fun h => by simp at h)
  simpa [framesS, sgRoom] using this
theorem text_len {e s n : Nat} {l : List Rec} (h : InRoom (sgRoom e s n l) l) (b : Bool) (hb : b = true → 0 < l.length) : (textS e s n l b).length = 2 ^ e := text_length h b hb
theorem bytes_set15 {w : World} {g N : Nat} {C : List Int} {cur : Array Value} (hw : Whole w g 5 cur) (hc : ∀ i, i < N → cur[i]? = some (.int .u8 (C.getD i 0))) (hN : N = C.length) (i : Nat) (hi : i < N) (x : Int) :
    Bytes8 (w.setCell ⟨g, i, none⟩ (.int .u8 x)) (some ⟨g, 0, none⟩) (C.set i x) :=
  (hw.set i (.int .u8 x)).bytes (C.set i x) (fun j hj => by
    rw [List.length_set, ← hN] at hj
    have hsz : i < cur.size := (Array.getElem?_eq_some_iff.1 (hc i hi)).1
    by_cases e : i = j
    · subst e
      simp [hsz, ← hN, hi]
    · have h1 := hc j hj
      simp only [List.getD_eq_getElem?_getD] at h1 ⊢
      rw [List.getElem?_set_ne e, ← h1]
      simp [e])
/-- What can be read of the rows of records and of numbers. -/
theorem OwnR.recs {w0 wr : World} {F : Nat → Prop} {hv : Value} {l : List Rec} (h : OwnR w0 F 39 4 hv l.length (rcFlat l) wr) (hk : Keeps NoBlock w0 wr) : NewRecs w0 l hv wr := RecsSoFar.new ⟨h.1, hk.below (Nat.le_refl _) (fun _ _ h => h)⟩
theorem OwnR.nums {w0 wr : World} {F : Nat → Prop} {pv : Value} {m : Nat} {l : List Nat} (h : OwnR w0 F 22 1 pv m (l.map u32V) wr) (hm : m = l.length) (hk : Keeps NoBlock w0 wr) : ∃ (q : Option Addr) (m' d : Nat), pv = .slice q m' d ∧ m' = l.length ∧ m' ≤ d ∧ d ≤ 9223372036854775807 ∧ (q = none → m' = 0 ∧ d = 0) ∧ OnesAt u32V 0 wr q l ∧ Keeps NoBlock w0 wr := by
  subst hm
  exact OnesSoFar.new ⟨h.1, hk.below (Nat.le_refl _) (fun _ _ h => h)⟩
theorem addBlk (a : Addr) (i : Nat) : (a.add i).block = a.block := by unfold Addr.add; split <;> rfl
theorem recs_far {w w' : World} {p : Option Addr} {l : List Rec} (h : RecsAt w p l) {S : Nat → Prop} (hk : Keeps S w w') (hs : ∀ a, p = some a → ¬ S a.block) : RecsAt w' p l := fun i hi => by
  obtain ⟨a, rfl, c0, c1, c2, c3⟩ := h i hi
  have h1 : ¬ S (a.add (i * 4)).block := by rw [addBlk]; exact hs a rfl
  exact ⟨a, rfl, hk.cell c0 h1, hk.cell c1 h1, hk.cell c2 h1, hk.cell c3 h1⟩
theorem row32_far {w w' : World} {p : Option Addr} {l : List Nat} (h : Row32 w p l) {S : Nat → Prop} (hk : Keeps S w w') (hs : ∀ a, p = some a → ¬ S a.block) : Row32 w' p l := fun i hi => by
  obtain ⟨a, rfl, c0⟩ := h i hi
  exact ⟨a, rfl, hk.cell c0 (by rw [addBlk]; exact hs a rfl)⟩
theorem own_blk {q : Option Addr} {n d : Nat} {B : Nat} (h : ∀ k, (Value.slice q n d).ownBlock = some k → B ≤ k) (a : Addr) (ha : q = some a) : B ≤ a.block := h _ (by rw [ha]; rfl)
end Go.Proofs.YtlejobomjgccnaaGreat

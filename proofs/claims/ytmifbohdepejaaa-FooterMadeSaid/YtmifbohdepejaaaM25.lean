/-
  BufT; TabPut; FtPut; TabMeOk; TabRow; TabGetOwn.
-/
import Derived.OwnWalk
import Derived.Test.YtmifbohdepejaaaM04
import Derived.Test.YtmifbohdepejaaaM05
import Derived.Test.YtmifbohdepejaaaM06
import Derived.Test.YtmifbohdepejaaaM15
import Derived.Test.YtmifbohdepejaaaM19
import Derived.Test.YtmifbohdepejaaaM21
import Derived.Test.YtmifbohdepejaaaM24
namespace Go.Proofs.Ytmifbohdepejaaa
open Go.RowKit

/-- Blocks that hold neither bytes nor a Buffer stay. -/
def Stays (w w' : World) : Prop := ∀ (k : Nat) (t : TypeId) (cs : Array Value), t ≠ 5 → t ≠ 58 → Whole w k t cs → Whole w' k t cs
theorem Stays.refl (w : World) : Stays w w := fun _ _ _ _ _ h => h
theorem Stays.trans {a b c : World} (h : Stays a b) (g : Stays b c) : Stays a c := fun k t cs h1 h2 h3 => g k t cs h1 h2 (h k t cs h1 h2 h3)
/-- What each of its writings leaves. -/
def BufOkT (base g : Nat) (xs : List Int) (w : World) (e : Ending) (w' : World) : Prop :=
  e = .returned (.pointer (some ⟨g, 0, none⟩)) ∧ BufAt w' base g xs ∧ Keeps (OnBuf base g) w w' ∧ Stays w w'

theorem own_not {w : World} {base n k : Nat} {v : Value} {xs : List Value} {t : TypeId} {cs : Array Value} (h : w.ownsRow base 5 1 v n xs) (ht : t ≠ 5) (hk : Whole w k t cs) : v.ownBlock ≠ some k := by
  rcases h with ⟨_, ⟨rfl, rfl⟩ | ⟨j, cap, cur, rfl, _, hh, _⟩⟩
  · simp [Value.ownBlock]
  · intro e
    obtain rfl : j = k := by simpa [Value.ownBlock] using e
    exact absurd (Whole.unique (show Whole w j 5 cur from hh) hk).1.symm ht

set_option maxHeartbeats 800000 in
theorem bufByteT (base g : Nat) (xs : List Int) (x : Int) (w : World) (h : BufAt w base g xs) (hs : base ≤ w.heap.size) (hx : xs.length + 1 ≤ 140737488355328) :
    Calls Try.prog 21 #[.pointer (some ⟨g, 0, none⟩), .int .u8 x] w (BufOkT base g (xs ++ [x]) w) := by
  obtain ⟨v, hg, hown⟩ := h
  obtain ⟨i0, hi, hz0, hz1, hz2⟩ := info_parts infoByte
  have hgw := hg.lt
  have c0 := hg.cell 0 rfl
  simp only [List.getElem_toArray, List.getElem_cons_zero] at c0
  have hne := ownBlock_ne hown hg
  have HG := Lib.hid hg; have HO := Lib.hid hown; have HN := Lib.hid hne; have HX := Lib.hid hx
  clear hg hown hne hx
  go_enter Try.func21, Try.ntmps21
  go_wp2_with (at_builtin; refine wpList_append_own _ rfl _ _ 27 rfl base 5 i0 (.int .u8 0) 1 1 Try.underlying27 hi hz0 hz1 hz2 rfl (by decide) _ _ _ rfl (HO.out.alloc _) ⟨w.heap.size, 0, none⟩ 1 1 [.int .u8 x] rfl ?qc1 ?qc2 ?qc3 ?qc4 ?qc5 ?qc6 ?_)
  case qc1 => rfl
  case qc2 =>
    intro j u hj
    match j, hj with
    | 0, hj =>
      obtain rfl : Value.int .u8 x = u := by simpa using hj
      exact Whole.cell (Whole.new w _ _) 0 rfl
  case qc3 => intro u hu; simp at hu; subst hu; rfl
  case qc4 => have := HX.out; unfold maxLen; omega
  case qc5 => have := HX.out; omega
  case qc6 => simp; omega
  intro v' w1 hown hgrow _
  obtain ⟨p', c', hv'⟩ := own_slice hown
  have hg1 := Whole.grown (HG.out.alloc _) hgrow HN.out
  have d0 := hg1.cell 0 rfl
  simp only [List.getElem_toArray, List.getElem_cons_zero] at d0
  have f0 := hg1.free 0
  have hne' := ownBlock_ne hown hg1
  have HB := Lib.hid (show BufAt (w1.setCell ⟨g, 0, none⟩ v') base g (xs ++ [x]) from ⟨v', hg1.set 0 v', by simpa using ownsRow_setCell_other hown (a := ⟨g, 0, none⟩) hne' v'⟩)
  have HL := Lib.hid ((((Keeps.refl (OnBuf base g) w).alloc _).grown hgrow (fun k hk => .inl (.inr (own_base HO.out hk)))).setIn (.inl rfl) 0 v')
  have HSt : Hid (Stays w (w1.setCell ⟨g, 0, none⟩ v')) := Lib.hid (fun k t cs h1 h2 h3 => by
    have hA := h3.alloc (.cells #[.int .u8 x] 5)
    have hB := HO.out.alloc (.cells #[.int .u8 x] 5)
    refine (hA.grown hgrow (own_not hB h1 hA)).setOther (p := ⟨g, 0, none⟩) (fun e => ?_) v'
    have e' : k = g := e
    subst e'
    exact absurd (Whole.unique HG.out h3).1.symm h2)
  clear hown hgrow hg1 hne' c0
  subst hv'
  go_wp2_with fail
  go_ret
  exact ⟨rfl, HB.out, HL.out, HSt.out⟩

def InLoopT (base g : Nat) (xs : List Int) (x : Int) (w : World) (k : Nat) (wr : World) : Prop := BufAt wr base g (xs ++ digits x k) ∧ Keeps (OnBuf base g) w wr ∧ Stays w wr

set_option maxHeartbeats 800000 in
theorem bufNumberT (base g : Nat) (xs : List Int) (x : Int) (n : Nat) (z : Int) (hz : z = n) (w : World) (h : BufAt w base g xs) (hs : base ≤ w.heap.size) (hx : xs.length + n ≤ 140737488355328) (hn : n ≤ 8) (_x0 : 0 ≤ x) (x1 : x < 18446744073709551616) :
    Calls Try.prog 54 #[.pointer (some ⟨g, 0, none⟩), .int .u64 x, .int .i64 z] w (BufOkT base g (xs ++ digits x n) w) := by
  subst hz
  have H := Lib.hid h; have HX := Lib.hid hx; have HX1 := Lib.hid x1
  clear h hx x1
  go_enter Try.func54, Try.ntmps54
  go_wp2_with fail
  go_loopw [9] (fun i wr => ∃ k : Nat, k ≤ n ∧ i = .int .i64 k ∧ InLoopT base g xs x w k wr) (fun i _ => n - (intOf i).toNat)
  case atStart => exact ⟨0, Nat.zero_le _, rfl, by simpa [digits] using H.out, Keeps.refl _ _, Stays.refl _⟩
  case round =>
    obtain ⟨k, hk, rfl, hin⟩ := hrel
    have HI := Lib.hid hin
    clear hin
    by_cases hlt : k < n
    · go_wp2_with fail
      refine (bufByteT base g (xs ++ digits x k) _ _ HI.out.1 (by have := HI.out.2.1.size; omega) (by have := HX.out; simp [digits_length]; omega)).mono ?_
      rintro e w2 ⟨rfl, hbuf, hbel, hst⟩
      have HB := Lib.hid hbuf; have HL := Lib.hid (HI.out.2.1.trans hbel)
      have HT := Lib.hid (HI.out.2.2.trans hst)
      clear hbuf hbel hst
      go_wp2_with fail
      go_roundw
      case rel =>
        refine ⟨k + 1, by omega, by go_num, ?_, HL.out, HT.out⟩
        have := HB.out
        rw [List.append_assoc] at this
        exact this
      case measure => simp [intOf]; omega
    · go_wp2_with fail
      go_ret
      obtain rfl : k = n := by omega
      exact ⟨rfl, HI.out.1, HI.out.2⟩

theorem bufFourT (base g : Nat) (xs : List Int) (x : Int) (w : World) (h : BufAt w base g xs) (hs : base ≤ w.heap.size) (hx : xs.length + 4 ≤ 140737488355328) (x0 : 0 ≤ x) (x1 : x < 4294967296) :
    Calls Try.prog 22 #[.pointer (some ⟨g, 0, none⟩), .int .u32 x] w (BufOkT base g (xs ++ digits x 4) w) := by
  have H := Lib.hid h
  clear h
  go_enter Try.func22, Try.ntmps22
  go_wp2_with fail
  refine (bufNumberT base g xs _ 4 _ (by rfl) _ H.out hs hx (by omega) (by omega) (by omega)).mono ?_
  rintro e w2 ⟨rfl, hbuf, hbel, hst⟩
  have HB := Lib.hid hbuf; have HL := Lib.hid hbel; have HT := Lib.hid hst
  clear hbuf hbel hst
  go_wp2_with fail
  go_ret
  exact ⟨rfl, HB.out, HL.out, HT.out⟩

theorem bufEightT (base g : Nat) (xs : List Int) (x : Int) (w : World) (h : BufAt w base g xs) (hs : base ≤ w.heap.size) (hx : xs.length + 8 ≤ 140737488355328) (x0 : 0 ≤ x) (x1 : x < 18446744073709551616) :
    Calls Try.prog 55 #[.pointer (some ⟨g, 0, none⟩), .int .u64 x] w (BufOkT base g (xs ++ digits x 8) w) := by
  have H := Lib.hid h; have HX1 := Lib.hid x1
  clear h x1
  go_enter Try.func55, Try.ntmps55
  go_wp2_with fail
  refine (bufNumberT base g xs _ 8 _ (by rfl) _ H.out hs hx (by omega) x0 HX1.out).mono ?_
  rintro e w2 ⟨rfl, hbuf, hbel, hst⟩
  have HB := Lib.hid hbuf; have HL := Lib.hid hbel; have HT := Lib.hid hst
  clear hbuf hbel hst
  go_wp2_with fail
  go_ret
  exact ⟨rfl, HB.out, HL.out, HT.out⟩
end Go.Proofs.Ytmifbohdepejaaa

namespace Go.Proofs.Ytmifbohdepejaaa
open Go.RowKit

set_option maxHeartbeats 4000000 in
set_option maxRecDepth 10000 in
theorem put_own (base g : Nat) (xs : List Int) (p : Option Addr) (n c : Nat) (l : List En) (w : World) (h : BufAt w base g xs) (hs : base ≤ w.heap.size) (hi : InE w p n c l) (hn9 : n ≤ 100000) (hfar : 0 < n → ∀ a, p = some a → ¬ OnBuf base g a.block) (hx : xs.length ≤ 100000000) :
    Calls Try.prog 23 #[.pointer (some ⟨g, 0, none⟩), .slice p n c] w fun e w' => e = .returned (.tuple #[]) ∧ BufAt w' base g (xs ++ textE l) ∧ Keeps (OnBuf base g) w w' := by
  have H := Lib.hid h
  have HI := Lib.hid hi
  have HF := Lib.hid hfar
  have HX := Lib.hid hx
  clear h hi hfar hx
  go_enter Try.func23, Try.ntmps23
  go_wp2_with fail
  go_loopw [10] (fun i wr => ∃ j : Nat, j ≤ n ∧ i = .int .i64 (j : Int) ∧ Hid (BufAt wr base g (xs ++ textE (l.take j))) ∧ Hid (Keeps (OnBuf base g) w wr)) (fun i _ => n - (intOf i).toNat)
  case atStart => exact ⟨0, Nat.zero_le _, rfl, Lib.hid (by simpa [textE] using H.out), Lib.hid (Keeps.refl _ _)⟩
  case round =>
    obtain ⟨j, hj, rfl, HB, HK⟩ := hrel
    by_cases hlt : j < n
    · have hdj : decide ((j : Int) < (n : Int)) = true := decide_eq_true (by omega)
      have hjl : j < l.length := by rw [← HI.out.len]; exact hlt
      obtain ⟨a, rfl, c0, c1⟩ := (EnsAt.keepFar HI.out.at_ HK.out (fun h0 a ha => HF.out (by omega) a ha)).at_ j hjl
      have hfn := HI.out.fine (l.getD j En.none) (by simp [hjl])
      have HT := Lib.hid (textE_take hjl)
      obtain ⟨r, hr⟩ : ∃ r, r = l.getD j En.none := ⟨_, rfl⟩
      rw [← hr] at c0 c1 hfn HT
      clear hr
      have h64 : ((r.hash : Nat) : Int) < 18446744073709551616 := by have := hfn.hash; omega
      have h32 : ((r.at_ : Nat) : Int) < 4294967296 := by have := hfn.at_; omega
      have HL : Hid ((xs ++ textE (l.take j)).length ≤ 110000000) := Lib.hid (by
        have := HX.out
        rw [List.length_append, textE_length, List.length_take]
        omega)
      have H64 := Lib.hid h64
      have H32 := Lib.hid h32
      clear h64 h32 hfn hjl
      obtain ⟨Y, hY⟩ : ∃ Y, Y = xs ++ textE (l.take j) := ⟨_, rfl⟩
      rw [← hY] at HB HL
      have HYd := Lib.hid hY
      clear hY
      have HB0 := Lib.hid (show BufAt (wr.alloc (.cells #[.int .u64 (r.hash : Int), .int .u32 (r.at_ : Int)] 49)) base g Y from by
        obtain ⟨v, h1, h2⟩ := HB.out
        exact ⟨v, h1.alloc _, World.ownsRow.alloc h2 _⟩)
      have HK0 := Lib.hid (HK.out.alloc (.cells #[.int .u64 (r.hash : Int), .int .u32 (r.at_ : Int)] 49))
      have HW0 := Lib.hid (Whole.new wr 49 #[.int .u64 (r.hash : Int), .int .u32 (r.at_ : Int)])
      have HSz : Hid (base ≤ (wr.alloc (.cells #[.int .u64 (r.hash : Int), .int .u32 (r.at_ : Int)] 49)).heap.size) := Lib.hid (by have := HK0.out.size; omega)
      clear HB
      go_wp2_with fail
      obtain ⟨W, hW⟩ : ∃ W, W = wr.alloc (.cells #[.int .u64 (r.hash : Int), .int .u32 (r.at_ : Int)] 49) := ⟨_, rfl⟩
      rw [← hW] at HB0 HK0 HW0 HSz ⊢
      clear hW c0 c1
      have sN : W.cell? ⟨wr.heap.size, 0, none⟩ = some (.int .u64 (r.hash : Int)) ∧ W.cell? ⟨wr.heap.size, 1, none⟩ = some (.int .u32 (r.at_ : Int)) := ⟨HW0.out.cell 0 rfl, HW0.out.cell 1 rfl⟩
      have s0 : W.drew.cell? ⟨wr.heap.size, 0, none⟩ = some (.int .u64 (r.hash : Int)) ∧ W.drew.cell? ⟨wr.heap.size, 1, none⟩ = some (.int .u32 (r.at_ : Int)) := sN
      go_region_held3 (fun w' => w'.cell? ⟨wr.heap.size, 0, none⟩ = some (.int .u64 (r.hash : Int)) ∧ w'.cell? ⟨wr.heap.size, 1, none⟩ = some (.int .u32 (r.at_ : Int)))
        (first | exact s5 | exact s0 | exact sN)
        (first | (go_at_call 55; refine (bufEightT base g Y (r.hash : Int) _ (by exact HB0.out) (by exact HSz.out) (by have := HL.out; omega) (by omega) H64.out).mono ?_; rintro e w5 ⟨rfl, hb, hk, hst⟩; have HB1 := Lib.hid hb; have HK1 := Lib.hid (HK0.out.trans (by first | exact hk | exact hk.ofDrew | exact hk.ofDrewN)); have HW1 := Lib.hid (hst wr.heap.size 49 _ (by decide) (by decide) (by exact HW0.out)); have HSz1 : Hid (base ≤ w5.heap.size) := Lib.hid (by have := HK1.out.size; omega); have s5 : w5.cell? ⟨wr.heap.size, 0, none⟩ = some (.int .u64 (r.hash : Int)) ∧ w5.cell? ⟨wr.heap.size, 1, none⟩ = some (.int .u32 (r.at_ : Int)) := ⟨HW1.out.cell 0 rfl, HW1.out.cell 1 rfl⟩; clear hb hk hst) | (go_at_call 22; refine (bufFourT base g (Y ++ digits (r.hash : Int) 8) (r.at_ : Int) _ (by exact HB1.out) (by exact HSz1.out) (by have := HL.out; rw [List.length_append, digits_length]; omega) (by omega) H32.out).mono ?_; rintro e w6 ⟨rfl, hb, hk, hst⟩; have HB2 := Lib.hid hb; have HK2 := Lib.hid (HK1.out.trans (by first | exact hk | exact hk.ofDrew | exact hk.ofDrewN)); have HW2 := Lib.hid (hst wr.heap.size 49 _ (by decide) (by decide) (by exact HW1.out)); have s5 : w6.cell? ⟨wr.heap.size, 0, none⟩ = some (.int .u64 (r.hash : Int)) ∧ w6.cell? ⟨wr.heap.size, 1, none⟩ = some (.int .u32 (r.at_ : Int)) := ⟨HW2.out.cell 0 rfl, HW2.out.cell 1 rfl⟩; clear hb hk hst))
      go_wp2_with fail
      go_roundw
      case rel =>
        refine ⟨j + 1, by omega, by go_num, Lib.hid ?_, Lib.hid HK2.out⟩
        rw [HT.out, ← List.append_assoc, ← HYd.out, ← List.append_assoc]
        exact HB2.out
      case measure => simp [intOf]; omega
    · have hdj : decide ((j : Int) < (n : Int)) = false := decide_eq_false (by omega)
      have HE : Hid (l.take j = l) := Lib.hid (List.take_of_length_le (by have := HI.out.len; omega))
      rw [HE.out] at HB
      go_wp2_with fail
      go_returns
      exact ⟨rfl, HB.out, HK.out⟩
end Go.Proofs.Ytmifbohdepejaaa

namespace Go.Proofs.Ytmifbohdepejaaa
open Go.RowKit

set_option maxHeartbeats 4000000 in
set_option maxRecDepth 10000 in
theorem fput_ownT (base g : Nat) (xs : List Int) (p : Option Addr) (n c : Nat) (l : List Nat) (w : World) (h : BufAt w base g xs) (hs : base ≤ w.heap.size) (hn : n = l.length) (hn9 : n ≤ 100000) (hfine : ∀ x ∈ l, x < 18446744073709551616) (hrow : ∀ W, Stays w W → RowN W p l) (hx : xs.length ≤ 100000000) :
    Calls Try.prog 24 #[.pointer (some ⟨g, 0, none⟩), .slice p n c] w fun e w' => e = .returned (.tuple #[]) ∧ BufAt w' base g (xs ++ textF l) ∧ Keeps (OnBuf base g) w w' := by
  have H := Lib.hid h
  have HI := Lib.hid hn
  have HFi := Lib.hid hfine
  have HF := Lib.hid hrow
  have HX := Lib.hid hx
  clear h hrow hx hn hfine
  go_enter Try.func24, Try.ntmps24
  go_wp2_with fail
  go_loopw [10] (fun i wr => ∃ j : Nat, j ≤ n ∧ i = .int .i64 (j : Int) ∧ Hid (BufAt wr base g (xs ++ textF (l.take j))) ∧ Hid (Keeps (OnBuf base g) w wr) ∧ Hid (Stays w wr)) (fun i _ => n - (intOf i).toNat)
  case atStart => exact ⟨0, Nat.zero_le _, rfl, Lib.hid (by simpa [textF] using H.out), Lib.hid (Keeps.refl _ _), Lib.hid (Stays.refl _)⟩
  case round =>
    obtain ⟨j, hj, rfl, HB, HK, HS⟩ := hrel
    by_cases hlt : j < n
    · have hdj : decide ((j : Int) < (n : Int)) = true := decide_eq_true (by omega)
      have hjl : j < l.length := by rw [← HI.out]; exact hlt
      obtain ⟨a, rfl, c0⟩ := HF.out wr HS.out j hjl
      have hfn := HFi.out (l.getD j 0) (by simp [hjl])
      have HT := Lib.hid (textF_takeO hjl)
      obtain ⟨r, hr⟩ : ∃ r, r = l.getD j 0 := ⟨_, rfl⟩
      rw [← hr] at c0 hfn HT
      clear hr
      have HL : Hid ((xs ++ textF (l.take j)).length ≤ 110000000) := Lib.hid (by
        have := HX.out
        rw [List.length_append, textF_length, List.length_take]
        omega)
      have HE := Lib.hid (bufEightT base g (xs ++ textF (l.take j)) (r : Int) wr HB.out (by have := HK.out.size; omega) (by have := HL.out; omega) (by omega) (by omega))
      clear hfn hjl HB
      go_wp2_with fail
      refine HE.out.mono ?_
      rintro e w2 ⟨rfl, hb, hk, hst⟩
      have HB2 := Lib.hid hb
      have HK2 := Lib.hid (HK.out.trans hk)
      have HS2 := Lib.hid (HS.out.trans hst)
      clear hb hk hst HE
      go_wp2_with fail
      go_roundw
      case rel =>
        refine ⟨j + 1, by omega, by go_num, Lib.hid ?_, Lib.hid HK2.out, Lib.hid HS2.out⟩
        rw [HT.out, ← List.append_assoc]
        exact HB2.out
      case measure => simp [intOf]; omega
    · have hdj : decide ((j : Int) < (n : Int)) = false := decide_eq_false (by omega)
      have HE : Hid (l.take j = l) := Lib.hid (List.take_of_length_le (by have := HI.out; omega))
      rw [HE.out] at HB
      go_wp2_with fail
      go_returns
      exact ⟨rfl, HB.out, HK.out⟩

theorem nums_stay {w0 wr : World} {l : List Nat} {v : Value} (h : NumsSoFar w0 l v wr) : ∃ q d, v = .slice q l.length d ∧ ∀ W, Stays wr W → RowN W q l := by
  obtain ⟨h', hb⟩ := h
  rcases h' with ⟨h0, ⟨rfl, e⟩ | ⟨g, cap, cur, rfl, hg, hh, hr⟩⟩
  · exact ⟨none, 0, by rw [e], fun W _ i hi => by rw [e] at hi; omega⟩
  · refine ⟨_, cap, rfl, fun W hS i hi => ⟨_, rfl, ?_⟩⟩
    have hW : Whole W g 46 cur := hS g _ _ (by decide) (by decide) hh
    have h9 : W.ownsRow w0.heap.size 46 1 (.slice (some ⟨g, 0, none⟩) l.length cap) l.length (l.map numV) := ⟨h0, .inr ⟨g, cap, cur, rfl, hg, hW, hr⟩⟩
    exact h9.cells (g := g) rfl i _ (by simp [List.getElem?_eq_getElem hi, numV])

set_option maxHeartbeats 8000000 in
set_option maxRecDepth 10000 in
theorem ftput_own (u : Nat) (q : Option Addr) (n c : Nat) (l : List En) (w : World) (hu : u < 4294967296) (hi : InE w q n c l) (hn9 : n ≤ 10000) :
    Calls Try.prog 9 #[ftV u q n c] w fun e w' => ∃ v, e = .returned (.tuple #[v, .int .i64 (checkFt ⟨u, l⟩)]) ∧ NewBytes w (putFt ⟨u, l⟩) v w' := by
  have HR0 := Lib.hid (Whole.new w 25 #[.int .u32 (u : Int), .slice q n c])
  have HK0 := Lib.hid ((Keeps.refl NoBlock w).alloc (.cells #[.int .u32 (u : Int), .slice q n c] 25))
  have hs0 : (w.alloc (.cells #[.int .u32 (u : Int), .slice q n c] 25)).heap.size = w.heap.size + 1 := by simp
  have hat := EnsAt.keep hi.at_ HK0.out
  have HCk := Lib.hid (ftcheck_own u q n c l _ ⟨hi.len, hi.cap, hi.room, hi.bare, hi.fine, hat⟩ (by omega))
  have c0 := HR0.out.cell 0 rfl
  have c1 := HR0.out.cell 1 rfl
  simp only [List.getElem_toArray, List.getElem_cons_zero, List.getElem_cons_succ] at c0 c1
  unfold putFt
  by_cases hc : checkFt ⟨u, l⟩ = 0
  · rw [if_pos hc]
    rw [hc] at HCk ⊢
    have hbl := bodyFt_length ⟨u, l⟩
    have hbm := bodyLen_le l.length
    have hbo := bodyFt_octets (f := ⟨u, l⟩)
    have hbd : bodyFt ⟨u, l⟩ = ((([] ++ [(4 : Int)]) ++ digits (n : Int) 4) ++ digits (u : Int) 4) ++ textE l ++ textF (ofF l) := by unfold bodyFt; simp [hi.len]
    have hll := hi.len
    simp only at hbl
    have hel := textE_length l
    have HOld : Hid (0 < l.length → ∀ a, q = some a → a.block < w.heap.size) := Lib.hid (fun h0 a ha => EnsAt.old hi.at_ h0 a ha)
    have HOf := Lib.hid (fun W (h : EnsAt W q l) => callsIn_wide.1 (of_in 3 (Nat.le_refl _) q n c l W hi.len hi.cap hi.room (by omega) h))
    have HTp := Lib.hid (fun g X W (h : BufAt W g g X) (hs : g ≤ W.heap.size) (he : EnsAt W q l) (hf : w.heap.size ≤ g) (hx : X.length ≤ 100000000) => put_own g g X q n c l W h hs ⟨hi.len, hi.cap, hi.room, hi.bare, hi.fine, he⟩ (by omega) (fun h0 a ha => by have := HOld.out (by omega) a ha; unfold OnBuf; omega) hx)
    have HFp := Lib.hid (fun g X p m d W (h : BufAt W g g X) (hs : g ≤ W.heap.size) (hm : m = (ofF l).length) (hr : ∀ V, Stays W V → RowN V p (ofF l)) (hx : X.length ≤ 100000000) => fput_ownT g g X p m d (ofF l) W h hs hm (by rw [hm, ofF_length]; omega) (ofF_fine hi.fine) hr hx)
    obtain ⟨E, hE⟩ : ∃ E, E = textE l := ⟨_, rfl⟩
    rw [← hE] at HTp hbd hel
    obtain ⟨F, hF⟩ : ∃ F, F = ofF l := ⟨_, rfl⟩
    rw [← hF] at HOf HFp hbd
    obtain ⟨T, hT⟩ : ∃ T, T = textF F := ⟨_, rfl⟩
    rw [← hT] at HFp hbd
    obtain ⟨G, hG⟩ : ∃ G, G = bodyFt ⟨u, l⟩ := ⟨_, rfl⟩
    rw [← hG] at hbd hbl hbo ⊢
    obtain ⟨L, hL⟩ : ∃ L, L = G.length := ⟨_, rfl⟩
    have HS := Lib.hid (fun p d W (hd : L ≤ d) (hd' : d ≤ 9223372036854775807) (hq : p = none → L = 0 ∧ d = 0) (h8 : Bytes8 W p G) => seal_own p L d G W ⟨hL, hd, hd', hq, hbo, h8⟩ (by omega))
    have HBy := Lib.hid (fun g W (h : BufAt W g g G) => bufBytes g g G W h (by omega))
    rw [← hL] at HBy
    have HL := Lib.hid hL
    have HG0 : Hid (0 < G.length) := Lib.hid (by rw [hbd]; simp)
    have HBd := Lib.hid hbd
    have hE9 : E.length ≤ 200000 := by omega
    have wn : IntKind.u32.wrap (n : Int) = (n : Int) := by rw [IntKind.wrap_u32]; omega
    have HAt := Lib.hid hat
    have HS0 := Lib.hid hs0
    clear hbl hbm hbo hbd hll hel hi hat hE hF hT hG hL hs0 hc
    unfold ftV
    go_enter Try.func9, Try.ntmps9
    go_wp2_with fail
    refine HCk.out.mono ?_
    rintro e w1 ⟨rfl, hk⟩
    have hN := HR0.out.keep hk (fun h => h)
    have hE1 := EnsAt.keep HAt.out hk
    have HK := Lib.hid (HK0.out.trans hk)
    have HSz := Lib.hid (show w.heap.size + 1 ≤ w1.heap.size by have := hk.size; have := HS0.out; omega)
    obtain ⟨g, hg⟩ : ∃ g, g = w1.heap.size := ⟨_, rfl⟩
    have HGg := Lib.hid hg
    obtain ⟨W, hW⟩ : ∃ W, W = w1.alloc (.cells #[.slice none 0 0] 58) := ⟨_, rfl⟩
    have HB : Hid (BufAt W g g []) := Lib.hid (by rw [hW, hg]; exact bufNewB w1 w1.heap.size)
    have HR : Hid (Whole W w.heap.size 25 #[.int .u32 (u : Int), .slice q n c]) := Lib.hid (by rw [hW]; exact hN.alloc _)
    have HQ : Hid (Keeps (fun i => g ≤ i) w1 W) := Lib.hid (by rw [hW]; exact (Keeps.refl _ w1).alloc _)
    have HEn : Hid (EnsAt W q l) := Lib.hid (by rw [hW]; exact EnsAt.keep hE1 ((Keeps.refl NoBlock w1).alloc _))
    have HFar : Hid (w.heap.size < g) := Lib.hid (by have := HSz.out; omega)
    clear hk hN hE1 HCk HR0 HK0 HAt c0 c1
    go_wp2_with fail
    rw [← hW, ← hg]
    clear hW hg
    have s0 : W.drew.cell? ⟨w.heap.size, 0, none⟩ = some (.int .u32 (u : Int)) ∧ W.drew.cell? ⟨w.heap.size, 1, none⟩ = some (.slice q n c) := ⟨HR.out.cell 0 rfl, HR.out.cell 1 rfl⟩
    have sN : W.cell? ⟨w.heap.size, 0, none⟩ = some (.int .u32 (u : Int)) ∧ W.cell? ⟨w.heap.size, 1, none⟩ = some (.slice q n c) := ⟨HR.out.cell 0 rfl, HR.out.cell 1 rfl⟩
    have sz0 : Hid (g ≤ W.heap.size) := Lib.hid (by have := HQ.out.size; have := HGg.out; omega)
    go_region_held3 (fun w' => w'.cell? ⟨w.heap.size, 0, none⟩ = some (.int .u32 (u : Int)) ∧ w'.cell? ⟨w.heap.size, 1, none⟩ = some (.slice q n c))
      (first | exact s5 | exact s0 | exact sN)
      (first | (go_at_call 21; refine (bufByteK g g _ _ _ (by exact HB.out) (by exact sz0.out) (by simp)).mono ?_; rintro e w5 ⟨rfl, hb, hk⟩; have hk' : Keeps (fun i => g ≤ i) W w5 := (by first | exact hk.onBuf (Nat.le_refl _) | exact (hk.onBuf (Nat.le_refl _)).ofDrew | exact (hk.onBuf (Nat.le_refl _)).ofDrewN); have HB := Lib.hid hb; have HQ := Lib.hid (HQ.out.trans hk'); have HR := Lib.hid (HR.out.keep hk' (by have := HFar.out; omega)); have HEn := Lib.hid (EnsAt.keepFar HEn.out hk' (fun h0 a ha => by have := HOld.out h0 a ha; have := HFar.out; omega)); have sz0 : Hid (g ≤ w5.heap.size) := Lib.hid (by have := sz0.out; have := hk'.size; omega); have s5 : w5.cell? ⟨w.heap.size, 0, none⟩ = some (.int .u32 (u : Int)) ∧ w5.cell? ⟨w.heap.size, 1, none⟩ = some (.slice q n c) := ⟨HR.out.cell 0 rfl, HR.out.cell 1 rfl⟩; clear hb hk hk'; obtain ⟨W, rfl⟩ : ∃ x, x = w5 := ⟨_, rfl⟩) | (go_at_call 22; refine (bufFourK g g _ _ _ (by exact HB.out) (by exact sz0.out) (by simp [digits_length]) (by omega) (by omega)).mono ?_; rintro e w5 ⟨rfl, hb, hk⟩; have hk' : Keeps (fun i => g ≤ i) W w5 := (by first | exact hk.onBuf (Nat.le_refl _) | exact (hk.onBuf (Nat.le_refl _)).ofDrew | exact (hk.onBuf (Nat.le_refl _)).ofDrewN); have HB := Lib.hid hb; have HQ := Lib.hid (HQ.out.trans hk'); have HR := Lib.hid (HR.out.keep hk' (by have := HFar.out; omega)); have HEn := Lib.hid (EnsAt.keepFar HEn.out hk' (fun h0 a ha => by have := HOld.out h0 a ha; have := HFar.out; omega)); have sz0 : Hid (g ≤ w5.heap.size) := Lib.hid (by have := sz0.out; have := hk'.size; omega); have s5 : w5.cell? ⟨w.heap.size, 0, none⟩ = some (.int .u32 (u : Int)) ∧ w5.cell? ⟨w.heap.size, 1, none⟩ = some (.slice q n c) := ⟨HR.out.cell 0 rfl, HR.out.cell 1 rfl⟩; clear hb hk hk'; obtain ⟨W, rfl⟩ : ∃ x, x = w5 := ⟨_, rfl⟩))
    have HB3 : Hid (BufAt W g g ((([] ++ [(4 : Int)]) ++ digits (n : Int) 4) ++ digits (u : Int) 4)) := HB
    have HQ3 := HQ
    have HR3 := HR
    have HEn3 := HEn
    have HSz3 := sz0
    clear HB HQ HR HEn s0 sN s5 sz0
    have q1 : W.cell? ⟨w.heap.size, 1, none⟩ = some (.slice q n c) := HR3.out.cell 1 rfl
    go_wp2_with fail
    refine (HTp.out g _ W HB3.out HSz3.out HEn3.out (by have := HFar.out; omega) (by simp [digits_length])).mono ?_
    rintro e w6 ⟨rfl, hb, hk⟩
    have hk' : Keeps (fun i => g ≤ i) W w6 := hk.onBuf (Nat.le_refl _)
    have HB6 := Lib.hid hb
    have HQ6 := Lib.hid (HQ3.out.trans hk')
    have HR6 := Lib.hid (HR3.out.keep hk' (by have := HFar.out; omega))
    have HEn6 := Lib.hid (EnsAt.keepFar HEn3.out hk' (fun h0 a ha => by have := HOld.out h0 a ha; have := HFar.out; omega))
    have HSz6 : Hid (g ≤ w6.heap.size) := Lib.hid (by have := HSz3.out; have := hk'.size; omega)
    clear hb hk hk' q1 HB3 HQ3 HR3 HEn3 HSz3 HTp
    have q1 : w6.cell? ⟨w.heap.size, 1, none⟩ = some (.slice q n c) := HR6.out.cell 1 rfl
    go_wp2_with fail
    refine (HOf.out w6 HEn6.out).mono ?_
    rintro e w7 ⟨v, rfl, hns⟩
    have hk : Keeps NoBlock w6 w7 := Keeps.ofBelow hns.2
    obtain ⟨p, d, rfl, hst⟩ := nums_stay hns
    have HB7 := Lib.hid (BufAt.keepO HB6.out hk (fun h => h) (fun _ _ _ _ h => h))
    have HQ7 := Lib.hid (HQ6.out.trans (hk.wider (S' := fun i => g ≤ i) (fun _ _ h => h.elim)))
    have HSz7 : Hid (g ≤ w7.heap.size) := Lib.hid (by have := HSz6.out; have := hk.size; omega)
    have HSt := Lib.hid hst
    clear hk hns hst HB6 HQ6 HR6 HEn6 HSz6 HOf q1
    go_wp2_with fail
    refine (HFp.out g _ p _ d w7 HB7.out HSz7.out rfl HSt.out (by simp [digits_length]; omega)).mono ?_
    rintro e w8 ⟨rfl, hb, hk⟩
    have HB8 := Lib.hid hb
    rw [← HBd.out] at HB8
    have HQ8 := Lib.hid (HQ7.out.trans (hk.onBuf (Nat.le_refl _)))
    clear hb hk HB7 HQ7 HSz7 HSt HFp
    go_wp2_with fail
    refine (HBy.out g w8 HB8.out).mono ?_
    rintro e w9 ⟨v, rfl, q9, d9, rfl, hd, hd', hby, hq, hk⟩
    have HK9 := Lib.hid (HK.out.then (HQ8.out.trans (hk.wider (S' := fun i => g ≤ i) (fun _ _ h => h.elim))) (fun i hi h => by have := HFar.out; omega))
    have HB9 := Lib.hid hby
    have HQ9 : Hid (q9 = none → L = 0 ∧ d9 = 0) := Lib.hid (fun h0 => by
      obtain ⟨a, ha, _⟩ := HB9.out HG0.out
      rw [h0] at ha
      simp at ha)
    have hd9 : d9 ≤ 9223372036854775807 := by first | omega | (unfold maxLen at hd'; omega) | exact hd'
    clear hby hq hk hd'
    go_wp2_with fail
    refine (HS.out q9 d9 _ hd hd9 HQ9.out HB9.out).mono ?_
    rintro e w10 ⟨v2, rfl, q2, m2, d2, rfl, hm2, hmd2, hd2, hq2, hb2, hk2⟩
    have HN := Lib.hid (show NewBytes w (sealN G) (.slice q2 m2 d2) w10 from ⟨q2, m2, d2, rfl, hm2, hmd2, hd2, hq2, hb2, HK9.out.trans hk2⟩)
    clear hm2 hmd2 hd2 hq2 hb2 hk2
    go_wp2_with fail
    refine bodyPost_ret (results_tmp2 rfl _ _ _) rfl ?_
    exact ⟨_, rfl, HN.out⟩
  · rw [if_neg hc]
    obtain ⟨z, hz⟩ : ∃ z, z = checkFt ⟨u, l⟩ := ⟨_, rfl⟩
    rw [← hz] at HCk hc ⊢
    have hne : (z != 0) = true := by rw [bne_iff_ne]; exact hc
    clear hc hi hz hat hs0
    unfold ftV
    go_enter Try.func9, Try.ntmps9
    go_wp2_with fail
    refine HCk.out.mono ?_
    rintro e w1 ⟨rfl, hk⟩
    have HK := Lib.hid (HK0.out.trans hk)
    clear hk
    go_wp2_with fail
    refine bodyPost_ret (results_tmp2 rfl _ _ _) rfl ?_
    exact ⟨_, rfl, .ofNil _ _ HK.out⟩
theorem ftput_ok : FtPutOk := ⟨fun u q n c l w hu hi h9 => ftput_own u q n c l w hu hi h9⟩
end Go.Proofs.Ytmifbohdepejaaa

namespace Go.Proofs.Ytmifbohdepejaaa
open Go.RowKit

/-- Sorted answers a row of its own (the laws append to it, and write into it). -/
structure MergeOk : Prop where
  sorted : ∀ (p : Option Addr) (n c : Nat) (l : List En) (w : World), InE w p n c l → n ≤ 100000 →
    Calls Try.prog 20 #[.slice p n c] w fun e w' => ∃ v, e = .returned v ∧ TwosSoFar enH enA 49 w (sortE l) v w'

section
variable {α : Type} {v0 v1 : α → Value} {dd : α}
theorem twoFlat_set : ∀ (l : List α) (i : Nat) (r : α), i < l.length → v0 r = v0 (l.getD i dd) → twoFlat v0 v1 (l.set i r) = (twoFlat v0 v1 l).set (i * 2 + 1) (v1 r)
  | [], i, r, h, _ => by simp at h
  | x :: l, 0, r, _, h => by
    have h' : v0 r = v0 x := by simpa using h
    simp [twoFlat, h']
  | x :: l, i + 1, r, h, h2 => by
    have ih := twoFlat_set l i r (by simpa using h) (by simpa using h2)
    have e : (i + 1) * 2 + 1 = (i * 2 + 1) + 1 + 1 := by omega
    rw [List.set_cons_succ, e]
    show v0 x :: v1 x :: twoFlat v0 v1 (l.set i r) = (v0 x :: v1 x :: twoFlat v0 v1 l).set (i * 2 + 1 + 1 + 1) (v1 r)
    rw [List.set_cons_succ, List.set_cons_succ, ih]
/-- A row of one's own in memory: its block, whole. -/
theorem TwosSoFar.whole {t : TypeId} {w0 wr : World} {l : List α} {g n d : Nat} (h : TwosSoFar v0 v1 t w0 l (.slice (some ⟨g, 0, none⟩) n d) wr) :
    ∃ cur, Whole wr g t cur ∧ n = l.length ∧ w0.heap.size ≤ g ∧ n ≤ d ∧ d ≤ maxLen ∧ cur.size = d * 2 ∧ cur.toList.take (l.length * 2) = twoFlat v0 v1 l := by
  obtain ⟨⟨_, ho⟩, _⟩ := h
  rcases ho with ⟨hn, _⟩ | ⟨g', cap, cur, hv, hb, hg, h1, h2, h3, h4⟩
  · simp at hn
  · simp only [Value.slice.injEq, Option.some.injEq, Addr.mk.injEq, and_true] at hv
    obtain ⟨rfl, rfl, rfl⟩ := hv
    exact ⟨cur, hg, rfl, hb, h1, h2, h3, h4⟩
theorem TwosSoFar.setTwo {t : TypeId} {w0 wr : World} {l : List α} {g n d i : Nat} (h : TwosSoFar v0 v1 t w0 l (.slice (some ⟨g, 0, none⟩) n d) wr) (hi : i < l.length) (r : α) (hr : v0 r = v0 (l.getD i dd)) :
    TwosSoFar v0 v1 t w0 (l.set i r) (.slice (some ⟨g, 0, none⟩) n d) (wr.setCell ⟨g, i * 2 + 1, none⟩ (v1 r)) := by
  obtain ⟨cur, hw, hn, hb, h1, h2, h3, h4⟩ := h.whole
  refine ⟨⟨by rw [twoFlat_length], .inr ⟨g, d, cur.setIfInBounds (i * 2 + 1) (v1 r), ?_, hb, hw.set (i * 2 + 1) (v1 r), ?_, h2, ?_, ?_⟩⟩, h.2.setCell hb _⟩
  · rw [List.length_set, ← hn]
  · rw [List.length_set, ← hn]; exact h1
  · rw [Array.size_setIfInBounds]; exact h3
  · rw [List.length_set, Array.toList_setIfInBounds, List.take_set, h4, twoFlat_set (dd := dd) l i r hi hr]
theorem TwosSoFar.setFar {t : TypeId} {w0 wr : World} {l : List α} {g n d : Nat} (h : TwosSoFar v0 v1 t w0 l (.slice (some ⟨g, 0, none⟩) n d) wr) {p : Addr} (hp : g ≠ p.block) (hb : w0.heap.size ≤ p.block) (x : Value) : TwosSoFar v0 v1 t w0 l (.slice (some ⟨g, 0, none⟩) n d) (wr.setCell p x) :=
  ⟨ownsRow_setCell_other h.1 (by simp [Value.ownBlock]; exact hp) _, h.2.setCell hb _⟩
theorem TwosSoFar.cells2 {t : TypeId} {w0 wr : World} {l : List α} {g n d i : Nat} (h : TwosSoFar v0 v1 t w0 l (.slice (some ⟨g, 0, none⟩) n d) wr) (hi : i < l.length) :
    wr.cell? ⟨g, i * 2, none⟩ = some (v0 (l.getD i dd)) ∧ wr.cell? ⟨g, i * 2 + 1, none⟩ = some (v1 (l.getD i dd)) ∧ wr.frozen? ⟨g, i * 2 + 1, none⟩ = false := by
  obtain ⟨cur, hw, hn, hb, h1, h2, h3, h4⟩ := h.whole
  have hc := h.1.cells (g := g) rfl
  refine ⟨?_, ?_, hw.free _⟩
  · have := hc (i * 2 + 0) _ (by rw [twoFlat_at (dd := dd) l i 0 hi (by decide)]; rfl)
    rw [Addr.add_lit, Nat.zero_add] at this
    exact this
  · have := hc (i * 2 + 1) _ (by rw [twoFlat_at (dd := dd) l i 1 hi (by decide)]; rfl)
    rw [Addr.add_lit, Nat.zero_add] at this
    exact this
end
end Go.Proofs.Ytmifbohdepejaaa

namespace Go.Proofs.Ytmifbohdepejaaa
open Go.RowKit

/-- Block g has room for d entries; the first n are those of f. -/
def RowF (wr : World) (g d n : Nat) (f : Nat → En) : Prop :=
  ∃ cur, Whole wr g 49 cur ∧ cur.size = d * 2 ∧ n ≤ d ∧ ∀ i, i < n → cur[i * 2]? = some (enH (f i)) ∧ cur[i * 2 + 1]? = some (enA (f i))
theorem RowF.lt {wr : World} {g d n : Nat} {f : Nat → En} (h : RowF wr g d n f) : g < wr.heap.size := by
  obtain ⟨cur, hw, _⟩ := h
  exact hw.lt
theorem RowF.le {wr : World} {g d n : Nat} {f : Nat → En} (h : RowF wr g d n f) : n ≤ d := by
  obtain ⟨cur, _, _, h, _⟩ := h
  exact h
theorem RowF.cell {wr : World} {g d n : Nat} {f : Nat → En} (h : RowF wr g d n f) {i : Nat} (hi : i < n) :
    wr.cell? ⟨g, i * 2, none⟩ = some (.int .u64 ((f i).hash : Int)) ∧ wr.cell? ⟨g, i * 2 + 1, none⟩ = some (.int .u32 ((f i).at_ : Int)) := by
  obtain ⟨cur, hw, _, _, hc⟩ := h
  exact ⟨hw.cell _ (hc i hi).1, hw.cell _ (hc i hi).2⟩
theorem RowF.free {wr : World} {g d n : Nat} {f : Nat → En} (h : RowF wr g d n f) (i : Nat) : wr.frozen? ⟨g, i, none⟩ = false := by
  obtain ⟨cur, hw, _⟩ := h
  exact hw.free i
theorem RowF.keep {w w' : World} {g d n : Nat} {f : Nat → En} (h : RowF w g d n f) {S : Nat → Prop} (hk : Keeps S w w') (hs : ¬ S g) : RowF w' g d n f := by
  obtain ⟨cur, hw, h1⟩ := h
  exact ⟨cur, hw.keep hk hs, h1⟩
theorem RowF.drew {w : World} {g d n : Nat} {f : Nat → En} (h : RowF w g d n f) : RowF w.drew g d n f := h
theorem RowF.congr {w : World} {g d n m : Nat} {f f' : Nat → En} (h : RowF w g d n f) (hm : m ≤ n) (he : ∀ i, i < m → f i = f' i) : RowF w g d m f' := by
  obtain ⟨cur, hw, h1, h2, h3⟩ := h
  exact ⟨cur, hw, h1, by omega, fun i hi => by rw [← he i hi]; exact h3 i (by omega)⟩
theorem RowF.put {w : World} {g d n : Nat} {f : Nat → En} (h : RowF w g d n f) {k : Nat} (hk : k < n) (x : En) :
    RowF ((w.setCell ⟨g, k * 2, none⟩ (.int .u64 (x.hash : Int))).setCell ⟨g, k * 2 + 1, none⟩ (.int .u32 (x.at_ : Int))) g d n (fun i => if i = k then x else f i) := by
  obtain ⟨cur, hw, h1, h2, h3⟩ := h
  refine ⟨_, (hw.set _ _).set _ _, by simpa using h1, h2, fun i hi => ?_⟩
  dsimp only
  by_cases e : i = k
  · subst e
    constructor
    · rw [if_pos rfl, Array.getElem?_setIfInBounds_ne (by omega), Array.getElem?_setIfInBounds_self_of_lt (by omega)]
      rfl
    · rw [if_pos rfl, Array.getElem?_setIfInBounds_self_of_lt (by simp; omega)]
      rfl
  · rw [if_neg e]
    constructor
    · rw [Array.getElem?_setIfInBounds_ne (by omega), Array.getElem?_setIfInBounds_ne (by omega)]
      exact (h3 i hi).1
    · rw [Array.getElem?_setIfInBounds_ne (by omega), Array.getElem?_setIfInBounds_ne (by omega)]
      exact (h3 i hi).2
theorem keepsPut {S : Nat → Prop} {a b : World} (h : Keeps S a b) {g : Nat} (hg : S g ∨ a.heap.size ≤ g) (i j : Nat) (u v : Value) : Keeps S a ((b.setCell ⟨g, i, none⟩ u).setCell ⟨g, j, none⟩ v) := (h.set hg u).set hg v

/-- The row as entries that can be read. -/
theorem RowF.ens {w : World} {g d n : Nat} {f : Nat → En} (h : RowF w g d n f) {l : List En} (hl : l.length ≤ n) (he : ∀ i, i < l.length → l.getD i En.none = f i) : EnsAt w (some ⟨g, 0, none⟩) l := fun i hi => by
  refine ⟨_, rfl, ?_⟩
  have hc := h.cell (i := i) (by omega)
  rw [← he i hi] at hc
  simp only [Addr.add_lit, Nat.zero_add]
  exact hc
/-- A row of one's own, place by place. -/
theorem RowF.ofOwn {w : World} {base g n d : Nat} {l : List En} (h : w.ownsRow base 49 2 (.slice (some ⟨g, 0, none⟩) n d) n (twoFlat enH enA l)) (hn : n = l.length) :
    RowF w g d n (fun i => l.getD i En.none) ∧ base ≤ g ∧ d ≤ maxLen := by
  rcases h with ⟨hl, ⟨h0, _⟩ | ⟨g', cap, cur, hv, hb, hg, h1, h2, h3, h4⟩⟩
  · simp at h0
  · simp only [Value.slice.injEq, Option.some.injEq, Addr.mk.injEq, and_true, true_and] at hv
    obtain ⟨rfl, rfl⟩ := hv
    refine ⟨⟨cur, hg, h3, h1, fun i hi => ?_⟩, hb, h2⟩
    have e : ∀ j u, j < 2 → [enH (l.getD i En.none), enA (l.getD i En.none)][j]? = some u → cur[i * 2 + j]? = some u := fun j u hj hu => by
      have h5 := twoFlat_at (v0 := enH) (v1 := enA) (dd := En.none) l i j (by omega) hj
      rw [← h4, hu, List.getElem?_take_of_lt (by omega)] at h5
      simpa using h5
    exact ⟨e 0 _ (by decide) rfl, e 1 _ (by decide) rfl⟩
/-- .. and back. -/
theorem RowF.own {w : World} {base g n d : Nat} {f : Nat → En} (h : RowF w g d n f) {l : List En} (hl : l.length ≤ n) (he : ∀ i, i < l.length → l.getD i En.none = f i) (hb : base ≤ g) (hd : d ≤ maxLen) :
    w.ownsRow base 49 2 (.slice (some ⟨g, 0, none⟩) l.length d) l.length (twoFlat enH enA l) := by
  obtain ⟨cur, hw, h1, h2, h3⟩ := h
  refine ⟨twoFlat_length l, .inr ⟨g, d, cur, rfl, hb, hw, by omega, hd, h1, ?_⟩⟩
  apply List.ext_getElem?
  intro j
  by_cases hj : j < l.length * 2
  · rw [List.getElem?_take_of_lt hj]
    have hi : j / 2 < l.length := by omega
    have h4 := h3 (j / 2) (by omega)
    rw [← he (j / 2) hi] at h4
    by_cases h5 : j % 2 = 0
    · have e : j = j / 2 * 2 + 0 := by omega
      rw [e, twoFlat_at (v0 := enH) (v1 := enA) (dd := En.none) l (j / 2) 0 hi (by decide)]
      simpa using h4.1
    · have e : j = j / 2 * 2 + 1 := by omega
      rw [e, twoFlat_at (v0 := enH) (v1 := enA) (dd := En.none) l (j / 2) 1 hi (by decide)]
      simpa using h4.2
  · rw [List.getElem?_eq_none (by rw [List.length_take]; omega), List.getElem?_eq_none (by rw [twoFlat_length]; omega)]

theorem madeTwos (n : Nat) : (madeCells (Value.agg #[.int .u64 0, .int .u32 0]).cells (n * 2)).toList = twoFlat enH enA (List.replicate n En.none) := by
  have hz : (Value.agg #[.int .u64 0, .int .u32 0]).cells = #[.int .u64 0, .int .u32 0] := rfl
  rw [hz]
  apply List.ext_getElem?
  intro j
  by_cases hj : j < n * 2
  · have hi : j / 2 < (List.replicate n En.none).length := by simp; omega
    have h6 : (madeCells #[.int .u64 0, .int .u32 0] (n * 2)).toList[j]? = some ((#[Value.int .u64 0, Value.int .u32 0])[j % 2]!) := by
      rw [Array.getElem?_toList]
      simp [madeCells, hj]
    have h7 : (List.replicate n En.none).getD (j / 2) En.none = En.none := by
      rw [List.getD_eq_getElem?_getD, List.getElem?_replicate]
      split <;> rfl
    rw [h6]
    by_cases h5 : j % 2 = 0
    · have e : j = j / 2 * 2 + 0 := by omega
      rw [h5]
      conv => rhs; rw [e]
      rw [twoFlat_at (v0 := enH) (v1 := enA) (dd := En.none) _ (j / 2) 0 hi (by decide), h7]
      rfl
    · have e : j = j / 2 * 2 + 1 := by omega
      rw [show j % 2 = 1 by omega]
      conv => rhs; rw [e]
      rw [twoFlat_at (v0 := enH) (v1 := enA) (dd := En.none) _ (j / 2) 1 hi (by decide), h7]
      rfl
  · rw [List.getElem?_eq_none (by simp [madeCells]; omega), List.getElem?_eq_none (by rw [twoFlat_length]; simp; omega)]
end Go.Proofs.Ytmifbohdepejaaa

namespace Go.Proofs.Ytmifbohdepejaaa
open Go.RowKit

theorem takeE_getD : ∀ (n j : Nat) (xs : List Int), j < n → (takeE n xs).getD j En.none = ⟨(le ((xs.drop (12 * j)).take 8)).toNat, (le ((xs.drop (12 * j + 8)).take 4)).toNat⟩
  | 0, _, _, h => by omega
  | n + 1, 0, xs, _ => by simp [takeE]
  | n + 1, j + 1, xs, h => by
    rw [takeE, List.getD_cons_succ, takeE_getD n j (xs.drop 12) (by omega), List.drop_drop, List.drop_drop, show 12 + 12 * j = 12 * (j + 1) by omega, show 12 + (12 * j + 8) = 12 * (j + 1) + 8 by omega]

theorem le_nat {xs : List Int} (ho : Octets xs) (m : Nat) : le (xs.take m) = (((le (xs.take m)).toNat : Nat) : Int) := by
  have := (le_bound (xs.take m) (fun b hb => ho b (List.mem_of_mem_take hb))).1
  omega
theorem wrap_small {x : Nat} (h : x < 9223372036854775808) : wrap64 (x : Int) = (x : Int) := by unfold wrap64; omega
/-- What the row is behind j entries. -/
def soFar (l : List En) (j : Nat) : Nat → En := fun i => if i < j then l.getD i En.none else En.none
theorem soFar_step (l : List En) (j : Nat) (i : Nat) : (if i = j then l.getD j En.none else soFar l j i) = soFar l (j + 1) i := by
  unfold soFar
  by_cases h : i = j
  · subst h
    rw [if_pos rfl, if_pos (by omega)]
  · rw [if_neg h]
    by_cases h2 : i < j
    · rw [if_pos h2, if_pos (by omega)]
    · rw [if_neg h2, if_neg (by omega)]

set_option maxHeartbeats 4000000 in
set_option maxRecDepth 10000 in
theorem tget_own (k : Nat) (p : Option Addr) (xs : List Int) (N c a : Nat) (z : Int) (w : World) (hx : N = xs.length) (h : CurB w k p N c a true 0) (hb : Bytes8 w p xs) (ho : Octets xs) (hp : 0 < xs.length → ∀ q, p = some q → q.block ≠ k) (ha : a ≤ N) (hN : N ≤ c) (hc : c ≤ 9223372036854775807) (hN9 : N ≤ 1000000) :
    Calls Try.prog 71 #[.pointer (some ⟨k, 0, none⟩), .int .i64 z] w (GetEPost k p N c a (getE z (xs.drop a)) w) := by
  unfold getE
  by_cases hz : z ≤ 0
  · rw [if_pos hz]
    have hd : decide (z ≤ 0) = true := decide_eq_true hz
    have H := Lib.hid h
    clear h hb ho hp hz hx
    go_enter Try.func71, Try.ntmps71
    go_wp2_with fail
    go_ret
    exact ⟨Keeps.refl _ _, .inl ⟨rfl, ⟨_, rfl, none, 0, 0, rfl, rfl, Nat.le_refl _, by decide, fun _ => ⟨rfl, rfl⟩, TwosAt.nil _ _, fun h => by omega⟩, H.out⟩⟩
  · rw [if_neg hz]
    obtain ⟨n, rfl⟩ : ∃ n : Nat, z = (n : Int) := ⟨z.toNat, by omega⟩
    rw [Int.toNat_natCast]
    have hd : decide ((n : Int) ≤ 0) = false := decide_eq_false hz
    have hd2 : decide (n ≤ 0) = false := decide_eq_false (by omega)
    have hd3 : decide (n = 0) = false := decide_eq_false (by omega)
    have hn0 : ¬ n = 0 := by omega
    obtain ⟨M, hM⟩ : ∃ M, M = (xs.drop a).length := ⟨_, rfl⟩
    have hMN : a + M = N := by rw [hM, List.length_drop]; omega
    have HLf := Lib.hid (fun w h => left_at k p N c a 0 w h ha (by omega))
    rw [show (N : Int) - (a : Int) = (M : Int) by omega] at HLf
    rw [← hM]
    have hq : ((M : Int)).tdiv 12 = ((M / 12 : Nat) : Int) := by rw [Int.tdiv_eq_ediv_of_nonneg (by omega)]; omega
    obtain ⟨K, hK⟩ : ∃ K, K = M / 12 := ⟨_, rfl⟩
    rw [← hK] at hq ⊢
    have hq2 : (M : Int) / 12 = (K : Int) := by omega
    have hK9 : K ≤ 1000000 := by rw [hK]; omega
    by_cases hs : K < n
    · rw [if_pos hs]
      have hs1 : decide ((K : Int) < (n : Int)) = true := decide_eq_true (by omega)
      have hs2 : decide (K < n) = true := decide_eq_true hs
      have H := Lib.hid h
      clear h hb ho hp hz hx hM hK hs
      have hwK : wrap64 (K : Int) = (K : Int) := wrap_small (by omega)
      go_enter Try.func71, Try.ntmps71
      go_wp2_with fail
      refine (HLf.out _ H.out).mono ?_
      rintro e w1 ⟨rfl, m, rfl⟩
      have H1 : Hid (CurB (w.drewN m) k p N c a true 0) := Lib.hid H.out
      go_wp2_with fail
      clear hwK
      refine (fail_at k p N c a 2 _ H1.out (by decide)).mono ?_
      rintro e w2 ⟨rfl, hcur, hk⟩
      exact ⟨rfl, hk.ofDrewN, .inr ⟨by decide, rfl, hcur⟩⟩
    · rw [if_neg hs]
      have hs1 : decide ((K : Int) < (n : Int)) = false := decide_eq_false (by omega)
      have hs2 : decide (K < n) = false := decide_eq_false hs
      have hfit : a + 12 * n ≤ N := by omega
      obtain ⟨l, hl⟩ : ∃ l, l = takeE n (xs.drop a) := ⟨_, rfl⟩
      rw [← hl]
      have hll : l.length = n := by rw [hl]; exact takeE_length _ _
      obtain ⟨t, ht⟩ : ∃ t : GE, t = if risesE l = true then ⟨12 * n, 0, l⟩ else ⟨12 * n, 8, []⟩ := ⟨_, rfl⟩
      rw [← ht]
      have HT := Lib.hid ht
      clear ht
      have HG : Hid (∀ j, j < n → le ((xs.drop (a + 12 * j)).take 8) = ((l.getD j En.none).hash : Int) ∧ le ((xs.drop (a + 12 * j + 8)).take 4) = ((l.getD j En.none).at_ : Int)) := Lib.hid (fun j hj => by
        have hd := takeE_getD n j (xs.drop a) hj
        rw [← hl, List.drop_drop, List.drop_drop, show a + (12 * j + 8) = a + 12 * j + 8 by omega] at hd
        rw [hd]
        dsimp only
        have e1 := le_nat (ho.drop (a + 12 * j)) 8
        have e2 := le_nat (ho.drop (a + 12 * j + 8)) 4
        exact ⟨e1, e2⟩)
      have HE := Lib.hid (fun j w (hj : j < n) h hb => eight_at k p xs N c (a + 12 * j) w hx h hb ho hp (by omega) hN hc)
      have HF := Lib.hid (fun j w (hj : j < n) h hb => four_at k p xs N c (a + 12 * j + 8) w hx h hb ho hp (by omega) hN hc)
      have H := Lib.hid h
      have HB := Lib.hid hb
      have HP := Lib.hid hp
      have HL := Lib.hid hll
      have hn9 : n ≤ 100000 := by omega
      obtain ⟨i0, hi, hz0, hz1, hz2⟩ := info_parts infoEnL
      have HCx := Lib.hid hfit
      clear h hb ho hp hz hx hM hK hs hl hll hq2 hMN hfit
      have hwK : wrap64 (K : Int) = (K : Int) := wrap_small (by omega)
      go_enter Try.func71, Try.ntmps71
      go_wp2_with fail
      refine (HLf.out _ H.out).mono ?_
      rintro e w1 ⟨rfl, m, rfl⟩
      obtain ⟨W, hW⟩ : ∃ W, W = w.drewN m := ⟨_, rfl⟩
      have H1 : Hid (CurB W k p N c a true 0) := Lib.hid (by rw [hW]; exact H.out)
      have HB1 : Hid (Bytes8 W p xs) := Lib.hid (by rw [hW]; exact HB.out)
      have HK1 : Hid (Keeps (Just k) w W) := Lib.hid (by rw [hW]; exact (Keeps.refl _ _).drewN _)
      rw [← hW]
      clear hW HLf
      go_wp2_with (at_make; refine wpList_make_full _ rfl _ _ 23 rfl W.heap.size 49 i0 (.agg #[.int .u64 0, .int .u32 0]) 2 Try.underlying23 hi hz0 hz1 .i64 .i64 (n : Int) (n : Int) n rfl rfl rfl rfl (by rw [hz2]; omega) (by unfold maxLen; omega) (Nat.le_refl _) ?_)
      intro w2 hown hgrow
      clear hwK
      have hown2 : w2.ownsRow W.heap.size 49 2 (.slice (some ⟨W.heap.size, 0, none⟩) n n) n (twoFlat enH enA (List.replicate n En.none)) := by rw [← madeTwos n]; exact hown
      have hR0 := RowF.ofOwn hown2 (by simp)
      clear hown2
      have HK2 := Lib.hid (HK1.out.grown hgrow (fun k hk => by simp at hk))
      have hkW : k < W.heap.size := H1.out.lt
      have HR : Hid (RowF w2 W.heap.size n n (soFar l 0)) := Lib.hid (hR0.1.congr (Nat.le_refl _) (fun i hi => by
        have e : soFar l 0 i = En.none := by unfold soFar; rw [if_neg (by omega)]
        rw [e, List.getD_eq_getElem?_getD, List.getElem?_replicate]
        split <;> rfl))
      have hNo : Keeps NoBlock W w2 := (Keeps.refl NoBlock W).grown hgrow (fun k hk => by simp at hk)
      have HC2 : Hid (CurB w2 k p N c (a + 12 * 0) true 0) := Lib.hid (H1.out.keep hNo (fun h => h))
      have HB2 : Hid (Bytes8 w2 p xs) := Lib.hid (HB1.out.keep hNo (fun _ _ h => h))
      have hgn : W.heap.size ≠ k := by omega
      have hwg : w.heap.size ≤ W.heap.size := HK1.out.size
      obtain ⟨g, hgd⟩ : ∃ g, g = W.heap.size := ⟨_, rfl⟩
      rw [← hgd] at HR hgn hwg ⊢
      have HPg : Hid (0 < xs.length → ∀ q, p = some q → q.block ≠ g) := Lib.hid (fun h0 q hq => by
        obtain ⟨a', ha', hc⟩ := HB.out h0
        obtain rfl := Option.some.inj (ha'.symm.trans hq)
        have := ltOfCell (hc 0 h0)
        rw [addBlock] at this
        omega)
      have HGn := Lib.hid hgn
      have HWg := Lib.hid hwg
      clear hown hgrow hR0 hNo hgn hwg hgd hkW H1 HB1 HK1
      go_wp2_with fail
      go_loopw [20] (fun i wr => ∃ j : Nat, j ≤ n ∧ i = .int .i64 (j : Int) ∧ Hid (CurB wr k p N c (a + 12 * j) true 0) ∧ Hid (RowF wr g n n (soFar l j)) ∧ Hid (Keeps (Just k) w wr) ∧ Hid (Bytes8 wr p xs)) (fun i _ => n - (intOf i).toNat)
      case atStart => exact ⟨0, Nat.zero_le _, rfl, HC2, HR, HK2, HB2⟩
      case round =>
        obtain ⟨j, hj, rfl, HC3, HR3, HK3, HB3⟩ := hrel
        by_cases hlt : j < n
        · have hdj : decide ((j : Int) < (n : Int)) = true := decide_eq_true (by omega)
          have HE3 := HE.out j
          have HF3 := HF.out j
          rw [(HG.out j hlt).1] at HE3
          rw [(HG.out j hlt).2] at HF3
          have HE3 := Lib.hid HE3
          have HF3 := Lib.hid HF3
          obtain ⟨r, hr⟩ : ∃ r, r = l.getD j En.none := ⟨_, rfl⟩
          have HStep : Hid (∀ i, (if i = j then r else soFar l j i) = soFar l (j + 1) i) := Lib.hid (by rw [hr]; exact soFar_step l j)
          rw [← hr] at HE3 HF3
          clear hr
          go_wp2_with fail
          refine (HE3.out _ hlt HC3.out HB3.out).mono ?_
          rintro e w4 ⟨rfl, hcur, hk⟩
          have HC4 := Lib.hid hcur
          have HR4 := Lib.hid (HR3.out.keep hk HGn.out)
          have HK4 := Lib.hid (HK3.out.trans hk)
          have HB4 := Lib.hid (HB3.out.keepPos hk (fun h0 q hq => HP.out h0 q hq))
          clear hcur hk
          go_wp2_with fail
          refine (HF3.out _ hlt HC4.out HB4.out).mono ?_
          rintro e w5 ⟨rfl, hcur, hk⟩
          have HC5 := Lib.hid hcur
          have HR5 := Lib.hid (HR4.out.keep hk HGn.out)
          have HK5 := Lib.hid (HK4.out.trans hk)
          have HB5 := Lib.hid (HB4.out.keepPos hk (fun h0 q hq => HP.out h0 q hq))
          clear hcur hk
          have x0 := (HR5.out.cell hlt).1
          have x1 := (HR5.out.cell hlt).2
          have f0 := HR5.out.free (j * 2)
          have f1 := HR5.out.free (j * 2 + 1)
          have HRn := Lib.hid (HR5.out.put hlt r)
          have HKn := Lib.hid (keepsPut HK5.out (.inr HWg.out) (j * 2) (j * 2 + 1) (.int .u64 (r.hash : Int)) (.int .u32 (r.at_ : Int)))
          have hSet : Keeps (Just g) w5 ((w5.setCell ⟨g, j * 2, none⟩ (.int .u64 (r.hash : Int))).setCell ⟨g, j * 2 + 1, none⟩ (.int .u32 (r.at_ : Int))) := keepsPut (Keeps.refl _ _) (.inl (Just.self g)) _ _ _ _
          have HCn := Lib.hid (Whole.keep HC5.out hSet (fun h => HGn.out h.symm))
          have HSet := Lib.hid hSet
          clear hSet
          go_wp2_with fail
          go_roundw
          case rel =>
            refine ⟨j + 1, by omega, by go_num, Lib.hid ?_, Lib.hid ?_, Lib.hid HKn.out, Lib.hid ?_⟩
            · rw [show a + 12 * (j + 1) = a + 12 * j + 8 + 4 by omega]
              exact HCn.out
            · exact HRn.out.congr (Nat.le_refl _) (fun i _ => HStep.out i)
            · exact HB5.out.keepPos HSet.out (fun h0 q hq => HPg.out h0 q hq)
          case measure => simp [intOf]; omega
        · have hdj : decide ((j : Int) < (n : Int)) = false := decide_eq_false (by omega)
          obtain rfl : j = n := by omega
          have HEn := Lib.hid (HR3.out.ens (l := l) (by rw [HL.out]; exact Nat.le_refl _) (fun i hi => by unfold soFar; rw [if_pos (by have := HL.out; omega)]))
          have HRi := Lib.hid (fun w h => rising_own (some ⟨g, 0, none⟩) j j l HL.out.symm (by omega) w h)
          cases hri : risesE l
          · rw [hri] at HRi
            have HT2 : Hid (t = ⟨12 * j, 8, []⟩) := Lib.hid (by rw [HT.out, if_neg (by rw [hri]; simp)])
            clear hri HT
            go_wp2_with fail
            refine (HRi.out _ HEn.out).mono ?_
            rintro e w6 ⟨rfl, hk⟩
            have HC6 := Lib.hid (HC3.out.keep hk (fun h => h))
            have HK6 := Lib.hid (HK3.out.then hk (fun _ _ h => h.elim))
            clear hk
            go_wp2_with fail
            refine (fail_at k p N c (a + 12 * j) 8 _ HC6.out (by decide)).mono ?_
            rintro e w7 ⟨rfl, hcur, hk⟩
            refine ⟨rfl, ?_⟩
            unfold GetEPost
            rw [HT2.out]
            exact ⟨HK6.out.trans hk, .inr ⟨show (8 : Int) ≠ 0 by decide, rfl, hcur⟩⟩
          · rw [hri] at HRi
            have HT2 : Hid (t = ⟨12 * j, 0, l⟩) := Lib.hid (by rw [HT.out, if_pos hri])
            clear hri HT
            go_wp2_with fail
            refine (HRi.out _ HEn.out).mono ?_
            rintro e w6 ⟨rfl, hk⟩
            have HC6 := Lib.hid (HC3.out.keep hk (fun h => h))
            have HK6 := Lib.hid (HK3.out.then hk (fun _ _ h => h.elim))
            have HE6 := Lib.hid (EnsAt.keep HEn.out hk)
            clear hk
            go_wp2_with fail
            go_ret
            unfold GetEPost
            rw [HT2.out]
            exact ⟨HK6.out, .inl ⟨rfl, ⟨_, rfl, _, _, _, rfl, HL.out.symm, Nat.le_refl _, by omega, fun h => by simp at h, HE6.out, fun _ a ha => by obtain rfl := Option.some.inj ha; exact HWg.out⟩, HC6.out⟩⟩
theorem bytes_ok : BytesOk := ⟨fun base g xs p n c l w h1 h2 h3 h4 h5 h6 => put_own base g xs p n c l w h1 h2 h3 h4 h5 h6, fun k p xs N c a z w h1 h2 h3 h4 h5 h6 h7 h8 h9 => tget_own k p xs N c a z w h1 h2 h3 h4 h5 h6 h7 h8 h9⟩
end Go.Proofs.Ytmifbohdepejaaa

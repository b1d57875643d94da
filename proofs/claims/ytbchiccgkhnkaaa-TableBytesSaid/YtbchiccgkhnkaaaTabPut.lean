/-
  Package table's own Put.
-/
import Derived.Test.YtbchiccgkhnkaaaTabLaws
import Derived.Test.YtbchiccgkhnkaaaBufT
namespace Go.Proofs.Ytbchiccgkhnkaaa
open Go.RowKit

set_option maxHeartbeats 4000000 in
set_option maxRecDepth 10000 in
theorem put_own (base g : Nat) (xs : List Int) (p : Option Addr) (n c : Nat) (l : List En) (w : World) (h : BufAt w base g xs) (hs : base ≤ w.heap.size) (hi : InE w p n c l) (hn9 : n ≤ 100000) (hfar : 0 < n → ∀ a, p = some a → ¬ OnBuf base g a.block) (hx : xs.length ≤ 100000000) :
    Calls Try.prog 16 #[.pointer (some ⟨g, 0, none⟩), .slice p n c] w fun e w' => e = .returned (.tuple #[]) ∧ BufAt w' base g (xs ++ textE l) ∧ Keeps (OnBuf base g) w w' := by
  have H := Lib.hid h
  have HI := Lib.hid hi
  have HF := Lib.hid hfar
  have HX := Lib.hid hx
  clear h hi hfar hx
  go_enter Try.func16, Try.ntmps16
  go_wp2_with fail
  go_loopw [10] (fun i wr => ∃ j : Nat, j ≤ n ∧ i = .int .i64 (j : Int) ∧ Hid (BufAt wr base g (xs ++ textE (l.take j))) ∧ Hid (Keeps (OnBuf base g) w wr)) (fun i _ => n - (intOf i).toNat)
  case atStart => exact ⟨0, Nat.zero_le _, rfl, Lib.hid (by simpa [textE] using H.out), Lib.hid (Keeps.refl _ _)⟩
  case round =>
    obtain ⟨j, hj, rfl, HB, HK⟩ := hrel
    by_cases hlt : j < n
    · have hdj : decide ((j : Int) < (n : Int)) = true := decide_eq_true (by omega)
      have hjl : j < l.length := by rw [← HI.out.len]; exact hlt
      obtain ⟨a, rfl, c0, c1⟩ := (EnsAt.keepFar HI.out.at_ HK.out (fun h0 a ha => HF.out (by omega) a ha)).at_ j hjl
      have hfn := HI.out.fine (l.getD j En.none) (by simp [hjl])
      have HT := Lib.hid (textE_take hjl)
      obtain ⟨r, hr⟩ : ∃ r, r = l.getD j En.none := ⟨_, rfl⟩
      rw [← hr] at c0 c1 hfn HT
      clear hr
      have h64 : ((r.hash : Nat) : Int) < 18446744073709551616 := by have := hfn.hash; omega
      have h32 : ((r.at_ : Nat) : Int) < 4294967296 := by have := hfn.at_; omega
      have HL : Hid ((xs ++ textE (l.take j)).length ≤ 110000000) := Lib.hid (by
        have := HX.out
        rw [List.length_append, textE_length, List.length_take]
        omega)
      have H64 := Lib.hid h64
      have H32 := Lib.hid h32
      clear h64 h32 hfn hjl
      obtain ⟨Y, hY⟩ : ∃ Y, Y = xs ++ textE (l.take j) := ⟨_, rfl⟩
      rw [← hY] at HB HL
      have HYd := Lib.hid hY
      clear hY
      have HB0 := Lib.hid (show BufAt (wr.alloc (.cells #[.int .u64 (r.hash : Int), .int .u32 (r.at_ : Int)] 29)) base g Y from by
        obtain ⟨v, h1, h2⟩ := HB.out
        exact ⟨v, h1.alloc _, World.ownsRow.alloc h2 _⟩)
      have HK0 := Lib.hid (HK.out.alloc (.cells #[.int .u64 (r.hash : Int), .int .u32 (r.at_ : Int)] 29))
      have HW0 := Lib.hid (Whole.new wr 29 #[.int .u64 (r.hash : Int), .int .u32 (r.at_ : Int)])
      have HSz : Hid (base ≤ (wr.alloc (.cells #[.int .u64 (r.hash : Int), .int .u32 (r.at_ : Int)] 29)).heap.size) := Lib.hid (by have := HK0.out.size; omega)
      clear HB
      go_wp2_with fail
      obtain ⟨W, hW⟩ : ∃ W, W = wr.alloc (.cells #[.int .u64 (r.hash : Int), .int .u32 (r.at_ : Int)] 29) := ⟨_, rfl⟩
      rw [← hW] at HB0 HK0 HW0 HSz ⊢
      clear hW c0 c1
      have sN : W.cell? ⟨wr.heap.size, 0, none⟩ = some (.int .u64 (r.hash : Int)) ∧ W.cell? ⟨wr.heap.size, 1, none⟩ = some (.int .u32 (r.at_ : Int)) := ⟨HW0.out.cell 0 rfl, HW0.out.cell 1 rfl⟩
      have s0 : W.drew.cell? ⟨wr.heap.size, 0, none⟩ = some (.int .u64 (r.hash : Int)) ∧ W.drew.cell? ⟨wr.heap.size, 1, none⟩ = some (.int .u32 (r.at_ : Int)) := sN
      go_region_held3 (fun w' => w'.cell? ⟨wr.heap.size, 0, none⟩ = some (.int .u64 (r.hash : Int)) ∧ w'.cell? ⟨wr.heap.size, 1, none⟩ = some (.int .u32 (r.at_ : Int)))
        (first | exact s5 | exact s0 | exact sN)
        (first | (go_at_call 38; refine (bufEightT base g Y (r.hash : Int) _ (by exact HB0.out) (by exact HSz.out) (by have := HL.out; omega) (by omega) H64.out).mono ?_; rintro e w5 ⟨rfl, hb, hk, hst⟩; have HB1 := Lib.hid hb; have HK1 := Lib.hid (HK0.out.trans (by first | exact hk | exact hk.ofDrew | exact hk.ofDrewN)); have HW1 := Lib.hid (hst wr.heap.size 29 _ (by decide) (by decide) (by exact HW0.out)); have HSz1 : Hid (base ≤ w5.heap.size) := Lib.hid (by have := HK1.out.size; omega); have s5 : w5.cell? ⟨wr.heap.size, 0, none⟩ = some (.int .u64 (r.hash : Int)) ∧ w5.cell? ⟨wr.heap.size, 1, none⟩ = some (.int .u32 (r.at_ : Int)) := ⟨HW1.out.cell 0 rfl, HW1.out.cell 1 rfl⟩; clear hb hk hst) | (go_at_call 39; refine (bufFourT base g (Y ++ digits (r.hash : Int) 8) (r.at_ : Int) _ (by exact HB1.out) (by exact HSz1.out) (by have := HL.out; rw [List.length_append, digits_length]; omega) (by omega) H32.out).mono ?_; rintro e w6 ⟨rfl, hb, hk, hst⟩; have HB2 := Lib.hid hb; have HK2 := Lib.hid (HK1.out.trans (by first | exact hk | exact hk.ofDrew | exact hk.ofDrewN)); have HW2 := Lib.hid (hst wr.heap.size 29 _ (by decide) (by decide) (by exact HW1.out)); have s5 : w6.cell? ⟨wr.heap.size, 0, none⟩ = some (.int .u64 (r.hash : Int)) ∧ w6.cell? ⟨wr.heap.size, 1, none⟩ = some (.int .u32 (r.at_ : Int)) := ⟨HW2.out.cell 0 rfl, HW2.out.cell 1 rfl⟩; clear hb hk hst))
      go_wp2_with fail
      go_roundw
      case rel =>
        refine ⟨j + 1, by omega, by go_num, Lib.hid ?_, Lib.hid HK2.out⟩
        rw [HT.out, ← List.append_assoc, ← HYd.out, ← List.append_assoc]
        exact HB2.out
      case measure => simp [intOf]; omega
    · have hdj : decide ((j : Int) < (n : Int)) = false := decide_eq_false (by omega)
      have HE : Hid (l.take j = l) := Lib.hid (List.take_of_length_le (by have := HI.out.len; omega))
      rw [HE.out] at HB
      go_wp2_with fail
      go_returns
      exact ⟨rfl, HB.out, HK.out⟩
end Go.Proofs.Ytbchiccgkhnkaaa

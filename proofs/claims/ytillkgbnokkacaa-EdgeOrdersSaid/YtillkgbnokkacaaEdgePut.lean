/-
  Package edge's own Put and Get.
-/
import Derived.Test.YtillkgbnokkacaaEdgeOwn
import Derived.Test.YtillkgbnokkacaaEdgeGet
import Derived.Test.YtillkgbnokkacaaBufK
import Derived.Test.YtillkgbnokkacaaVarGet
namespace Go.Proofs.Ytillkgbnokkacaa
open Go.RowKit

set_option maxHeartbeats 800000 in
set_option maxRecDepth 10000 in
theorem eput_go (base g : Nat) (xs : List Int) (b : Nat) (w : World) (h : BufAt w base g xs) (hs : base ≤ w.heap.size) (hx : xs.length + 8 ≤ 140737488355328) (hb : Word64 b) :
    Calls Try.prog 17 #[.pointer (some ⟨g, 0, none⟩), .float .f64 b] w (EPutOk base g (xs ++ digits (textW b : Int) 8) w) := by
  have H := Lib.hid h
  have HT := Lib.hid (fun w => etext_go b hb w)
  have hr := fun w => run_tobits b w
  have ht := text_word hb
  have HTW := Lib.hid (show (((textW b : Nat) : Int)) < 18446744073709551616 by unfold Word64 at ht; omega)
  obtain ⟨t, htd⟩ : ∃ t, t = textW b := ⟨_, rfl⟩
  rw [← htd] at HT HTW ⊢
  clear h hb ht htd
  go_enter Try.func17, Try.ntmps17
  go_wp2_with fail
  refine (HT.out _).mono ?_
  rintro e w1 ⟨rfl, rfl⟩
  go_wp2_with fail
  refine (bufEightK base g xs (t : Int) _ H.out hs hx (by omega) HTW.out).mono ?_
  rintro e w2 ⟨rfl, hbuf, hk⟩
  have HB := Lib.hid hbuf; have HK := Lib.hid hk
  clear hbuf hk
  go_wp2_with fail
  go_returns
  exact ⟨rfl, HB.out, HK.out⟩

set_option maxHeartbeats 1600000 in
set_option maxRecDepth 10000 in
theorem eget_go (k : Nat) (p : Option Addr) (xs : List Int) (N c a : Nat) (w : World) (hx : N = xs.length) (h : CurB w k p N c a true 0) (hb : Bytes8 w p xs) (ho : Octets xs) (hp : 0 < xs.length → ∀ q, p = some q → q.block ≠ k) (ha : a ≤ N) (hN : N ≤ c) (hc : c ≤ 9223372036854775807) :
    Calls Try.prog 23 #[.pointer (some ⟨k, 0, none⟩)] w (EGetPost k p N c a (eget (xs.drop a)) w) := by
  by_cases hlt : N < a + 8
  · have HE := Lib.hid (show eget (xs.drop a) = ⟨2, 0, 0⟩ from eget_short (by rw [List.length_drop]; omega))
    have H := Lib.hid h
    have HX := Lib.hid hx
    clear h hb ho hp hx
    go_enter Try.func23, Try.ntmps23
    go_wp2_with fail
    refine (eight_short k p N c a _ H.out ha hlt (by omega)).mono ?_
    rintro e w1 ⟨rfl, hcur, hk⟩
    refine ⟨rfl, ?_⟩
    unfold EGetPost
    rw [HE.out]
    exact ⟨hk, .inr ⟨by decide, rfl, hcur⟩⟩
  · have how := le_word (ho.drop a)
    have HI := Lib.hid (fun w h h2 => eight_at k p xs N c a w hx h h2 ho hp (by omega) hN hc)
    have hlen : ¬ (xs.drop a).length < 8 := by rw [List.length_drop]; omega
    obtain ⟨z, hz⟩ : ∃ z, z = (le ((xs.drop a).take 8)).toNat := ⟨_, rfl⟩
    rw [← hz] at how
    obtain ⟨hw, he⟩ := how
    rw [← he] at HI
    have HT := Lib.hid (fun w => etext_go z hw w)
    have hf := fun w => run_frombits (z : Int) w
    rw [show ((z : Int)).toNat = z from rfl] at hf
    have H := Lib.hid h
    have HB := Lib.hid hb
    have HX := Lib.hid hx
    clear h hb ho hp hx
    by_cases ht : textW z = z
    · have HE := Lib.hid (eget_good hlen hz ht)
      rw [ht] at HT
      have hne : ((z : Int) != (z : Int)) = false := by simp
      clear hz he hw ht
      go_enter Try.func23, Try.ntmps23
      go_wp2_with fail
      refine (HI.out _ H.out HB.out).mono ?_
      rintro e w1 ⟨rfl, hcur, hk⟩
      have HC := Lib.hid hcur; have HK := Lib.hid hk
      clear hcur hk
      go_wp2_with fail
      refine (HT.out _).mono ?_
      rintro e w2 ⟨rfl, rfl⟩
      go_wp2_with fail
      go_ret
      unfold EGetPost
      rw [HE.out]
      exact ⟨HK.out, .inl ⟨rfl, rfl, HC.out⟩⟩
    · have HE := Lib.hid (eget_form hlen hz ht)
      obtain ⟨t, htd⟩ : ∃ t, t = textW z := ⟨_, rfl⟩
      rw [← htd] at HT ht
      have hne : ((t : Int) != (z : Int)) = true := by
        rw [bne_iff_ne]
        omega
      clear hz he hw ht htd
      go_enter Try.func23, Try.ntmps23
      go_wp2_with fail
      refine (HI.out _ H.out HB.out).mono ?_
      rintro e w1 ⟨rfl, hcur, hk⟩
      have HC := Lib.hid hcur; have HK := Lib.hid hk
      clear hcur hk
      go_wp2_with fail
      refine (HT.out _).mono ?_
      rintro e w2 ⟨rfl, rfl⟩
      go_wp2_with fail
      refine (fail_at k p N c (a + 8) 4 _ HC.out (by decide)).mono ?_
      rintro e w2 ⟨rfl, hcur, hk⟩
      refine ⟨rfl, ?_⟩
      unfold EGetPost
      rw [HE.out]
      exact ⟨HK.out.trans hk, .inr ⟨by decide, rfl, hcur⟩⟩
end Go.Proofs.Ytillkgbnokkacaa

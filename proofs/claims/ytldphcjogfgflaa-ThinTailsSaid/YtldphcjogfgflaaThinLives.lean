/-
  The example of the laws of package thin, 'lives': it is true.
-/
import Derived.Test.YtldphcjogfgflaaThinAll
import Derived.Lib.SlBytesConst
namespace Go.Proofs.Ytldphcjogfgflaa
open Go.RowKit

theorem xxh_nil : xxh 0 [] = 46947589 := by
  unfold xxh tblocks
  rw [if_pos (by decide), tails_end (by decide)]
  decide +kernel
theorem xxh_abc : xxh 0 [97, 98, 99] = 852579327 := by
  unfold xxh tblocks
  rw [if_pos (by decide), tails_end (by decide)]
  decide +kernel

theorem cell_new (w : World) (cs : Array Value) (t : TypeId) (f : Nat × Nat) (i : Nat) {v : Value} (h : cs[i]? = some v) : (w.alloc (.cells cs t f)).cell? ⟨w.heap.size, i, none⟩ = some v := by
  have e : (w.alloc (.cells cs t f)).heap[w.heap.size]? = some (.cells cs t f) := by
    show (w.heap.push _)[w.heap.size]? = _
    simp
  unfold World.cell?
  simp only [e]
  simpa using h

theorem lives3_true (w : World) : Calls Try.prog 6 #[] w fun e w' => e = .returned (.bool true) ∧ Keeps NoBlock w w' := by
  have H0 := Lib.hid (fun w => sum_thin 0 ⟨by decide, by decide⟩ none 0 0 [] rfl (Nat.le_refl _) (by decide) (fun b hb => by simp at hb) w (Bytes8.nil _ _))
  have H1 := Lib.hid (fun w (p : Option Addr) (hb : Bytes8 w p [97, 98, 99]) => sum_thin 0 ⟨by decide, by decide⟩ p 3 3 [97, 98, 99] rfl (Nat.le_refl _) (by decide) (fun b hb => by simp at hb; omega) w hb)
  rw [xxh_nil] at H0
  rw [xxh_abc] at H1
  have kc := fun (w : World) (C : Array Value) (n c : Nat) => Lib.run_convert_bytes_const (P := Try.prog) w 23 5 C n c Try.underlying23 Try.underlying5
  go_enter Try.func6, Try.ntmps6
  go_wp2_with fail
  refine (H0.out _).mono ?_
  rintro e w1 ⟨rfl, hk⟩
  have HK := Lib.hid hk
  clear hk
  go_wp2_with fail
  refine (H1.out _ _ ?_).mono ?_
  · intro _
    refine ⟨_, rfl, fun i hi => ?_⟩
    have : i = 0 ∨ i = 1 ∨ i = 2 := by simp at hi; omega
    rcases this with rfl | rfl | rfl <;> (rw [addZero]; exact cell_new _ _ _ _ _ rfl)
  rintro e w2 ⟨rfl, hk⟩
  have HK2 := Lib.hid ((HK.out.alloc _).trans hk)
  clear hk
  go_wp2_with fail
  go_ret
  exact ⟨rfl, HK2.out⟩
end Go.Proofs.Ytldphcjogfgflaa

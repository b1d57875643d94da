/-
  What the law asks of a cursor outside of its reading: it tells nothing, and nothing happens.
-/
import Derived.Test.YthgjipgkbinjkaaCurE
import Derived.Laws.BytesArg
namespace Go.Proofs.Ythgjipgkbinjkaa
open Go.RowKit

/-- An answer that tells nothing. -/
def Nothing (w : World) (e : Ending) (w' : World) : Prop := e = .returned (.tuple #[.int .u64 0, .string ⟨#[]⟩]) ∧ Keeps NoBlock w w'

theorem Dead.keep {w w' : World} {p : Option Addr} {S : Nat → Prop} (h : Dead w p) (hk : Keeps S w w') (hs : ∀ k, p = some ⟨k, 0, none⟩ → ¬ S k) : Dead w' p := by
  rcases h with rfl | ⟨k, rfl, hc⟩
  · exact .inl rfl
  · exact .inr ⟨k, rfl, hk.cell hc (hs k rfl)⟩

set_option maxHeartbeats 800000 in
theorem one_dead (p : Option Addr) (kd n ee : Int) (w : World) (h : Dead w p) (h0 : 0 ≤ kd) (h1 : kd < 256) (h2 : 0 ≤ ee) (h3 : ee < 256) (j : Int) (hj : kd % 8 = j) (hc : j = 0 ∨ j = 1 ∨ j = 2 ∨ j = 4 ∨ j = 5 ∨ j = 6 ∨ j = 7) :
    Calls Try.prog 10 #[.pointer p, .agg #[.int .u8 kd, .int .i64 n, .int .u8 ee]] w (Nothing w) := by
  have H := Lib.hid (fun o => h.keep (((Keeps.refl NoBlock w).alloc o)) (fun _ _ h => h))
  clear h
  rcases hc with rfl | rfl | rfl | rfl | rfl | rfl | rfl
  · go_enter Try.func10, Try.ntmps10
    go_wp2_with fail
    refine (byte_dead _ _ (H.out _)).mono ?_
    rintro e w' ⟨rfl, rfl⟩
    go_wp2_with fail
    go_ret2
    exact ⟨rfl, (Keeps.refl _ _).alloc _⟩
  · go_enter Try.func10, Try.ntmps10
    go_wp2_with fail
    refine (four_dead _ _ (H.out _)).mono ?_
    rintro e w' ⟨rfl, rfl⟩
    go_wp2_with fail
    go_ret2
    exact ⟨rfl, (Keeps.refl _ _).alloc _⟩
  · go_enter Try.func10, Try.ntmps10
    go_wp2_with fail
    refine (eight_dead _ _ (H.out _)).mono ?_
    rintro e w' ⟨rfl, rfl⟩
    go_wp2_with fail
    go_ret2
    exact ⟨rfl, (Keeps.refl _ _).alloc _⟩
  · go_enter Try.func10, Try.ntmps10
    go_wp2_with fail
    refine (left_dead _ _ (H.out _)).mono ?_
    rintro e w' ⟨rfl, rfl⟩
    go_wp2_with fail
    go_ret2
    exact ⟨rfl, (Keeps.refl _ _).alloc _⟩
  · go_enter Try.func10, Try.ntmps10
    go_wp2_with fail
    refine (at_dead _ _ (H.out _)).mono ?_
    rintro e w' ⟨rfl, rfl⟩
    go_wp2_with fail
    go_ret2
    exact ⟨rfl, (Keeps.refl _ _).alloc _⟩
  · go_enter Try.func10, Try.ntmps10
    go_wp2_with fail
    refine (fail_dead _ (ee % 12) _ (H.out _)).mono ?_
    rintro e w' ⟨rfl, rfl⟩
    go_wp2_with fail
    go_ret2
    exact ⟨rfl, (Keeps.refl _ _).alloc _⟩
  · go_enter Try.func10, Try.ntmps10
    go_wp2_with fail
    refine (end_dead _ _ (H.out _)).mono ?_
    rintro e w' ⟨rfl, rfl⟩
    go_wp2_with fail
    go_ret2
    exact ⟨rfl, (Keeps.refl _ _).alloc _⟩

set_option maxHeartbeats 800000 in
theorem one_dead_take (p : Option Addr) (kd n ee : Int) (w : World) (h : Dead w p) (h0 : 0 ≤ kd) (hj : kd % 8 = 3) :
    Calls Try.prog 10 #[.pointer p, .agg #[.int .u8 kd, .int .i64 n, .int .u8 ee]] w (Nothing w) := by
  have H := Lib.hid (fun o m => Dead.keep h ((((Keeps.refl NoBlock w).alloc o)).drewN m) (fun _ _ h => h))
  clear h
  have hcv : ∀ w, (convert 22 9 (.slice none 0 0)).run Try.prog w = .ok (.string ByteArray.empty) w := fun w => run_convert_bytes_nil w _ 5 Try.underlying22 Try.underlying5 0 0 _ Try.underlying9
  go_enter Try.func10, Try.ntmps10
  go_wp2_with fail
  go_quiet ((go_at_call 9; exact Calls.quiet_of_same ((take_dead _ _ _ (H.out _ _)).mono (fun _ _ h => ⟨h.1, h.2.symm⟩))))
  go_wp2_with fail
  go_ret2
  exact ⟨rfl, ((Keeps.refl _ _).alloc _).drewN _⟩

theorem one_any (p : Option Addr) (kd n ee : Int) (w : World) (h : Dead w p) (h0 : 0 ≤ kd) (h1 : kd < 256) (h2 : 0 ≤ ee) (h3 : ee < 256) :
    Calls Try.prog 10 #[.pointer p, .agg #[.int .u8 kd, .int .i64 n, .int .u8 ee]] w (Nothing w) := by
  by_cases hj : kd % 8 = 3
  · exact one_dead_take p kd n ee w h h0 hj
  · exact one_dead p kd n ee w h h0 h1 h2 h3 (kd % 8) rfl (by omega)
end Go.Proofs.Ythgjipgkbinjkaa

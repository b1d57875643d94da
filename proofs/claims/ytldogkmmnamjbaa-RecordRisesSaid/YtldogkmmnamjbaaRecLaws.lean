/-
  What the laws of package record ask of its functions; their example.
-/
import Derived.Test.YtldogkmmnamjbaaRecRef5
import Derived.Test.YtldogkmmnamjbaaRecRise
import Derived.Test.YtldogkmmnamjbaaNewBytes
namespace Go.Proofs.Ytldogkmmnamjbaa
open Go.RowKit

/-- A record of no more bytes than the laws have. -/
structure Rec.Modest (r : Rec) : Prop where
  fine : r.Fine
  key : r.key.length ≤ 2000000
  val : r.val.length ≤ 2000000
def bodyE (r : Rec) : List Int := if checkR r = 0 then bodyR r else []

/-- The contracts of Check, Body. -/
structure BodyOk : Prop where
  check : ∀ (r : Rec) (w : World), r.Modest → Calls Try.prog 9 #[recV r] w fun e w' => e = .returned (.int .i64 (checkR r)) ∧ Keeps NoBlock w w'
  body : ∀ (r : Rec) (w : World), r.Modest → Calls Try.prog 8 #[recV r] w fun e w' => ∃ v, e = .returned (.tuple #[v, .int .i64 (checkR r)]) ∧ NewBytes w (bodyE r) v w'
/-- The contract of Rising. -/
structure RisesOk : Prop where
  rising : ∀ (p : Option Addr) (n c : Nat) (l : List Rec) (w : World), n = l.length → n ≤ c → c ≤ 9223372036854775807 → n ≤ 1000000 → (∀ r ∈ l, r.Modest) → RecsAt w p l →
    Calls Try.prog 6 #[.slice p n c] w fun e w' => e = .returned (.int .i64 (risingR l)) ∧ Keeps NoBlock w w'

theorem vnum_one : vnum 1 = [1] := by rw [vnum]; rfl
theorem body_lives : bodyE ⟨false, 1, [97], [98]⟩ = [2, 1, 1, 97, 1, 98] := by
  have h : checkR ⟨false, 1, [97], [98]⟩ = 0 := by decide
  unfold bodyE
  rw [if_pos h]
  show 2 :: (vnum 1 ++ (vnum 1 ++ [97]) ++ (vnum 1 ++ [98])) = _
  rw [vnum_one]
  rfl

set_option maxHeartbeats 800000 in
set_option maxRecDepth 10000 in
theorem lives7_true (H : BodyOk) (w : World) : Calls Try.prog 4 #[] w fun e w' => e = .returned (.bool true) ∧ Keeps NoBlock w w' := by
  have hmod : Rec.Modest ⟨false, 1, [97], [98]⟩ := ⟨⟨by decide, fun b hb => by simp at hb; omega, fun b hb => by simp at hb; omega⟩, by decide, by decide⟩
  have HB := Lib.hid (fun w => H.body ⟨false, 1, [97], [98]⟩ w hmod)
  have hc : checkR ⟨false, 1, [97], [98]⟩ = 0 := by decide
  rw [body_lives, hc] at HB
  unfold recV at HB
  simp only at HB
  rw [show strOfNums [97] = ⟨#[97]⟩ from rfl, show strOfNums [98] = ⟨#[98]⟩ from rfl] at HB
  have he : ((strOfNums [2, 1, 1, 97, 1, 98]).toList == [2, 1, 1, 97, 1, 98]) = true := by rw [ByteArray.toList_eq]; decide
  clear H hmod hc
  go_enter Try.func4, Try.ntmps4
  go_wp2_with fail
  refine (HB.out _).mono ?_
  rintro e w1 ⟨v, rfl, q, m, d, rfl, hm, _, _, _, hb, hk⟩
  have hc1 := textOf q m d [2, 1, 1, 97, 1, 98] w1 hm hb
  have HK := Lib.hid hk
  clear hm hb hk
  go_wp2_with fail
  go_ret
  exact ⟨rfl, HK.out⟩
end Go.Proofs.Ytldogkmmnamjbaa

/-
  A drawn region by hand: its condition may be made stronger on the way.
-/
import Derived.Test.YtbchiccgkhnkaaaMem
import Derived.Deep.RegionHeld3
import Derived.BigQuiet
namespace Go.Proofs.Ytbchiccgkhnkaaa
open Go.RowKit

/-- A region's condition may be made stronger on the way. -/
theorem wpAnyH_swap {P : Program} {md : Region.Mode} {ops : Array Oper} {Q : Exit → Act → World → Prop} {S S' : World → Prop} (h : ∀ w, S' w → S w) : ∀ (fuel : Nat) (listed : Array Bool) (a : Act) (w : World), wpAnyH P md ops Q S' fuel listed a w → wpAnyH P md ops Q S fuel listed a w
  | 0, _, _, _, hh => hh
  | fuel + 1, _, _, _, hh => ⟨hh.1, fun i hi => wpOp_mono (fun _ _ h' => ⟨h _ h'.1, wpAnyH_swap h fuel _ _ _ h'.2⟩) (hh.2 i hi)⟩
end Go.Proofs.Ytbchiccgkhnkaaa

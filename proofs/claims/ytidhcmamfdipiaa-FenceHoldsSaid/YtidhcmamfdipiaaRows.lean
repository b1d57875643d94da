/-
  No cell of these rows narrows 'for every input' (looked for: loops, veiled, ifaces, maps, wideKeys, modest, calm, conditions, laid).
  DERIVED. THE GIVEN ROWS OF THIS SEAT. 4 by the template 'for every input the law returns true; each argument reads behind the call as it read before'; 0 by the template 'total and deterministic' (their statements: YtidhcmamfdipiaaTotals.lean).
  GIVEN WITH THE SEED: the statements are not yours to turn. If you find one false, say at which input.
  Laid BY PROGRAM, IN A SANDBOX (cutbox-rows.mjs): the forced cells as the released guide's own fill.sh prints them over the translation ab9a0e0c59c660ec… (all of the seat's roots in one cut). By AI agents, Wed Nov 11 2026. No macro, syntax, notation, axiom, sorry.
-/
import Derived.Test.YtidhcmamfdipiaaChecked
import GoSem.Claim
import GoSem.ClaimJoined
import GoSem.ClaimMapViews
import Derived.JoinedTies
import Derived.KernelRfl
namespace Go.Proofs.Ytidhcmamfdipiaa
/- THE CELL 'sum', in the pinned program and in every row, IS THE sha256 OF THE DUMP (.gsa) THAT YtidhcmamfdipiaaProg.lean LOADS. Nothing in Lean hashes anything: it is a label: what it is worth is what the hold of that sum in a sandbox is worth. -/
noncomputable def Try.pinned : Pinned := { name := "ytidhcmamfdipiaa", sum := "ab9a0e0c59c660ec67559bdd7ee30e1ee16d8855d5bf7c727f5245d4d1094d95", checked := Try.checked }
namespace Rows
def none {H : Type} : Left H := { results := [], args := [] }

/-- 'fasciclelaw12.FenceOf': WHATEVER THE INPUT: true; the input reads as it did. -/
def fenceOfSpec : ChangeSpec := { name := "fenceOf", fn := fun _ => fun
  | [d1, d2] => { results := [.lit (.bool true)], args := [d1, d2] }
  | _ => none }
def fenceOfRow : OpenClaim := { program := "ytidhcmamfdipiaa", sum := "ab9a0e0c59c660ec67559bdd7ee30e1ee16d8855d5bf7c727f5245d4d1094d95", func := "fascicle/fasciclelaw12.FenceOf", spec := "fenceOf", unfollowed := true, recurses := true, apart := false }
def FenceOfSaid : Prop := fenceOfRow.holds Try.pinned (OpenSpec.ofChange fenceOfSpec)

/-- ITS FALSE NEIGHBOUR: 'it returns false'. Refute it at one input. -/
def fenceOfWrong : ChangeSpec := { name := "fenceOf", fn := fun _ => fun
  | [d1, d2] => { results := [.lit (.bool false)], args := [d1, d2] }
  | _ => none }
def FenceOfWrongFalsely : Prop := fenceOfRow.holds Try.pinned (OpenSpec.ofChange fenceOfWrong)

/-- 'fasciclelaw12.FenceHolds': WHATEVER THE INPUT: true; the input reads as it did. -/
def fenceHoldsSpec : ChangeSpec := { name := "fenceHolds", fn := fun _ => fun
  | [d1, d2] => { results := [.lit (.bool true)], args := [d1, d2] }
  | _ => none }
def fenceHoldsRow : OpenClaim := { program := "ytidhcmamfdipiaa", sum := "ab9a0e0c59c660ec67559bdd7ee30e1ee16d8855d5bf7c727f5245d4d1094d95", func := "fascicle/fasciclelaw12.FenceHolds", spec := "fenceHolds", unfollowed := true, recurses := true, apart := false }
def FenceHoldsSaid : Prop := fenceHoldsRow.holds Try.pinned (OpenSpec.ofChange fenceHoldsSpec)

/-- ITS FALSE NEIGHBOUR: 'it returns false'. Refute it at one input. -/
def fenceHoldsWrong : ChangeSpec := { name := "fenceHolds", fn := fun _ => fun
  | [d1, d2] => { results := [.lit (.bool false)], args := [d1, d2] }
  | _ => none }
def FenceHoldsWrongFalsely : Prop := fenceHoldsRow.holds Try.pinned (OpenSpec.ofChange fenceHoldsWrong)

/-- 'fasciclelaw12.FenceBytes': WHATEVER THE INPUT: true; the input reads as it did. -/
def fenceBytesSpec : ChangeSpec := { name := "fenceBytes", fn := fun _ => fun
  | [d1, d2, d3] => { results := [.lit (.bool true)], args := [d1, d2, d3] }
  | _ => none }
def fenceBytesRow : OpenClaim := { program := "ytidhcmamfdipiaa", sum := "ab9a0e0c59c660ec67559bdd7ee30e1ee16d8855d5bf7c727f5245d4d1094d95", func := "fascicle/fasciclelaw12.FenceBytes", spec := "fenceBytes", unfollowed := true, recurses := true, apart := false }
def FenceBytesSaid : Prop := fenceBytesRow.holds Try.pinned (OpenSpec.ofChange fenceBytesSpec)

/-- ITS FALSE NEIGHBOUR: 'it returns false'. Refute it at one input. -/
def fenceBytesWrong : ChangeSpec := { name := "fenceBytes", fn := fun _ => fun
  | [d1, d2, d3] => { results := [.lit (.bool false)], args := [d1, d2, d3] }
  | _ => none }
def FenceBytesWrongFalsely : Prop := fenceBytesRow.holds Try.pinned (OpenSpec.ofChange fenceBytesWrong)

/-- 'fasciclelaw12.FenceCounts': WHATEVER THE INPUT: true; the input reads as it did. -/
def fenceCountsSpec : ChangeSpec := { name := "fenceCounts", fn := fun _ => fun
  | [d] => { results := [.lit (.bool true)], args := [d] }
  | _ => none }
def fenceCountsRow : OpenClaim := { program := "ytidhcmamfdipiaa", sum := "ab9a0e0c59c660ec67559bdd7ee30e1ee16d8855d5bf7c727f5245d4d1094d95", func := "fascicle/fasciclelaw12.FenceCounts", spec := "fenceCounts", unfollowed := true, recurses := true, apart := false }
def FenceCountsSaid : Prop := fenceCountsRow.holds Try.pinned (OpenSpec.ofChange fenceCountsSpec)

/-- ITS FALSE NEIGHBOUR: 'it returns false'. Refute it at one input. -/
def fenceCountsWrong : ChangeSpec := { name := "fenceCounts", fn := fun _ => fun
  | [d] => { results := [.lit (.bool false)], args := [d] }
  | _ => none }
def FenceCountsWrongFalsely : Prop := fenceCountsRow.holds Try.pinned (OpenSpec.ofChange fenceCountsWrong)

/- THE SECOND FORM. 'bulk': how many values and letters a reading holds, each counted each time it is reached (what is shared counts as often as it is met; a slice's spare places count too). A statement '..UptoSaid' is the law's where the arguments, and the package variables that the reading takes, are together of bulk at most 1048576: NARROWER than '..Said'. Prove '..Said' where nothing that the law and all that it calls make is longer than what came in: it says more and counts as full. Else prove '..UptoSaid'. A law counts once. -/
mutual
def uptoBulk {H : Type} : DataW H → Nat
  | .lit (.string bytes) => bytes.length + 1
  | .lit _ => 1
  | .nil => 1
  | .ptr d => uptoBulk d + 1
  | .slice elems spare => uptoBulkAll elems + uptoBulkAll spare + 1
  | .agg parts => uptoBulkAll parts + 1
  | .iface _ d => uptoBulk d + 1
  | .map entries => uptoBulkEntries entries + 1
  | .held _ => 1
def uptoBulkAll {H : Type} : List (DataW H) → Nat
  | [] => 0
  | d :: r => uptoBulk d + uptoBulkAll r
def uptoBulkEntries {H : Type} : List (Lit × DataW H) → Nat
  | [] => 0
  | x :: r => uptoBulkEntry x + uptoBulkEntries r
def uptoBulkEntry {H : Type} : Lit × DataW H → Nat
  | (.string bytes, d) => bytes.length + uptoBulk d + 1
  | (_, d) => uptoBulk d + 1
 end
def uptoSmall : (H : Type) → List (DataW H) → Bool := fun _ ds => decide (uptoBulkAll ds ≤ 1048576)
def OpenSpec.upto (s : _root_.Go.ChangeSpec) : _root_.Go.OpenSpec := { _root_.Go.OpenSpec.ofChange s with cond := some uptoSmall }

/-- 'fasciclelaw12.FenceOf', WHERE WHAT IT READS IS OF BULK AT MOST 1048576: true; the input reads as it did. -/
def fenceOfUptoRow : OpenClaim := { program := "ytidhcmamfdipiaa", sum := "ab9a0e0c59c660ec67559bdd7ee30e1ee16d8855d5bf7c727f5245d4d1094d95", func := "fascicle/fasciclelaw12.FenceOf", spec := "fenceOf", unfollowed := true, recurses := true, apart := false, narrowed := true }
def FenceOfUptoSaid : Prop := fenceOfUptoRow.holds Try.pinned (OpenSpec.upto fenceOfSpec)

/-- 'fasciclelaw12.FenceHolds', WHERE WHAT IT READS IS OF BULK AT MOST 1048576: true; the input reads as it did. -/
def fenceHoldsUptoRow : OpenClaim := { program := "ytidhcmamfdipiaa", sum := "ab9a0e0c59c660ec67559bdd7ee30e1ee16d8855d5bf7c727f5245d4d1094d95", func := "fascicle/fasciclelaw12.FenceHolds", spec := "fenceHolds", unfollowed := true, recurses := true, apart := false, narrowed := true }
def FenceHoldsUptoSaid : Prop := fenceHoldsUptoRow.holds Try.pinned (OpenSpec.upto fenceHoldsSpec)

/-- 'fasciclelaw12.FenceBytes', WHERE WHAT IT READS IS OF BULK AT MOST 1048576: true; the input reads as it did. -/
def fenceBytesUptoRow : OpenClaim := { program := "ytidhcmamfdipiaa", sum := "ab9a0e0c59c660ec67559bdd7ee30e1ee16d8855d5bf7c727f5245d4d1094d95", func := "fascicle/fasciclelaw12.FenceBytes", spec := "fenceBytes", unfollowed := true, recurses := true, apart := false, narrowed := true }
def FenceBytesUptoSaid : Prop := fenceBytesUptoRow.holds Try.pinned (OpenSpec.upto fenceBytesSpec)

/-- 'fasciclelaw12.FenceCounts', WHERE WHAT IT READS IS OF BULK AT MOST 1048576: true; the input reads as it did. -/
def fenceCountsUptoRow : OpenClaim := { program := "ytidhcmamfdipiaa", sum := "ab9a0e0c59c660ec67559bdd7ee30e1ee16d8855d5bf7c727f5245d4d1094d95", func := "fascicle/fasciclelaw12.FenceCounts", spec := "fenceCounts", unfollowed := true, recurses := true, apart := false, narrowed := true }
def FenceCountsUptoSaid : Prop := fenceCountsUptoRow.holds Try.pinned (OpenSpec.upto fenceCountsSpec)

end Rows
end Go.Proofs.Ytidhcmamfdipiaa

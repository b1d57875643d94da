/-
  No cell of these rows narrows 'for every input' (looked for: loops, veiled, ifaces, maps, wideKeys, modest, calm, conditions, laid).
  DERIVED. THE GIVEN ROWS OF THIS SEAT. 3 by the template 'for every input the law returns true; each argument reads behind the call as it read before'; 0 by the template 'total and deterministic' (their statements: YtldphcjogfgflaaTotals.lean).
  GIVEN WITH THE SEED: the statements are not yours to turn. If you find one false, say at which input.
  Laid BY PROGRAM, IN A SANDBOX (cutbox-rows.mjs): the forced cells as the released guide's own fill.sh prints them over the translation 9fdbc7ff08295e4e… (all of the seat's roots in one cut). By AI agents, Wed Nov 11 2026. No macro, syntax, notation, axiom, sorry.
-/
import Derived.Test.YtldphcjogfgflaaChecked
import GoSem.Claim
import GoSem.ClaimJoined
import GoSem.ClaimMapViews
import Derived.JoinedTies
import Derived.KernelRfl
namespace Go.Proofs.Ytldphcjogfgflaa
/- THE CELL 'sum', in the pinned program and in every row, IS THE sha256 OF THE DUMP (.gsa) THAT YtldphcjogfgflaaProg.lean LOADS. Nothing in Lean hashes anything: it is a label: what it is worth is what the hold of that sum in a sandbox is worth. -/
noncomputable def Try.pinned : Pinned := { name := "ytldphcjogfgflaa", sum := "9fdbc7ff08295e4e3002abaa0d0ea1e0cea1bbd2235e3443d5e8fe866d88898b", checked := Try.checked }
namespace Rows
def none {H : Type} : Left H := { results := [], args := [] }

/-- 'fasciclelaw03.ThinSums': WHATEVER THE INPUT: true; the input reads as it did. -/
def thinSumsSpec : ChangeSpec := { name := "thinSums", fn := fun _ => fun
  | [d1, d2] => { results := [.lit (.bool true)], args := [d1, d2] }
  | _ => none }
def thinSumsRow : OpenClaim := { program := "ytldphcjogfgflaa", sum := "9fdbc7ff08295e4e3002abaa0d0ea1e0cea1bbd2235e3443d5e8fe866d88898b", func := "fascicle/fasciclelaw03.ThinSums", spec := "thinSums", apart := false }
def ThinSumsSaid : Prop := thinSumsRow.holds Try.pinned (OpenSpec.ofChange thinSumsSpec)

/-- ITS FALSE NEIGHBOUR: 'it returns false'. Refute it at one input. -/
def thinSumsWrong : ChangeSpec := { name := "thinSums", fn := fun _ => fun
  | [d1, d2] => { results := [.lit (.bool false)], args := [d1, d2] }
  | _ => none }
def ThinSumsWrongFalsely : Prop := thinSumsRow.holds Try.pinned (OpenSpec.ofChange thinSumsWrong)

/-- 'fasciclelaw03.ThinChecks': WHATEVER THE INPUT: true; the input reads as it did. -/
def thinChecksSpec : ChangeSpec := { name := "thinChecks", fn := fun _ => fun
  | [d1, d2, d3] => { results := [.lit (.bool true)], args := [d1, d2, d3] }
  | _ => none }
def thinChecksRow : OpenClaim := { program := "ytldphcjogfgflaa", sum := "9fdbc7ff08295e4e3002abaa0d0ea1e0cea1bbd2235e3443d5e8fe866d88898b", func := "fascicle/fasciclelaw03.ThinChecks", spec := "thinChecks", apart := false }
def ThinChecksSaid : Prop := thinChecksRow.holds Try.pinned (OpenSpec.ofChange thinChecksSpec)

/-- ITS FALSE NEIGHBOUR: 'it returns false'. Refute it at one input. -/
def thinChecksWrong : ChangeSpec := { name := "thinChecks", fn := fun _ => fun
  | [d1, d2, d3] => { results := [.lit (.bool false)], args := [d1, d2, d3] }
  | _ => none }
def ThinChecksWrongFalsely : Prop := thinChecksRow.holds Try.pinned (OpenSpec.ofChange thinChecksWrong)

/-- 'fasciclelaw03.ThinTails': WHATEVER THE INPUT: true; the input reads as it did. -/
def thinTailsSpec : ChangeSpec := { name := "thinTails", fn := fun _ => fun
  | [d1, d2, d3] => { results := [.lit (.bool true)], args := [d1, d2, d3] }
  | _ => none }
def thinTailsRow : OpenClaim := { program := "ytldphcjogfgflaa", sum := "9fdbc7ff08295e4e3002abaa0d0ea1e0cea1bbd2235e3443d5e8fe866d88898b", func := "fascicle/fasciclelaw03.ThinTails", spec := "thinTails", apart := false }
def ThinTailsSaid : Prop := thinTailsRow.holds Try.pinned (OpenSpec.ofChange thinTailsSpec)

/-- ITS FALSE NEIGHBOUR: 'it returns false'. Refute it at one input. -/
def thinTailsWrong : ChangeSpec := { name := "thinTails", fn := fun _ => fun
  | [d1, d2, d3] => { results := [.lit (.bool false)], args := [d1, d2, d3] }
  | _ => none }
def ThinTailsWrongFalsely : Prop := thinTailsRow.holds Try.pinned (OpenSpec.ofChange thinTailsWrong)

/- THE SECOND FORM. 'bulk': how many values and letters a reading holds, each counted each time it is reached (what is shared counts as often as it is met; a slice's spare places count too). A statement '..UptoSaid' is the law's where the arguments, and the package variables that the reading takes, are together of bulk at most 1048576: NARROWER than '..Said'. Prove '..Said' where nothing that the law and all that it calls make is longer than what came in: it says more and counts as full. Else prove '..UptoSaid'. A law counts once. -/
mutual
def uptoBulk {H : Type} : DataW H → Nat
  | .lit (.string bytes) => bytes.length + 1
  | .lit _ => 1
  | .nil => 1
  | .ptr d => uptoBulk d + 1
  | .slice elems spare => uptoBulkAll elems + uptoBulkAll spare + 1
  | .agg parts => uptoBulkAll parts + 1
  | .iface _ d => uptoBulk d + 1
  | .map entries => uptoBulkEntries entries + 1
  | .held _ => 1
def uptoBulkAll {H : Type} : List (DataW H) → Nat
  | [] => 0
  | d :: r => uptoBulk d + uptoBulkAll r
def uptoBulkEntries {H : Type} : List (Lit × DataW H) → Nat
  | [] => 0
  | x :: r => uptoBulkEntry x + uptoBulkEntries r
def uptoBulkEntry {H : Type} : Lit × DataW H → Nat
  | (.string bytes, d) => bytes.length + uptoBulk d + 1
  | (_, d) => uptoBulk d + 1
 end
def uptoSmall : (H : Type) → List (DataW H) → Bool := fun _ ds => decide (uptoBulkAll ds ≤ 1048576)
def OpenSpec.upto (s : _root_.Go.ChangeSpec) : _root_.Go.OpenSpec := { _root_.Go.OpenSpec.ofChange s with cond := some uptoSmall }

/-- 'fasciclelaw03.ThinSums', WHERE WHAT IT READS IS OF BULK AT MOST 1048576: true; the input reads as it did. -/
def thinSumsUptoRow : OpenClaim := { program := "ytldphcjogfgflaa", sum := "9fdbc7ff08295e4e3002abaa0d0ea1e0cea1bbd2235e3443d5e8fe866d88898b", func := "fascicle/fasciclelaw03.ThinSums", spec := "thinSums", apart := false, narrowed := true }
def ThinSumsUptoSaid : Prop := thinSumsUptoRow.holds Try.pinned (OpenSpec.upto thinSumsSpec)

/-- 'fasciclelaw03.ThinChecks', WHERE WHAT IT READS IS OF BULK AT MOST 1048576: true; the input reads as it did. -/
def thinChecksUptoRow : OpenClaim := { program := "ytldphcjogfgflaa", sum := "9fdbc7ff08295e4e3002abaa0d0ea1e0cea1bbd2235e3443d5e8fe866d88898b", func := "fascicle/fasciclelaw03.ThinChecks", spec := "thinChecks", apart := false, narrowed := true }
def ThinChecksUptoSaid : Prop := thinChecksUptoRow.holds Try.pinned (OpenSpec.upto thinChecksSpec)

/-- 'fasciclelaw03.ThinTails', WHERE WHAT IT READS IS OF BULK AT MOST 1048576: true; the input reads as it did. -/
def thinTailsUptoRow : OpenClaim := { program := "ytldphcjogfgflaa", sum := "9fdbc7ff08295e4e3002abaa0d0ea1e0cea1bbd2235e3443d5e8fe866d88898b", func := "fascicle/fasciclelaw03.ThinTails", spec := "thinTails", apart := false, narrowed := true }
def ThinTailsUptoSaid : Prop := thinTailsUptoRow.holds Try.pinned (OpenSpec.upto thinTailsSpec)

end Rows
end Go.Proofs.Ytldphcjogfgflaa

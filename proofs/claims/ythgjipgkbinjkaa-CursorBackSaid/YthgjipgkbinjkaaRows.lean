/-
  No cell of these rows narrows 'for every input' (looked for: loops, veiled, ifaces, maps, wideKeys, modest, calm, conditions, laid).
  DERIVED. THE GIVEN ROWS OF THIS SEAT. 3 by the template 'for every input the law returns true; each argument reads behind the call as it read before'; 0 by the template 'total and deterministic' (their statements: YthgjipgkbinjkaaTotals.lean).
  GIVEN WITH THE SEED: the statements are not yours to turn. If you find one false, say at which input.
  Laid BY PROGRAM, IN A SANDBOX (cutbox-rows.mjs): the forced cells as the released guide's own fill.sh prints them over the translation 7a32d770c3559492… (all of the seat's roots in one cut). By AI agents, Wed Nov 11 2026. No macro, syntax, notation, axiom, sorry.
-/
import Derived.Test.YthgjipgkbinjkaaChecked
import GoSem.Claim
import GoSem.ClaimJoined
import GoSem.ClaimMapViews
import Derived.JoinedTies
import Derived.KernelRfl
namespace Go.Proofs.Ythgjipgkbinjkaa
/- THE CELL 'sum', in the pinned program and in every row, IS THE sha256 OF THE DUMP (.gsa) THAT YthgjipgkbinjkaaProg.lean LOADS. Nothing in Lean hashes anything: it is a label: what it is worth is what the hold of that sum in a sandbox is worth. -/
noncomputable def Try.pinned : Pinned := { name := "ythgjipgkbinjkaa", sum := "7a32d770c3559492c29fb5e6f5b09d0f2d8914b6fb025169c189dc87371d1ec3", checked := Try.checked }
namespace Rows
def none {H : Type} : Left H := { results := [], args := [] }

/-- 'fasciclelaw01.CursorDead': WHATEVER THE INPUT: true; the input reads as it did. -/
def cursorDeadSpec : ChangeSpec := { name := "cursorDead", fn := fun _ => fun
  | [d1, d2] => { results := [.lit (.bool true)], args := [d1, d2] }
  | _ => none }
def cursorDeadRow : OpenClaim := { program := "ythgjipgkbinjkaa", sum := "7a32d770c3559492c29fb5e6f5b09d0f2d8914b6fb025169c189dc87371d1ec3", func := "fascicle/fasciclelaw01.CursorDead", spec := "cursorDead", unfollowed := true, recurses := true, apart := false }
def CursorDeadSaid : Prop := cursorDeadRow.holds Try.pinned (OpenSpec.ofChange cursorDeadSpec)

/-- ITS FALSE NEIGHBOUR: 'it returns false'. Refute it at one input. -/
def cursorDeadWrong : ChangeSpec := { name := "cursorDead", fn := fun _ => fun
  | [d1, d2] => { results := [.lit (.bool false)], args := [d1, d2] }
  | _ => none }
def CursorDeadWrongFalsely : Prop := cursorDeadRow.holds Try.pinned (OpenSpec.ofChange cursorDeadWrong)

/-- 'fasciclelaw01.CursorNests': WHATEVER THE INPUT: true; the input reads as it did. -/
def cursorNestsSpec : ChangeSpec := { name := "cursorNests", fn := fun _ => fun
  | [d1, d2, d3, d4] => { results := [.lit (.bool true)], args := [d1, d2, d3, d4] }
  | _ => none }
def cursorNestsRow : OpenClaim := { program := "ythgjipgkbinjkaa", sum := "7a32d770c3559492c29fb5e6f5b09d0f2d8914b6fb025169c189dc87371d1ec3", func := "fascicle/fasciclelaw01.CursorNests", spec := "cursorNests", unfollowed := true, recurses := true, apart := false }
def CursorNestsSaid : Prop := cursorNestsRow.holds Try.pinned (OpenSpec.ofChange cursorNestsSpec)

/-- ITS FALSE NEIGHBOUR: 'it returns false'. Refute it at one input. -/
def cursorNestsWrong : ChangeSpec := { name := "cursorNests", fn := fun _ => fun
  | [d1, d2, d3, d4] => { results := [.lit (.bool false)], args := [d1, d2, d3, d4] }
  | _ => none }
def CursorNestsWrongFalsely : Prop := cursorNestsRow.holds Try.pinned (OpenSpec.ofChange cursorNestsWrong)

/-- 'fasciclelaw01.CursorBack': WHATEVER THE INPUT: true; the input reads as it did. -/
def cursorBackSpec : ChangeSpec := { name := "cursorBack", fn := fun _ => fun
  | [d1, d2] => { results := [.lit (.bool true)], args := [d1, d2] }
  | _ => none }
def cursorBackRow : OpenClaim := { program := "ythgjipgkbinjkaa", sum := "7a32d770c3559492c29fb5e6f5b09d0f2d8914b6fb025169c189dc87371d1ec3", func := "fascicle/fasciclelaw01.CursorBack", spec := "cursorBack", unfollowed := true, recurses := true, apart := false }
def CursorBackSaid : Prop := cursorBackRow.holds Try.pinned (OpenSpec.ofChange cursorBackSpec)

/-- ITS FALSE NEIGHBOUR: 'it returns false'. Refute it at one input. -/
def cursorBackWrong : ChangeSpec := { name := "cursorBack", fn := fun _ => fun
  | [d1, d2] => { results := [.lit (.bool false)], args := [d1, d2] }
  | _ => none }
def CursorBackWrongFalsely : Prop := cursorBackRow.holds Try.pinned (OpenSpec.ofChange cursorBackWrong)

/- THE SECOND FORM. 'bulk': how many values and letters a reading holds, each counted each time it is reached (what is shared counts as often as it is met; a slice's spare places count too). A statement '..UptoSaid' is the law's where the arguments, and the package variables that the reading takes, are together of bulk at most 1048576: NARROWER than '..Said'. Prove '..Said' where nothing that the law and all that it calls make is longer than what came in: it says more and counts as full. Else prove '..UptoSaid'. A law counts once. -/
mutual
def uptoBulk {H : Type} : DataW H → Nat
  | .lit (.string bytes) => bytes.length + 1
  | .lit _ => 1
  | .nil => 1
  | .ptr d => uptoBulk d + 1
  | .slice elems spare => uptoBulkAll elems + uptoBulkAll spare + 1
  | .agg parts => uptoBulkAll parts + 1
  | .iface _ d => uptoBulk d + 1
  | .map entries => uptoBulkEntries entries + 1
  | .held _ => 1
def uptoBulkAll {H : Type} : List (DataW H) → Nat
  | [] => 0
  | d :: r => uptoBulk d + uptoBulkAll r
def uptoBulkEntries {H : Type} : List (Lit × DataW H) → Nat
  | [] => 0
  | x :: r => uptoBulkEntry x + uptoBulkEntries r
def uptoBulkEntry {H : Type} : Lit × DataW H → Nat
  | (.string bytes, d) => bytes.length + uptoBulk d + 1
  | (_, d) => uptoBulk d + 1
 end
def uptoSmall : (H : Type) → List (DataW H) → Bool := fun _ ds => decide (uptoBulkAll ds ≤ 1048576)
def OpenSpec.upto (s : _root_.Go.ChangeSpec) : _root_.Go.OpenSpec := { _root_.Go.OpenSpec.ofChange s with cond := some uptoSmall }

/-- 'fasciclelaw01.CursorDead', WHERE WHAT IT READS IS OF BULK AT MOST 1048576: true; the input reads as it did. -/
def cursorDeadUptoRow : OpenClaim := { program := "ythgjipgkbinjkaa", sum := "7a32d770c3559492c29fb5e6f5b09d0f2d8914b6fb025169c189dc87371d1ec3", func := "fascicle/fasciclelaw01.CursorDead", spec := "cursorDead", unfollowed := true, recurses := true, apart := false, narrowed := true }
def CursorDeadUptoSaid : Prop := cursorDeadUptoRow.holds Try.pinned (OpenSpec.upto cursorDeadSpec)

/-- 'fasciclelaw01.CursorNests', WHERE WHAT IT READS IS OF BULK AT MOST 1048576: true; the input reads as it did. -/
def cursorNestsUptoRow : OpenClaim := { program := "ythgjipgkbinjkaa", sum := "7a32d770c3559492c29fb5e6f5b09d0f2d8914b6fb025169c189dc87371d1ec3", func := "fascicle/fasciclelaw01.CursorNests", spec := "cursorNests", unfollowed := true, recurses := true, apart := false, narrowed := true }
def CursorNestsUptoSaid : Prop := cursorNestsUptoRow.holds Try.pinned (OpenSpec.upto cursorNestsSpec)

/-- 'fasciclelaw01.CursorBack', WHERE WHAT IT READS IS OF BULK AT MOST 1048576: true; the input reads as it did. -/
def cursorBackUptoRow : OpenClaim := { program := "ythgjipgkbinjkaa", sum := "7a32d770c3559492c29fb5e6f5b09d0f2d8914b6fb025169c189dc87371d1ec3", func := "fascicle/fasciclelaw01.CursorBack", spec := "cursorBack", unfollowed := true, recurses := true, apart := false, narrowed := true }
def CursorBackUptoSaid : Prop := cursorBackUptoRow.holds Try.pinned (OpenSpec.upto cursorBackSpec)

end Rows
end Go.Proofs.Ythgjipgkbinjkaa

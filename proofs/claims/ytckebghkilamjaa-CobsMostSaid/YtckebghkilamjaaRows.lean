/-
  No cell of these rows narrows 'for every input' (looked for: loops, veiled, ifaces, maps, wideKeys, modest, calm, conditions, laid).
  DERIVED. THE GIVEN ROWS OF THIS SEAT. 4 by the template 'for every input the law returns true; each argument reads behind the call as it read before'; 0 by the template 'total and deterministic' (their statements: YtckebghkilamjaaTotals.lean).
  GIVEN WITH THE SEED: the statements are not yours to turn. If you find one false, say at which input.
  Laid BY PROGRAM, IN A SANDBOX (cutbox-rows.mjs): the forced cells as the released guide's own fill.sh prints them over the translation 76ed1e0eb1ffec4c… (all of the seat's roots in one cut). By AI agents, Wed Nov 11 2026. No macro, syntax, notation, axiom, sorry.
-/
import Derived.Test.YtckebghkilamjaaChecked
import GoSem.Claim
import GoSem.ClaimJoined
import GoSem.ClaimMapViews
import Derived.JoinedTies
import Derived.KernelRfl
namespace Go.Proofs.Ytckebghkilamjaa
/- THE CELL 'sum', in the pinned program and in every row, IS THE sha256 OF THE DUMP (.gsa) THAT YtckebghkilamjaaProg.lean LOADS. Nothing in Lean hashes anything: it is a label: what it is worth is what the hold of that sum in a sandbox is worth. -/
noncomputable def Try.pinned : Pinned := { name := "ytckebghkilamjaa", sum := "76ed1e0eb1ffec4c588f30de44ad0003edd5b6426a0e9f446f9f291c9b239985", checked := Try.checked }
namespace Rows
def none {H : Type} : Left H := { results := [], args := [] }

/-- 'fasciclelaw05.CobsStuffs': WHATEVER THE INPUT: true; the input reads as it did. -/
def cobsStuffsSpec : ChangeSpec := { name := "cobsStuffs", fn := fun _ => fun
  | [d1, d2, d3] => { results := [.lit (.bool true)], args := [d1, d2, d3] }
  | _ => none }
def cobsStuffsRow : OpenClaim := { program := "ytckebghkilamjaa", sum := "76ed1e0eb1ffec4c588f30de44ad0003edd5b6426a0e9f446f9f291c9b239985", func := "fascicle/fasciclelaw05.CobsStuffs", spec := "cobsStuffs", inPlace := ["internal/bytealg.IndexByte"], unfollowed := true, recurses := true, apart := false }
def CobsStuffsSaid : Prop := cobsStuffsRow.holds Try.pinned (OpenSpec.ofChange cobsStuffsSpec)

/-- ITS FALSE NEIGHBOUR: 'it returns false'. Refute it at one input. -/
def cobsStuffsWrong : ChangeSpec := { name := "cobsStuffs", fn := fun _ => fun
  | [d1, d2, d3] => { results := [.lit (.bool false)], args := [d1, d2, d3] }
  | _ => none }
def CobsStuffsWrongFalsely : Prop := cobsStuffsRow.holds Try.pinned (OpenSpec.ofChange cobsStuffsWrong)

/-- 'fasciclelaw05.CobsUnstuffs': WHATEVER THE INPUT: true; the input reads as it did. -/
def cobsUnstuffsSpec : ChangeSpec := { name := "cobsUnstuffs", fn := fun _ => fun
  | [d1, d2] => { results := [.lit (.bool true)], args := [d1, d2] }
  | _ => none }
def cobsUnstuffsRow : OpenClaim := { program := "ytckebghkilamjaa", sum := "76ed1e0eb1ffec4c588f30de44ad0003edd5b6426a0e9f446f9f291c9b239985", func := "fascicle/fasciclelaw05.CobsUnstuffs", spec := "cobsUnstuffs", inPlace := ["internal/bytealg.IndexByte"], unfollowed := true, recurses := true, apart := false }
def CobsUnstuffsSaid : Prop := cobsUnstuffsRow.holds Try.pinned (OpenSpec.ofChange cobsUnstuffsSpec)

/-- ITS FALSE NEIGHBOUR: 'it returns false'. Refute it at one input. -/
def cobsUnstuffsWrong : ChangeSpec := { name := "cobsUnstuffs", fn := fun _ => fun
  | [d1, d2] => { results := [.lit (.bool false)], args := [d1, d2] }
  | _ => none }
def CobsUnstuffsWrongFalsely : Prop := cobsUnstuffsRow.holds Try.pinned (OpenSpec.ofChange cobsUnstuffsWrong)

/-- 'fasciclelaw05.CobsMost': WHATEVER THE INPUT: true; the input reads as it did. -/
def cobsMostSpec : ChangeSpec := { name := "cobsMost", fn := fun _ => fun
  | [d1, d2] => { results := [.lit (.bool true)], args := [d1, d2] }
  | _ => none }
def cobsMostRow : OpenClaim := { program := "ytckebghkilamjaa", sum := "76ed1e0eb1ffec4c588f30de44ad0003edd5b6426a0e9f446f9f291c9b239985", func := "fascicle/fasciclelaw05.CobsMost", spec := "cobsMost", inPlace := ["internal/bytealg.IndexByte"], unfollowed := true, recurses := true, apart := false }
def CobsMostSaid : Prop := cobsMostRow.holds Try.pinned (OpenSpec.ofChange cobsMostSpec)

/-- ITS FALSE NEIGHBOUR: 'it returns false'. Refute it at one input. -/
def cobsMostWrong : ChangeSpec := { name := "cobsMost", fn := fun _ => fun
  | [d1, d2] => { results := [.lit (.bool false)], args := [d1, d2] }
  | _ => none }
def CobsMostWrongFalsely : Prop := cobsMostRow.holds Try.pinned (OpenSpec.ofChange cobsMostWrong)

/-- 'fasciclelaw05.CobsApart': WHATEVER THE INPUT: true; the input reads as it did. -/
def cobsApartSpec : ChangeSpec := { name := "cobsApart", fn := fun _ => fun
  | [d1, d2] => { results := [.lit (.bool true)], args := [d1, d2] }
  | _ => none }
def cobsApartRow : OpenClaim := { program := "ytckebghkilamjaa", sum := "76ed1e0eb1ffec4c588f30de44ad0003edd5b6426a0e9f446f9f291c9b239985", func := "fascicle/fasciclelaw05.CobsApart", spec := "cobsApart", inPlace := ["internal/bytealg.IndexByte"], unfollowed := true, recurses := true, apart := false }
def CobsApartSaid : Prop := cobsApartRow.holds Try.pinned (OpenSpec.ofChange cobsApartSpec)

/-- ITS FALSE NEIGHBOUR: 'it returns false'. Refute it at one input. -/
def cobsApartWrong : ChangeSpec := { name := "cobsApart", fn := fun _ => fun
  | [d1, d2] => { results := [.lit (.bool false)], args := [d1, d2] }
  | _ => none }
def CobsApartWrongFalsely : Prop := cobsApartRow.holds Try.pinned (OpenSpec.ofChange cobsApartWrong)

/- THE SECOND FORM. 'bulk': how many values and letters a reading holds, each counted each time it is reached (what is shared counts as often as it is met; a slice's spare places count too). A statement '..UptoSaid' is the law's where the arguments, and the package variables that the reading takes, are together of bulk at most 1048576: NARROWER than '..Said'. Prove '..Said' where nothing that the law and all that it calls make is longer than what came in: it says more and counts as full. Else prove '..UptoSaid'. A law counts once. -/
mutual
def uptoBulk {H : Type} : DataW H → Nat
  | .lit (.string bytes) => bytes.length + 1
  | .lit _ => 1
  | .nil => 1
  | .ptr d => uptoBulk d + 1
  | .slice elems spare => uptoBulkAll elems + uptoBulkAll spare + 1
  | .agg parts => uptoBulkAll parts + 1
  | .iface _ d => uptoBulk d + 1
  | .map entries => uptoBulkEntries entries + 1
  | .held _ => 1
def uptoBulkAll {H : Type} : List (DataW H) → Nat
  | [] => 0
  | d :: r => uptoBulk d + uptoBulkAll r
def uptoBulkEntries {H : Type} : List (Lit × DataW H) → Nat
  | [] => 0
  | x :: r => uptoBulkEntry x + uptoBulkEntries r
def uptoBulkEntry {H : Type} : Lit × DataW H → Nat
  | (.string bytes, d) => bytes.length + uptoBulk d + 1
  | (_, d) => uptoBulk d + 1
 end
def uptoSmall : (H : Type) → List (DataW H) → Bool := fun _ ds => decide (uptoBulkAll ds ≤ 1048576)
def OpenSpec.upto (s : _root_.Go.ChangeSpec) : _root_.Go.OpenSpec := { _root_.Go.OpenSpec.ofChange s with cond := some uptoSmall }

/-- 'fasciclelaw05.CobsStuffs', WHERE WHAT IT READS IS OF BULK AT MOST 1048576: true; the input reads as it did. -/
def cobsStuffsUptoRow : OpenClaim := { program := "ytckebghkilamjaa", sum := "76ed1e0eb1ffec4c588f30de44ad0003edd5b6426a0e9f446f9f291c9b239985", func := "fascicle/fasciclelaw05.CobsStuffs", spec := "cobsStuffs", inPlace := ["internal/bytealg.IndexByte"], unfollowed := true, recurses := true, apart := false, narrowed := true }
def CobsStuffsUptoSaid : Prop := cobsStuffsUptoRow.holds Try.pinned (OpenSpec.upto cobsStuffsSpec)

/-- 'fasciclelaw05.CobsUnstuffs', WHERE WHAT IT READS IS OF BULK AT MOST 1048576: true; the input reads as it did. -/
def cobsUnstuffsUptoRow : OpenClaim := { program := "ytckebghkilamjaa", sum := "76ed1e0eb1ffec4c588f30de44ad0003edd5b6426a0e9f446f9f291c9b239985", func := "fascicle/fasciclelaw05.CobsUnstuffs", spec := "cobsUnstuffs", inPlace := ["internal/bytealg.IndexByte"], unfollowed := true, recurses := true, apart := false, narrowed := true }
def CobsUnstuffsUptoSaid : Prop := cobsUnstuffsUptoRow.holds Try.pinned (OpenSpec.upto cobsUnstuffsSpec)

/-- 'fasciclelaw05.CobsMost', WHERE WHAT IT READS IS OF BULK AT MOST 1048576: true; the input reads as it did. -/
def cobsMostUptoRow : OpenClaim := { program := "ytckebghkilamjaa", sum := "76ed1e0eb1ffec4c588f30de44ad0003edd5b6426a0e9f446f9f291c9b239985", func := "fascicle/fasciclelaw05.CobsMost", spec := "cobsMost", inPlace := ["internal/bytealg.IndexByte"], unfollowed := true, recurses := true, apart := false, narrowed := true }
def CobsMostUptoSaid : Prop := cobsMostUptoRow.holds Try.pinned (OpenSpec.upto cobsMostSpec)

/-- 'fasciclelaw05.CobsApart', WHERE WHAT IT READS IS OF BULK AT MOST 1048576: true; the input reads as it did. -/
def cobsApartUptoRow : OpenClaim := { program := "ytckebghkilamjaa", sum := "76ed1e0eb1ffec4c588f30de44ad0003edd5b6426a0e9f446f9f291c9b239985", func := "fascicle/fasciclelaw05.CobsApart", spec := "cobsApart", inPlace := ["internal/bytealg.IndexByte"], unfollowed := true, recurses := true, apart := false, narrowed := true }
def CobsApartUptoSaid : Prop := cobsApartUptoRow.holds Try.pinned (OpenSpec.upto cobsApartSpec)

end Rows
end Go.Proofs.Ytckebghkilamjaa

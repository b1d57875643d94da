/-
  No cell of these rows narrows 'for every input' (looked for: loops, veiled, ifaces, maps, wideKeys, modest, calm, conditions, laid).
  DERIVED. THE GIVEN ROWS OF THIS SEAT. 4 by the template 'for every input the law returns true; each argument reads behind the call as it read before'; 0 by the template 'total and deterministic' (their statements: YtibojgoeaoinpaaTotals.lean).
  GIVEN WITH THE SEED: the statements are not yours to turn. If you find one false, say at which input.
  Laid BY PROGRAM, IN A SANDBOX (cutbox-rows.mjs): the forced cells as the released guide's own fill.sh prints them over the translation 7e99e91fefa8cc56… (all of the seat's roots in one cut). By AI agents, Wed Nov 11 2026. No macro, syntax, notation, axiom, sorry.
-/
import Derived.Test.YtibojgoeaoinpaaChecked
import GoSem.Claim
import GoSem.ClaimJoined
import GoSem.ClaimMapViews
import Derived.JoinedTies
import Derived.KernelRfl
namespace Go.Proofs.Ytibojgoeaoinpaa
/- THE CELL 'sum', in the pinned program and in every row, IS THE sha256 OF THE DUMP (.gsa) THAT YtibojgoeaoinpaaProg.lean LOADS. Nothing in Lean hashes anything: it is a label: what it is worth is what the hold of that sum in a sandbox is worth. -/
noncomputable def Try.pinned : Pinned := { name := "ytibojgoeaoinpaa", sum := "7e99e91fefa8cc561586f670618e77ceb28599f13a5cb65b32e7884d118a9564", checked := Try.checked }
namespace Rows
def none {H : Type} : Left H := { results := [], args := [] }

/-- 'fasciclelaw14.PackRooms': WHATEVER THE INPUT: true; the input reads as it did. -/
def packRoomsSpec : ChangeSpec := { name := "packRooms", fn := fun _ => fun
  | [d1, d2, d3] => { results := [.lit (.bool true)], args := [d1, d2, d3] }
  | _ => none }
def packRoomsRow : OpenClaim := { program := "ytibojgoeaoinpaa", sum := "7e99e91fefa8cc561586f670618e77ceb28599f13a5cb65b32e7884d118a9564", func := "fascicle/fasciclelaw14.PackRooms", spec := "packRooms", inPlace := ["internal/bytealg.IndexByte"], unfollowed := true, recurses := true, apart := false }
def PackRoomsSaid : Prop := packRoomsRow.holds Try.pinned (OpenSpec.ofChange packRoomsSpec)

/-- ITS FALSE NEIGHBOUR: 'it returns false'. Refute it at one input. -/
def packRoomsWrong : ChangeSpec := { name := "packRooms", fn := fun _ => fun
  | [d1, d2, d3] => { results := [.lit (.bool false)], args := [d1, d2, d3] }
  | _ => none }
def PackRoomsWrongFalsely : Prop := packRoomsRow.holds Try.pinned (OpenSpec.ofChange packRoomsWrong)

/-- 'fasciclelaw14.PackPlans': WHATEVER THE INPUT: true; the input reads as it did. -/
def packPlansSpec : ChangeSpec := { name := "packPlans", fn := fun _ => fun
  | [d1, d2] => { results := [.lit (.bool true)], args := [d1, d2] }
  | _ => none }
def packPlansRow : OpenClaim := { program := "ytibojgoeaoinpaa", sum := "7e99e91fefa8cc561586f670618e77ceb28599f13a5cb65b32e7884d118a9564", func := "fascicle/fasciclelaw14.PackPlans", spec := "packPlans", inPlace := ["internal/bytealg.IndexByte"], unfollowed := true, recurses := true, apart := false }
def PackPlansSaid : Prop := packPlansRow.holds Try.pinned (OpenSpec.ofChange packPlansSpec)

/-- ITS FALSE NEIGHBOUR: 'it returns false'. Refute it at one input. -/
def packPlansWrong : ChangeSpec := { name := "packPlans", fn := fun _ => fun
  | [d1, d2] => { results := [.lit (.bool false)], args := [d1, d2] }
  | _ => none }
def PackPlansWrongFalsely : Prop := packPlansRow.holds Try.pinned (OpenSpec.ofChange packPlansWrong)

/-- 'fasciclelaw14.PackGreedy': WHATEVER THE INPUT: true; the input reads as it did. -/
def packGreedySpec : ChangeSpec := { name := "packGreedy", fn := fun _ => fun
  | [d1, d2] => { results := [.lit (.bool true)], args := [d1, d2] }
  | _ => none }
def packGreedyRow : OpenClaim := { program := "ytibojgoeaoinpaa", sum := "7e99e91fefa8cc561586f670618e77ceb28599f13a5cb65b32e7884d118a9564", func := "fascicle/fasciclelaw14.PackGreedy", spec := "packGreedy", inPlace := ["internal/bytealg.IndexByte"], unfollowed := true, recurses := true, apart := false }
def PackGreedySaid : Prop := packGreedyRow.holds Try.pinned (OpenSpec.ofChange packGreedySpec)

/-- ITS FALSE NEIGHBOUR: 'it returns false'. Refute it at one input. -/
def packGreedyWrong : ChangeSpec := { name := "packGreedy", fn := fun _ => fun
  | [d1, d2] => { results := [.lit (.bool false)], args := [d1, d2] }
  | _ => none }
def PackGreedyWrongFalsely : Prop := packGreedyRow.holds Try.pinned (OpenSpec.ofChange packGreedyWrong)

/-- 'fasciclelaw14.PackLarge': WHATEVER THE INPUT: true; the input reads as it did. -/
def packLargeSpec : ChangeSpec := { name := "packLarge", fn := fun _ => fun
  | [d1, d2, d3] => { results := [.lit (.bool true)], args := [d1, d2, d3] }
  | _ => none }
def packLargeRow : OpenClaim := { program := "ytibojgoeaoinpaa", sum := "7e99e91fefa8cc561586f670618e77ceb28599f13a5cb65b32e7884d118a9564", func := "fascicle/fasciclelaw14.PackLarge", spec := "packLarge", inPlace := ["internal/bytealg.IndexByte"], unfollowed := true, recurses := true, apart := false }
def PackLargeSaid : Prop := packLargeRow.holds Try.pinned (OpenSpec.ofChange packLargeSpec)

/-- ITS FALSE NEIGHBOUR: 'it returns false'. Refute it at one input. -/
def packLargeWrong : ChangeSpec := { name := "packLarge", fn := fun _ => fun
  | [d1, d2, d3] => { results := [.lit (.bool false)], args := [d1, d2, d3] }
  | _ => none }
def PackLargeWrongFalsely : Prop := packLargeRow.holds Try.pinned (OpenSpec.ofChange packLargeWrong)

/- THE SECOND FORM. 'bulk': how many values and letters a reading holds, each counted each time it is reached (what is shared counts as often as it is met; a slice's spare places count too). A statement '..UptoSaid' is the law's where the arguments, and the package variables that the reading takes, are together of bulk at most 1048576: NARROWER than '..Said'. Prove '..Said' where nothing that the law and all that it calls make is longer than what came in: it says more and counts as full. Else prove '..UptoSaid'. A law counts once. -/
mutual
def uptoBulk {H : Type} : DataW H → Nat
  | .lit (.string bytes) => bytes.length + 1
  | .lit _ => 1
  | .nil => 1
  | .ptr d => uptoBulk d + 1
  | .slice elems spare => uptoBulkAll elems + uptoBulkAll spare + 1
  | .agg parts => uptoBulkAll parts + 1
  | .iface _ d => uptoBulk d + 1
  | .map entries => uptoBulkEntries entries + 1
  | .held _ => 1
def uptoBulkAll {H : Type} : List (DataW H) → Nat
  | [] => 0
  | d :: r => uptoBulk d + uptoBulkAll r
def uptoBulkEntries {H : Type} : List (Lit × DataW H) → Nat
  | [] => 0
  | x :: r => uptoBulkEntry x + uptoBulkEntries r
def uptoBulkEntry {H : Type} : Lit × DataW H → Nat
  | (.string bytes, d) => bytes.length + uptoBulk d + 1
  | (_, d) => uptoBulk d + 1
 end
def uptoSmall : (H : Type) → List (DataW H) → Bool := fun _ ds => decide (uptoBulkAll ds ≤ 1048576)
def OpenSpec.upto (s : _root_.Go.ChangeSpec) : _root_.Go.OpenSpec := { _root_.Go.OpenSpec.ofChange s with cond := some uptoSmall }

/-- 'fasciclelaw14.PackRooms', WHERE WHAT IT READS IS OF BULK AT MOST 1048576: true; the input reads as it did. -/
def packRoomsUptoRow : OpenClaim := { program := "ytibojgoeaoinpaa", sum := "7e99e91fefa8cc561586f670618e77ceb28599f13a5cb65b32e7884d118a9564", func := "fascicle/fasciclelaw14.PackRooms", spec := "packRooms", inPlace := ["internal/bytealg.IndexByte"], unfollowed := true, recurses := true, apart := false, narrowed := true }
def PackRoomsUptoSaid : Prop := packRoomsUptoRow.holds Try.pinned (OpenSpec.upto packRoomsSpec)

/-- 'fasciclelaw14.PackPlans', WHERE WHAT IT READS IS OF BULK AT MOST 1048576: true; the input reads as it did. -/
def packPlansUptoRow : OpenClaim := { program := "ytibojgoeaoinpaa", sum := "7e99e91fefa8cc561586f670618e77ceb28599f13a5cb65b32e7884d118a9564", func := "fascicle/fasciclelaw14.PackPlans", spec := "packPlans", inPlace := ["internal/bytealg.IndexByte"], unfollowed := true, recurses := true, apart := false, narrowed := true }
def PackPlansUptoSaid : Prop := packPlansUptoRow.holds Try.pinned (OpenSpec.upto packPlansSpec)

/-- 'fasciclelaw14.PackGreedy', WHERE WHAT IT READS IS OF BULK AT MOST 1048576: true; the input reads as it did. -/
def packGreedyUptoRow : OpenClaim := { program := "ytibojgoeaoinpaa", sum := "7e99e91fefa8cc561586f670618e77ceb28599f13a5cb65b32e7884d118a9564", func := "fascicle/fasciclelaw14.PackGreedy", spec := "packGreedy", inPlace := ["internal/bytealg.IndexByte"], unfollowed := true, recurses := true, apart := false, narrowed := true }
def PackGreedyUptoSaid : Prop := packGreedyUptoRow.holds Try.pinned (OpenSpec.upto packGreedySpec)

/-- 'fasciclelaw14.PackLarge', WHERE WHAT IT READS IS OF BULK AT MOST 1048576: true; the input reads as it did. -/
def packLargeUptoRow : OpenClaim := { program := "ytibojgoeaoinpaa", sum := "7e99e91fefa8cc561586f670618e77ceb28599f13a5cb65b32e7884d118a9564", func := "fascicle/fasciclelaw14.PackLarge", spec := "packLarge", inPlace := ["internal/bytealg.IndexByte"], unfollowed := true, recurses := true, apart := false, narrowed := true }
def PackLargeUptoSaid : Prop := packLargeUptoRow.holds Try.pinned (OpenSpec.upto packLargeSpec)

end Rows
end Go.Proofs.Ytibojgoeaoinpaa

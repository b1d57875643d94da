/-
  Open16; Open9.
-/
import Derived.Test.YtehkjkcnigknkaaGreatV08
namespace Go.Proofs.YtehkjkcnigknkaaGreat
section
theorem u16_in {n:Int} (h:(Lit.int .u16 n).wf=true):0≤n∧n<65536:=by
 have:0≤n∧n≤65535:=by simpa [Lit.wf,IntKind.min,IntKind.max,IntKind.signed,IntKind.bits] using h
 omega
end
section
open Go.RowKit
theorem u8_in {n:Int} (h:(Lit.int .u8 n).wf=true):0≤n∧n<256:=by
 simp [Lit.wf,IntKind.min,IntKind.max,IntKind.signed,IntKind.bits] at h
 omega
theorem nat_u8 {z:Int} (h:(Lit.int .u8 z).wf=true):∃ k:Nat,z=(k:Int)∧k<256:=by
 obtain ⟨h1,h2⟩:=u8_in h
 exact ⟨z.toNat,by omega,by omega⟩
theorem nat_u16 {z:Int} (h:(Lit.int .u16 z).wf=true):∃ k:Nat,z=(k:Int)∧k<65536:=by
 obtain ⟨h1,h2⟩:=u16_in h
 exact ⟨z.toNat,by omega,by omega⟩
end
end Go.Proofs.YtehkjkcnigknkaaGreat

/-
  The law CursorBack: what it writes, round by round.
-/
import Derived.Test.YthgjipgkbinjkaaBackRead
import Derived.Test.YthgjipgkbinjkaaLawLives
namespace Go.Proofs.Ythgjipgkbinjkaa
open Go.RowKit

theorem infoBuffer : (Try.prog.info? 40).map (fun i => i.size) = some 1 := by kernel_rfl
theorem neqBuffer (a : Addr) (w : World) : (binOp .neq 41 (.pointer (some a)) (.pointer (some a))).run Try.prog w = .ok (.bool false) w := by
  obtain ⟨i, hi, hs⟩ := Option.map_eq_some_iff.1 infoBuffer
  exact Lib.run_neq_ptr_same w a Try.underlying41 hi

/-- What a round of the writing finds: the Buffer in block g holds the records so far; the list and the text are where they were, below g. -/
structure WLoop (w1 : World) (g b1 b3 : Nat) (lp pr : Option Addr) (ys zs : List Int) (N c n lc k : Nat) (wr : World) : Prop where
  buf : BufAt wr g g (allOf ys (zs.take k))
  keep : Below g w1 wr
  lo : b1 < g ∧ b3 < g ∧ g ≤ w1.heap.size
  sl : Whole w1 b1 38 #[.slice lp n lc]
  raw : Whole w1 b3 22 #[.slice pr N c]
  ws : Words w1 lp zs
  text : Bytes8 w1 pr ys
  loW : ∀ i, i < zs.length → ∀ q, lp = some q → q.block < g
  loT : 0 < ys.length → ∀ q, pr = some q → q.block < g

section
variable {w1 : World} {g b1 b3 : Nat} {lp pr : Option Addr} {ys zs : List Int} {N c n lc k : Nat} {wr : World}

theorem keepsOf {B : Nat} {w w' : World} (h : Below B w w') : Keeps (fun i => B ≤ i) w w' := ⟨h.os, h.tape, h.output, h.size, fun i _ hn => h.block i (by omega)⟩

theorem WLoop.slNow (h : WLoop w1 g b1 b3 lp pr ys zs N c n lc k wr) : Whole wr b1 38 #[.slice lp n lc] := h.sl.keep (keepsOf h.keep) (by have := h.lo; omega)
theorem WLoop.rawNow (h : WLoop w1 g b1 b3 lp pr ys zs N c n lc k wr) : Whole wr b3 22 #[.slice pr N c] := h.raw.keep (keepsOf h.keep) (by have := h.lo; omega)
theorem WLoop.textNow (h : WLoop w1 g b1 b3 lp pr ys zs N c n lc k wr) : Bytes8 wr pr ys := h.text.keepPos (keepsOf h.keep) (fun h0 q hq => by have := h.loT h0 q hq; omega)
theorem WLoop.wsNow (h : WLoop w1 g b1 b3 lp pr ys zs N c n lc k wr) : Words wr lp zs := fun i hi => by
  obtain ⟨a, rfl, hc⟩ := h.ws i hi
  exact ⟨a, rfl, (keepsOf h.keep).cell hc (by rw [addBlock]; have := h.loW i hi a rfl; omega)⟩

/-- What is held of the raw bytes wherever the walk stands, below the Buffer. -/
structure RawAt (g b3 : Nat) (pr : Option Addr) (ys : List Int) (N c : Nat) (w : World) : Prop where
  raw : Whole w b3 22 #[.slice pr N c]
  text : Bytes8 w pr ys
  lo : b3 < g
  loT : 0 < ys.length → ∀ q, pr = some q → q.block < g

theorem WLoop.rawAt (h : WLoop w1 g b1 b3 lp pr ys zs N c n lc k wr) : RawAt g b3 pr ys N c wr := ⟨h.rawNow, h.textNow, h.lo.2.1, h.loT⟩
theorem RawAt.below {w w' : World} (h : RawAt g b3 pr ys N c w) (hb : Below g w w') : RawAt g b3 pr ys N c w' :=
  ⟨h.raw.keep (keepsOf hb) (by have := h.lo; omega), h.text.keepPos (keepsOf hb) (fun h0 q hq => by have := h.loT h0 q hq; omega), h.lo, h.loT⟩
theorem RawAt.cell {w : World} (h : RawAt g b3 pr ys N c w) : w.cell? ⟨b3, 0, none⟩ = some (.slice pr N c) := h.raw.cell 0 rfl
theorem RawAt.conv {w : World} (h : RawAt g b3 pr ys N c w) (hN : N = ys.length) : (convert 22 9 (.slice pr N c)).run Try.prog w = .ok (.string (strOfNums ys)) w := textOf pr N c ys w hN h.text

/-- The bytes that the four writings of a round leave. -/
theorem rec_bytes (A ys : List Int) (z : Int) : (((A ++ [IntKind.u8.wrap z]) ++ digits (IntKind.u32.wrap z) 4) ++ digits z 8) ++ ys = A ++ recOf ys z := by
  have e1 : [IntKind.u8.wrap z] = digits z 1 := by rw [IntKind.wrap_u8]; simp [digits]
  have e2 : digits (IntKind.u32.wrap z) 4 = digits z 4 := by rw [IntKind.wrap_u32]; exact digits_mod z 4 4 (Nat.le_refl _)
  rw [e1, e2]
  simp [recOf, List.append_assoc]
end
end Go.Proofs.Ythgjipgkbinjkaa

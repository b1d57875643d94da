/-
  CobsRef2; RecRef2; In8; ThinSum; ThinAll; ThinLives.
-/
import Derived.BigQuiet
import Derived.Lib.SlBytesConst
import Derived.Test.YtibojgoeaoinpaaM01
import Derived.Test.YtibojgoeaoinpaaM02
import Derived.Test.YtibojgoeaoinpaaM06
import Derived.Test.YtibojgoeaoinpaaM07
import Derived.Test.YtibojgoeaoinpaaM10
namespace Go.Proofs.Ytibojgoeaoinpaa
open Go.RowKit

/-- Where the second loop stands: what is out, what is left. -/
def UnAt (xs O R : List Int) : Prop := (dec R).map (O ++ ·) = dec xs ∧ O.length + R.length ≤ xs.length ∧ Octets O ∧ Solid R

theorem UnAt.start {xs : List Int} (h : Solid xs) : UnAt xs [] xs := ⟨by simp, by simp, fun b hb => by simp at hb, h⟩
theorem UnAt.short {xs O R : List Int} {n : Int} {r : List Int} (h : UnAt xs O R) (hR : R = n :: r) (hs : r.length + 1 < n.toNat) : dec xs = none := by
  subst hR
  rw [← h.1, dec, if_pos hs]
  rfl
theorem UnAt.done {xs O : List Int} (h : UnAt xs O []) : dec xs = some O := by
  rw [← h.1, dec]
  simp
theorem UnAt.step {xs O R : List Int} {n : Int} {r : List Int} (h : UnAt xs O R) (hR : R = n :: r) (hs : ¬ r.length + 1 < n.toNat) :
    UnAt xs (O ++ r.take (n.toNat - 1) ++ (if n < 255 ∧ r.drop (n.toNat - 1) ≠ [] then [0] else [])) (r.drop (n.toNat - 1)) := by
  subst hR
  obtain ⟨h1, h2, h3, h4⟩ := h
  have hn := h4 n List.mem_cons_self
  have hr : Solid r := fun b hb => h4 b (List.mem_cons_of_mem _ hb)
  refine ⟨?_, ?_, ?_, fun b hb => hr b (List.mem_of_mem_drop hb)⟩
  · rw [← h1, dec, if_neg hs, Option.map_map]
    congr 1
    funext o
    simp
  · have : (if n < 255 ∧ r.drop (n.toNat - 1) ≠ [] then [0] else ([] : List Int)).length ≤ 1 := by split <;> simp
    simp only [List.length_append, List.length_take, List.length_drop, List.length_cons] at h2 ⊢
    omega
  · intro b hb
    rcases List.mem_append.1 hb with hb | hb
    · rcases List.mem_append.1 hb with hb | hb
      · exact h3 b hb
      · exact hr.octets b (List.mem_of_mem_take hb)
    · split at hb
      · rw [List.mem_singleton.1 hb]; omega
      · simp at hb

end Go.Proofs.Ytibojgoeaoinpaa

namespace Go.Proofs.Ytibojgoeaoinpaa
open Go.RowKit

/-- What the document's GetText leaves. -/
def textOut (xs : List Int) (a : Int) (t : VT) : Value := .tuple #[rdr (xs.drop t.n) (a + t.n) t.e, .string (strOfNums t.t)]

theorem str_nil : (strOfNums [] : ByteArray) = ⟨#[]⟩ := rfl

end Go.Proofs.Ytibojgoeaoinpaa

namespace Go.Proofs.Ytibojgoeaoinpaa
open Go.RowKit

/-- What a slice of bytes is. -/
structure In8 (w : World) (p : Option Addr) (N c : Nat) (xs : List Int) : Prop where
  len : N = xs.length
  cap : N ≤ c
  room : c ≤ 9223372036854775807
  bare : p = none → N = 0 ∧ c = 0
  oct : Octets xs
  at_ : Bytes8 w p xs

theorem In8.nil (w : World) : In8 w none 0 0 [] := ⟨rfl, Nat.le_refl _, by decide, fun _ => ⟨rfl, rfl⟩, fun b hb => by simp at hb, Bytes8.nil _ _⟩

theorem Bytes8.left {w : World} {p : Option Addr} {xs ys : List Int} (h : Bytes8 w p (xs ++ ys)) : Bytes8 w p xs := fun h0 => by
  obtain ⟨a, ha, hc⟩ := h (by rw [List.length_append]; omega)
  refine ⟨a, ha, fun i hi => ?_⟩
  rw [hc i (by rw [List.length_append]; omega), List.getD_eq_getElem?_getD, List.getD_eq_getElem?_getD, List.getElem?_append_left hi]

theorem cell_new (w : World) (cs : Array Value) (t : TypeId) (f : Nat × Nat) (i : Nat) {v : Value} (h : cs[i]? = some v) : (w.alloc (.cells cs t f)).cell? ⟨w.heap.size, i, none⟩ = some v := by
  have e : (w.alloc (.cells cs t f)).heap[w.heap.size]? = some (.cells cs t f) := by
    show (w.heap.push _)[w.heap.size]? = _
    simp
  unfold World.cell?
  simp only [e]
  simpa using h
end Go.Proofs.Ytibojgoeaoinpaa

namespace Go.Proofs.Ytibojgoeaoinpaa
open Go.RowKit

theorem and31 (n : Nat) (hn : n < 32) : bits BinOp.and IntKind.u64 (n : Int) 31 = (n : Int) := by
  have e := u64_and_nat n 31 (by omega) (by decide)
  rw [show n &&& 31 = n % 2 ^ 5 from Nat.and_two_pow_sub_one_eq_mod n 5, Nat.mod_eq_of_lt (by omega)] at e
  exact e

theorem down32 {x : Int} (h : U32 x) : bits BinOp.xor IntKind.u32 x (x / 32768) = down 15 x ∧ bits BinOp.xor IntKind.u32 x (x / 8192) = down 13 x ∧ bits BinOp.xor IntKind.u32 x (x / 65536) = down 16 x :=
  ⟨down_of32 15 h, down_of32 13 h, down_of32 16 h⟩

def lenOf : Value → Nat
  | .slice _ n _ => n
  | _ => 0

/-- 'x | uint32(low) << (8*k)' where x has k bytes. -/
theorem or_byte32 (X y : Int) (k : Nat) (hk : k < 4) (hX0 : 0 ≤ X) (hX : X < 2 ^ (8 * k)) (h0 : 0 ≤ y) (h1 : y < 256) :
    bits BinOp.or IntKind.u32 X (y * 2 ^ (8 * k)) = X + 2 ^ (8 * k) * y := by
  obtain ⟨x, rfl⟩ := Int.eq_ofNat_of_zero_le hX0
  obtain ⟨b, rfl⟩ := Int.eq_ofNat_of_zero_le h0
  have hp : (2 : Nat) ^ (8 * k) * 256 ≤ 4294967296 := by
    have e : (2 : Nat) ^ (8 * k) * 256 = 2 ^ (8 * k + 8) := by rw [Nat.pow_add]
    rw [e]
    exact Nat.pow_le_pow_right (by decide) (show 8 * k + 8 ≤ 32 by omega)
  have hx : x < 2 ^ (8 * k) := by exact_mod_cast hX
  have hb : b < 256 := by omega
  have hbp : b * 2 ^ (8 * k) < 4294967296 := by
    have : b * 2 ^ (8 * k) < 256 * 2 ^ (8 * k) := Nat.mul_lt_mul_of_pos_right hb (Nat.two_pow_pos _)
    rw [Nat.mul_comm 256] at this
    omega
  have e2 : (b : Int) * 2 ^ (8 * k) = ((b * 2 ^ (8 * k) : Nat) : Int) := by push_cast; rfl
  rw [e2, u32_or_nat _ _ (by omega) hbp, Nat.or_comm, Nat.mul_comm b, ← Nat.two_pow_add_eq_or_of_lt hx]
  push_cast
  omega

theorem Bytes8.at4 {w : World} {p : Option Addr} {xs : List Int} (h : Bytes8 w p xs) (h4 : 4 ≤ xs.length) : ∃ a, p = some a ∧ w.cell? a = some (.int .u8 (xs.getD 0 0)) ∧ w.cell? ⟨a.block, a.off + 1, none⟩ = some (.int .u8 (xs.getD 1 0)) ∧ w.cell? ⟨a.block, a.off + 2, none⟩ = some (.int .u8 (xs.getD 2 0)) ∧ w.cell? ⟨a.block, a.off + 3, none⟩ = some (.int .u8 (xs.getD 3 0)) := by
  obtain ⟨a, rfl, hc⟩ := h (by omega)
  exact ⟨a, rfl, hc 0 (by omega), hc 1 (by omega), hc 2 (by omega), hc 3 (by omega)⟩

theorem four_le {xs : List Int} (h4 : 4 ≤ xs.length) : four4 xs 0 = xs.getD 0 0 + 256 * (xs.getD 1 0) + 65536 * (xs.getD 2 0) + 16777216 * (xs.getD 3 0) := by
  match xs, h4 with
  | a :: b :: c :: d :: r, _ => simp [four4, le]; omega

end Go.Proofs.Ytibojgoeaoinpaa

namespace Go.Proofs.Ytibojgoeaoinpaa
open Go.RowKit

end Go.Proofs.Ytibojgoeaoinpaa

namespace Go.Proofs.Ytibojgoeaoinpaa
open Go.RowKit

theorem xxh_nil : xxh 0 [] = 46947589 := by
  unfold xxh tblocks
  rw [if_pos (by decide), tails_end (by decide)]
  decide +kernel
theorem xxh_abc : xxh 0 [97, 98, 99] = 852579327 := by
  unfold xxh tblocks
  rw [if_pos (by decide), tails_end (by decide)]
  decide +kernel

end Go.Proofs.Ytibojgoeaoinpaa

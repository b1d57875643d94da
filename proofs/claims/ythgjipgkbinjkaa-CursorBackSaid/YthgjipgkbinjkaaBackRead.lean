/-
  The law CursorBack: its reading.
-/
import Derived.Test.YthgjipgkbinjkaaBackNum
import Derived.Test.YthgjipgkbinjkaaCurE
import Derived.Deep.RegionHeld3
namespace Go.Proofs.Ythgjipgkbinjkaa
open Go.RowKit

theorem enterBack (args : Array Value) (w : World) : (callFunc 19 args).run Try.prog w = .ok (.enter 19 args) w := by kernel_rfl

/-- Numbers of 64 bits that can be read. -/
def Words (w : World) (p : Option Addr) (zs : List Int) : Prop := ∀ i, i < zs.length → ∃ a, p = some a ∧ w.cell? (a.add i) = some (.int .u64 (zs.getD i 0))

theorem Words.keep {w w' : World} {p : Option Addr} {zs : List Int} (h : Words w p zs) {S : Nat → Prop} (hk : Keeps S w w') (hs : ∀ k, k < w.heap.size → ¬ S k) : Words w' p zs := fun i hi => by
  obtain ⟨a, rfl, hc⟩ := h i hi
  exact ⟨a, rfl, hk.cell hc (hs _ (ltOfCell hc))⟩

/-- What the reading needs at each place: its cursor, the bytes, 'right', the text that was written. -/
structure RState (kC RB b3 : Nat) (p pr : Option Addr) (X ys : List Int) (Nb cb N c b : Nat) (w : World) : Prop where
  cur : CurB w kC p Nb cb b true 0
  bytes : Bytes8 w p X
  right : Whole w RB 4 #[.bool true]
  raw : Whole w b3 22 #[.slice pr N c]
  text : Bytes8 w pr ys
  far : kC ≠ RB ∧ kC ≠ b3
  farB : 0 < X.length → ∀ q, p = some q → q.block ≠ kC
  farT : 0 < ys.length → ∀ q, pr = some q → q.block ≠ kC

section
variable {kC RB b3 : Nat} {p pr : Option Addr} {X ys : List Int} {Nb cb N c b : Nat} {w : World}

theorem RState.drewN (h : RState kC RB b3 p pr X ys Nb cb N c b w) (n : Nat) : RState kC RB b3 p pr X ys Nb cb N c b (w.drewN n) := ⟨h.cur, h.bytes, h.right, h.raw, h.text, h.far, h.farB, h.farT⟩
theorem RState.drew (h : RState kC RB b3 p pr X ys Nb cb N c b w) : RState kC RB b3 p pr X ys Nb cb N c b w.drew := ⟨h.cur, h.bytes, h.right, h.raw, h.text, h.far, h.farB, h.farT⟩
theorem RState.next {w' : World} {b' : Nat} (h : RState kC RB b3 p pr X ys Nb cb N c b w) (hk : Keeps (Just kC) w w') (hc : CurB w' kC p Nb cb b' true 0) : RState kC RB b3 p pr X ys Nb cb N c b' w' :=
  ⟨hc, h.bytes.keepPos hk (fun h0 a ha => h.farB h0 a ha), h.right.keep hk (Ne.symm h.far.1), h.raw.keep hk (Ne.symm h.far.2), h.text.keepPos hk (fun h0 a ha => h.farT h0 a ha), h.far, h.farB, h.farT⟩

/-- What the region loads, of every world between its calls. -/
theorem RState.held (h : RState kC RB b3 p pr X ys Nb cb N c b w) (hN : N = ys.length) : w.cell? ⟨RB, 0, none⟩ = some (.bool true) ∧ w.cell? ⟨b3, 0, none⟩ = some (.slice pr N c) ∧ (convert 22 9 (.slice pr N c)).run Try.prog w = .ok (.string (strOfNums ys)) w :=
  ⟨h.right.cell 0 rfl, h.raw.cell 0 rfl, textOf pr N c ys w hN h.text⟩

def Went (kC RB b3 : Nat) (p pr : Option Addr) (X ys : List Int) (Nb cb N c b : Nat) (v : Value) (w : World) (e : Ending) (w' : World) : Prop :=
  e = .returned v ∧ RState kC RB b3 p pr X ys Nb cb N c b w' ∧ Keeps (Just kC) w w'

theorem went_byte (h : RState kC RB b3 p pr X ys Nb cb N c b w) (z : Int) (hx : Nb = X.length) (ho : Octets X) (hn : b + 1 ≤ Nb) (hN : Nb ≤ cb) (hc : cb ≤ 9223372036854775807) (hz : X.getD b 0 = IntKind.u8.wrap z) :
    Calls Try.prog 20 #[.pointer (some ⟨kC, 0, none⟩)] w (Went kC RB b3 p pr X ys Nb cb N c (b + 1) (.int .u8 (IntKind.u8.wrap z)) w) :=
  (byte_at kC p X Nb cb b w hx h.cur h.bytes ho h.farB hn hN hc).mono fun e w' ⟨he, hcur, hk⟩ => ⟨by rw [he, hz], h.next hk hcur, hk⟩

theorem went_four (h : RState kC RB b3 p pr X ys Nb cb N c b w) (z : Int) (hx : Nb = X.length) (ho : Octets X) (hn : b + 4 ≤ Nb) (hN : Nb ≤ cb) (hc : cb ≤ 9223372036854775807) (hz : le ((X.drop b).take 4) = IntKind.u32.wrap z) :
    Calls Try.prog 21 #[.pointer (some ⟨kC, 0, none⟩)] w (Went kC RB b3 p pr X ys Nb cb N c (b + 4) (.int .u32 (IntKind.u32.wrap z)) w) :=
  (four_at kC p X Nb cb b w hx h.cur h.bytes ho h.farB hn hN hc).mono fun e w' ⟨he, hcur, hk⟩ => ⟨by rw [he, hz], h.next hk hcur, hk⟩

theorem went_eight (h : RState kC RB b3 p pr X ys Nb cb N c b w) (z : Int) (hx : Nb = X.length) (ho : Octets X) (hn : b + 8 ≤ Nb) (hN : Nb ≤ cb) (hc : cb ≤ 9223372036854775807) (hz : le ((X.drop b).take 8) = z) :
    Calls Try.prog 22 #[.pointer (some ⟨kC, 0, none⟩)] w (Went kC RB b3 p pr X ys Nb cb N c (b + 8) (.int .u64 z) w) :=
  (eight_at kC p X Nb cb b w hx h.cur h.bytes ho h.farB hn hN hc).mono fun e w' ⟨he, hcur, hk⟩ => ⟨by rw [he, hz], h.next hk hcur, hk⟩

/-- Take's answer reads as the text that was written. -/
def WentTake (kC RB b3 : Nat) (p pr : Option Addr) (X ys : List Int) (Nb cb N c b : Nat) (w : World) (e : Ending) (w' : World) : Prop :=
  ∃ q c', e = .returned (.slice q N c') ∧ (convert 22 9 (.slice q N c')).run Try.prog w' = .ok (.string (strOfNums ys)) w' ∧ RState kC RB b3 p pr X ys Nb cb N c b w' ∧ Keeps (Just kC) w w'

theorem went_take (h : RState kC RB b3 p pr X ys Nb cb N c b w) (hx : Nb = X.length) (hy : N = ys.length) (hn : b + N ≤ Nb) (hN : Nb ≤ cb) (hN' : Nb ≤ 140737488355328) (hc : cb ≤ 9223372036854775807) (hz : (X.drop b).take N = ys) :
    Calls Try.prog 9 #[.pointer (some ⟨kC, 0, none⟩), .int .i64 N] w (WentTake kC RB b3 p pr X ys Nb cb N c (b + N) w) :=
  (take_at kC p X Nb cb b N N w hx (by omega) h.cur h.bytes h.farB hn hN hN' hc).mono fun e w' ⟨v, he, ⟨q, c', hv, _, _, hb, _, hk⟩, hcur⟩ => by
    subst hv
    rw [hz] at hb
    exact ⟨q, c', he, textOf q N c' ys w' hy hb, h.next hk hcur, hk⟩

/-- A block of one bool holds no byte. -/
theorem far_bytes {v : Bool} (h : Bytes8 w p X) (hr : Whole w RB 4 #[.bool v]) (h0 : 0 < X.length) (q : Addr) (hq : p = some q) : q.block ≠ RB := by
  intro e
  obtain ⟨a, ha, hc⟩ := h h0
  obtain rfl := Option.some.inj (hq.symm.trans ha)
  have h1 := hc 0 h0
  have h2 : w.cell? q = some (.int .u8 (X.getD 0 0)) := h1
  obtain ⟨bl, off, sp⟩ := q
  obtain rfl : bl = RB := e
  unfold World.cell? at h2
  simp only [show w.heap[bl]? = _ from hr] at h2
  split at h2
  · simp at h2
  · match off, h2 with
    | 0, h2 => simp at h2

theorem RState.store (h : RState kC RB b3 p pr X ys Nb cb N c b w) : RState kC RB b3 p pr X ys Nb cb N c b (w.setCell ⟨RB, 0, none⟩ (.bool true)) := by
  have hk := (Keeps.refl (Just RB) w).setIn (Just.self RB) 0 (.bool true)
  have h3 : b3 ≠ RB := fun e => by subst e; exact absurd (h.raw.unique h.right).1 (by decide)
  exact ⟨Whole.keep h.cur hk h.far.1, h.bytes.keepPos hk (fun h0 a ha => far_bytes h.bytes h.right h0 a ha), h.right.set 0 _, h.raw.keep hk h3, h.text.keepPos hk (fun h0 a ha => far_bytes h.text h.right h0 a ha), h.far, h.farB, h.farT⟩

theorem end_done (k : Nat) (y : Int) (h : CurB w k p Nb cb Nb true y) (hc : (Nb : Int) ≤ 9223372036854775807) :
    Calls Try.prog 23 #[.pointer (some ⟨k, 0, none⟩)] w fun e w' => e = .returned (.tuple #[]) ∧ ∃ m, w' = w.drewN m := by
  have H := Lib.hid h; clear h
  go_enter Try.func23, Try.ntmps23
  go_wp2_with fail
  refine (left_at k p Nb cb Nb y _ H.out (Nat.le_refl _) hc).mono ?_
  rintro e w' ⟨rfl, m, rfl⟩
  go_wp2_with fail
  go_returns
  exact ⟨rfl, m, rfl⟩
end

theorem Begun.ends {w0 : World} {p : Option Addr} {N c a : Nat} {y : Int} {W W' : World} {RB : Nat} (h : Begun w0 p N c a y W) {b : Nat} {z : Int} (hk : Keeps (fun i => i = w0.heap.size + 1 + 1 ∨ i = RB) W W') (hRB : RB < w0.heap.size) (hc : CurB W' (w0.heap.size + 1 + 1) p N c b true z) : Begun w0 p N c b z W' :=
  ⟨h.at_.keep hk (by omega), h.why.keep hk (by omega), hc, h.var.keep hk (by omega)⟩

/-- What the loop carries. -/
structure BLoop (w0 W : World) (RB b1 b3 : Nat) (p pr lp : Option Addr) (X ys zs : List Int) (Nb cb N c n lc k : Nat) (wr : World) : Prop where
  st : RState (w0.heap.size + 1 + 1) RB b3 p pr X ys Nb cb N c (k * (13 + N)) wr
  keep : Keeps (fun i => i = w0.heap.size + 1 + 1 ∨ i = RB) W wr
  sl : Whole wr b1 38 #[.slice lp n lc]
  ws : Words wr lp zs
  lo : b1 < w0.heap.size ∧ RB < w0.heap.size ∧ ∀ i, i < zs.length → ∀ q, lp = some q → q.block < w0.heap.size

theorem BLoop.drewN {w0 W : World} {RB b1 b3 : Nat} {p pr lp : Option Addr} {X ys zs : List Int} {Nb cb N c n lc k : Nat} {wr : World} (h : BLoop w0 W RB b1 b3 p pr lp X ys zs Nb cb N c n lc k wr) (m : Nat) : BLoop w0 W RB b1 b3 p pr lp X ys zs Nb cb N c n lc k (wr.drewN m) :=
  ⟨h.st.drewN m, h.keep.drewN m, h.sl, h.ws, h.lo⟩

theorem BLoop.step {w0 W : World} {RB b1 b3 : Nat} {p pr lp : Option Addr} {X ys zs : List Int} {Nb cb N c n lc k : Nat} {wr wD : World} (h : BLoop w0 W RB b1 b3 p pr lp X ys zs Nb cb N c n lc k wr)
    (hk : Keeps (Just (w0.heap.size + 1 + 1)) wr wD) (hs : RState (w0.heap.size + 1 + 1) RB b3 p pr X ys Nb cb N c (k * (13 + N) + 1 + 4 + 8 + N) wD) : BLoop w0 W RB b1 b3 p pr lp X ys zs Nb cb N c n lc (k + 1) (wD.setCell ⟨RB, 0, none⟩ (.bool true)) := by
  have hk2 : Keeps (fun i => i = w0.heap.size + 1 + 1 ∨ i = RB) wr (wD.setCell ⟨RB, 0, none⟩ (.bool true)) := (hk.wider (fun i _ h => .inl h)).setIn (.inr rfl) 0 _
  have e : (k + 1) * (13 + N) = k * (13 + N) + 1 + 4 + 8 + N := by rw [Nat.add_mul]; omega
  have hsl := h.sl.keep hk (by have := h.lo.1; unfold Just; omega)
  have hws : Words wD lp zs := fun i hi => by
    obtain ⟨a, rfl, hc⟩ := h.ws i hi
    exact ⟨a, rfl, hk.cell hc (by rw [addBlock]; have := h.lo.2.2 i hi a rfl; unfold Just; omega)⟩
  refine ⟨by rw [e]; exact hs.store, h.keep.trans hk2, hsl.setOther (fun e => by subst e; exact absurd (hsl.unique hs.right).1 (by decide)) _, fun i hi => ?_, h.lo⟩
  obtain ⟨a, rfl, hc⟩ := hws i hi
  refine ⟨a, rfl, ?_⟩
  rw [World.cell?_setCell_other _ _ _ _ (fun e => ?_)]
  · exact hc
  · have e2 : w0 = w0 := rfl
    have h3 := hs.right.cell 0 rfl
    rw [show (⟨RB, 0, none⟩ : Addr) = a.add i from e.symm ▸ rfl] at h3
    rw [hc] at h3
    simp at h3
end Go.Proofs.Ythgjipgkbinjkaa

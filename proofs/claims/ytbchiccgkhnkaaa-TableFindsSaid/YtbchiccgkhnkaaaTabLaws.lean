/-
  What the laws of package table ask of its functions; their example; the same entries, hashes.
-/
import Derived.Test.YtbchiccgkhnkaaaTabGet
import Derived.Test.YtbchiccgkhnkaaaWideNum
import Derived.Test.YtbchiccgkhnkaaaBufO
import Derived.Test.YtbchiccgkhnkaaaNewBytes
namespace Go.Proofs.Ytbchiccgkhnkaaa
open Go.RowKit

/-- A row of entries that comes in. -/
structure InE (w : World) (p : Option Addr) (n c : Nat) (l : List En) : Prop where
  len : n = l.length
  cap : n ≤ c
  room : c ≤ 9223372036854775807
  bare : p = none → n = 0 ∧ c = 0
  fine : ∀ e ∈ l, e.Fine
  at_ : EnsAt w p l
/-- A row that was got: new memory. -/
def GotRow (w : World) (l : List En) (v : Value) (w' : World) : Prop :=
  ∃ (q : Option Addr) (m d : Nat), v = .slice q m d ∧ m = l.length ∧ m ≤ d ∧ d ≤ 9223372036854775807 ∧ (q = none → m = 0 ∧ d = 0) ∧ EnsAt w' q l ∧ (0 < m → ∀ a, q = some a → w.heap.size ≤ a.block)
/-- How Get ends. -/
def GetEPost (k : Nat) (p : Option Addr) (N c a : Nat) (t : GE) (w : World) (e : Ending) (w' : World) : Prop :=
  Keeps (Just k) w w' ∧ ((t.y = 0 ∧ (∃ v, e = .returned v ∧ GotRow w t.l v w') ∧ CurB w' k p N c (a + t.m) true 0) ∨ (t.y ≠ 0 ∧ e = .panicked (given k) ∧ CurB w' k p N c (a + t.m) true t.y))

/-- The contracts of Sorted, Rising. -/
structure SortOk : Prop where
  sorted : ∀ (p : Option Addr) (n c : Nat) (l : List En) (w : World), InE w p n c l → n ≤ 100000 →
    Calls Try.prog 9 #[.slice p n c] w fun e w' => ∃ v, e = .returned v ∧ NewEns w (sortE l) v w'
/-- .. of Compare. -/
structure CmpOk : Prop where
  cmp : ∀ (a b : En) (w : World), a.Fine → b.Fine → Calls Try.prog 10 #[enV a, enV b] w fun e w' => e = .returned (.int .i64 (cmpE a b)) ∧ Keeps NoBlock w w'
/-- .. of Rising. -/
structure RisOk : Prop where
  rising : ∀ (p : Option Addr) (n c : Nat) (l : List En) (w : World), InE w p n c l → n ≤ 100000 →
    Calls Try.prog 14 #[.slice p n c] w fun e w' => e = .returned (.bool (risesE l)) ∧ Keeps NoBlock w w'
/-- .. of Find. -/
structure FindOk : Prop where
  find : ∀ (p : Option Addr) (n c : Nat) (l : List En) (h : Nat) (w : World), InE w p n c l → n ≤ 100000 → risesE l = true → h < 18446744073709551616 →
    Calls Try.prog 26 #[.slice p n c, .int .u64 (h : Int)] w fun e w' => e = .returned (.tuple #[.int .i64 ((findE l h).1 : Int), .int .i64 ((findE l h).2 : Int)]) ∧ Keeps NoBlock w w'
/-- .. of Hash. -/
structure HashOk : Prop where
  hash : ∀ (xs : List Int) (w : World), Octets xs → xs.length ≤ 1000000 →
    Calls Try.prog 28 #[.string (strOfNums xs)] w fun e w' => e = .returned (.int .u64 (wxxh 0 xs)) ∧ Keeps NoBlock w w'
/-- .. of Put, Get. -/
structure BytesOk : Prop where
  put : ∀ (base g : Nat) (xs : List Int) (p : Option Addr) (n c : Nat) (l : List En) (w : World), BufAt w base g xs → base ≤ w.heap.size → InE w p n c l → n ≤ 100000 → (0 < n → ∀ a, p = some a → ¬ OnBuf base g a.block) → xs.length ≤ 100000000 →
    Calls Try.prog 16 #[.pointer (some ⟨g, 0, none⟩), .slice p n c] w fun e w' => e = .returned (.tuple #[]) ∧ BufAt w' base g (xs ++ textE l) ∧ Keeps (OnBuf base g) w w'
  get : ∀ (k : Nat) (p : Option Addr) (xs : List Int) (N c a : Nat) (z : Int) (w : World), N = xs.length → CurB w k p N c a true 0 → Bytes8 w p xs → Octets xs → (0 < xs.length → ∀ q, p = some q → q.block ≠ k) → a ≤ N → N ≤ c → c ≤ 9223372036854775807 → N ≤ 1000000 →
    Calls Try.prog 20 #[.pointer (some ⟨k, 0, none⟩), .int .i64 z] w (GetEPost k p N c a (getE z (xs.drop a)) w)

theorem EnsAt.keepFar {w w' : World} {q : Option Addr} {l : List En} (h : EnsAt w q l) {S : Nat → Prop} (hk : Keeps S w w') (hs : 0 < l.length → ∀ a, q = some a → ¬ S a.block) : EnsAt w' q l := fun i hi => by
  obtain ⟨a, rfl, c0, c1⟩ := h i hi
  exact ⟨a, rfl, hk.cell c0 (by rw [addBlock]; exact hs (by omega) a rfl), hk.cell c1 (by show ¬ S (a.add (i * 2)).block; rw [addBlock]; exact hs (by omega) a rfl)⟩
theorem EnsAt.old {w : World} {q : Option Addr} {l : List En} (h : EnsAt w q l) (h0 : 0 < l.length) (a : Addr) (ha : q = some a) : a.block < w.heap.size := by
  obtain ⟨a', ha', c0, _⟩ := h.at_ 0 h0
  obtain rfl := Option.some.inj (ha.symm.trans ha')
  have := ltOfCell c0
  rwa [addBlock] at this
/-- A row that was there ahead of a block stays behind what turns that block alone. -/
theorem EnsAt.keepNew {w w0 w' : World} {q : Option Addr} {l : List En} (h : EnsAt w q l) (hw : Keeps NoBlock w w0) {b : Nat} (hb : w.heap.size ≤ b) (hk : Keeps (Just b) w0 w') : EnsAt w' q l :=
  EnsAt.keepFar (EnsAt.keep h hw) hk (fun h0 a ha => by have := h.old h0 a ha; unfold Just; omega)

theorem enNeR (r : En) (w : World) : (binOp .neq 69 (.agg #[.int .u64 (r.hash : Int), .int .u32 (r.at_ : Int)]) (.agg #[.int .u64 (r.hash : Int), .int .u32 (r.at_ : Int)])).run Try.prog w = .ok (.bool false) w := by
  simp [go_sem]

set_option maxHeartbeats 4000000 in
set_option maxRecDepth 10000 in
theorem same11_go (p q : Option Addr) (n c d : Nat) (l : List En) (w : World) (hn : n = l.length) (hn9 : n ≤ 1000000) (hp : EnsAt w p l) (hq : EnsAt w q l) :
    Calls Try.prog 11 #[.slice p n c, .slice q n d] w fun e w' => e = .returned (.bool true) ∧ Keeps NoBlock w w' := by
  have HP := Lib.hid hp
  have HQ := Lib.hid hq
  have HN := Lib.hid hn
  have hnn : ((n : Int) != (n : Int)) = false := by simp
  clear hp hq hn
  go_enter Try.func11, Try.ntmps11
  go_wp2_with fail
  go_loopw [13] (fun i wr => ∃ j : Nat, j ≤ n ∧ i = .int .i64 (j : Int) ∧ Hid (Keeps NoBlock w wr)) (fun i _ => n - (intOf i).toNat)
  case atStart => exact ⟨0, Nat.zero_le _, rfl, Lib.hid (Keeps.refl _ _)⟩
  case round =>
    obtain ⟨j, hj, rfl, HK⟩ := hrel
    by_cases hlt : j < n
    · have hdj : decide (j < n) = true := decide_eq_true hlt
      have hjl : j < l.length := by rw [← HN.out]; exact hlt
      obtain ⟨a, rfl, a0, a1⟩ := (HP.out.keep HK.out).at_ j hjl
      obtain ⟨b, rfl, b0, b1⟩ := (HQ.out.keep HK.out).at_ j hjl
      obtain ⟨r, hr⟩ : ∃ r, r = l.getD j En.none := ⟨_, rfl⟩
      rw [← hr] at a0 a1 b0 b1
      have hne := enNeR r
      clear hr hjl
      go_wp2_with fail
      go_quiet (fail)
      go_wp2_with fail
      go_roundw
      case rel => exact ⟨j + 1, by omega, by go_num, Lib.hid (by first | exact HK.out.drewN _ | exact HK.out)⟩
      case measure => simp [intOf]; omega
    · have hdj : decide (j < n) = false := decide_eq_false hlt
      go_wp2_with fail
      go_ret
      exact ⟨rfl, HK.out⟩

theorem sort_example : sortE [⟨5, 1⟩, ⟨2, 9⟩, ⟨5, 0⟩, ⟨2, 9⟩] = [⟨2, 9⟩, ⟨5, 0⟩, ⟨5, 1⟩] := by decide

set_option maxHeartbeats 2000000 in
set_option maxRecDepth 10000 in
theorem lives11_true (H : SortOk) (w : World) : Calls Try.prog 8 #[] w fun e w' => e = .returned (.bool true) ∧ Keeps NoBlock w w' := by
  have HW : Hid (Whole (w.alloc (.cells #[.int .u64 5, .int .u32 1, .int .u64 2, .int .u32 9, .int .u64 5, .int .u32 0, .int .u64 2, .int .u32 9] 29)) w.heap.size 29 #[.int .u64 5, .int .u32 1, .int .u64 2, .int .u32 9, .int .u64 5, .int .u32 0, .int .u64 2, .int .u32 9]) := Lib.hid (Whole.new _ _ _)
  have HAt : Hid (EnsAt (w.alloc (.cells #[.int .u64 5, .int .u32 1, .int .u64 2, .int .u32 9, .int .u64 5, .int .u32 0, .int .u64 2, .int .u32 9] 29)) (some ⟨w.heap.size, 0, none⟩) [⟨5, 1⟩, ⟨2, 9⟩, ⟨5, 0⟩, ⟨2, 9⟩]) := Lib.hid (by
    intro i hi
    refine ⟨_, rfl, ?_⟩
    have : i = 0 ∨ i = 1 ∨ i = 2 ∨ i = 3 := by simp at hi; omega
    rcases this with rfl | rfl | rfl | rfl
    all_goals (simp only [Addr.add_lit, Nat.zero_add]; exact ⟨HW.out.cell _ rfl, HW.out.cell _ rfl⟩))
  have HS := Lib.hid (H.sorted (some ⟨w.heap.size, 0, none⟩) 4 4 [⟨5, 1⟩, ⟨2, 9⟩, ⟨5, 0⟩, ⟨2, 9⟩] _ ⟨rfl, Nat.le_refl _, by decide, fun h => by simp at h, fun e he => by
    simp only [List.mem_cons, List.not_mem_nil, or_false] at he
    rcases he with rfl | rfl | rfl | rfl <;> exact ⟨by decide, by decide⟩, HAt.out⟩ (by decide))
  rw [sort_example] at HS
  clear H HAt
  go_enter Try.func8, Try.ntmps8
  go_wp2_with fail
  refine HS.out.mono ?_
  rintro e w1 ⟨v, rfl, q, m, d, rfl, hm, hmd, hd, hq, hat, hk⟩
  obtain rfl : m = 3 := hm
  have HK := Lib.hid (((Keeps.refl NoBlock w).alloc (.cells #[.int .u64 5, .int .u32 1, .int .u64 2, .int .u32 9, .int .u64 5, .int .u32 0, .int .u64 2, .int .u32 9] 29)).trans hk)
  obtain ⟨a, rfl, x0, x1⟩ := EnsAt.at_ hat 0 (by decide)
  obtain ⟨a1, ha1, y0, y1⟩ := EnsAt.at_ hat 1 (by decide)
  obtain rfl := Option.some.inj ha1
  obtain ⟨a2, ha2, z0, z1⟩ := EnsAt.at_ hat 2 (by decide)
  obtain rfl := Option.some.inj ha2
  rw [show a.add (0 * 2) = a by cases a; rfl] at x0 x1
  rw [show a.add (1 * 2) = ⟨a.block, a.off + 2, none⟩ from rfl] at y0 y1
  rw [show a.add (2 * 2) = ⟨a.block, a.off + 4, none⟩ from rfl] at z0 z1
  have q0 : ∀ w, (binOp .eql 29 (.agg #[.int .u64 2, .int .u32 9]) (.agg #[.int .u64 2, .int .u32 9])).run Try.prog w = .ok (.bool true) w := fun w => by simp [go_sem]
  have q1 : ∀ w, (binOp .eql 29 (.agg #[.int .u64 5, .int .u32 0]) (.agg #[.int .u64 5, .int .u32 0])).run Try.prog w = .ok (.bool true) w := fun w => by simp [go_sem]
  have q2 : ∀ w, (binOp .eql 29 (.agg #[.int .u64 5, .int .u32 1]) (.agg #[.int .u64 5, .int .u32 1])).run Try.prog w = .ok (.bool true) w := fun w => by simp [go_sem]
  simp only [List.getD_cons_zero, List.getD_cons_succ] at x0 x1 y0 y1 z0 z1
  clear hk hat hq ha1 ha2 HS HW
  go_wp2_with fail
  go_ret
  exact ⟨rfl, HK.out⟩
end Go.Proofs.Ytbchiccgkhnkaaa

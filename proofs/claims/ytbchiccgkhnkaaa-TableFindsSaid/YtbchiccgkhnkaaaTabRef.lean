/-
  The document's functions of package table, and the laws' helpers: entries in a row.
-/
import Derived.Test.YtbchiccgkhnkaaaTabNum
import Derived.Test.YtbchiccgkhnkaaaRows2
import Derived.Test.YtbchiccgkhnkaaaCurC
import Derived.Deep.QuietTactic
import Derived.StillTailTactics
namespace Go.Proofs.Ytbchiccgkhnkaaa
open Go.RowKit

/-- An entry, as a value; its cells. -/
def enH (e : En) : Value := .int .u64 (e.hash : Int)
def enA (e : En) : Value := .int .u32 (e.at_ : Int)
def enV (e : En) : Value := .agg #[.int .u64 (e.hash : Int), .int .u32 (e.at_ : Int)]
def enCells (e : En) : Array Value := #[.int .u64 (e.hash : Int), .int .u32 (e.at_ : Int)]
def EnsAt (w : World) (p : Option Addr) (l : List En) : Prop := TwosAt enH enA En.none w p l
def NewEns (w : World) (l : List En) (v : Value) (w' : World) : Prop := NewTwos enH enA En.none w l v w'
theorem EnsAt.at_ {w : World} {p : Option Addr} {l : List En} (h : EnsAt w p l) (j : Nat) (hj : j < l.length) : ∃ a : Addr, p = some a ∧ w.cell? (a.add (j * 2)) = some (.int .u64 ((l.getD j En.none).hash : Int)) ∧ w.cell? ⟨(a.add (j * 2)).block, (a.add (j * 2)).off + 1, none⟩ = some (.int .u32 ((l.getD j En.none).at_ : Int)) := h j hj
theorem EnsAt.keep {w w' : World} {p : Option Addr} {l : List En} (h : EnsAt w p l) (hk : Keeps NoBlock w w') : EnsAt w' p l := TwosAt.keep h hk (fun _ _ h => h)
theorem infoEnL : (Try.prog.info? 29).map (fun i => (i.zero, i.size, i.bytes)) = some (some (.agg #[.int .u64 0, .int .u32 0]), 2, 16) := by kernel_rfl
theorem infoEnR : (Try.prog.info? 69).map (fun i => (i.zero, i.size, i.bytes)) = some (some (.agg #[.int .u64 0, .int .u32 0]), 2, 16) := by kernel_rfl

theorem less_ref (a b : En) (w : World) : Calls Try.prog 37 #[enV a, enV b] w fun e w' => e = .returned (.bool (decide (LessE a b))) ∧ Keeps NoBlock w w' := by
  unfold enV
  by_cases h1 : a.hash < b.hash
  · have d : decide (LessE a b) = true := decide_eq_true (.inl h1)
    rw [d]
    have c1 : decide ((a.hash : Int) < (b.hash : Int)) = true := decide_eq_true (by omega)
    have c2 : decide (a.hash < b.hash) = true := decide_eq_true h1
    go_enter Try.func37, Try.ntmps37
    go_wp2_with fail
    go_ret
    exact ⟨rfl, ((Keeps.refl _ _).alloc _).alloc _⟩
  · have c1 : decide ((a.hash : Int) < (b.hash : Int)) = false := decide_eq_false (by omega)
    have c2 : decide (a.hash < b.hash) = false := decide_eq_false h1
    by_cases h2 : a.hash = b.hash
    · have d : decide (LessE a b) = decide (a.at_ < b.at_) := by
        congr 1
        apply propext
        unfold LessE
        omega
      rw [d]
      have c3 : ((a.hash : Int) == (b.hash : Int)) = true := by rw [h2]; simp
      by_cases h3 : a.at_ < b.at_
      · have c4 : decide ((a.at_ : Int) < (b.at_ : Int)) = true := decide_eq_true (by omega)
        have c5 : decide (a.at_ < b.at_) = true := decide_eq_true h3
        clear h2 d
        go_enter Try.func37, Try.ntmps37
        go_wp2_with fail
        go_ret
        exact ⟨by simp [c5], ((Keeps.refl _ _).alloc _).alloc _⟩
      · have c4 : decide ((a.at_ : Int) < (b.at_ : Int)) = false := decide_eq_false (by omega)
        have c5 : decide (a.at_ < b.at_) = false := decide_eq_false h3
        clear h2 d
        go_enter Try.func37, Try.ntmps37
        go_wp2_with fail
        go_ret
        exact ⟨by simp [c5], ((Keeps.refl _ _).alloc _).alloc _⟩
    · have d : decide (LessE a b) = false := decide_eq_false (by unfold LessE; omega)
      rw [d]
      have c3 : ((a.hash : Int) == (b.hash : Int)) = false := by rw [beq_eq_false_iff_ne]; omega
      clear h2 d
      go_enter Try.func37, Try.ntmps37
      go_wp2_with fail
      go_ret
      exact ⟨rfl, ((Keeps.refl _ _).alloc _).alloc _⟩

set_option maxHeartbeats 2000000 in
set_option maxRecDepth 10000 in
theorem refs_own (p : Option Addr) (n c : Nat) (l : List En) (hn : n = l.length) (hn9 : n ≤ 1000000) (w : World) (hl : EnsAt w p l) :
    Calls Try.prog 13 #[.slice p n c] w fun e w' => ∃ v, e = .returned v ∧ TwosSoFar enH enA 69 w l v w' := by
  obtain ⟨i0, hi, hz0, hz1, hz2⟩ := info_parts infoEnR
  have HL := Lib.hid hl
  have HN := Lib.hid hn
  clear hl hn
  go_enter Try.func13, Try.ntmps13
  go_wp2_with fail
  go_loopw [3, 8] (fun v i wr => ∃ j : Nat, j ≤ n ∧ i = .int .i64 (j : Int) ∧ Hid (TwosSoFar enH enA 69 w (l.take j) v wr)) (fun _ i _ => n - (intOf i).toNat)
  case atStart => exact ⟨0, Nat.zero_le _, rfl, Lib.hid (TwosSoFar.start w)⟩
  case round =>
    obtain ⟨j, hj, rfl, HS⟩ := hrel
    by_cases hlt : j < n
    · have hdj : decide ((j : Int) < (n : Int)) = true := decide_eq_true (by omega)
      have hjl : j < l.length := by rw [← HN.out]; exact hlt
      have hlj : (l.take j).length ≤ 1000000 := by rw [List.length_take]; omega
      have HTk : Hid (l.take j ++ [l.getD j En.none] = l.take (j + 1)) := Lib.hid (by rw [List.take_succ_eq_append_getElem hjl]; simp [hjl])
      obtain ⟨a, rfl, c0, c1⟩ := (HL.out.keep HS.out.keeps).at_ j hjl
      obtain ⟨r, hr⟩ : ∃ r, r = l.getD j En.none := ⟨_, rfl⟩
      rw [← hr] at c0 c1 HTk
      obtain ⟨k, hk⟩ : ∃ k, k = l.take j := ⟨_, rfl⟩
      rw [← hk] at HS HTk hlj
      have HLj := Lib.hid hlj
      have HW : Hid (Whole ((wr.alloc (.cells #[.int .u64 (r.hash : Int), .int .u32 (r.at_ : Int)] 29)).alloc (.cells #[.int .u64 (r.hash : Int), .int .u32 (r.at_ : Int)] 69)) (wr.heap.size + 1) 69 (enCells r)) := Lib.hid (Whole.newAt _ _ (enCells r) _ (by simp))
      have HS2 := Lib.hid ((HS.out.alloc (.cells #[.int .u64 (r.hash : Int), .int .u32 (r.at_ : Int)] 29)).alloc (.cells #[.int .u64 (r.hash : Int), .int .u32 (r.at_ : Int)] 69))
      clear hr hk hjl hlj
      go_wp2_with (at_builtin; refine wpList_append_two rfl _ _ 33 rfl 69 i0 (.agg #[.int .u64 0, .int .u32 0]) 16 Try.underlying33 hi hz0 hz1 hz2 rfl _ _ rfl HS2.out (wr.heap.size + 1) r rfl (HW.out.cell 0 rfl) (HW.out.cell 1 rfl) rfl rfl (by have := HLj.out; omega) (by have := HLj.out; omega) ?_)
      intro v' w5 hS5
      rw [HTk.out] at hS5
      have HS5 := Lib.hid hS5
      clear hS5
      go_wp2_with fail
      exact ⟨⟨j + 1, by omega, by go_num, HS5⟩, by simp [intOf]; omega⟩
    · have hdj : decide ((j : Int) < (n : Int)) = false := decide_eq_false (by omega)
      have HNw : Hid (TwosSoFar enH enA 69 w l _ wr) := Lib.hid (by
        have h := HS.out
        rw [List.take_of_length_le (by have := HN.out; omega)] at h
        exact h)
      go_wp2_with fail
      go_ret
      exact ⟨_, rfl, HNw.out⟩
theorem refs_go (p : Option Addr) (n c : Nat) (l : List En) (hn : n = l.length) (hn9 : n ≤ 1000000) (w : World) (hl : EnsAt w p l) :
    Calls Try.prog 13 #[.slice p n c] w fun e w' => ∃ v, e = .returned v ∧ NewEns w l v w' := by
  refine (refs_own p n c l hn hn9 w hl).mono ?_
  rintro e w' ⟨v, rfl, h⟩
  exact ⟨v, rfl, h.new (dd := En.none)⟩
end Go.Proofs.Ytbchiccgkhnkaaa

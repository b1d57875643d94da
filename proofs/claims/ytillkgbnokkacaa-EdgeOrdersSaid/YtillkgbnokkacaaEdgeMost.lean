/-
  Package edge's own Most, by the library's MaxFunc.
-/
import Derived.Test.YtillkgbnokkacaaEdgeOwn
namespace Go.Proofs.Ytillkgbnokkacaa
open Go.RowKit

theorem cmpW_le {a b : Nat} : cmpW a b ≤ 0 ↔ keyW a ≤ keyW b := by
  unfold cmpW
  split
  · constructor <;> intro _ <;> omega
  · split
    · constructor
      · intro h; exact absurd h (by decide)
      · intro _; omega
    · constructor <;> intro _ <;> omega

/-- The one furthest behind of the first k. -/
def MostUpto (l : List Nat) (k b : Nat) : Prop := b ∈ l ∧ Word64 b ∧ ∀ c ∈ l.take k, cmpW c b ≤ 0
theorem mostUpto_one {l : List Nat} (h : 0 < l.length) (hw : ∀ b ∈ l, Word64 b) : MostUpto l 1 (l.getD 0 0) := by
  obtain ⟨x, r, rfl⟩ := List.exists_cons_of_ne_nil (List.ne_nil_of_length_pos h)
  refine ⟨by simp, hw _ (by simp), fun c hc => ?_⟩
  have : c = x := by simpa using hc
  subst this
  exact cmpW_le.2 (Nat.le_refl _)
theorem take_more {l : List Nat} {k : Nat} (h : k < l.length) : l.take (k + 1) = l.take k ++ [l.getD k 0] := by
  rw [List.take_succ_eq_append_getElem h, List.getD_eq_getElem?_getD, List.getElem?_eq_getElem h]
  rfl
theorem getD_mem {l : List Nat} {k : Nat} (h : k < l.length) : l.getD k 0 ∈ l := by
  rw [List.getD_eq_getElem?_getD, List.getElem?_eq_getElem h]
  exact List.getElem_mem h
theorem MostUpto.stay {l : List Nat} {k b : Nat} (h : MostUpto l k b) (hk : k < l.length) (hc : cmpW (l.getD k 0) b ≤ 0) : MostUpto l (k + 1) b := by
  refine ⟨h.1, h.2.1, fun c hm => ?_⟩
  rw [take_more hk] at hm
  rcases List.mem_append.1 hm with h1 | h1
  · exact h.2.2 c h1
  · rw [List.mem_singleton.1 h1]
    exact hc
theorem MostUpto.turn {l : List Nat} {k b : Nat} (h : MostUpto l k b) (hk : k < l.length) (hw : ∀ b ∈ l, Word64 b) (hc : 0 < cmpW (l.getD k 0) b) : MostUpto l (k + 1) (l.getD k 0) := by
  refine ⟨getD_mem hk, hw _ (getD_mem hk), fun c hm => ?_⟩
  rw [take_more hk] at hm
  rcases List.mem_append.1 hm with h1 | h1
  · have h2 := cmpW_le.1 (h.2.2 c h1)
    refine cmpW_le.2 ?_
    have h3 : ¬ keyW (l.getD k 0) ≤ keyW b := fun h4 => by
      have := cmpW_le.2 h4
      omega
    omega
  · rw [List.mem_singleton.1 h1]
    exact cmpW_le.2 (Nat.le_refl _)

def MaxOk (l : List Nat) (w : World) (e : Ending) (w' : World) : Prop := ∃ b, e = .returned (.float .f64 b) ∧ MostUpto l l.length b ∧ Keeps NoBlock w w'

set_option maxHeartbeats 1600000 in
set_option maxRecDepth 10000 in
theorem maxfunc_go (a : Addr) (n c : Nat) (l : List Nat) (w : World) (hn : n = l.length) (h0 : 0 < n) (hc : n ≤ c) (hm : c ≤ 9223372036854775807) (hr : RowF w (some a) l) (hw : ∀ b ∈ l, Word64 b) :
    Calls Try.prog 51 #[.slice (some a) n c, .func (.func 11) #[] #[]] w (MaxOk l w) := by
  have HR := Lib.hid hr; have HW := Lib.hid hw
  have c0 : w.cell? a = some (.float .f64 (l.getD 0 0)) := by
    obtain ⟨q, hq, hcell⟩ := hr 0 (by omega)
    cases hq
    have e : a.add 0 = a := by cases a; rfl
    rw [e] at hcell
    exact hcell
  have HN := Lib.hid hn
  have hd0 : decide ((n : Int) < 1) = false := decide_eq_false (by omega)
  have hb0 : (0 : Int) < (n : Int) := by omega
  clear hr hw hn
  go_enter Try.func51, Try.ntmps51
  go_wp2_with fail
  go_loopw [5, 6] (fun m i wr => ∃ k b : Nat, k ≤ n ∧ i = .int .i64 (k : Int) ∧ m = .float .f64 b ∧ Hid (MostUpto l k b) ∧ Hid (Keeps NoBlock w wr)) (fun _ i _ => n - (intOf i).toNat)
  case atStart => exact ⟨1, _, by omega, rfl, rfl, Lib.hid (mostUpto_one (by have := HN.out; omega) HW.out), Lib.hid (Keeps.refl _ _)⟩
  case round =>
    obtain ⟨k, b, hk, rfl, rfl, HM, HK⟩ := hrel
    by_cases hlt : k < n
    · have hd1 : decide (k < n) = true := decide_eq_true hlt
      have c1 : wr.cell? (a.add k) = some (.float .f64 (l.getD k 0)) := by
        obtain ⟨q, hq, hcell⟩ := (HR.out.keep HK.out (fun _ _ h => h)) k (by have := HN.out; omega)
        cases hq
        exact hcell
      have hx : Word64 (l.getD k 0) := HW.out _ (getD_mem (by have := HN.out; omega))
      have HC := Lib.hid (fun w => ecompare_go (l.getD k 0) b hx HM.out.2.1 w)
      obtain ⟨z, hz⟩ : ∃ z, z = cmpW (l.getD k 0) b := ⟨_, rfl⟩
      rw [← hz] at HC
      clear hx
      by_cases hp : 0 < z
      · have hd2 : decide (0 < z) = true := decide_eq_true hp
        have HT := Lib.hid (HM.out.turn (by have := HN.out; omega) HW.out (by rw [← hz]; exact hp))
        clear hz
        go_wp2_with fail
        refine (HC.out _).mono ?_
        rintro e w1 ⟨rfl, rfl⟩
        go_wp2_with fail
        go_roundw
        case rel => exact ⟨k + 1, _, by omega, by go_num, rfl, HT, HK⟩
        case measure => simp [intOf]; omega
      · have hd2 : decide (0 < z) = false := decide_eq_false hp
        have HT := Lib.hid (HM.out.stay (by have := HN.out; omega) (by rw [← hz]; omega))
        clear hz
        go_wp2_with fail
        refine (HC.out _).mono ?_
        rintro e w1 ⟨rfl, rfl⟩
        go_wp2_with fail
        go_roundw
        case rel => exact ⟨k + 1, _, by omega, by go_num, rfl, HT, HK⟩
        case measure => simp [intOf]; omega
    · have hd1 : decide (k < n) = false := decide_eq_false hlt
      go_wp2_with fail
      go_ret
      obtain rfl : k = n := by omega
      exact ⟨b, rfl, by rw [← HN.out]; exact HM.out, HK.out⟩
end Go.Proofs.Ytillkgbnokkacaa

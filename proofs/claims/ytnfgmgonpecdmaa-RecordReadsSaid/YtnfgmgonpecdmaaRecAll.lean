/-
  Package record's own functions do what the laws ask of them.
-/
import Derived.Test.YtnfgmgonpecdmaaRecNone
import Derived.Test.YtnfgmgonpecdmaaRecBody
import Derived.Test.YtnfgmgonpecdmaaRecRead
namespace Go.Proofs.Ytnfgmgonpecdmaa
open Go.RowKit

theorem recMakeFn : ∀ (fn : Fn) (first cap : Array Value) (w : World), (Instr.makeFunc fn first cap).run Try.prog w = .ok (.func fn first cap) w := fun _ _ _ _ => rfl

/-- Run, with the reading of a record into block D. -/
theorem run_readIn7 (D : Nat) (p : Option Addr) (xs : List Int) (N c : Nat) (hx : N = xs.length) (w0 : World) (hD : Whole w0 D 24 (recCells Rec.none)) (hb : Bytes8 w0 p xs) (ho : Octets xs) (hfar : 0 < xs.length → ∀ q, p = some q → q.block ≠ D) (hc : N ≤ c) (hN : N ≤ 140737488355328) (hc' : c ≤ 9223372036854775807) :
    Calls Try.prog 22 #[.slice p N c, .func (.func 23) #[] #[.pointer (some ⟨D, 0, none⟩)]] w0 fun e w' => (∃ a : Nat, e = .returned (.tuple #[.int .i64 a, .int .i64 (readR xs).1])) ∧ Left7 w0 D (readR xs) w' := by
  obtain ⟨a, ha⟩ := readIn7 w0 D p xs N c hx ho hc hN hc'
  refine (run_any _ _ p N c a (readR xs).1 _ w0 enter_readIn7 (fun W hB hK _ => ha W ⟨hB, hD.keep hK (fun h => h), hb.keep hK (fun _ _ h => h), hK.wider (fun _ _ h => h.elim), hD.lt, fun h0 q hq => ?_⟩)).mono ?_
  · refine ⟨?_, hfar h0 q hq⟩
    obtain ⟨a', ha', hcell⟩ := hb h0
    obtain rfl := Option.some.inj (hq.symm.trans ha')
    have := ltOfCell (hcell 0 h0)
    rwa [addBlock] at this
  · rintro e w' ⟨rfl, w2, ⟨hR1, hR2⟩, hT⟩
    refine ⟨⟨a, rfl⟩, hR1.then hT.2.2.2.2 (fun i hi h => by unfold Just; omega), fun h0 => (hR2 h0).keep hT.2.2.2.2 (by have := hD.lt; omega)⟩

set_option maxHeartbeats 1600000 in
set_option maxRecDepth 10000 in
theorem read_own (p : Option Addr) (N c : Nat) (xs : List Int) (w : World) (hx : N = xs.length) (hc : N ≤ c) (hc' : c ≤ 9223372036854775807) (hN : N ≤ 140737488355328) (ho : Octets xs) (hb : Bytes8 w p xs) :
    Calls Try.prog 12 #[.slice p N c] w fun e w' => e = .returned (.tuple #[recV (readR xs).2, .int .i64 (readR xs).1]) ∧ Keeps NoBlock w w' := by
  have hmf := recMakeFn
  have hlt : 0 < xs.length → ∀ q, p = some q → q.block < w.heap.size := fun h0 q hq => by
    obtain ⟨a, ha, hcell⟩ := hb h0
    obtain rfl := Option.some.inj (hq.symm.trans ha)
    have := ltOfCell (hcell 0 h0)
    rwa [addBlock] at this
  have hk0 : Keeps NoBlock w ((w.alloc (.cells (recCells Rec.none) 24)).alloc (.cells (recCells Rec.none) 24)) := ((Keeps.refl NoBlock w).alloc _).alloc _
  have hfirst : Whole ((w.alloc (.cells (recCells Rec.none) 24)).alloc (.cells (recCells Rec.none) 24)) w.heap.size 24 (recCells Rec.none) := (Whole.new w _ _).alloc _
  have hrun := run_readIn7 (w.heap.size + 1) p xs N c hx _ (Whole.newAt (w.alloc (.cells (recCells Rec.none) 24)) 24 (recCells Rec.none) (w.heap.size + 1) (by simp)) (hb.keep hk0 (fun _ _ h => h)) ho (fun h0 q hq => by have := hlt h0 q hq; omega) hc hN hc'
  have hbad : (readR xs).1 ≠ 0 → (readR xs).2 = Rec.none := fun h => readR_none h
  obtain ⟨t, ht⟩ : ∃ t, t = readR xs := ⟨_, rfl⟩
  rw [← ht] at hrun hbad ⊢
  have HRn := Lib.hid hrun; have HF := Lib.hid hfirst; have HK0 := Lib.hid hk0; have HBad := Lib.hid hbad
  clear hrun hfirst hk0 hbad ht hb ho hx hc hc' hN hlt
  obtain ⟨y, r⟩ := t
  simp only at HRn HBad ⊢
  by_cases he : y = 0
  · subst he
    go_enter Try.func12, Try.ntmps12
    go_wp2_with fail
    refine HRn.out.mono ?_
    rintro e w1 ⟨⟨a, rfl⟩, hk, hrec⟩
    have hF := HF.out.keep hk (by unfold Just; omega)
    have HKa := Lib.hid (HK0.out.then hk (fun i hi h => by unfold Just at h; omega))
    obtain ⟨c0, c1, c2, c3⟩ := RecAt.ofWhole (hrec rfl)
    obtain ⟨e0, e1, e2, e3⟩ := RecAt.ofWhole hF
    have f0 := hF.free 0
    have f1 := hF.free 1
    have f2 := hF.free 2
    have f3 := hF.free 3
    have HF2 := Lib.hid hF
    clear hF hrec hk
    obtain ⟨del, seq, key, val⟩ := r
    simp only at c0 c1 c2 c3
    go_wp2_with fail
    obtain ⟨g0, g1, g2, g3⟩ := RecAt.ofWhole (r := ⟨del, seq, key, val⟩) ((((HF2.out.set 0 (.bool del)).set 1 (.int .u64 (seq : Int))).set 2 (.string (strOfNums key))).set 3 (.string (strOfNums val)))
    simp only at g0 g1 g2 g3
    exact bodyPost_ret (v := .tuple #[recV ⟨del, seq, key, val⟩, .int .i64 0]) (by simp [results, Try.results12, go_sem, recV, g0, g1, g2, g3]) rfl ⟨rfl, (((HKa.out.setNew (Nat.le_refl _) 0 _).setNew (Nat.le_refl _) 1 _).setNew (Nat.le_refl _) 2 _).setNew (Nat.le_refl _) 3 _⟩
  · rw [HBad.out he]
    go_enter Try.func12, Try.ntmps12
    go_wp2_with fail
    refine HRn.out.mono ?_
    rintro e w1 ⟨⟨a, rfl⟩, hk, _⟩
    have hF := HF.out.keep hk (by unfold Just; omega)
    have HKa := Lib.hid (HK0.out.then hk (fun i hi h => by unfold Just at h; omega))
    obtain ⟨e0, e1, e2, e3⟩ := RecAt.ofWhole hF
    have f0 := hF.free 0
    have f1 := hF.free 1
    have f2 := hF.free 2
    have f3 := hF.free 3
    have HF2 := Lib.hid hF
    clear hF hk
    go_wp2_with fail
    obtain ⟨g0, g1, g2, g3⟩ := RecAt.ofWhole (r := Rec.none) ((((HF2.out.set 0 (.bool false)).set 1 (.int .u64 0)).set 2 (.string ⟨#[]⟩)).set 3 (.string ⟨#[]⟩))
    exact bodyPost_ret (v := .tuple #[recV Rec.none, .int .i64 y]) (by simp [results, Try.results12, go_sem, recV, g0, g1, g2, g3]) rfl ⟨rfl, (((HKa.out.setNew (Nat.le_refl _) 0 _).setNew (Nat.le_refl _) 1 _).setNew (Nat.le_refl _) 2 _).setNew (Nat.le_refl _) 3 _⟩

theorem record_ok : RecordOk where
  check := fun r w h => check_own r (by have := h.key; omega) (by have := h.val; omega) w
  body := fun r w h => body_own r w h
  read := fun p N c xs w hx hc hc' _ ho hN hb => read_own p N c xs w hx hc hc' (by omega) ho hb
  size := fun r w h => size_own r w h
end Go.Proofs.Ytnfgmgonpecdmaa

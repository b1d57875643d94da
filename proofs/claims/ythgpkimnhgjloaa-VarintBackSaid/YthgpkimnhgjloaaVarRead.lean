/-
  Contract of Read: the number with which bytes begin, by a reading of its own.
-/
import Derived.Test.YthgpkimnhgjloaaVarGet
import Derived.Test.YthgpkimnhgjloaaCurE
namespace Go.Proofs.Ythgpkimnhgjloaa
open Go.RowKit

/-- What a reading of one number leaves: the number, if there is one. -/
def gotVal (t : VR) : Value := .int .u64 (if t.e = 0 then t.x else 0)

theorem Begun.store {w0 : World} {p : Option Addr} {N c a : Nat} {y : Int} {W : World} (h : Begun w0 p N c a y W) {D : Nat} (hD : D < w0.heap.size) (v : Value) : Begun w0 p N c a y (W.setCell ⟨D, 0, none⟩ v) :=
  ⟨h.at_.setOther (by simp; omega) v, h.why.setOther (by simp; omega) v, Whole.setOther h.cur (by simp; omega) v, h.var.setOther (by simp; omega) v⟩

/-- Run's answer to a reading of one number: how many bytes, why it stopped; the number in block D. -/
def GotIn (D : Nat) (t : VR) (w0 : World) (e : Ending) (w' : World) : Prop :=
  e = .returned (.tuple #[.int .i64 t.n, .int .i64 t.e]) ∧ Whole w' D 27 #[gotVal t] ∧ Keeps (Just D) w0 w'

theorem enter_readIn (args : Array Value) (w : World) : (callFunc 28 args).run Try.prog w = .ok (.enter 28 args) w := by kernel_rfl

set_option maxHeartbeats 1000000 in
theorem readIn (w0 W : World) (D : Nat) (p : Option Addr) (xs : List Int) (N c : Nat) (hx : N = xs.length) (hB : Begun w0 p N c 0 0 W) (hK : Keeps NoBlock w0 W) (hD : Whole W D 27 #[.int .u64 0]) (hDlt : D < w0.heap.size) (hb : Bytes8 W p xs) (ho : Octets xs)
    (hp : 0 < xs.length → ∀ q, p = some q → q.block < w0.heap.size) (hc : N ≤ c) (hc' : c ≤ 9223372036854775807) :
    Calls Try.prog 28 (#[.pointer (some ⟨w0.heap.size + 1 + 1, 0, none⟩)] ++ #[.pointer (some ⟨D, 0, none⟩)]) W (ReadEnds w0 p N c (vget xs).n (vget xs).e (fun w2 => Keeps (Just D) w0 w2 ∧ Whole w2 D 27 #[gotVal (vget xs)])) := by
  have hg := get_any (w0.heap.size + 1 + 1) p xs N c 0 W hx hB.cur hb ho (fun h0 q hq => by have := hp h0 q hq; omega) (Nat.zero_le _) hc hc'
  rw [List.drop_zero] at hg
  obtain ⟨t, ht⟩ : ∃ t, t = vget xs := ⟨_, rfl⟩
  rw [← ht] at hg ⊢
  have HG := Lib.hid hg; have HB := Lib.hid hB; have HK := Lib.hid hK; have HD := Lib.hid hD; have HT := Lib.hid ht
  clear hg hB hK hD hb ho hp hx hc hc' ht
  simp only [List.append_toArray, List.nil_append, List.cons_append]
  go_enter Try.func28, Try.ntmps28
  go_wp2_with fail
  refine HG.out.mono ?_
  rintro e w1 ⟨hk, ⟨he, rfl, hcur⟩ | ⟨he, rfl, hcur⟩⟩
  · rw [Nat.zero_add] at hcur
    have hD1 := HD.out.keep hk (by unfold Just; omega)
    have d0 := hD1.cell 0 rfl
    have f0 := hD1.free 0
    simp only [List.getElem_toArray, List.getElem_cons_zero] at d0
    have HB1 := Lib.hid ((HB.out.keep hk hcur).store hDlt (.int .u64 t.x))
    have HR := Lib.hid (show Keeps (Just D) w0 (w1.setCell ⟨D, 0, none⟩ (.int .u64 t.x)) from ((HK.out.wider (S' := Just D) (fun _ _ h => h.elim)).then hk (fun i hi h => by unfold Just at h; omega)).setIn (Just.self D) 0 _)
    have HD2 := Lib.hid (hD1.set 0 (.int .u64 t.x))
    have HE := Lib.hid he
    clear hk hcur hD1 HG he
    go_wp2_with fail
    go_returns
    refine ⟨.inl rfl, by rw [HE.out]; exact HB1.out, HR.out, ?_⟩
    unfold gotVal
    rw [if_pos HE.out]
    exact HD2.out
  · rw [Nat.zero_add] at hcur
    refine ⟨rfl, .inr (gave_given _), HB.out.keep hk hcur, (HK.out.wider (S' := Just D) (fun _ _ h => h.elim)).then hk (fun i hi h => by unfold Just at h; omega), ?_⟩
    unfold gotVal
    rw [if_neg he]
    exact HD.out.keep hk (by unfold Just; omega)

/-- A reading of one number, into block D. -/
theorem run_readIn (D : Nat) (p : Option Addr) (xs : List Int) (N c : Nat) (hx : N = xs.length) (w0 : World) (hD : Whole w0 D 27 #[.int .u64 0]) (hb : Bytes8 w0 p xs) (ho : Octets xs) (hc : N ≤ c) (hc' : c ≤ 9223372036854775807) :
    Calls Try.prog 12 #[.slice p N c, .func (.func 28) #[] #[.pointer (some ⟨D, 0, none⟩)]] w0 (GotIn D (vget xs) w0) := by
  have hDlt := hD.lt
  refine (run_any _ _ p N c (vget xs).n (vget xs).e _ w0 enter_readIn (fun W hB hK _ => readIn w0 W D p xs N c hx hB hK (hD.keep hK (fun h => h)) hDlt (hb.keep hK (fun _ _ h => h)) ho (fun h0 q hq => by
    obtain ⟨a, ha, hcell⟩ := hb h0
    obtain rfl := Option.some.inj (hq.symm.trans ha)
    have := ltOfCell (hcell 0 h0)
    rwa [addBlock] at this) hc hc')).mono ?_
  rintro e w' ⟨rfl, w2, ⟨hR1, hR2⟩, hT⟩
  exact ⟨rfl, hR2.keep hT.2.2.2.2 (by omega), hR1.then hT.2.2.2.2 (fun i hi h => by unfold Just; omega)⟩

/-- Read's answer. -/
def readOut (t : VR) : Value := .tuple #[gotVal t, .int .i64 (if t.e = 0 then (t.n : Int) else 0), .int .i64 t.e]

theorem getFnOk : ∀ (fn : Fn) (first cap : Array Value) (w : World), (Instr.makeFunc fn first cap).run Try.prog w = .ok (.func fn first cap) w := fun _ _ _ _ => rfl

set_option maxHeartbeats 1000000 in
theorem read_any (p : Option Addr) (xs : List Int) (N c : Nat) (hx : N = xs.length) (w : World) (hb : Bytes8 w p xs) (ho : Octets xs) (hc : N ≤ c) (hc' : c ≤ 9223372036854775807) :
    Calls Try.prog 18 #[.slice p N c] w fun e w' => e = .returned (readOut (vget xs)) ∧ Keeps NoBlock w w' := by
  have hmf := getFnOk
  have hrun := run_readIn w.heap.size p xs N c hx (w.alloc (.cells #[.int .u64 0] 27)) (Whole.new _ _ _) (hb.keep ((Keeps.refl NoBlock w).alloc _) (fun _ _ h => h)) ho hc hc'
  obtain ⟨t, ht⟩ : ∃ t, t = vget xs := ⟨_, rfl⟩
  rw [← ht] at hrun ⊢
  have HR := Lib.hid hrun
  clear hrun ht hb ho hx hc hc'
  by_cases he : t.e = 0
  all_goals
    go_enter Try.func18, Try.ntmps18
    go_wp2_with fail
    refine HR.out.mono ?_
    rintro e w1 ⟨rfl, hD, hk⟩
    have d0 := hD.cell 0 rfl
    have f0 := hD.free 0
    have hk2 : Keeps NoBlock w w1 := ((Keeps.refl NoBlock w).alloc (.cells #[.int .u64 0] 27)).then hk (fun i hi h => by unfold Just at h; omega)
    simp only [List.getElem_toArray, List.getElem_cons_zero, gotVal] at d0
    have HK := Lib.hid hk2
    clear hk hk2 hD HR
    go_wp2_with fail
    exact bodyPost_ret (v := readOut t) (by simp [results, Try.results18, go_sem, readOut, gotVal, he, d0]) rfl ⟨rfl, HK.out.setNew (Nat.le_refl _) 0 _⟩
end Go.Proofs.Ythgpkimnhgjloaa

/-
  TabFind; FtPlOwn.
-/
import Derived.Test.YtmifbohdepejaaaM21
import Derived.Test.YtmifbohdepejaaaM24
import Derived.Test.YtmifbohdepejaaaM28
namespace Go.Proofs.Ytmifbohdepejaaa
open Go.RowKit Go.Sort Go.Shelf Go.Lib

theorem ask_from (h hash b : Nat) (W : World) (hb : W.cell? ⟨b, 0, none⟩ = some (.int .u64 (hash : Int))) :
    Calls Try.prog 86 #[.int .u64 (h : Int), .pointer (some ⟨b, 0, none⟩)] W fun e w' => e = .returned (.bool (decide (hash ≤ h))) ∧ w' = W := by
  go_enter Try.func86, Try.ntmps86
  go_wp2_with fail
  go_ret
  exact ⟨rfl, rfl⟩
theorem ask_to (h hash b : Nat) (W : World) (hb : W.cell? ⟨b, 0, none⟩ = some (.int .u64 (hash : Int))) :
    Calls Try.prog 87 #[.int .u64 (h : Int), .pointer (some ⟨b, 0, none⟩)] W fun e w' => e = .returned (.bool (decide (hash < h))) ∧ w' = W := by
  go_enter Try.func87, Try.ntmps87
  go_wp2_with fail
  go_ret
  exact ⟨rfl, rfl⟩

/-- A question that is asked of a number, by a box that holds another one. -/
def AskAt (G b hash : Nat) (Pq : Nat → Bool) : Prop :=
  (∀ args w, (callFunc G args).run Try.prog w = .ok (.enter G args) w) ∧
  ∀ (h : Nat) (W : World), W.cell? ⟨b, 0, none⟩ = some (.int .u64 (hash : Int)) → Calls Try.prog G #[.int .u64 (h : Int), .pointer (some ⟨b, 0, none⟩)] W fun e w' => e = .returned (.bool (Pq h)) ∧ w' = W
theorem askFrom (b hash : Nat) : AskAt 86 b hash (fun h => decide (hash ≤ h)) := ⟨enters_of Try.func86 (by kernel_rfl) rfl, fun h W hb => ask_from h hash b W hb⟩
theorem askTo (b hash : Nat) : AskAt 87 b hash (fun h => decide (hash < h)) := ⟨enters_of Try.func87 (by kernel_rfl) rfl, fun h W hb => ask_to h hash b W hb⟩

set_option maxHeartbeats 2000000 in
set_option maxRecDepth 10000 in
theorem inner_own (G b hash : Nat) (Pq : Nat → Bool) (hA : AskAt G b hash Pq) (p : Option Addr) (n c : Nat) (l : List En) (hn : n = l.length) (bq bl : Nat) (i : Nat) (hi : i < n) (_hn9 : n ≤ 1000000) (W : World)
    (hq : W.cell? ⟨bq, 0, none⟩ = some (.func (.func G) #[] #[.pointer (some ⟨b, 0, none⟩)])) (hl : W.cell? ⟨bl, 0, none⟩ = some (.slice p n c)) (hb : W.cell? ⟨b, 0, none⟩ = some (.int .u64 (hash : Int))) (hat : EnsAt W p l) :
    Calls Try.prog 85 #[.int .i64 (i : Int), .pointer (some ⟨bq, 0, none⟩), .pointer (some ⟨bl, 0, none⟩)] W fun e w' => e = .returned (.bool (Pq (l.getD i En.none).hash)) ∧ ∃ q os, w' = grow (W.drewN q) os := by
  have mixed : Try.prog.follows .mixedOrders = true := by kernel_rfl
  obtain ⟨a, rfl, c0, c1⟩ := hat.at_ i (by omega)
  obtain ⟨r, hr⟩ : ∃ r, r = l.getD i En.none := ⟨_, rfl⟩
  rw [← hr] at c0 ⊢
  obtain ⟨z, hz⟩ : ∃ z, z = Pq r.hash := ⟨_, rfl⟩
  have eG := hA.1
  have hcall := fun n os => hA.2 r.hash (grow (W.drewN n) os) (cellG hb n os)
  rw [← hz] at hcall ⊢
  have HC : Hid (∀ n os, Calls Try.prog G #[.int .u64 (r.hash : Int), .pointer (some ⟨b, 0, none⟩)] (grow (W.drewN n) os) fun e w' => e = .returned (.bool z) ∧ ∃ q os', w' = grow ((grow (W.drewN n) os).drewN q) os') := Lib.hid (fun n os => (hcall n os).mono fun e w' ⟨h1, h2⟩ => ⟨h1, 0, #[], by rw [h2, grow_empty]; rfl⟩)
  have Q0 : ∀ n os, (grow (W.drewN n) os).cell? _ = _ := fun n os => cellG hq n os
  have L0 : ∀ n os, (grow (W.drewN n) os).cell? _ = _ := fun n os => cellG hl n os
  have C0 : ∀ n os, (grow (W.drewN n) os).cell? _ = _ := fun n os => cellG c0 n os
  have hin : (i : Int) < (n : Int) := by omega
  clear hA hat c0 c1 hq hl hb hcall hr hz hn
  go_enter Try.func85, Try.ntmps85
  go_wp2_with fail
  go_quiet_grown ((go_at_fn G; exact Calls.grown_of (HC.out _ _)))
  go_wp2_with fail
  go_ret
  exact ⟨rfl, nq, osq, rfl⟩

theorem rises_hash {l : List En} (h : risesE l = true) {i j : Nat} (hij : i ≤ j) (hj : j < l.length) : (l.getD i En.none).hash ≤ (l.getD j En.none).hash := by
  have hp := risesE_pair.1 h
  by_cases e : i = j
  · rw [e]; exact Nat.le_refl _
  · have := List.pairwise_iff_getElem.1 hp i j (by omega) hj (by omega)
    have e1 : l.getD i En.none = l[i] := by simp [show i < l.length by omega]
    have e2 : l.getD j En.none = l[j] := by simp [hj]
    rw [e1, e2]
    unfold LessE at this
    omega
theorem count_row (l : List En) (f : En → Bool) : (List.range l.length).countP (fun i => f (l.getD i En.none)) = l.countP f := by
  have h := Lib.countP_range l.toArray f
  have e : ∀ i, i < l.length → l.toArray[i]! = l.getD i En.none := fun i hi => by
    rw [getElem!_pos l.toArray i (by simpa using hi)]
    simp [hi]
  have h2 : (List.range l.length).countP (fun i => f (l.getD i En.none)) = (List.range l.toArray.size).countP (fun i => f l.toArray[i]!) := by
    rw [show l.toArray.size = l.length by simp]
    apply List.countP_congr
    intro i hi
    rw [e i (by simpa using hi)]
  rw [h2, h]

set_option maxHeartbeats 2000000 in
set_option maxRecDepth 10000 in
theorem first_own (G b hash : Nat) (Pq : Nat → Bool) (hA : AskAt G b hash Pq) (hm : ∀ x y, x ≤ y → Pq x = true → Pq y = true) (p : Option Addr) (n c : Nat) (l : List En) (hn : n = l.length) (hr : risesE l = true) (bl : Nat) (hn9 : n ≤ 1000000) (W : World)
    (hl : W.cell? ⟨bl, 0, none⟩ = some (.slice p n c)) (hb : W.cell? ⟨b, 0, none⟩ = some (.int .u64 (hash : Int))) (hat : EnsAt W p l) :
    Calls Try.prog 84 #[.func (.func G) #[] #[.pointer (some ⟨b, 0, none⟩)], .pointer (some ⟨bl, 0, none⟩)] W fun e w' => e = .returned (.int .i64 ((l.countP fun x => !Pq x.hash : Nat) : Int)) ∧ Grown W w' := by
  obtain ⟨V, hV⟩ : ∃ V, V = W.alloc (.cells #[.func (.func G) #[] #[.pointer (some ⟨b, 0, none⟩)]] 125) := ⟨_, rfl⟩
  have hk : Grown W V := by rw [hV]; exact (Grown.refl W).alloc _
  have hql : V.cell? ⟨W.heap.size, 0, none⟩ = some (.func (.func G) #[] #[.pointer (some ⟨b, 0, none⟩)]) := by rw [hV]; exact Whole.cell (Whole.new W _ _) 0 rfl
  have hl2 : V.cell? ⟨bl, 0, none⟩ = some (.slice p n c) := hk.keeps.cell hl (fun h => h)
  have hb2 : V.cell? ⟨b, 0, none⟩ = some (.int .u64 (hash : Int)) := hk.keeps.cell hb (fun h => h)
  have hat2 : EnsAt V p l := EnsAt.keep hat hk.keeps
  have hcon := Any.sort_Search searchLay 85 #[.pointer (some ⟨W.heap.size, 0, none⟩), .pointer (some ⟨bl, 0, none⟩)] n (fun i => Pq (l.getD i En.none).hash) V (enters_of Try.func85 (by kernel_rfl) rfl) (by omega)
    (fun m os i hi => inner_own G b hash Pq hA p n c l hn W.heap.size bl i hi hn9 _ (cellG hql m os) (cellG hl2 m os) (cellG hb2 m os) (EnsAt.keep hat2 (show Grown V _ from ⟨m, os, rfl⟩).keeps))
    (fun i j hij hj h => hm _ _ (rises_hash hr hij (by omega)) h)
  change Calls Try.prog 81 _ _ _ at hcon
  have hc2 := count_row l (fun x => !Pq x.hash)
  rw [← hn] at hc2
  rw [hc2] at hcon
  obtain ⟨K, hK⟩ : ∃ K, K = l.countP (fun x => !Pq x.hash) := ⟨_, rfl⟩
  rw [← hK] at hcon ⊢
  have HC := Lib.hid hcon
  have HG := Lib.hid hk
  have l1 := hl2
  clear hcon hc2 hK hat hat2 hA hm hr hk hql hb hb2 hn hl2
  go_enter Try.func84, Try.ntmps84
  rw [hV] at HC HG l1
  clear hV
  go_wp2_with fail
  refine HC.out.mono ?_
  rintro e w2 ⟨rfl, q, os, rfl⟩
  go_wp2_with fail
  go_ret
  exact ⟨rfl, HG.out.trans ⟨q, os, rfl⟩⟩

set_option maxHeartbeats 2000000 in
set_option maxRecDepth 10000 in
theorem find_own (p : Option Addr) (n c : Nat) (l : List En) (h : Nat) (w : World) (hn : n = l.length) (hn9 : n ≤ 1000000) (hr : risesE l = true) (hat : EnsAt w p l) :
    Calls Try.prog 49 #[.slice p n c, .int .u64 (h : Int)] w fun e w' => e = .returned (.tuple #[.int .i64 ((findE l h).1 : Int), .int .i64 ((findE l h).2 : Int)]) ∧ Keeps NoBlock w w' := by
  have e1 : (findE l h).1 = l.countP (fun x => !decide (h ≤ x.hash)) := by
    unfold findE
    apply List.countP_congr
    intro x _
    simp
  have e2 : (findE l h).2 = l.countP (fun x => !decide (h < x.hash)) := by
    unfold findE
    apply List.countP_congr
    intro x _
    simp
  have HF := Lib.hid (fun W hl hb hat => first_own 86 (w.heap.size + 1) h (fun x => decide (h ≤ x)) (askFrom _ _) (fun x y hxy hx => decide_eq_true (by have := of_decide_eq_true hx; omega)) p n c l hn hr w.heap.size hn9 W hl hb hat)
  have HT := Lib.hid (fun W hl hb hat => first_own 87 (w.heap.size + 1) h (fun x => decide (h < x)) (askTo _ _) (fun x y hxy hx => decide_eq_true (by have := of_decide_eq_true hx; omega)) p n c l hn hr w.heap.size hn9 W hl hb hat)
  rw [← e1] at HF
  rw [← e2] at HT
  clear e1 e2
  obtain ⟨A, hA⟩ : ∃ A, A = (findE l h).1 := ⟨_, rfl⟩
  obtain ⟨B, hB⟩ : ∃ B, B = (findE l h).2 := ⟨_, rfl⟩
  rw [← hA] at HF ⊢
  rw [← hB] at HT ⊢
  clear hA hB
  obtain ⟨V, hV⟩ : ∃ V, V = (w.alloc (.cells #[.slice p n c] 23)).alloc (.cells #[.int .u64 (h : Int)] 46) := ⟨_, rfl⟩
  have HK : Hid (Keeps NoBlock w V) := Lib.hid (by rw [hV]; exact ((Keeps.refl _ w).alloc _).alloc _)
  have HL : Hid (V.cell? ⟨w.heap.size, 0, none⟩ = some (.slice p n c)) := Lib.hid (by rw [hV]; exact Whole.cell ((Whole.new w _ _).alloc _) 0 rfl)
  have HB : Hid (V.cell? ⟨w.heap.size + 1, 0, none⟩ = some (.int .u64 (h : Int))) := Lib.hid (by rw [hV]; exact Whole.cell (Whole.newAt (w.alloc (.cells #[.slice p n c] 23)) _ _ (w.heap.size + 1) (by simp)) 0 rfl)
  have HE := Lib.hid (EnsAt.keep hat HK.out)
  clear hat hn hr
  go_enter Try.func49, Try.ntmps49
  go_wp2_with fail
  rw [← hV]
  clear hV
  refine (HF.out _ HL.out HB.out HE.out).mono ?_
  rintro e w1 ⟨rfl, hk⟩
  have HK1 := Lib.hid (HK.out.trans hk.keeps)
  have HL1 := Lib.hid (hk.keeps.cell HL.out (fun h => h))
  have HB1 := Lib.hid (hk.keeps.cell HB.out (fun h => h))
  have HE1 := Lib.hid (EnsAt.keep HE.out hk.keeps)
  clear hk HL HB HE HK
  go_wp2_with fail
  refine (HT.out _ HL1.out HB1.out HE1.out).mono ?_
  rintro e w2 ⟨rfl, hk⟩
  have HK2 := Lib.hid (HK1.out.trans hk.keeps)
  clear hk
  go_wp2_with fail
  refine bodyPost_ret (results_tmp2 rfl _ _ _) rfl ?_
  exact ⟨rfl, HK2.out⟩
theorem find_ok : FindOk := ⟨fun p n c l h w hi h9 hr _ => find_own p n c l h w hi.len (by omega) hr hi.at_⟩
end Go.Proofs.Ytmifbohdepejaaa

namespace Go.Proofs.Ytmifbohdepejaaa
open Go.RowKit

/-- Of a row that rises: what stands ahead of a Hash, at it, behind it. -/
theorem sorted_parts (h : Nat) : ∀ {l : List En}, l.Pairwise (fun a b => a.hash ≤ b.hash) →
    l.take (findE l h).1 = l.filter (fun e => decide (e.hash < h)) ∧ (l.drop (findE l h).1).take ((findE l h).2 - (findE l h).1) = l.filter (fun e => decide (e.hash = h)) ∧ l.drop (findE l h).2 = l.filter (fun e => decide (h < e.hash))
  | [], _ => ⟨rfl, rfl, rfl⟩
  | e :: l, hp => by
    obtain ⟨h1, h2⟩ := List.pairwise_cons.1 hp
    obtain ⟨i1, i2, i3⟩ := sorted_parts h h2
    rcases Nat.lt_trichotomy e.hash h with hlt | heq | hgt
    · have eA : (findE (e :: l) h).1 = (findE l h).1 + 1 := by simp [findE, hlt]
      have eB : (findE (e :: l) h).2 = (findE l h).2 + 1 := by simp [findE, List.countP_cons]; omega
      rw [eA, eB, List.take_succ_cons, List.drop_succ_cons, List.drop_succ_cons, show (findE l h).2 + 1 - ((findE l h).1 + 1) = (findE l h).2 - (findE l h).1 by omega, i1, i2, i3,
        List.filter_cons_of_pos (by simpa using hlt), List.filter_cons_of_neg (by simp; omega), List.filter_cons_of_neg (by simp; omega)]
      exact ⟨rfl, rfl, rfl⟩
    · subst heq
      have hA0 : (findE l e.hash).1 = 0 := List.countP_eq_zero.2 (fun x hx => by have := h1 x hx; simp; omega)
      have eA : (findE (e :: l) e.hash).1 = 0 := by
        have : (findE (e :: l) e.hash).1 = (findE l e.hash).1 := by simp [findE]
        rw [this, hA0]
      have eB : (findE (e :: l) e.hash).2 = (findE l e.hash).2 + 1 := by simp [findE]
      rw [hA0] at i1 i2
      rw [eA, eB, List.take_zero, List.drop_zero, Nat.sub_zero, List.take_succ_cons, List.drop_succ_cons, i3,
        List.filter_cons_of_neg (by simp), List.filter_cons_of_pos (by simp), List.filter_cons_of_neg (by simp), ← i1, ← i2, List.take_zero, List.drop_zero, Nat.sub_zero]
      exact ⟨rfl, rfl, rfl⟩
    · have hA0 : (findE l h).1 = 0 := List.countP_eq_zero.2 (fun x hx => by have := h1 x hx; simp; omega)
      have hB0 : (findE l h).2 = 0 := List.countP_eq_zero.2 (fun x hx => by have := h1 x hx; simp; omega)
      have eA : (findE (e :: l) h).1 = 0 := by
        have : (findE (e :: l) h).1 = (findE l h).1 := by simp [findE, List.countP_cons]; omega
        rw [this, hA0]
      have eB : (findE (e :: l) h).2 = 0 := by
        have : (findE (e :: l) h).2 = (findE l h).2 := by simp [findE, List.countP_cons]; omega
        rw [this, hB0]
      rw [hA0] at i1 i2
      rw [hB0] at i2 i3
      rw [eA, eB, List.take_zero, List.drop_zero, Nat.sub_zero, List.take_zero,
        List.filter_cons_of_neg (by simp; omega), List.filter_cons_of_neg (by simp; omega), List.filter_cons_of_pos (by simpa using hgt), ← i1, ← i2, ← i3, List.take_zero, List.drop_zero, Nat.sub_zero, List.take_zero]
      exact ⟨rfl, rfl, rfl⟩

/-- The blocks of a range hold all of a Hash. -/
theorem blocks_find {l : List En} (hr : l.Pairwise LessE) (h : Nat) {A B : Nat} (hA : A = (rangeF (ofF l) l.length h).1) (hB : B = (rangeF (ofF l) l.length h).2) :
    (((l.drop A).take (B - A)).drop (findE ((l.drop A).take (B - A)) h).1).take ((findE ((l.drop A).take (B - A)) h).2 - (findE ((l.drop A).take (B - A)) h).1) = l.filter (fun e => decide (e.hash = h)) := by
  have hp : l.Pairwise (fun a b => a.hash ≤ b.hash) := hr.imp (fun {a b} hab => by unfold LessE at hab; omega)
  have hs : List.Sublist ((l.drop A).take (B - A)) l := (List.take_sublist _ _).trans (List.drop_sublist _ _)
  rw [(sorted_parts h (hp.sublist hs)).2.1]
  obtain ⟨s1, s2, s3⟩ := sorted_parts h hp
  obtain ⟨r1, r2, r3, r4, _⟩ := range_holds hr h
  rw [← hA] at r2 r3 r4
  rw [← hB] at r1 r2 r4
  obtain ⟨F, hF⟩ : ∃ F, F = (findE l h).1 := ⟨_, rfl⟩
  obtain ⟨T, hT⟩ : ∃ T, T = (findE l h).2 := ⟨_, rfl⟩
  rw [← hF] at s1 s2 r4
  rw [← hT] at s2 s3 r4
  by_cases hlt : F < T
  · obtain ⟨g1, g2⟩ := r4 hlt
    have e1 : l = l.take A ++ ((l.drop A).take (B - A) ++ l.drop B) := by
      have := List.take_append_drop (B - A) (l.drop A)
      rw [List.drop_drop, show A + (B - A) = B by omega] at this
      rw [this, List.take_append_drop]
    have e2 : (l.take A).filter (fun e => decide (e.hash = h)) = [] := List.filter_eq_nil_iff.2 (fun x hx => by
      have hx2 : x ∈ l.take F := by
        have e : l.take A = (l.take F).take A := by rw [List.take_take, Nat.min_eq_left g1]
        rw [e] at hx
        exact List.mem_of_mem_take hx
      rw [s1] at hx2
      have := (List.mem_filter.1 hx2).2
      simp at this ⊢
      omega)
    have e3 : (l.drop B).filter (fun e => decide (e.hash = h)) = [] := List.filter_eq_nil_iff.2 (fun x hx => by
      have hx2 : x ∈ l.drop T := by
        have e : l.drop B = (l.drop T).drop (B - T) := by rw [List.drop_drop, show T + (B - T) = B by omega]
        rw [e] at hx
        exact List.mem_of_mem_drop hx
      rw [s3] at hx2
      have := (List.mem_filter.1 hx2).2
      simp at this ⊢
      omega)
    have e4 := congrArg (List.filter (fun e => decide (e.hash = h))) e1
    rw [List.filter_append, List.filter_append, e2, e3, List.nil_append, List.append_nil] at e4
    exact e4.symm
  · have e1 : l.filter (fun e => decide (e.hash = h)) = [] := by rw [← s2, show T - F = 0 by omega, List.take_zero]
    rw [e1]
    have := hs.filter (fun e => decide (e.hash = h))
    rw [e1] at this
    exact List.sublist_nil.1 this

theorem EnsAt.part {w : World} {a : Addr} {l : List En} (h : EnsAt w (some a) l) (A m : Nat) : EnsAt w (some (a.add (A * 2))) ((l.drop A).take m) := fun i hi => by
  have hil : i < m ∧ A + i < l.length := by
    rw [List.length_take, List.length_drop] at hi
    omega
  obtain ⟨a', ha', c0, c1⟩ := h (A + i) hil.2
  obtain rfl := Option.some.inj ha'
  have e1 : (a.add (A * 2)).add (i * 2) = a.add ((A + i) * 2) := by rw [Addr.add_add, ← Nat.add_mul]
  have e2 : ((l.drop A).take m).getD i En.none = l.getD (A + i) En.none := by
    rw [List.getD_eq_getElem?_getD, List.getD_eq_getElem?_getD, List.getElem?_take_of_lt hil.1, List.getElem?_drop]
  refine ⟨_, rfl, ?_, ?_⟩
  · rw [e1, e2]; exact c0
  · rw [e1, e2]; exact c1
/-- A range begins within its row. -/
theorem range_in {l : List En} (hr : l.Pairwise LessE) (h : Nat) (h0 : 0 < l.length) : (rangeF (ofF l) l.length h).1 < l.length := by
  obtain ⟨h1, h2⟩ := findE_two l h
  rw [ofF_range hr]
  split
  · exact h0
  · dsimp only
    omega

set_option maxHeartbeats 8000000 in
set_option maxRecDepth 10000 in
theorem ftplaces_own (u : Nat) (q : Option Addr) (n c : Nat) (l : List En) (h : Nat) (w : World) (hi : InE w q n c l) (hn9 : n ≤ 10000) :
    Calls Try.prog 18 #[ftV u q n c, .int .u64 (h : Int)] w fun e w' => ∃ v, e = .returned v ∧ NewRow32 w (placesFt ⟨u, l⟩ h) v w' := by
  have HR0 := Lib.hid (Whole.new w 25 #[.int .u32 (u : Int), .slice q n c])
  have HK0 := Lib.hid ((Keeps.refl NoBlock w).alloc (.cells #[.int .u32 (u : Int), .slice q n c] 25))
  have hat := EnsAt.keep hi.at_ HK0.out
  have HCk := Lib.hid (ftcheck_own u q n c l _ ⟨hi.len, hi.cap, hi.room, hi.bare, hi.fine, hat⟩ (by omega))
  have c0 := HR0.out.cell 0 rfl
  have c1 := HR0.out.cell 1 rfl
  simp only [List.getElem_toArray, List.getElem_cons_zero, List.getElem_cons_succ] at c0 c1
  have hdef : placesFt ⟨u, l⟩ h = if checkFt ⟨u, l⟩ = 0 then (l.filter fun e => decide (e.hash = h)).map En.at_ else [] := rfl
  by_cases hc : checkFt ⟨u, l⟩ = 0
  rotate_left
  · rw [hdef, if_neg hc]
    obtain ⟨z, hz⟩ : ∃ z, z = checkFt ⟨u, l⟩ := ⟨_, rfl⟩
    rw [← hz] at HCk hc
    have hne : (z != 0) = true := by rw [bne_iff_ne]; exact hc
    clear hc hi hz hat hdef
    unfold ftV at HCk ⊢
    go_enter Try.func18, Try.ntmps18
    go_wp2_with fail
    refine HCk.out.mono ?_
    rintro e w1 ⟨rfl, hk⟩
    have HK := Lib.hid (HK0.out.trans hk)
    clear hk
    go_wp2_with fail
    go_ret
    exact ⟨_, rfl, none, 0, 0, rfl, rfl, Nat.le_refl _, by decide, fun _ => ⟨rfl, rfl⟩, fun i hi => by simp at hi, HK.out⟩
  rw [hdef, if_pos hc]
  rw [hc] at HCk
  obtain ⟨k1, _, k3, _⟩ := checkFt_ok.1 hc
  simp only at k1 k3
  have hlen := hi.len
  obtain ⟨a0, rfl⟩ : ∃ a0, q = some a0 := by
    obtain ⟨a, ha, _⟩ := hi.at_ 0 (by omega)
    exact ⟨a, ha⟩
  obtain ⟨A, hA⟩ : ∃ A, A = (rangeF (ofF l) l.length h).1 := ⟨_, rfl⟩
  obtain ⟨B, hB⟩ : ∃ B, B = (rangeF (ofF l) l.length h).2 := ⟨_, rfl⟩
  obtain ⟨r1, r2, _⟩ := range_holds (risesE_pair.1 k3) h
  have HRes := Lib.hid (blocks_find (risesE_pair.1 k3) h hA hB)
  have HOf := Lib.hid (fun W (h : EnsAt W (some a0) l) => callsIn_wide.1 (of_in 3 (Nat.le_refl _) (some a0) n c l W hi.len hi.cap hi.room (by omega) h))
  have HRg := Lib.hid (fun p m d W (hm : m = (ofF l).length) (hr : RowN W p (ofF l)) => frange_own p m d l n h W hm hr hi.len (by omega) k3)
  have hin := range_in (risesE_pair.1 k3) h (by omega)
  rw [← hA, ← hlen] at hin
  rw [hlen, ← hA, ← hB] at HRg
  rw [← hA] at r2
  rw [← hB] at r1 r2
  rw [← hlen] at HRg r1
  have HLen := Lib.hid hlen
  have HCap := Lib.hid hi.cap
  have HAt := Lib.hid hat
  have HRi := Lib.hid k3
  clear hc hi hat hdef hA hB k1 k3 hlen
  unfold ftV at HCk ⊢
  go_enter Try.func18, Try.ntmps18
  go_wp2_with fail
  refine HCk.out.mono ?_
  rintro e w1 ⟨rfl, hk⟩
  have HK := Lib.hid (HK0.out.trans hk)
  have HR := Lib.hid (HR0.out.keep hk (fun h => h))
  have HE := Lib.hid (EnsAt.keep HAt.out hk)
  clear hk HCk HR0 HK0 HAt c0 c1
  obtain ⟨W, rfl⟩ : ∃ W, W = w1 := ⟨_, rfl⟩
  go_wp2_with fail
  have s0 : W.drew.cell? ⟨w.heap.size, 1, none⟩ = some (.slice (some a0) n c) := HR.out.cell 1 rfl
  have sN : W.cell? ⟨w.heap.size, 1, none⟩ = some (.slice (some a0) n c) := HR.out.cell 1 rfl
  go_region_held3 (fun w' => w'.cell? ⟨w.heap.size, 1, none⟩ = some (.slice (some a0) n c))
    (first | exact s5 | exact s0 | exact sN)
    (first | (go_at_call 25; refine (HOf.out _ (by exact HE.out)).mono ?_; rintro e w5 ⟨v, rfl, hns⟩; obtain ⟨p9, m9, d9, rfl, hm9, hmd9, hd9, hq9, hr9, hn9, hk⟩ := fnew_row hns; have hk' : Keeps NoBlock W w5 := (by first | exact hk | exact hk.ofDrew | exact hk.ofDrewN); have HK := Lib.hid (HK.out.trans hk'); have HR := Lib.hid (HR.out.keep hk' (fun h => h)); have HE := Lib.hid (EnsAt.keep HE.out hk'); have HM9 := Lib.hid hm9; have HR9 := Lib.hid hr9; have s5 : w5.cell? ⟨w.heap.size, 1, none⟩ = some (.slice (some a0) n c) := HR.out.cell 1 rfl; clear hns hm9 hmd9 hd9 hq9 hr9 hn9 hk hk'; obtain ⟨W, rfl⟩ : ∃ x, x = w5 := ⟨_, rfl⟩) | (go_at_call 48; refine (HRg.out _ _ _ _ HM9.out (by exact HR9.out)).mono ?_; rintro e w6 ⟨rfl, hk⟩; have hk' : Keeps NoBlock W w6 := (by first | exact hk | exact hk.ofDrew | exact hk.ofDrewN); have HK := Lib.hid (HK.out.trans hk'); have HR := Lib.hid (HR.out.keep hk' (fun h => h)); have HE := Lib.hid (EnsAt.keep HE.out hk'); have s5 : w6.cell? ⟨w.heap.size, 1, none⟩ = some (.slice (some a0) n c) := HR.out.cell 1 rfl; clear hk hk'; obtain ⟨W, rfl⟩ : ∃ x, x = w6 := ⟨_, rfl⟩))
  have c1 : W.cell? ⟨w.heap.size, 1, none⟩ = some (.slice (some a0) n c) := HR.out.cell 1 rfl
  have b1 : (A : Int) ≤ (B : Int) := by omega
  have b2 : B ≤ c := by have := HCap.out; omega
  have b3 : A < c := by have := HCap.out; omega
  have b4 : (A : Int) < (c : Int) := by omega
  have b5 : ¬ c - A = 0 := by omega
  have b6 : ¬ (c : Int) - (A : Int) = 0 := by omega
  have b7 : ¬ A = c := by omega
  have b8 : ¬ c = A := by omega
  have hbl : ((l.drop A).take (B - A)).length = B - A := by rw [List.length_take, List.length_drop]; have := HLen.out; omega
  have HEb := Lib.hid (EnsAt.part HE.out A (B - A))
  have HRb : Hid (risesE ((l.drop A).take (B - A)) = true) := Lib.hid (risesE_pair.2 ((risesE_pair.1 HRi.out).sublist ((List.take_sublist _ _).trans (List.drop_sublist _ _))))
  obtain ⟨blk, hblk⟩ : ∃ blk, blk = (l.drop A).take (B - A) := ⟨_, rfl⟩
  rw [← hblk] at HEb HRb HRes hbl
  have HFd := Lib.hid (find_own (some (a0.add (A * 2))) (B - A) (c - A) blk h W hbl.symm (by omega) HRb.out HEb.out)
  obtain ⟨g1, g2⟩ := findE_two blk h
  obtain ⟨f, hf⟩ : ∃ f, f = (findE blk h).1 := ⟨_, rfl⟩
  obtain ⟨t, ht⟩ : ∃ t, t = (findE blk h).2 := ⟨_, rfl⟩
  rw [← hf, ← ht] at HFd HRes
  rw [← hf] at g1
  rw [← ht] at g1 g2
  rw [hbl] at g2
  have HHf := Lib.hid (⟨hf, ht⟩ : f = (findE blk h).1 ∧ t = (findE blk h).2)
  obtain ⟨N, hN⟩ : ∃ N, N = B - A := ⟨_, rfl⟩
  obtain ⟨C, hC⟩ : ∃ C, C = c - A := ⟨_, rfl⟩
  obtain ⟨a1, ha1⟩ : ∃ a1, a1 = a0.add (A * 2) := ⟨_, rfl⟩
  have hNC : N ≤ C := by omega
  have hC9 : C ≤ c := by omega
  have hN9 : N ≤ 10000 := by omega
  rw [← hN] at hbl g2
  rw [← hN, ← hC, ← ha1] at HFd
  rw [← ha1] at HEb
  go_wp2_with fail
  rw [← hN, ← hC, ← ha1]
  clear b1 b2 b3 b4 b5 b6 b7 b8 c1 hN hC ha1 hblk hf ht r1 r2 hin
  refine HFd.out.mono ?_
  rintro e w2 ⟨rfl, hk⟩
  have HK := Lib.hid (HK.out.trans hk)
  have HEb := Lib.hid (EnsAt.keep HEb.out hk)
  clear hk HFd HE HR
  obtain ⟨W, rfl⟩ : ∃ W, W = w2 := ⟨_, rfl⟩
  have HEp := Lib.hid (EnsAt.part HEb.out f (t - f))
  rw [HRes.out] at HEp
  have HEl : Hid (0 < t - f → EnsAt W (some (a1.add (f * 2))) (l.filter fun e => decide (e.hash = h))) := Lib.hid (fun _ => HEp.out)
  have hrl : (l.filter fun e => decide (e.hash = h)).length = t - f := by rw [← HRes.out, List.length_take, List.length_drop, hbl]; omega
  obtain ⟨R, hR⟩ : ∃ R, R = l.filter fun e => decide (e.hash = h) := ⟨_, rfl⟩
  rw [← hR] at HEp HEl hrl
  obtain ⟨M, hM⟩ : ∃ M, M = t - f := ⟨_, rfl⟩
  have HRl := Lib.hid (hrl.trans hM.symm)
  have hft : (f : Int) ≤ (t : Int) := by omega
  have htC : t ≤ C := by omega
  have hM9 : M ≤ 10000 := by omega
  obtain ⟨j0, ki, kz0, kz1, kz2⟩ := info_parts infoU32
  have HT : Hid (R.map En.at_ = (l.filter fun e => decide (e.hash = h)).map En.at_) := Lib.hid (by rw [hR])
  by_cases hfC : f < C
  · have d1 : ¬ C - f = 0 := by omega
    have d2 : ¬ (C : Int) - (f : Int) = 0 := by omega
    have d3 : ¬ f = C := by omega
    have d4 : ¬ C = f := by omega
    have d5 : (f : Int) < (C : Int) := by omega
    obtain ⟨a2, ha2⟩ : ∃ a2, a2 = a1.add (f * 2) := ⟨_, rfl⟩
    obtain ⟨C2, hC2⟩ : ∃ C2, C2 = C - f := ⟨_, rfl⟩
    rw [← ha2] at HEp
    clear HEl HEb HHf HRes HRb hR g1 g2 hbl hrl hNC hC9
    go_wp2_with fail
    rw [← hM, ← ha2]
    clear d1 d2 d3 d4 d5 ha2 hC2 hM hft htC hfC
    go_loopw [8, 41] (fun v i wq => ∃ k : Nat, k ≤ M ∧ i = .int .i64 (k : Int) ∧ Hid (OnesSoFar n32V 22 W ((R.take k).map En.at_) v wq)) (fun _ i _ => M - (intOf i).toNat)
    case atStart => exact ⟨0, Nat.zero_le _, rfl, Lib.hid (OnesSoFar.start W)⟩
    case round =>
      obtain ⟨k, hk, rfl, HS⟩ := hrel
      by_cases hkM : k < M
      · have hdk : decide ((k : Int) < (M : Int)) = true := decide_eq_true (by omega)
        have hdk2 : decide (k < M) = true := decide_eq_true hkM
        have hin : (k : Int) < (M : Int) := by omega
        have hkl : k < R.length := by rw [HRl.out]; exact hkM
        obtain ⟨a, ha, c0, c1⟩ := EnsAt.at_ (EnsAt.keep HEp.out HS.out.keeps) k hkl
        obtain rfl := Option.some.inj ha
        have hT : (R.take (k + 1)).map En.at_ = (R.take k).map En.at_ ++ [(R.getD k En.none).at_] := by rw [take_getD hkl, List.map_append]; rfl
        have hlen : ((R.take k).map En.at_).length ≤ 1000000 := by rw [List.length_map, List.length_take]; omega
        obtain ⟨r, hr⟩ : ∃ r, r = R.getD k En.none := ⟨_, rfl⟩
        rw [← hr] at c0 c1 hT
        obtain ⟨T, hTT⟩ : ∃ T, T = (R.take k).map En.at_ := ⟨_, rfl⟩
        rw [← hTT] at HS hT hlen
        have HLe := Lib.hid hlen
        have HTT := Lib.hid hT
        have HS2 := Lib.hid ((HS.out.alloc (.cells #[.int .u64 (r.hash : Int), .int .u32 (r.at_ : Int)] 49)).alloc (.cells #[.int .u32 (r.at_ : Int)] 22))
        have HW : Hid (Whole ((wr.alloc (.cells #[.int .u64 (r.hash : Int), .int .u32 (r.at_ : Int)] 49)).alloc (.cells #[.int .u32 (r.at_ : Int)] 22)) (wr.heap.size + 1) 22 #[.int .u32 (r.at_ : Int)]) := Lib.hid (Whole.newAt _ _ _ _ (by simp))
        clear hr hkl hlen hTT hT ha
        go_wp2_with (at_builtin; refine wpList_append_oneG (v0 := n32V) rfl _ _ 50 rfl 22 j0 (.int .u32 0) 4 Try.underlying50 ki kz0 kz1 kz2 rfl _ T rfl HS2.out (wr.heap.size + 1) r.at_ rfl (HW.out.cell 0 rfl) rfl (by have := HLe.out; omega) (by have := HLe.out; omega) ?_)
        intro v' w5 h5 _
        have HS5 : Hid (OnesSoFar n32V 22 W ((R.take (k + 1)).map En.at_) v' w5) := Lib.hid (by rw [HTT.out]; exact h5)
        clear h5
        go_wp2_with fail
        exact ⟨⟨k + 1, by omega, by go_num, HS5⟩, by simp [intOf]; omega⟩
      · have hdk : decide ((k : Int) < (M : Int)) = false := decide_eq_false (by omega)
        have hdk2 : decide (k < M) = false := decide_eq_false hkM
        rw [List.take_of_length_le (by have := HRl.out; omega)] at HS
        go_wp2_with fail
        go_ret
        obtain ⟨qw, mw, dw, rfl, hmw, hmwd, hdw, hqw, hatw, hkw⟩ := HS.out.new (dd := 0)
        rw [HT.out] at hmw hatw
        exact ⟨_, rfl, qw, mw, dw, rfl, hmw, hmwd, hdw, hqw, hatw, HK.out.trans hkw⟩
  · obtain rfl : f = C := by omega
    obtain rfl : t = f := by omega
    have hRn : R = [] := List.length_eq_zero_iff.1 (by omega)
    rw [hRn] at HT
    have hd0 : t - t = 0 := Nat.sub_self t
    clear HEl HEb HHf HRes HRb hR g1 g2 hbl hrl hNC hC9 HEp hM HRl hRn
    go_wp2_with fail
    go_loopw [8, 41] (fun v i wq => v = .slice none 0 0 ∧ i = .int .i64 0 ∧ wq = W) (fun _ _ _ => 0)
    case atStart => exact ⟨rfl, rfl, rfl⟩
    case round =>
      obtain ⟨rfl, rfl, rfl⟩ := hrel
      go_wp2_with fail
      go_ret
      have hTn : (l.filter fun e => decide (e.hash = h)).map En.at_ = [] := HT.out.symm
      rw [hTn]
      exact ⟨_, rfl, none, 0, 0, rfl, rfl, Nat.le_refl _, by decide, fun _ => ⟨rfl, rfl⟩, fun i hi => by simp at hi, HK.out⟩
theorem ftpl_ok : FtPlOk := ⟨fun u q n c l h w _ hi h9 _ => ftplaces_own u q n c l h w hi h9⟩
end Go.Proofs.Ytmifbohdepejaaa

/-
  Entries as the keys of a map.
-/
import Derived.Test.YtbchiccgkhnkaaaTabLaws
import Derived.Maps.Own
import Derived.Maps.OwnSet
import Derived.Maps.Views
import Derived.DeepKeys4
import Derived.WideKeyEntry
namespace Go.Proofs.Ytbchiccgkhnkaaa
open Go.RowKit Go.ChangeShapes Go.WideShapes Go.Maps

theorem enLaid : laidOutB Try.prog = true := by kernel_rfl
theorem enWide : (match Try.prog.underlying 29 with | some (.array _ _) | some (.struct _) => true | _ => false) = true := by kernel_rfl
set_option maxRecDepth 100000 in
theorem enLaw : WideMaps.KeyLaw Try.prog 29 := deep_law_laid enLaid (m := 2) (by omega) (of_decide_eq_true (by kernel_rfl)) (by kernel_rfl) enWide
set_option maxRecDepth 100000 in
theorem enKeyed : Keyed Try.prog 29 := Keyed.of_law enLaw

theorem enFormed (e : En) : (enV e).formed Try.prog 29 = true := by
  have hc : Try.prog.cellsOf 29 = 2 := by kernel_rfl
  simp [enV, Value.formed, Try.underlying29, hc]
theorem en_key (e : En) (h : e.Fine) : ∃ kl, keyOf Try.prog 29 (enV e) = some kl := by
  have hk : Try.prog.keyType 29 = true := by kernel_rfl
  unfold keyOf
  rw [Try.underlying29]
  simp only [hk, enFormed, Bool.and_self, if_true]
  have hsz : 0 < Try.prog.types.size := of_decide_eq_true (by kernel_rfl)
  obtain ⟨m, hm⟩ : ∃ m, Try.prog.types.size + 1 = m + 1 + 1 := ⟨Try.prog.types.size - 1, by omega⟩
  rw [hm]
  have hc : Try.prog.cellsOf 29 = 2 := by kernel_rfl
  have hc1 : Try.prog.cellsOf 26 = 1 := by kernel_rfl
  have hc2 : Try.prog.cellsOf 27 = 1 := by kernel_rfl
  have w1 : (Lit.int .u64 (e.hash : Int)).wf = true := by have := h.hash; simp [Lit.wf, IntKind.min, IntKind.max, IntKind.signed, IntKind.bits]; omega
  have w2 : (Lit.int .u32 (e.at_ : Int)).wf = true := by have := h.at_; simp [Lit.wf, IntKind.min, IntKind.max, IntKind.signed, IntKind.bits]; omega
  simp [Program.keyLits, Try.underlying29, Try.underlying26, Try.underlying27, hc, hc1, hc2, enV, Value.cells, w1, w2]

/-- What a map of entries holds: a one at each that is in f, n at most, N of them. -/
def SeenAt (w : World) (b n : Nat) (f : En → Bool) (N : Nat) : Prop :=
  ∃ D : DataW Unit, w.ownsMap Try.prog 29 (plainElem Try.prog 3) b n D ∧ (∀ e kl, keyOf Try.prog 29 (enV e) = some kl → has D kl = f e ∧ D.atKey kl (.lit (.int .i64 0)) = .lit (.int .i64 (if f e = true then 1 else 0))) ∧ Maps.size D = N

theorem mapU : Try.prog.underlying 25 = some (.map 29 3) := Try.underlying25
theorem intU : Try.prog.underlying 3 = some (.int .i64) := Try.underlying3
theorem zeroI (w : World) : (zeroValue 3).run Try.prog w = .ok (.int .i64 0) w := by kernel_rfl
theorem enV_inj {a b : En} (h : enV a = enV b) : a = b := by
  unfold enV at h
  simp at h
  exact En.ext' (by omega) (by omega)
theorem en_key_ne {a b : En} {ka kb : Lit} (ha : keyOf Try.prog 29 (enV a) = some ka) (hb : keyOf Try.prog 29 (enV b) = some kb) (hne : a ≠ b) : ka ≠ kb := fun h => hne (enV_inj (enKeyed.inj ha (h ▸ hb)))

theorem SeenAt.made (w : World) : SeenAt (w.alloc (.map #[] 0)) w.heap.size 0 (fun _ => false) 0 :=
  ⟨.map [], World.ownsMap_made w _ _ _, fun _ _ _ => ⟨rfl, rfl⟩, rfl⟩
theorem SeenAt.lt {w : World} {b n : Nat} {f : En → Bool} {N : Nat} (h : SeenAt w b n f N) : b < w.heap.size := by
  obtain ⟨D, h1, _⟩ := h
  exact h1.lt
theorem SeenAt.keep {w w' : World} {b n : Nat} {f : En → Bool} {N : Nat} (h : SeenAt w b n f N) {S : Nat → Prop} (hk : Keeps S w w') (hs : ¬ S b) : SeenAt w' b n f N := by
  obtain ⟨D, ⟨es, clock, hb, F, hn, rfl⟩, h2, h3⟩ := h
  exact ⟨_, ⟨es, clock, (hk.block b (Array.getElem?_eq_some_iff.1 hb).1 hs).trans hb, F, hn, rfl⟩, h2, h3⟩
theorem SeenAt.look {w : World} {b n : Nat} {f : En → Bool} {N : Nat} (h : SeenAt w b n f N) {e : En} (he : e.Fine) : (Instr.lookup 25 (.map (some b)) (enV e) false).run Try.prog w = .ok (.int .i64 (if f e = true then 1 else 0)) w := by
  obtain ⟨D, h1, h2, _⟩ := h
  obtain ⟨kl, hkl⟩ := en_key e he
  obtain ⟨c, hrun, hat, _⟩ := h1.lookup_int enKeyed mapU intU (zeroI w) hkl
  rw [(h2 e kl hkl).2] at hat
  simp only [DataW.lit.injEq, Lit.int.injEq, true_and] at hat
  rw [hrun, hat]
theorem SeenAt.len {w : World} {b n : Nat} {f : En → Bool} {N : Nat} (h : SeenAt w b n f N) (ty : TypeId) : (Builtin.len_ #[25] ty #[.map (some b)]).run Try.prog w = .ok (.int .i64 (N : Int)) w := by
  obtain ⟨D, h1, _, h3⟩ := h
  rw [h1.len mapU ty, h3]
theorem grown_keeps {w w' : World} {b : Nat} (h : w.grownBy w' (some b)) : Keeps (Just b) w w' := by
  obtain ⟨h1, h2, h3, h4, h5⟩ := h
  exact ⟨h1, h2, h3, h4, fun k hk hn => h5 k hk (fun e => hn (by simpa [Just] using e))⟩
/-- 'seen[e] = 1'. -/
theorem SeenAt.put {w : World} {b n : Nat} {f : En → Bool} {N : Nat} (h : SeenAt w b n f N) (hn : n < maxLen) {e : En} (he : e.Fine) :
    ∃ w', (Instr.mapUpdate 25 (.map (some b)) (enV e) (.int .i64 1)).run Try.prog w = .ok () w' ∧ SeenAt w' b (n + 1) (fun x => f x || decide (x = e)) (if f e = true then N else N + 1) ∧ Keeps (Just b) w w' := by
  obtain ⟨D, h1, h2, h3⟩ := h
  obtain ⟨kl, hkl⟩ := en_key e he
  have hv : plainElem (H := Unit) Try.prog 3 (.int .i64 1) = some (.lit (.int .i64 1), []) := plainElem_int intU (by decide)
  obtain ⟨w', hrun, h4, h5⟩ := h1.update enKeyed mapU hn hkl hv
  refine ⟨w', hrun, ⟨_, h4, fun x kx hkx => ?_, ?_⟩, grown_keeps h5⟩
  · by_cases hx : x = e
    · subst hx
      obtain rfl : kx = kl := Option.some.inj (hkx.symm.trans hkl)
      simp only [decide_true, Bool.or_true]
      exact ⟨has_put_same h1.isMap (enKeyed.key hkl) _, atKey_put_same h1.isMap (enKeyed.key hkl) _ _⟩
    · have hne := en_key_ne hkx hkl hx
      simp only [decide_eq_false hx, Bool.or_false]
      rw [has_put_other hne, atKey_put_other hne]
      exact h2 x kx hkx
  · rw [size_put (h1.tidy enKeyed), (h2 e kl hkl).1, h3]
/-- 'delete(seen, e)'. -/
theorem SeenAt.del {w : World} {b n : Nat} {f : En → Bool} {N : Nat} (h : SeenAt w b n f N) {e : En} (he : e.Fine) (hf : f e = true) (ty : TypeId) :
    ∃ w', (Builtin.delete_ #[25, 29] ty #[.map (some b), enV e]).run Try.prog w = .ok (.tuple #[]) w' ∧ SeenAt w' b n (fun x => f x && decide (x ≠ e)) (N - 1) ∧ Keeps (Just b) w w' := by
  obtain ⟨D, h1, h2, h3⟩ := h
  obtain ⟨kl, hkl⟩ := en_key e he
  obtain ⟨w', hrun, h4, h5⟩ := h1.drop enKeyed mapU hkl ty
  refine ⟨w', hrun, ⟨_, h4, fun x kx hkx => ?_, ?_⟩, grown_keeps h5.grown⟩
  · by_cases hx : x = e
    · subst hx
      obtain rfl : kx = kl := Option.some.inj (hkx.symm.trans hkl)
      simp only [ne_eq, not_true_eq_false, decide_false, Bool.and_false]
      exact ⟨has_del_same, atKey_del_same _⟩
    · have hne := en_key_ne hkx hkl hx
      simp only [decide_eq_true (show x ≠ e from hx), Bool.and_true]
      rw [has_del_other hne, atKey_del_other hne]
      exact h2 x kx hkx
  · have hs := size_del (k := kl) (h1.tidy enKeyed)
    rw [(h2 e kl hkl).1, hf, h3] at hs
    simp at hs
    omega
/-- Behind the making of an entry, ahead of its store, the map is what it was, or has a nought there. -/
theorem entry_world {w : World} {b : Nat} {es : Array MapEntry} {clock : Nat} {R : Value → Option (DataW Unit × List MemPlace)} (hb : w.heap[b]? = some (.map es clock)) (F : WideElems.Fit Try.prog 29 R es clock) {key : Value} {kl : Lit} (hkey : keyOf Try.prog 29 key = some kl)
    {v : Value} {w1 : World} (hrun : (Instr.mapEntry 25 (.map (some b)) key).run Try.prog w = .ok v w1) : w1 = w ∨ (Instr.mapUpdate 25 (.map (some b)) key (.int .i64 0)).run Try.prog w = .ok () w1 := by
  rcases enLaw.find w hkey es.toList F.keys with ⟨h1, _⟩ | ⟨j, e0, h1, h2, h3⟩
  · have e1 : (Instr.mapEntry 25 (.map (some b)) key).run Try.prog w = .ok (.tuple #[.int .i64 0, goInt clock]) (ChangeMaps.setBlock w b (.map (es.push ⟨key, .int .i64 0, clock⟩) (clock + 1))) := by
      simp [Instr.mapEntry, run_underlying mapU, MapKept.run_getObj_map hb, enLaw.check w false hkey, h1, MapKept.run_setObj_map _ hb, Result.andThen, ChangeMaps.setBlock]
    have e2 : (Instr.mapUpdate 25 (.map (some b)) key (.int .i64 0)).run Try.prog w = .ok () (ChangeMaps.setBlock w b (.map (es.push ⟨key, .int .i64 0, clock⟩) (clock + 1))) := by
      simp [Instr.mapUpdate, run_underlying mapU, MapKept.run_getObj_map hb, enLaw.check w false hkey, h1, MapKept.run_setObj_map _ hb, Result.andThen, ChangeMaps.setBlock]
    have e3 := hrun.symm.trans e1
    injection e3 with _ e4
    exact .inr (e4 ▸ e2)
  · have hj : es[j]? = some e0 := by rw [← Array.getElem?_toList]; exact h2
    have hsame : es.modify j (fun e => { e with key := key }) = es := by
      apply Array.ext'
      rw [Array.toList_modify, ChangeMaps.modify_eq_set _ _ _ _ h2]
      have : ({ e0 with key := key } : MapEntry) = e0 := by rw [← h3]
      rw [this]
      exact WideElems.set_self _ _ _ h2
    have e1 : (Instr.mapEntry 25 (.map (some b)) key).run Try.prog w = .ok (.tuple #[e0.val, goInt e0.born]) (ChangeMaps.setBlock w b (.map es clock)) := by
      simp [Instr.mapEntry, run_underlying mapU, MapKept.run_getObj_map hb, enLaw.check w false hkey, h1, hj, h3, enLaw.stays w hkey, hsame, MapKept.run_setObj_map _ hb, Result.andThen, ChangeMaps.setBlock]
    have e3 := hrun.symm.trans e1
    injection e3 with _ e4
    refine .inl (e4.trans ?_)
    unfold ChangeMaps.setBlock
    have : w.heap.setIfInBounds b (.map es clock) = w.heap := by
      apply Array.ext_getElem?
      intro i
      by_cases hi : b = i
      · subst hi
        rw [hb]
        simp [(Array.getElem?_eq_some_iff.1 hb).1]
      · rw [Array.getElem?_setIfInBounds_ne hi]
    rw [this]
/-- 'seen[e]++' of an entry that isn't there: its entry is made ahead of the look at it, or behind it. -/
theorem SeenAt.bump {w : World} {b n : Nat} {f : En → Bool} {N : Nat} (h : SeenAt w b n f N) (hn : n < maxLen) {e : En} (he : e.Fine) (hf : f e = false) :
    ∃ (v0 : Value) (st : Nat) (w1 w2 : World), (Instr.mapEntry 25 (.map (some b)) (enV e)).run Try.prog w = .ok (.tuple #[v0, .int .i64 (st : Int)]) w1 ∧ (Instr.entryStore 25 (.map (some b)) (.int .i64 (st : Int)) (.int .i64 1)).run Try.prog w1 = .ok () w2 ∧ (Instr.lookup 25 (.map (some b)) (enV e) false).run Try.prog w1 = .ok (.int .i64 0) w1 ∧ Keeps (Just b) w w1 ∧ SeenAt w2 b (n + 1) (fun x => f x || decide (x = e)) (N + 1) ∧ Keeps (Just b) w w2 := by
  obtain ⟨w', hrun, hs, hk⟩ := h.put hn he
  rw [if_neg (by simp [hf])] at hs
  have hlook := h.look he
  rw [if_neg (by simp [hf])] at hlook
  obtain ⟨D, hown, h2, h3⟩ := h
  obtain ⟨kl, hkl⟩ := en_key e he
  have hv0 : plainElem (H := Unit) Try.prog 3 (.int .i64 0) = some (.lit (.int .i64 0), []) := plainElem_int intU (by decide)
  obtain ⟨wz, hrz, hoz, _⟩ := hown.update enKeyed mapU hn hkl hv0
  have him := hown.isMap
  obtain ⟨es, clock, hb, F, _, rfl⟩ := hown
  obtain ⟨v0, st, es1, clock1, hme, _, hst⟩ := WideElems.entry_then_store enLaw mapU zeroI hb F hkl
  obtain ⟨es', clock', he1, he2⟩ := hst _ (.int .i64 1) (ChangeMaps.heap_setBlock_same hb _)
  have hw : w' = ChangeMaps.setBlock w b (.map es' clock') := by
    have := hrun.symm.trans he2
    injection this
  have hss : ChangeMaps.setBlock (ChangeMaps.setBlock w b (.map es1 clock1)) b (.map es' clock') = w' := by
    rw [hw]
    unfold ChangeMaps.setBlock
    simp
  refine ⟨v0, st, _, w', hme, by rw [← hss]; exact he1, ?_, ⟨rfl, rfl, rfl, by simp [ChangeMaps.setBlock], fun k _ hk => ChangeMaps.heap_setBlock_other hb _ (fun e => hk e)⟩, hs, hk⟩
  rcases entry_world hb F hkl hme with hw1 | hz
  · rw [hw1]; exact hlook
  · have hwz : wz = ChangeMaps.setBlock w b (.map es1 clock1) := by
      have := hrz.symm.trans hz
      injection this
    rw [← hwz]
    obtain ⟨c, hlk, hat, _⟩ := hoz.lookup_int enKeyed mapU intU (zeroI _) hkl
    rw [atKey_put_same him (enKeyed.key hkl)] at hat
    simp only [DataW.lit.injEq, Lit.int.injEq, true_and] at hat
    rw [hlk, ← hat]
end Go.Proofs.Ytbchiccgkhnkaaa

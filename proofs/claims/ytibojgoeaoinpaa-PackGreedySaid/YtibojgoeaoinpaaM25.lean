/-
  PkGrNum.
-/
import Derived.Test.YtibojgoeaoinpaaM15
namespace Go.Proofs.Ytibojgoeaoinpaa

theorem runP_ok {e s : Nat} {zs : List Int} (hy : (runP e s zs).y = 0) (j : Nat) : (runP e s (zs.take j)).y = 0 := by
  by_cases h : (runP e s (zs.take j)).y = 0
  · exact h
  · rw [runP_gone h] at hy
    exact hy
theorem foldP_more {e s : Nat} : ∀ (zs : List Int) (st : PSt), (zs.foldl (stepP e s) st).y = 0 → ∃ t, (zs.foldl (stepP e s) st).out = st.out ++ t
  | [], st, _ => ⟨[], by simp⟩
  | z :: zs, st, h => by
    rw [List.foldl_cons] at h ⊢
    obtain ⟨t, ht⟩ := foldP_more zs _ h
    have hy : (stepP e s st z).y = 0 := by
      by_cases hq : (stepP e s st z).y = 0
      · exact hq
      · rw [foldP_gone zs hq] at h; exact h
    have : ∃ u, (stepP e s st z).out = st.out ++ u := by
      unfold stepP at hy ⊢
      split at hy
      · rename_i q; rw [if_pos q]; exact ⟨[], by simp⟩
      · rename_i q
        rw [if_neg q]
        split at hy
        · rename_i q2
          rw [if_pos q2]
          split at hy
          · rename_i q3; rw [if_pos q3]; exact ⟨_, rfl⟩
          · rename_i q3
            rw [if_neg q3]
            split at hy
            · exact absurd hy (by decide)
            · rename_i q4; rw [if_neg q4]; exact ⟨_, rfl⟩
        · exact absurd hy (by decide)
    obtain ⟨u, hu⟩ := this
    rw [ht, hu]
    exact ⟨u ++ t, by simp⟩
theorem runP_pre {e s : Nat} {zs : List Int} (hy : (runP e s zs).y = 0) (j : Nat) : ∃ t, (runP e s zs).out = (runP e s (zs.take j)).out ++ t := by
  have e1 : zs = zs.take j ++ zs.drop j := (List.take_append_drop j zs).symm
  have h : (runP e s zs) = (zs.drop j).foldl (stepP e s) (runP e s (zs.take j)) := by
    show zs.foldl _ _ = _
    conv => lhs; rw [e1, List.foldl_append]
    rfl
  rw [h] at hy ⊢
  exact foldP_more _ _ hy

/-- One step of packing that succeeds. -/
structure Greedy (e s : Nat) (zs : List Int) (j : Nat) (r r' : Rm) : Prop where
  most : fitsP (emptyP e s (s - 1)) (zs.getD j 0) = true
  out : (runP e s zs).out.getD j 0 = r'.num
  real : r.Real
  e1 : r.e = e
  s1 : r.s = s
  few : r.count ≤ j
  first : j = 0 → r.num = 0 ∧ r.count = 0
  was : ∀ m, j = m + 1 → (runP e s zs).out.getD m 0 = r.num
  way : (fitsP r (zs.getD j 0) = true ∧ r' = takeP r (zs.getD j 0)) ∨ (fitsP r (zs.getD j 0) = false ∧ r.count ≠ 0 ∧ r.num + 1 < s ∧ r' = takeP (emptyP e s (r.num + 1)) (zs.getD j 0))
theorem greedy_out {e s : Nat} {zs : List Int} (hy : (runP e s zs).y = 0) {j : Nat} (hj : j < zs.length) : (runP e s zs).out.getD j 0 = (runP e s (zs.take (j + 1))).r.num := by
  obtain ⟨t, ht⟩ := runP_pre hy (j + 1)
  have h0 := runP_ok hy j
  have h1 := runP_ok hy (j + 1)
  have hl := runP_out (zs.take j) h0
  rw [List.length_take] at hl
  have hs := runP_step (e := e) (s := s) hj
  have : ∃ x, (runP e s (zs.take (j + 1))).out = (runP e s (zs.take j)).out ++ [x] ∧ (runP e s (zs.take (j + 1))).r.num = x := by
    rw [hs] at h1 ⊢
    obtain ⟨st, hst⟩ : ∃ st, st = runP e s (zs.take j) := ⟨_, rfl⟩
    rw [← hst] at h0 h1 ⊢
    unfold stepP at h1 ⊢
    rw [if_neg (by rw [h0]; simp)] at h1 ⊢
    split at h1
    · rename_i q2
      rw [if_pos q2]
      split at h1
      · rename_i q3; rw [if_pos q3]; exact ⟨_, rfl, rfl⟩
      · rename_i q3
        rw [if_neg q3]
        split at h1
        · exact absurd h1 (by decide)
        · rename_i q4; rw [if_neg q4]; exact ⟨_, rfl, rfl⟩
    · exact absurd h1 (by decide)
  obtain ⟨x, hx, hn⟩ := this
  rw [ht, hx, hn, List.append_assoc, List.getD_eq_getElem?_getD, List.getElem?_append_right (by omega), hl]
  rw [show j - min j zs.length = 0 by omega]
  rfl
theorem greedy_step {e s : Nat} {zs : List Int} (hm : mayC e s = true) (h9 : zs.length ≤ 1000) (hy : (runP e s zs).y = 0) {j : Nat} (hj : j < zs.length) :
    Greedy e s zs j (runP e s (zs.take j)).r (runP e s (zs.take (j + 1))).r := by
  obtain ⟨m1, m2, m3, m4⟩ := mayC_true.1 hm
  have h0 := runP_ok hy j
  have h1 := runP_ok hy (j + 1)
  obtain ⟨i1, i2, i3, i4⟩ := runP_real hm (zs.take j) (by rw [List.length_take]; omega) h0
  rw [List.length_take] at i4
  have hs := runP_step (e := e) (s := s) hj
  have ho := greedy_out hy hj
  have hw : ∀ m, j = m + 1 → (runP e s zs).out.getD m 0 = (runP e s (zs.take j)).r.num := by
    intro m hm
    subst hm
    exact greedy_out hy (by omega)
  have hf : j = 0 → (runP e s (zs.take j)).r.num = 0 ∧ (runP e s (zs.take j)).r.count = 0 := by
    intro hj0
    subst hj0
    exact ⟨rfl, rfl⟩
  rw [hs] at h1 ho ⊢
  obtain ⟨z, hz⟩ : ∃ z, z = zs.getD j 0 := ⟨_, rfl⟩
  obtain ⟨st, hst⟩ : ∃ st, st = runP e s (zs.take j) := ⟨_, rfl⟩
  rw [← hst] at h0 h1 i1 i2 i3 i4 ho hw hf ⊢
  rw [← hz] at h1 ho ⊢
  have hmost : fitsP (emptyP e s (s - 1)) z = true ∧ ((fitsP st.r z = true ∧ (stepP e s st z).r = takeP st.r z) ∨ (fitsP st.r z = false ∧ st.r.count ≠ 0 ∧ st.r.num + 1 < s ∧ (stepP e s st z).r = takeP (emptyP e s (st.r.num + 1)) z)) := by
    unfold stepP at h1 ⊢
    rw [if_neg (by rw [h0]; simp)] at h1 ⊢
    split at h1
    · rename_i q2
      rw [if_pos q2]
      refine ⟨q2, ?_⟩
      split at h1
      · rename_i q3; rw [if_pos q3]; exact .inl ⟨q3, rfl⟩
      · rename_i q3
        rw [if_neg q3]
        split at h1
        · exact absurd h1 (by decide)
        · rename_i q4
          rw [if_neg q4]
          refine .inr ⟨by simpa using q3, ?_, by omega, rfl⟩
          intro hc0
          refine q3 ?_
          have hu := i1.first hc0
          have hsm := i1.small
          have hmono := headLen_mono (e := e) (s := s) (m := st.r.num) (n := s - 1) (by omega) (by omega) (by omega)
          rw [i2, i3] at hu
          rw [fitsP_true] at q2 ⊢
          unfold emptyP at q2
          simp only at q2
          rw [hc0, i2, hu]
          omega
    · exact absurd h1 (by decide)
  refine ⟨by rw [← hz]; exact hmost.1, ho, i1, i2, i3, by omega, hf, hw, ?_⟩
  rw [← hz]
  exact hmost.2
end Go.Proofs.Ytibojgoeaoinpaa

/-
  Stuffed bytes over plain numbers: what is unstuffed has no more bytes.
-/
import Derived.Test.YtbchiccgkhnkaaaCobsNum
namespace Go.Proofs.Ytbchiccgkhnkaaa

theorem dec_octets : ∀ (m : Nat) (xs o : List Int), xs.length ≤ m → Solid xs → dec xs = some o → Octets o ∧ o.length ≤ xs.length
  | _, [], o, _, _, h => by
    rw [dec] at h
    obtain rfl := Option.some.inj h
    exact ⟨fun b hb => by simp at hb, Nat.le_refl _⟩
  | 0, n :: r, o, hm, _, _ => by simp at hm
  | m + 1, n :: r, o, hm, hs, h => by
    rw [dec] at h
    split at h
    · simp at h
    · obtain ⟨o', ho', rfl⟩ := Option.map_eq_some_iff.1 h
      have hn := hs n List.mem_cons_self
      have hr : Solid r := fun b hb => hs b (List.mem_cons_of_mem _ hb)
      obtain ⟨h1, h2⟩ := dec_octets m (r.drop (n.toNat - 1)) o' (by simp at hm ⊢; omega) (fun b hb => hr b (List.mem_of_mem_drop hb)) ho'
      refine ⟨?_, ?_⟩
      · intro b hb
        rcases List.mem_append.1 hb with hb | hb
        · rcases List.mem_append.1 hb with hb | hb
          · exact hr.octets b (List.mem_of_mem_take hb)
          · split at hb
            · rw [List.mem_singleton.1 hb]; omega
            · simp at hb
        · exact h1 b hb
      · have : (if n < 255 ∧ r.drop (n.toNat - 1) ≠ [] then [0] else ([] : List Int)).length ≤ 1 := by split <;> simp
        simp only [List.length_append, List.length_take, List.length_drop, List.length_cons] at h2 ⊢
        omega
theorem unst_octets {xs : List Int} (h : Octets xs) : Octets (unst xs).2 ∧ (unst xs).2.length ≤ xs.length := by
  have h00 : Octets [] ∧ ([] : List Int).length ≤ xs.length := ⟨fun b hb => by simp at hb, Nat.zero_le _⟩
  unfold unst
  split
  · exact h00
  · rename_i h0
    split
    · exact h00
    · split
      · exact h00
      · split
        · have hso : Solid xs := fun b hb => by
            have h1 := h b hb
            have h2 : b ≠ 0 := fun e => h0 (e ▸ hb)
            exact ⟨by omega, h1.2⟩
          exact dec_octets xs.length xs _ (Nat.le_refl _) hso (by assumption)
        · exact h00
end Go.Proofs.Ytbchiccgkhnkaaa

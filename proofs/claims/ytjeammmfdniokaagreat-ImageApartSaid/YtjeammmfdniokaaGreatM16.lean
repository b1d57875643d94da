/-
  PkPlWalk; PkGrNum; ImNum; SgRoom; RecRow; RecsOwn.
-/
import Derived.Test.YtjeammmfdniokaaGreatM03
import Derived.Test.YtjeammmfdniokaaGreatM07
import Derived.Test.YtjeammmfdniokaaGreatM10
import Derived.Test.YtjeammmfdniokaaGreatM15
namespace Go.Proofs.YtjeammmfdniokaaGreat
open Go.RowKit

theorem InZ.keep {w w' : World} {p : Option Addr} {n c : Nat} {zs : List Int} (h : InZ w p n c zs) (hk : Keeps NoBlock w w') : InZ w' p n c zs :=
  ⟨h.len, h.cap, h.room, h.bare, h.fine, h.at_.keep hk (fun _ _ h => h)⟩

end Go.Proofs.YtjeammmfdniokaaGreat

namespace Go.Proofs.YtjeammmfdniokaaGreat

end Go.Proofs.YtjeammmfdniokaaGreat

namespace Go.Proofs.YtjeammmfdniokaaGreat

def sizesR (l : List Rec) : List Int := l.map fun r => ((recB r).length : Int)
def planI (e s : Nat) (l : List Rec) : Int × List Nat :=
  if mayC e s = true then (if risingR l ≠ 0 then (risingR l, []) else planP e s (sizesR l)) else (1, [])
/-- The records of each segment. -/
def putPart (out : List (List Rec)) (k : Nat) (r : Rec) : List (List Rec) :=
  if out.length ≤ k then (out ++ [[]]).set k ((out ++ [[]]).getD k [] ++ [r]) else out.set k (out.getD k [] ++ [r])
def partsGo : List (List Rec) → List Rec → List Nat → List (List Rec)
  | out, r :: l, k :: ks => partsGo (putPart out k r) l ks
  | out, _, _ => out
def segsGo (e s : Nat) (m : Nat) : Nat → List (List Rec) → List Int
  | _, [] => []
  | i, p :: ps => textS e s i p (decide (i + 1 < m)) ++ segsGo e s m (i + 1) ps
def encI (e s : Nat) (l : List Rec) : Int × List Int :=
  if (planI e s l).1 ≠ 0 then ((planI e s l).1, [])
  else (0, segsGo e s (partsGo [] l (planI e s l).2).length 0 (partsGo [] l (planI e s l).2))

/-- Numbers of segments, each the last one's or the next. -/
def Steps : Nat → List Nat → Prop
  | _, [] => True
  | n, k :: ks => (k = n ∧ Steps (n + 1) ks) ∨ (k + 1 = n ∧ Steps n ks)
theorem putPart_next (out : List (List Rec)) (r : Rec) : putPart out out.length r = out ++ [[r]] := by
  unfold putPart
  rw [if_pos (Nat.le_refl _), List.set_append_right _ _ (Nat.le_refl _), Nat.sub_self, List.getD_eq_getElem?_getD, List.getElem?_append_right (Nat.le_refl _), Nat.sub_self]
  rfl
theorem putPart_last (out : List (List Rec)) (p : List Rec) (r : Rec) : putPart (out ++ [p]) out.length r = out ++ [p ++ [r]] := by
  unfold putPart
  rw [if_neg (by simp), List.set_append_right _ _ (Nat.le_refl _), Nat.sub_self, List.getD_eq_getElem?_getD, List.getElem?_append_right (Nat.le_refl _), Nat.sub_self]
  rfl
theorem parts_flat : ∀ (l : List Rec) (ks : List Nat) (out : List (List Rec)), Steps out.length ks → l.length = ks.length →
    (partsGo out l ks).flatten = out.flatten ++ l
  | [], [], out, _, _ => by simp [partsGo]
  | r :: l, k :: ks, out, h, hl => by
    rw [partsGo]
    rcases h with ⟨rfl, h⟩ | ⟨hk, h⟩
    · rw [putPart_next, parts_flat l ks _ (by simpa using h) (by simpa using hl)]
      simp
    · have hne : out ≠ [] := fun e => by rw [e] at hk; simp at hk
      have hd : out = out.dropLast ++ [out.getLast hne] := (List.dropLast_concat_getLast hne).symm
      have hlen : out.dropLast.length = k := by rw [List.length_dropLast]; omega
      obtain ⟨q, hq⟩ : ∃ q, q = out.dropLast := ⟨_, rfl⟩
      obtain ⟨p, hp⟩ : ∃ p, p = out.getLast hne := ⟨_, rfl⟩
      rw [← hq, ← hp] at hd
      rw [← hq] at hlen
      clear hq hp hne
      subst hd
      subst hlen
      rw [putPart_last, parts_flat l ks _ (by simpa using h) (by simpa using hl)]
      simp
/-- No part is empty. -/
theorem parts_full : ∀ (l : List Rec) (ks : List Nat) (out : List (List Rec)), Steps out.length ks → l.length = ks.length → (∀ p ∈ out, p ≠ []) →
    ∀ p ∈ partsGo out l ks, p ≠ []
  | [], [], out, _, _, h0 => by simpa [partsGo] using h0
  | r :: l, k :: ks, out, h, hl, h0 => by
    rw [partsGo]
    rcases h with ⟨rfl, h⟩ | ⟨hk, h⟩
    · rw [putPart_next]
      refine parts_full l ks _ (by simpa using h) (by simpa using hl) (fun p hp => ?_)
      rcases List.mem_append.1 hp with hp | hp
      · exact h0 p hp
      · rw [List.mem_singleton.1 hp]; simp
    · have hne : out ≠ [] := fun e => by rw [e] at hk; simp at hk
      have hd : out = out.dropLast ++ [out.getLast hne] := (List.dropLast_concat_getLast hne).symm
      have hlen : out.dropLast.length = k := by rw [List.length_dropLast]; omega
      obtain ⟨q, hq⟩ : ∃ q, q = out.dropLast := ⟨_, rfl⟩
      obtain ⟨p, hp⟩ : ∃ p, p = out.getLast hne := ⟨_, rfl⟩
      rw [← hq, ← hp] at hd
      rw [← hq] at hlen
      clear hq hp hne
      subst hd
      subst hlen
      rw [putPart_last]
      refine parts_full l ks _ (by simpa using h) (by simpa using hl) (fun x hx => ?_)
      rcases List.mem_append.1 hx with hx | hx
      · exact h0 x (List.mem_append_left _ hx)
      · rw [List.mem_singleton.1 hx]; simp
theorem fold_steps {e s : Nat} (hs : s < 4294967296) (hs1 : 1 ≤ s) : ∀ (zs : List Int) (st : PSt) (n : Nat), st.y = 0 → (n = st.r.num + 1 ∨ (n = 0 ∧ st.r = emptyP e s 0)) → (zs.foldl (stepP e s) st).y = 0 →
    ∃ t, (zs.foldl (stepP e s) st).out = st.out ++ t ∧ Steps n t
  | [], st, n, _, _, _ => ⟨[], by simp, trivial⟩
  | z :: zs, st, n, hy, hn, h => by
    rw [List.foldl_cons] at h ⊢
    have hy2 : (stepP e s st z).y = 0 := by
      by_cases hq : (stepP e s st z).y = 0
      · exact hq
      · rw [foldP_gone zs hq] at h; exact h
    have hcase : ∃ k, (stepP e s st z).out = st.out ++ [k] ∧ (stepP e s st z).r.num = k ∧ (k = st.r.num ∨ (k = st.r.num + 1 ∧ n = st.r.num + 1)) := by
      unfold stepP at hy2 ⊢
      rw [if_neg (by rw [hy]; simp)] at hy2 ⊢
      split at hy2
      · rename_i q2
        rw [if_pos q2]
        split at hy2
        · rename_i q3; rw [if_pos q3]; exact ⟨_, rfl, rfl, .inl rfl⟩
        · rename_i q3
          rw [if_neg q3]
          split at hy2
          · exact absurd hy2 (by decide)
          · rename_i q4
            rw [if_neg q4]
            refine ⟨_, rfl, rfl, .inr ⟨rfl, ?_⟩⟩
            rcases hn with hn | ⟨_, hr⟩
            · exact hn
            · exfalso
              refine q3 ?_
              rw [hr]
              exact fits_empty hs (by omega) (Nat.zero_le _) q2
      · exact absurd hy2 (by decide)
    obtain ⟨k, hk1, hk2, hk3⟩ := hcase
    have hnn : (k = n ∧ ∃ m, m = n + 1 ∧ m = (stepP e s st z).r.num + 1) ∨ (k + 1 = n ∧ n = (stepP e s st z).r.num + 1) := by
      rw [hk2]
      rcases hk3 with rfl | ⟨h1, h2⟩
      · rcases hn with hn | ⟨h0, hr⟩
        · exact .inr ⟨hn.symm, hn⟩
        · have : st.r.num = 0 := by rw [hr]; rfl
          exact .inl ⟨by omega, n + 1, rfl, by omega⟩
      · exact .inl ⟨by omega, n + 1, rfl, by omega⟩
    rcases hnn with ⟨h1, m, h2, h3⟩ | ⟨h1, h2⟩
    · obtain ⟨t, ht, hst⟩ := fold_steps hs hs1 zs _ m hy2 (.inl h3) h
      refine ⟨k :: t, by rw [ht, hk1]; simp, .inl ⟨h1, by rw [← h2]; exact hst⟩⟩
    · obtain ⟨t, ht, hst⟩ := fold_steps hs hs1 zs _ n hy2 (.inl h2) h
      exact ⟨k :: t, by rw [ht, hk1]; simp, .inr ⟨h1, hst⟩⟩
theorem plan_steps {e s : Nat} {zs : List Int} (h : (planP e s zs).1 = 0) : Steps 0 (planP e s zs).2 ∧ (planP e s zs).2.length = zs.length := by
  unfold planP at h ⊢
  split at h
  · rename_i hm
    obtain ⟨_, _, m3, m4⟩ := mayC_true.1 hm
    rw [if_pos hm]
    simp only at h ⊢
    obtain ⟨t, ht, hst⟩ := fold_steps (e := e) (s := s) (by omega) m3 zs ⟨0, emptyP e s 0, []⟩ 0 rfl (.inr ⟨rfl, rfl⟩) h
    have : (runP e s zs).out = t := by unfold runP; rw [ht]; rfl
    exact ⟨by rw [this]; exact hst, runP_out zs h⟩
  · exact absurd h (by decide)
/-- The segments' records are the records, in their order. -/
theorem parts_all {e s : Nat} {l : List Rec} (h : (planI e s l).1 = 0) : (partsGo [] l (planI e s l).2).flatten = l ∧ ∀ p ∈ partsGo [] l (planI e s l).2, p ≠ [] := by
  have hp : planI e s l = planP e s (sizesR l) := by
    unfold planI at h ⊢
    split at h
    · rename_i hm
      rw [if_pos hm]
      split at h
      · rename_i hr; exact absurd h hr
      · rename_i hr; rw [if_neg hr]
    · exact absurd h (by decide)
  rw [hp] at h ⊢
  obtain ⟨h1, h2⟩ := plan_steps h
  have hl : l.length = (planP e s (sizesR l)).2.length := by rw [h2]; unfold sizesR; rw [List.length_map]
  have := parts_flat l _ [] h1 hl
  exact ⟨by simpa using this, parts_full l _ [] h1 hl (fun p hp => by simp at hp)⟩
end Go.Proofs.YtjeammmfdniokaaGreat

namespace Go.Proofs.YtjeammmfdniokaaGreat

theorem entsGo_length : ∀ (l : List Rec) (k : Nat), (entsGo k l).length = l.length
  | [], _ => rfl
  | r :: l, k => by rw [entsGo, List.length_cons, entsGo_length l]; rfl
theorem mostFt_le {m n : Nat} (h : m ≤ n) : mostFt m ≤ mostFt n := by
  induction h with
  | refl => exact Nat.le_refl _
  | step _ ih => exact Nat.le_trans ih (Nat.le_of_lt (mostFt_mono1 _))
/-- A footer has no more bytes than are reserved for so many records. -/
theorem foot_most (e s n : Nat) (l : List Rec) : (footS e s n l).length ≤ mostFt l.length := by
  unfold footS
  have h1 := (seal_length (bodyFt ⟨(outS e s n l).length, sortE (entsS e s n l)⟩)).2
  rw [bodyFt_length] at h1
  have h2 := sortE_len (entsS e s n l)
  have h3 : (entsS e s n l).length = l.length := entsGo_length l _
  exact Nat.le_trans h1 (mostFt_le (show (sortE (entsS e s n l)).length ≤ l.length by omega))
theorem outS_snoc (e s n : Nat) (l : List Rec) (r : Rec) : outS e s n (l ++ [r]) = outS e s n l ++ recB r := by
  unfold outS recsB
  rw [List.flatMap_append, List.append_assoc]
  simp
theorem outS_nil (e s n : Nat) : outS e s n [] = sealN (headB e s n) := by
  unfold outS recsB
  simp
theorem recB_pos (r : Rec) : 1 ≤ (recB r).length := by
  unfold recB
  rw [(seal_length _).1]
  omega
/-- A segment's records, and its room. -/
structure InRoom (r : Rm) (l : List Rec) : Prop where
  real : r.Real
  used : r.used = (outS r.e r.s r.num l).length
  count : r.count = l.length
theorem inRoom_empty {e s n : Nat} (h : mayHead e s n = true) : InRoom (emptyP e s n) [] :=
  ⟨real_empty h, by rw [outS_nil]; rfl, rfl⟩
theorem inRoom_take {r : Rm} {l : List Rec} (h : InRoom r l) {x : Rec} (hf : fitsP r ((recB x).length : Int) = true) (hc : r.count < 10000) : InRoom (takeP r ((recB x).length : Int)) (l ++ [x]) := by
  refine ⟨real_take h.real hf hc, ?_, ?_⟩
  · show r.used + ((recB x).length : Int).toNat = (outS r.e r.s r.num (l ++ [x])).length
    rw [outS_snoc, List.length_append, h.used, Int.toNat_natCast]
  · show r.count + 1 = (l ++ [x]).length
    rw [h.count, List.length_append]
    rfl
/-- All frames, a footer too, fit into the segment. -/
theorem frames_fit {r : Rm} {l : List Rec} (h : InRoom r l) (b : Bool) (hb : b = true → 0 < l.length) : (framesS r.e r.s r.num l b).length ≤ 2 ^ r.e := by
  obtain ⟨a1, a2, _, _, _⟩ := mayHead_true.1 h.real.may
  have hsm := h.real.small
  unfold framesS
  by_cases h0 : r.count = 0
  · have hl : l = [] := List.length_eq_zero_iff.1 (by rw [← h.count]; exact h0)
    have hbf : b = false := by
      cases b with
      | false => rfl
      | true => have := hb rfl; rw [hl] at this; simp at this
    subst hbf
    rw [if_neg (by simp), List.append_nil, ← h.used, h.real.first h0]
    have h1 := (headLen_le (e := r.e) (s := r.s) (n := r.num) (by omega) (by omega)).2
    have h2 := Nat.pow_le_pow_right (n := 2) (by decide) a1
    omega
  · have h1 := h.real.room h0
    have h2 := foot_most r.e r.s r.num l
    rw [h.count] at h1
    rw [List.length_append, ← h.used]
    cases b with
    | false => rw [if_neg (by simp)]; simp; omega
    | true => rw [if_pos rfl]; omega
theorem text_length {r : Rm} {l : List Rec} (h : InRoom r l) (b : Bool) (hb : b = true → 0 < l.length) : (textS r.e r.s r.num l b).length = 2 ^ r.e := by
  have := frames_fit h b hb
  unfold textS
  rw [List.length_append, List.length_replicate]
  omega
end Go.Proofs.YtjeammmfdniokaaGreat

namespace Go.Proofs.YtjeammmfdniokaaGreat
open Go.RowKit

/-- A row of records that can be read. -/
def RecsAt (w : World) (p : Option Addr) (l : List Rec) : Prop :=
  ∀ i, i < l.length → ∃ a : Addr, p = some a ∧ w.cell? (a.add (i * 4)) = some (.bool (l.getD i Rec.none).del) ∧ w.cell? ⟨(a.add (i * 4)).block, (a.add (i * 4)).off + 1, none⟩ = some (.int .u64 ((l.getD i Rec.none).seq : Int)) ∧
    w.cell? ⟨(a.add (i * 4)).block, (a.add (i * 4)).off + 2, none⟩ = some (.string (strOfNums (l.getD i Rec.none).key)) ∧ w.cell? ⟨(a.add (i * 4)).block, (a.add (i * 4)).off + 3, none⟩ = some (.string (strOfNums (l.getD i Rec.none).val))
theorem RecsAt.keep {w w' : World} {p : Option Addr} {l : List Rec} (h : RecsAt w p l) {S : Nat → Prop} (hk : Keeps S w w') (hs : ∀ k, k < w.heap.size → ¬ S k) : RecsAt w' p l := fun i hi => by
  obtain ⟨a, rfl, c0, c1, c2, c3⟩ := h i hi
  exact ⟨a, rfl, hk.cell c0 (hs _ (ltOfCell c0)), hk.cell c1 (hs _ (ltOfCell c1)), hk.cell c2 (hs _ (ltOfCell c2)), hk.cell c3 (hs _ (ltOfCell c3))⟩

def littleR (bytes : Nat) (r : Rec) : Bool := decide (r.key.length ≤ bytes) && decide (r.val.length ≤ bytes)
def fewR (l : List Rec) (most bytes : Nat) : Bool := l.all (littleR bytes) && decide (l.length ≤ most)

theorem all_take_succ {l : List Rec} {b j : Nat} (hj : j < l.length) : (l.take (j + 1)).all (littleR b) = ((l.take j).all (littleR b) && littleR b (l.getD j Rec.none)) := by
  rw [List.take_succ_eq_append_getElem hj, List.all_append]
  simp [hj]

set_option maxHeartbeats 2000000 in
set_option maxRecDepth 10000 in
theorem few_any (p : Option Addr) (n c : Nat) (l : List Rec) (most bytes : Nat) (zm zb : Int) (hzm : zm = (most : Int)) (hzb : zb = (bytes : Int)) (hn : n = l.length) (hn9 : n ≤ 9223372036854775807) (hs : ∀ r ∈ l, r.key.length ≤ 9223372036854775807 ∧ r.val.length ≤ 9223372036854775807) (w : World) (hl : RecsAt w p l) :
    Calls Tryz.prog 8 #[.slice p n c, .int .i64 zm, .int .i64 zb] w fun e w' => e = .returned (.bool (fewR l most bytes)) ∧ Keeps NoBlock w w' := by
  subst hzm
  subst hzb
  have HL := Lib.hid hl
  have HN := Lib.hid hn
  have HS := Lib.hid hs
  clear hl hn hs
  go_enter Tryz.func8, Tryz.ntmps8
  go_wp2_with fail
  go_loopw [11] (fun i wr => ∃ j : Nat, j ≤ n ∧ i = .int .i64 (j : Int) ∧ (l.take j).all (littleR bytes) = true ∧ Keeps NoBlock w wr) (fun i _ => n - (intOf i).toNat)
  case atStart => exact ⟨0, Nat.zero_le _, rfl, by simp, Keeps.refl _ _⟩
  case round =>
    obtain ⟨j, hj, rfl, hall, hk⟩ := hrel
    have HK := Lib.hid hk
    have HA := Lib.hid hall
    clear hk hall
    by_cases hlt : j < n
    · have hdj : decide ((j : Int) < (n : Int)) = true := decide_eq_true (by omega)
      have hjl : j < l.length := by rw [← HN.out]; exact hlt
      obtain ⟨a, rfl, c0, c1, c2, c3⟩ := (HL.out.keep HK.out (fun _ _ h => h)) j hjl
      have hmem : l.getD j Rec.none ∈ l := by simp [hjl]
      have hsr := HS.out _ hmem
      have HT := Lib.hid (all_take_succ (b := bytes) hjl)
      obtain ⟨r, hr⟩ : ∃ r, r = l.getD j Rec.none := ⟨_, rfl⟩
      rw [← hr] at c0 c1 c2 c3 hsr HT
      have hk1 := str_size r.key
      have hv1 := str_size r.val
      have hbad : littleR bytes r = false → fewR l most bytes = false := fun h => by
        unfold fewR
        have : l.all (littleR bytes) = false := by
          rw [Bool.eq_false_iff]
          intro ha
          have := List.all_eq_true.1 ha r (by rw [hr]; exact hmem)
          rw [h] at this
          cases this
        rw [this]
        rfl
      have HBd := Lib.hid hbad
      clear hr hmem hjl hbad
      by_cases k1 : bytes < r.key.length
      · have dk : decide (bytes < r.key.length) = true := decide_eq_true k1
        have dk2 : decide ((bytes : Int) < (r.key.length : Int)) = true := decide_eq_true (by omega)
        have e := HBd.out (by unfold littleR; rw [decide_eq_false (by omega)]; rfl)
        have HE := Lib.hid e
        clear e
        go_wp2_with fail
        go_ret
        rw [HE.out]
        exact ⟨rfl, HK.out.alloc _⟩
      · have dk : decide (bytes < r.key.length) = false := decide_eq_false k1
        have dk2 : decide ((bytes : Int) < (r.key.length : Int)) = false := decide_eq_false (by omega)
        by_cases k2 : bytes < r.val.length
        · have dv : decide (bytes < r.val.length) = true := decide_eq_true k2
          have dv2 : decide ((bytes : Int) < (r.val.length : Int)) = true := decide_eq_true (by omega)
          have e := HBd.out (by unfold littleR; rw [Bool.and_comm, decide_eq_false (show ¬ r.val.length ≤ bytes by omega)]; rfl)
          have HE := Lib.hid e
          clear e
          go_wp2_with fail
          go_ret
          rw [HE.out]
          exact ⟨rfl, HK.out.alloc _⟩
        · have dv : decide (bytes < r.val.length) = false := decide_eq_false k2
          have dv2 : decide ((bytes : Int) < (r.val.length : Int)) = false := decide_eq_false (by omega)
          have hgood : littleR bytes r = true := by unfold littleR; rw [decide_eq_true (show r.key.length ≤ bytes by omega), decide_eq_true (show r.val.length ≤ bytes by omega)]; rfl
          have HG := Lib.hid hgood
          clear hgood
          go_wp2_with fail
          exact ⟨⟨j + 1, by omega, by go_num, by rw [HT.out, HA.out, HG.out]; rfl, HK.out.alloc _⟩, by simp [intOf]; omega⟩
    · have hdj : decide ((j : Int) < (n : Int)) = false := decide_eq_false (by omega)
      have hall : l.all (littleR bytes) = true := by
        have := HA.out
        rwa [List.take_of_length_le (by rw [← HN.out]; omega)] at this
      have hres : fewR l most bytes = decide ((n : Int) ≤ (most : Int)) := by
        unfold fewR
        rw [hall, Bool.true_and, ← HN.out]
        by_cases h : n ≤ most
        · rw [decide_eq_true h, decide_eq_true (by omega)]
        · rw [decide_eq_false h, decide_eq_false (by omega)]
      have HR := Lib.hid hres
      clear hall hres
      go_wp2_with fail
      go_ret
      rw [HR.out]
      exact ⟨by simp, HK.out⟩
end Go.Proofs.YtjeammmfdniokaaGreat

namespace Go.Proofs.YtjeammmfdniokaaGreat
open Go.RowKit

theorem infoRc : (Tryz.prog.info? 46).map (fun i => (i.zero, i.size, i.bytes)) = some (some (.agg #[.bool false, .int .u64 0, .string ⟨#[]⟩, .string ⟨#[]⟩]), 4, 48) := by kernel_rfl
def rcFour (r : Rec) : List Value := [.bool r.del, .int .u64 (r.seq : Int), .string (strOfNums r.key), .string (strOfNums r.val)]
def rcFlat (l : List Rec) : List Value := l.flatMap rcFour
theorem rcFlat_append (a b : List Rec) : rcFlat (a ++ b) = rcFlat a ++ rcFlat b := List.flatMap_append
theorem rcFlat_at : ∀ (l : List Rec) (i j : Nat), i < l.length → j < 4 → (rcFlat l)[i * 4 + j]? = (rcFour (l.getD i Rec.none))[j]?
  | [], i, j, h, _ => by simp at h
  | r :: l, 0, j, _, hj => by
    rw [rcFlat, List.flatMap_cons, List.getElem?_append_left (by simp [rcFour]; omega)]
    simp
  | r :: l, i + 1, j, h, hj => by
    rw [rcFlat, List.flatMap_cons, List.getElem?_append_right (by simp [rcFour]; omega), ← rcFlat]
    have e : (i + 1) * 4 + j - (rcFour r).length = i * 4 + j := by simp [rcFour]; omega
    rw [e, rcFlat_at l i j (by simpa using h) hj]
    simp
theorem RecsAt.nil (w : World) (p : Option Addr) : RecsAt w p [] := fun i hi => by simp at hi

/-- A new row of records. -/
def NewRecs (w : World) (l : List Rec) (v : Value) (w' : World) : Prop :=
  ∃ (q : Option Addr) (m d : Nat), v = .slice q m d ∧ m = l.length ∧ m ≤ d ∧ d ≤ 9223372036854775807 ∧ (q = none → m = 0 ∧ d = 0) ∧ RecsAt w' q l ∧ Keeps NoBlock w w'
/-- A row of one's own so far. -/
def RecsSoFar (w0 : World) (l : List Rec) (v : Value) (wr : World) : Prop := wr.ownsRow w0.heap.size 46 4 v l.length (rcFlat l) ∧ Below w0.heap.size w0 wr
theorem RecsSoFar.start (w0 : World) : RecsSoFar w0 [] (.slice none 0 0) w0 := ⟨⟨by simp [rcFlat], .inl ⟨rfl, rfl⟩⟩, Below.refl _ _⟩
theorem RecsSoFar.alloc {w0 wr : World} {l : List Rec} {v : Value} (h : RecsSoFar w0 l v wr) (o : Obj) : RecsSoFar w0 l v (wr.alloc o) := ⟨World.ownsRow.alloc h.1 o, h.2.alloc h.2.size o⟩
theorem RecsSoFar.keep {w0 wr w' : World} {l : List Rec} {v : Value} (h : RecsSoFar w0 l v wr) (hk : Keeps NoBlock wr w') : RecsSoFar w0 l v w' := by
  refine ⟨⟨h.1.1, ?_⟩, h.2.trans (hk.below h.2.size (fun _ _ h => h))⟩
  rcases h.1.2 with hn | ⟨g, cap, cur, rfl, hb, hgg, rest⟩
  · exact .inl hn
  · have hlt : g < wr.heap.size := (Array.getElem?_eq_some_iff.1 hgg).1
    exact .inr ⟨g, cap, cur, rfl, hb, (hk.block g hlt (fun h => h)).trans hgg, rest⟩
theorem RecsSoFar.keeps {w0 wr : World} {l : List Rec} {v : Value} (h : RecsSoFar w0 l v wr) : Keeps NoBlock w0 wr := .ofBelow h.2
theorem RecsSoFar.new {w0 wr : World} {l : List Rec} {v : Value} (h : RecsSoFar w0 l v wr) : NewRecs w0 l v wr := by
  have h' := h.1
  rcases h.1 with ⟨_, ⟨rfl, h0⟩ | ⟨g, cap, cur, rfl, hg, hh, hc1, hc2, hc3, hc4⟩⟩
  · obtain rfl : l = [] := List.length_eq_zero_iff.1 h0
    exact ⟨none, 0, 0, rfl, rfl, Nat.le_refl _, by decide, fun _ => ⟨rfl, rfl⟩, RecsAt.nil _ _, h.keeps⟩
  · refine ⟨_, _, cap, rfl, rfl, hc1, by unfold maxLen at hc2; omega, fun h => by simp at h, fun i hi => ?_, h.keeps⟩
    have hc := h'.cells (g := g) rfl
    have ha : ∀ j u, j < 4 → (rcFour (l.getD i Rec.none))[j]? = some u → wr.cell? ⟨g, i * 4 + j, none⟩ = some u := fun j u hj hu => by
      have := hc (i * 4 + j) u (by rw [rcFlat_at l i j hi hj]; exact hu)
      rw [Addr.add_lit, Nat.zero_add] at this
      exact this
    refine ⟨⟨g, 0, none⟩, rfl, ?_⟩
    simp only [Addr.add_lit, Nat.zero_add]
    exact ⟨ha 0 _ (by decide) rfl, ha 1 _ (by decide) rfl, ha 2 _ (by decide) rfl, ha 3 _ (by decide) rfl⟩

end Go.Proofs.YtjeammmfdniokaaGreat

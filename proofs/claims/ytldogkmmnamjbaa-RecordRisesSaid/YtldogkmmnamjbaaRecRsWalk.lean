/-
  The law RecordRises: its walk.
-/
import Derived.Test.YtldogkmmnamjbaaRecBdWalk
import Derived.Test.YtldogkmmnamjbaaCurC
namespace Go.Proofs.Ytldogkmmnamjbaa
open Go.RowKit

theorem infoRec : (Try.prog.info? 31).map (fun i => (i.zero, i.size, i.bytes)) = some (some (.agg #[.bool false, .int .u64 0, .string ⟨#[]⟩, .string ⟨#[]⟩]), 4, 48) := by kernel_rfl

def recFour (r : Rec) : List Value := [.bool r.del, .int .u64 (r.seq : Int), .string (strOfNums r.key), .string (strOfNums r.val)]
def recFlat (l : List Rec) : List Value := l.flatMap recFour
theorem recFlat_len (l : List Rec) : (recFlat l).length = l.length * 4 := by
  induction l with
  | nil => rfl
  | cons r l ih =>
    rw [recFlat, List.flatMap_cons, List.length_append, ← recFlat, ih]
    simp [recFour]
    omega
theorem recFlat_append (a b : List Rec) : recFlat (a ++ b) = recFlat a ++ recFlat b := List.flatMap_append
theorem recFlat_at : ∀ (l : List Rec) (i j : Nat), i < l.length → j < 4 → (recFlat l)[i * 4 + j]? = (recFour (l.getD i Rec.none))[j]?
  | [], i, j, h, _ => by simp at h
  | r :: l, 0, j, _, hj => by
    rw [recFlat, List.flatMap_cons, List.getElem?_append_left (by simp [recFour]; omega)]
    simp
  | r :: l, i + 1, j, h, hj => by
    rw [recFlat, List.flatMap_cons, List.getElem?_append_right (by simp [recFour]; omega), ← recFlat]
    have e : (i + 1) * 4 + j - (recFour r).length = i * 4 + j := by simp [recFour]; omega
    rw [e, recFlat_at l i j (by simpa using h) hj]
    simp

theorem RecsAt.ofOwn {w : World} {base n : Nat} {v : Value} {l : List Rec} (h : w.ownsRow base 31 4 v n (recFlat l)) (hn : n = l.length) :
    ∃ p c, v = .slice p n c ∧ n ≤ c ∧ c ≤ 9223372036854775807 ∧ RecsAt w p l := by
  have h' := h
  rcases h with ⟨_, ⟨rfl, rfl⟩ | ⟨g, cap, cur, rfl, hg, hh, hc1, hc2, hc3, hc4⟩⟩
  · exact ⟨none, 0, rfl, Nat.le_refl _, by decide, fun i hi => by omega⟩
  · refine ⟨_, cap, rfl, hc1, by unfold maxLen at hc2; omega, fun i hi => ?_⟩
    have hc := h'.cells (g := g) rfl
    have ha : ∀ j u, j < 4 → (recFour (l.getD i Rec.none))[j]? = some u → w.cell? ⟨g, i * 4 + j, none⟩ = some u := fun j u hj hu => by
      have := hc (i * 4 + j) u (by rw [recFlat_at l i j hi hj]; exact hu)
      rw [Addr.add_lit, Nat.zero_add] at this
      exact this
    refine ⟨⟨g, 0, none⟩, rfl, ?_, ?_, ?_, ?_⟩
    all_goals simp only [Addr.add_lit, Nat.zero_add]
    · exact ha 0 _ (by decide) rfl
    · exact ha 1 _ (by decide) rfl
    · exact ha 2 _ (by decide) rfl
    · exact ha 3 _ (by decide) rfl

/-- The records picked so far. -/
def PartAt (w0 : World) (l : List Rec) (j : Nat) (v : Value) (wr : World) : Prop :=
  ∃ m : List Rec, m.Sublist (l.take j) ∧ wr.ownsRow w0.heap.size 31 4 v m.length (recFlat m) ∧ Below w0.heap.size w0 wr

set_option maxHeartbeats 8000000 in
set_option maxRecDepth 10000 in
theorem recrises_walk (HO : BodyOk) (H : RisesOk) (p : Option Addr) (n c : Nat) (l : List Rec) (s : Nat) (z : Int) (hzs : z = (s : Int)) (w : World) (hn : n = l.length) (hc : n ≤ c) (hc' : c ≤ 9223372036854775807) (hf : ∀ r ∈ l, r.Fine) (hb : ∀ r ∈ l, r.key.length ≤ 9223372036854775807 ∧ r.val.length ≤ 9223372036854775807) (hl : RecsAt w p l) :
    Calls Try.prog 3 #[.slice p n c, .int .u32 z] w fun e w' => e = .returned (.bool true) ∧ Keeps NoBlock w w' := by
  subst hzs
  have HLv := Lib.hid (fun w => lives7_true HO w)
  have HFw := Lib.hid (fun (w : World) hl => few_any p n c l 30 5000 30 5000 rfl rfl hn (by omega) hb w hl)
  have HL := Lib.hid hl
  by_cases hlt : fewR l 30 5000 = true
  · rw [hlt] at HFw
    unfold fewR at hlt
    rw [Bool.and_eq_true, decide_eq_true_eq] at hlt
    have hmod : ∀ r ∈ l, r.Modest := fun r hr => little_modest (hf r hr) (List.all_eq_true.1 hlt.1 r hr)
    have hn30 : n ≤ 30 := by omega
    have HR := Lib.hid (fun w hl => H.rising p n c l w hn hc hc' (by omega) hmod hl)
    have HR2 := Lib.hid (fun w hl => rising7_ref p n c l hn (by omega) (fun r hr => by have h1 := (hmod r hr).key; have h2 := (hmod r hr).val; omega) hf w hl)
    have HP := Lib.hid (fun (q : Option Addr) (m d : Nat) (k : List Rec) (w : World) (hk : m = k.length) (hd : m ≤ d) (hd' : d ≤ 9223372036854775807) (hs : k.Sublist l) hl => H.rising q m d k w hk hd hd' (by have := hs.length_le; omega) (fun r hr => hmod r (hs.subset hr)) hl)
    have HN := Lib.hid hn
    have HRp := Lib.hid (fun (m : List Rec) (h : risingR l = 0) (hs : m.Sublist l) => risingR_part h hs)
    obtain ⟨e, he⟩ : ∃ e, e = risingR l := ⟨_, rfl⟩
    rw [← he] at HR HR2 HRp
    clear H hmod he hlt hf hb hl hn
    obtain ⟨i0, hi, hz0, hz1, hz2⟩ := info_parts infoRec
    go_enter Try.func3, Try.ntmps3
    go_wp2_with fail
    refine (HLv.out _).mono ?_
    rintro e w1 ⟨rfl, hk⟩
    have HK := Lib.hid hk
    have HL := Lib.hid (HL.out.keep hk (fun _ _ h => h))
    clear hk
    go_wp2_with fail
    refine (HFw.out _ HL.out).mono ?_
    rintro e w2 ⟨rfl, hk⟩
    have HK := Lib.hid (HK.out.trans hk)
    have HL := Lib.hid (HL.out.keep hk (fun _ _ h => h))
    clear hk
    go_wp2_with fail
    refine (HR.out _ HL.out).mono ?_
    rintro e w3 ⟨rfl, hk⟩
    have HK := Lib.hid (HK.out.trans hk)
    have HL := Lib.hid (HL.out.keep hk (fun _ _ h => h))
    clear hk
    go_wp2_with fail
    refine (HR2.out _ HL.out).mono ?_
    rintro e w4 ⟨rfl, hk⟩
    have HK := Lib.hid (HK.out.trans hk)
    have HL := Lib.hid (HL.out.keep hk (fun _ _ h => h))
    clear hk
    go_wp2_with fail
    go_loopw [25, 6] (fun i v wr => ∃ j : Nat, j ≤ n ∧ i = .int .i64 (j : Int) ∧ PartAt w4 l j v wr) (fun i _ _ => n - (intOf i).toNat)
    case atStart => exact ⟨0, Nat.zero_le _, rfl, [], List.Sublist.refl _, World.ownsRow_nil _ _ _ _, Below.refl _ _⟩
    case round =>
      obtain ⟨j, hj, rfl, m, hm, hown, hbel⟩ := hrel
      have HM := Lib.hid hm
      have HO := Lib.hid hown
      have HB := Lib.hid hbel
      clear hm hown hbel
      by_cases hlt : j < n
      · have hdj : decide ((j : Int) < (n : Int)) = true := decide_eq_true (by omega)
        have hjl : j < l.length := by rw [← HN.out]; exact hlt
        obtain ⟨a, rfl, c0, c1, c2, c3⟩ := (HL.out.keep (Keeps.ofBelow (S := NoBlock) HB.out) (fun _ _ h => h)) j hjl
        have HT : Hid (l.take (j + 1) = l.take j ++ [l.getD j Rec.none]) := Lib.hid (by rw [List.take_succ_eq_append_getElem hjl]; simp [hjl])
        obtain ⟨r, hr⟩ : ∃ r, r = l.getD j Rec.none := ⟨_, rfl⟩
        rw [← hr] at c0 c1 c2 c3 HT
        clear hr hjl
        have hN : Whole ((wr.alloc (.cells #[.bool r.del, .int .u64 (r.seq : Int), .string (strOfNums r.key), .string (strOfNums r.val)] 31)).alloc (.cells #[.bool r.del, .int .u64 (r.seq : Int), .string (strOfNums r.key), .string (strOfNums r.val)] 31)) (wr.heap.size + 1) 31 (recCells r) := by
          have e : (wr.alloc (.cells #[.bool r.del, .int .u64 (r.seq : Int), .string (strOfNums r.key), .string (strOfNums r.val)] 31)).heap.size = wr.heap.size + 1 := by simp
          rw [← e]
          exact Whole.new _ _ (recCells r)
        have HW := Lib.hid hN
        have HO1 := Lib.hid (HO.out.alloc (.cells #[.bool r.del, .int .u64 (r.seq : Int), .string (strOfNums r.key), .string (strOfNums r.val)] 31))
        have HO2 := Lib.hid ((HO.out.alloc (.cells #[.bool r.del, .int .u64 (r.seq : Int), .string (strOfNums r.key), .string (strOfNums r.val)] 31)).alloc (.cells #[.bool r.del, .int .u64 (r.seq : Int), .string (strOfNums r.key), .string (strOfNums r.val)] 31))
        have HB1 := Lib.hid (HB.out.alloc HB.out.size (.cells #[.bool r.del, .int .u64 (r.seq : Int), .string (strOfNums r.key), .string (strOfNums r.val)] 31))
        have HB2 := Lib.hid (HB1.out.alloc (by have := HB.out.size; simp; omega) (.cells #[.bool r.del, .int .u64 (r.seq : Int), .string (strOfNums r.key), .string (strOfNums r.val)] 31))
        clear hN HO HB
        go_wp2_with (at_builtin; refine wpList_append_own _ rfl _ _ 22 rfl w4.heap.size 31 i0 (.agg #[.bool false, .int .u64 0, .string ⟨#[]⟩, .string ⟨#[]⟩]) 4 48 Try.underlying22 hi hz0 hz1 hz2 rfl (by decide) _ _ _ rfl HO2.out ⟨wr.heap.size + 1, 0, none⟩ 1 1 (recFour r) rfl ?qc1 ?qc2 ?qc3 ?qc4 ?qc5 ?qc6 ?_)
        case qc1 => rfl
        case qc2 =>
          intro j' u hu
          obtain ⟨d0, d1, d2, d3⟩ := RecAt.ofWhole HW.out
          rw [Addr.add_lit, Nat.zero_add]
          match j', hu with
          | 0, hu => obtain rfl := Option.some.inj hu; exact d0
          | 1, hu => obtain rfl := Option.some.inj hu; exact d1
          | 2, hu => obtain rfl := Option.some.inj hu; exact d2
          | 3, hu => obtain rfl := Option.some.inj hu; exact d3
          | k + 4, hu => simp [recFour] at hu
        case qc3 =>
          intro u hu
          simp only [recFour, List.mem_cons, List.not_mem_nil, or_false] at hu
          rcases hu with rfl | rfl | rfl | rfl <;> rfl
        case qc4 =>
          have := HM.out.length_le
          rw [List.length_take] at this
          unfold maxLen
          omega
        case qc5 =>
          have := HM.out.length_le
          rw [List.length_take] at this
          omega
        case qc6 => exact HB2.out.size
        · intro v' w5 hown hgrow _
          have HC : Hid (PartAt w4 l (j + 1) v' w5) := Lib.hid (by
            refine ⟨m ++ [r], ?_, ?_, HB2.out.grown hgrow HB2.out.size (fun k hk => (HO2.out.lt k hk).1)⟩
            · rw [HT.out]
              exact HM.out.append (List.Sublist.refl _)
            · rw [recFlat_append, List.length_append]
              simpa [recFlat] using hown)
          clear hown hgrow
          go_wp2_with fail
          exact ⟨⟨j + 1, by omega, by go_num, HC.out⟩, by simp [intOf]; omega⟩
        · have HC : Hid (PartAt w4 l (j + 1) _ (wr.alloc (.cells #[.bool r.del, .int .u64 (r.seq : Int), .string (strOfNums r.key), .string (strOfNums r.val)] 31))) := Lib.hid (by
            refine ⟨m, ?_, HO1.out, HB1.out⟩
            rw [HT.out]
            exact HM.out.trans (List.sublist_append_left _ _))
          exact ⟨⟨j + 1, by omega, by go_num, HC.out⟩, by simp [intOf]; omega⟩
      · have hdj : decide ((j : Int) < (n : Int)) = false := decide_eq_false (by omega)
        have HKw := Lib.hid (HK.out.trans (Keeps.ofBelow (S := NoBlock) HB.out))
        have hsub : m.Sublist l := HM.out.trans (List.take_sublist _ _)
        by_cases h0 : e = 0
        · subst h0
          obtain ⟨q, d, rfl, hd, hd', hla⟩ := RecsAt.ofOwn HO.out rfl
          have HPm := Lib.hid (fun w hl => HP.out q m.length d m w rfl hd hd' hsub hl)
          rw [HRp.out m rfl hsub] at HPm
          have HQ := Lib.hid hla
          clear hla hd hd' hsub HO HB HM
          go_wp2_with fail
          refine (HPm.out _ HQ.out).mono ?_
          rintro e w5 ⟨rfl, hk⟩
          have HK9 := Lib.hid (HKw.out.trans hk)
          clear hk
          go_wp2_with fail
          go_ret
          exact ⟨rfl, HK9.out⟩
        · have hzb : (e != 0) = true := by simpa using h0
          have hzd : decide (e = 0) = false := decide_eq_false h0
          clear HO HB HM hsub
          go_wp2_with fail
          go_ret
          exact ⟨rfl, HKw.out⟩
  · have hlf : fewR l 30 5000 = false := by simpa using hlt
    rw [hlf] at HFw
    clear H hlt hlf hf hb hn hl
    go_enter Try.func3, Try.ntmps3
    go_wp2_with fail
    refine (HLv.out _).mono ?_
    rintro e w1 ⟨rfl, hk⟩
    have HK := Lib.hid hk
    have HL := Lib.hid (HL.out.keep hk (fun _ _ h => h))
    clear hk
    go_wp2_with fail
    refine (HFw.out _ HL.out).mono ?_
    rintro e w2 ⟨rfl, hk⟩
    have HK := Lib.hid (HK.out.trans hk)
    clear hk
    go_wp2_with fail
    refine (HLv.out _).mono ?_
    rintro e w3 ⟨rfl, hk⟩
    have HK := Lib.hid (HK.out.trans hk)
    clear hk
    go_wp2_with fail
    go_ret
    exact ⟨rfl, HK.out⟩
end Go.Proofs.Ytldogkmmnamjbaa

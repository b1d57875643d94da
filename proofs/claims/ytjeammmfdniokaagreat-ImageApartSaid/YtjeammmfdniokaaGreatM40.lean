/-
  ImPlNum; DeGuess; DeDec; ImApWalk; DeLaws; DeBaWalk.
-/
import Derived.Test.YtjeammmfdniokaaGreatM07
import Derived.Test.YtjeammmfdniokaaGreatM11
import Derived.Test.YtjeammmfdniokaaGreatM12
import Derived.Test.YtjeammmfdniokaaGreatM17
import Derived.Test.YtjeammmfdniokaaGreatM19
import Derived.Test.YtjeammmfdniokaaGreatM20
import Derived.Test.YtjeammmfdniokaaGreatM21
import Derived.Test.YtjeammmfdniokaaGreatM30
namespace Go.Proofs.YtjeammmfdniokaaGreat

theorem recsB_split {p : List Rec} {k : Nat} (h : k < p.length) : recsB p = recsB (p.take k) ++ (recB (p.getD k Rec.none) ++ recsB (p.drop (k + 1))) := by
  have e1 : p = p.take k ++ (p.getD k Rec.none :: p.drop (k + 1)) := by
    have h1 := List.drop_eq_getElem_cons h
    have h2 := List.take_append_drop k p
    rw [h1] at h2
    have h3 : p.getD k Rec.none = p[k] := by simp [h]
    rw [h3]
    exact h2.symm
  have e2 : ∀ a b : List Rec, recsB (a ++ b) = recsB a ++ recsB b := fun a b => by unfold recsB; rw [List.flatMap_append]
  conv => lhs; rw [e1]
  rw [e2]
  unfold recsB
  rw [List.flatMap_cons]
/-- In a segment's text a record's frame stands at its place. -/
theorem text_at {e s n : Nat} {p : List Rec} {k : Nat} (b : Bool) (h : k < p.length) :
    ∃ x y, textS e s n p b = x ++ (recB (p.getD k Rec.none) ++ y) ∧ x.length = (placesS e s n p).getD k 0 := by
  refine ⟨outS e s n (p.take k), recsB (p.drop (k + 1)) ++ ((if b = true then footS e s n p else []) ++ List.replicate (2 ^ e - (framesS e s n p b).length) 255), ?_, (places_at h).symm⟩
  have h1 : outS e s n p = outS e s n (p.take k) ++ (recB (p.getD k Rec.none) ++ recsB (p.drop (k + 1))) := by
    unfold outS
    rw [recsB_split h, List.append_assoc]
  have h2 : textS e s n p b = framesS e s n p b ++ List.replicate (2 ^ e - (framesS e s n p b).length) 255 := rfl
  obtain ⟨R, hR⟩ : ∃ R, R = List.replicate (2 ^ e - (framesS e s n p b).length) (255 : Int) := ⟨_, rfl⟩
  rw [← hR] at h2 ⊢
  rw [h2]
  unfold framesS
  rw [h1]
  simp only [List.append_assoc]

/-- What is asked of a record's place. -/
structure Stands (X : List Int) (Q i0 m : Nat) (r : Rec) (x : Nat × Nat) : Prop where
  lo : i0 ≤ x.1
  hi : x.1 < i0 + m
  at_ : (X.drop ((x.1 - i0) * Q + x.2)).take (recB r).length = recB r
  le : (x.1 - i0) * Q + x.2 + (recB r).length ≤ X.length
theorem stands_go {e s m : Nat} : ∀ (ps : List (List Rec)) (i0 : Nat), (∀ j p, ps[j]? = some p → PartIn e s (i0 + j) p) →
    (placesGo e s i0 ps).length = ps.flatten.length ∧ ∀ k, k < ps.flatten.length → Stands (segsGo e s m i0 ps) (2 ^ e) i0 ps.length (ps.flatten.getD k Rec.none) ((placesGo e s i0 ps).getD k (0, 0))
  | [], i0, _ => ⟨rfl, fun k hk => by simp at hk⟩
  | p :: ps, i0, h => by
    obtain ⟨h1, h2⟩ := stands_go (e := e) (s := s) (m := m) ps (i0 + 1) (fun j q hq => by
      have := h (j + 1) q (by simpa using hq)
      rwa [show i0 + (j + 1) = i0 + 1 + j by omega] at this)
    have hl := ((h 0 p rfl).length (decide (i0 + 1 < m))).1
    rw [Nat.add_zero] at hl
    have hpl : ((placesS e s i0 p).map (fun a => (i0, a))).length = p.length := by rw [List.length_map, places_length]
    refine ⟨by rw [placesGo, List.length_append, hpl, h1, List.flatten_cons, List.length_append], fun k hk => ?_⟩
    rw [List.flatten_cons, List.length_append] at hk
    by_cases hkp : k < p.length
    · have e1 : (p :: ps).flatten.getD k Rec.none = p.getD k Rec.none := by
        rw [List.flatten_cons, List.getD_eq_getElem?_getD, List.getD_eq_getElem?_getD, List.getElem?_append_left hkp]
      have e2 : (placesGo e s i0 (p :: ps)).getD k (0, 0) = (i0, (placesS e s i0 p).getD k 0) := by
        have hk3 : k < (placesS e s i0 p).length := by rw [places_length]; exact hkp
        rw [placesGo, List.getD_eq_getElem?_getD, List.getElem?_append_left (by rw [hpl]; exact hkp), List.getElem?_map, List.getElem?_eq_getElem hk3, List.getD_eq_getElem?_getD, List.getElem?_eq_getElem hk3]
        rfl
      rw [e1, e2]
      obtain ⟨x, y, hx, hxl⟩ := text_at (e := e) (s := s) (n := i0) (decide (i0 + 1 < m)) hkp
      rw [← hxl]
      have e3 : segsGo e s m i0 (p :: ps) = x ++ (recB (p.getD k Rec.none) ++ (y ++ segsGo e s m (i0 + 1) ps)) := by rw [segsGo, hx, List.append_assoc, List.append_assoc]
      refine ⟨Nat.le_refl _, by rw [List.length_cons]; show i0 < _; omega, ?_, ?_⟩
      · rw [e3, Nat.sub_self, Nat.zero_mul, Nat.zero_add, List.drop_left, List.take_left]
      · rw [e3, Nat.sub_self, Nat.zero_mul, Nat.zero_add, List.length_append, List.length_append]
        omega
    · obtain ⟨s1, s2, s3, s4⟩ := h2 (k - p.length) (by omega)
      have e1 : (p :: ps).flatten.getD k Rec.none = ps.flatten.getD (k - p.length) Rec.none := by
        rw [List.flatten_cons, List.getD_eq_getElem?_getD, List.getD_eq_getElem?_getD, List.getElem?_append_right (by omega)]
      have e2 : (placesGo e s i0 (p :: ps)).getD k (0, 0) = (placesGo e s (i0 + 1) ps).getD (k - p.length) (0, 0) := by
        rw [placesGo, List.getD_eq_getElem?_getD, List.getElem?_append_right (by rw [hpl]; omega), hpl, ← List.getD_eq_getElem?_getD]
      rw [e1, e2]
      obtain ⟨x, hx⟩ : ∃ x, x = (placesGo e s (i0 + 1) ps).getD (k - p.length) (0, 0) := ⟨_, rfl⟩
      rw [← hx] at s1 s2 s3 s4 ⊢
      have e4 : (x.1 - i0) * 2 ^ e + x.2 = 2 ^ e + ((x.1 - (i0 + 1)) * 2 ^ e + x.2) := by
        rw [show x.1 - i0 = (x.1 - (i0 + 1)) + 1 by omega, Nat.add_mul, Nat.one_mul]
        omega
      have e5 : segsGo e s m i0 (p :: ps) = textS e s i0 p (decide (i0 + 1 < m)) ++ segsGo e s m (i0 + 1) ps := rfl
      refine ⟨by omega, by rw [List.length_cons]; omega, ?_, ?_⟩
      · rw [e5, e4, ← List.drop_drop, List.drop_left' hl]
        exact s3
      · rw [e5, e4, List.length_append, hl]
        omega
/-- Each record of an image stands at its place. -/
theorem image_stands {e s : Nat} {l : List Rec} (h9 : l.length ≤ 10000) (h : (planI e s l).1 = 0) :
    (placesI e s l).length = l.length ∧ (encI e s l).2.length = countI e s l * 2 ^ e ∧ countI e s l ≤ s ∧ ∀ k, k < l.length → Stands (encI e s l).2 (2 ^ e) 0 (countI e s l) (l.getD k Rec.none) ((placesI e s l).getD k (0, 0)) := by
  have hp := (plan_parts h9 h).2
  have hf := (parts_all h).1
  obtain ⟨g1, g2⟩ := stands_go (e := e) (s := s) (m := (partsGo [] l (planI e s l).2).length) (partsGo [] l (planI e s l).2) 0 (fun j p hj => by rw [Nat.zero_add]; exact hp j p hj)
  have hc : countI e s l = (partsGo [] l (planI e s l).2).length := by unfold countI; rw [if_neg (by rw [h]; simp)]
  have hpl : placesI e s l = placesGo e s 0 (partsGo [] l (planI e s l).2) := by unfold placesI; rw [if_neg (by rw [h]; simp)]
  have he : (encI e s l).2 = segsGo e s (partsGo [] l (planI e s l).2).length 0 (partsGo [] l (planI e s l).2) := by unfold encI; rw [if_neg (by rw [h]; simp)]
  rw [hf] at g1 g2
  refine ⟨by rw [hpl]; exact g1, by rw [hc]; exact image_length h9 h, by rw [hc]; exact parts_few h9 h, fun k hk => ?_⟩
  rw [he, hpl, hc]
  exact g2 k hk
end Go.Proofs.YtjeammmfdniokaaGreat

namespace Go.Proofs.YtjeammmfdniokaaGreat
open Go.RowKit

/-- Going through an image's bytes chunk by chunk: how far it has come. -/
structure GuSt (ys : List Int) (i f : Nat) (l : List Rec) : Prop where
  le : f ≤ i ∧ i ≤ ys.length
  at_ : guessI ys = l ++ guessC (chunksGo ((ys.take i).drop f) (ys.drop i))
  many : (recsB l).length ≤ f
  fine : ∀ r ∈ l, r.Fine ∧ checkR r = 0
theorem GuSt.start (ys : List Int) : GuSt ys 0 0 [] := ⟨⟨Nat.le_refl _, Nat.zero_le _⟩, by simp [guessI], by simp [recsB], fun r hr => by simp at hr⟩
theorem GuSt.other {ys : List Int} {i f : Nat} {l : List Rec} (h : GuSt ys i f l) (hi : i < ys.length) (hb : ys.getD i 0 ≠ 0) : GuSt ys (i + 1) f l := by
  have hd := drop_cons_getD ys i hi
  have hle := h.le
  refine ⟨by omega, ?_, h.many, h.fine⟩
  rw [h.at_, hd, chunksGo, if_neg hb, take_one hi, List.drop_append_of_le_length (by rw [List.length_take]; omega)]
theorem GuSt.chunk {ys : List Int} {i f : Nat} {l : List Rec} (h : GuSt ys i f l) (hi : i < ys.length) (hb : ys.getD i 0 = 0) :
    guessI ys = l ++ guessC (((ys.take i).drop f) :: chunksGo [] (ys.drop (i + 1))) := by
  have hd := drop_cons_getD ys i hi
  rw [h.at_, hd, chunksGo, if_pos hb]
theorem GuSt.done {ys : List Int} {i f : Nat} {l : List Rec} (h : GuSt ys i f l) (hi : ¬ i < ys.length) : l = guessI ys := by
  have hd : ys.drop i = [] := List.drop_eq_nil_of_le (by omega)
  rw [h.at_, hd]
  simp [chunksGo, guessC]
end Go.Proofs.YtjeammmfdniokaaGreat

namespace Go.Proofs.YtjeammmfdniokaaGreat
open Go.RowKit

theorem segs_octets {e s m : Nat} (he : e < 256) : ∀ (ps : List (List Rec)) (i : Nat), (∀ p ∈ ps, ∀ r ∈ p, r.Fine) → Octets (segsGo e s m i ps)
  | [], _, _ => fun b hb => by simp [segsGo] at hb
  | p :: ps, i, h => by
    rw [segsGo]
    exact (textS_octets he (h p List.mem_cons_self) _).app (segs_octets he ps (i + 1) (fun q hq => h q (List.mem_cons_of_mem _ hq)))
theorem enc_octets {e s : Nat} (he : e < 256) {l : List Rec} (hf : ∀ r ∈ l, r.Fine) : Octets (encI e s l).2 := by
  unfold encI
  by_cases h : (planI e s l).1 ≠ 0
  · rw [if_pos h]
    exact fun b hb => by simp at hb
  · rw [if_neg h]
    have hp := (parts_all (e := e) (s := s) (l := l) (by simpa using h)).1
    refine segs_octets he _ _ (fun p hp' r hr => hf r ?_)
    rw [← hp]
    exact List.mem_flatten.2 ⟨p, hp', hr⟩

end Go.Proofs.YtjeammmfdniokaaGreat

namespace Go.Proofs.YtjeammmfdniokaaGreat
open Go.RowKit

theorem few_lit {l : List Rec} {n k : Nat} (h : fewR l n k = true) : l.length ≤ n ∧ ∀ r ∈ l, r.key.length ≤ k ∧ r.val.length ≤ k := by
  unfold fewR at h
  rw [Bool.and_eq_true, decide_eq_true_eq] at h
  refine ⟨h.2, fun r hr => ?_⟩
  have := List.all_eq_true.1 h.1 r hr
  unfold littleR at this
  rw [Bool.and_eq_true, decide_eq_true_eq, decide_eq_true_eq] at this
  exact this

set_option maxHeartbeats 4000000 in
set_option maxRecDepth 10000 in
theorem imapart_many {At : BAt} (HB : SgBuild At) (HNw : SgNewOk At) (HOp : SgOpenOk At) (H : ImEncOk) (k : Nat) (p : Option Addr) (n c : Nat) (l : List Rec) (q : Option Addr) (m d : Nat) (l' : List Rec) (w : World) (hn : n = l.length) (hc : n ≤ c) (hc' : c ≤ 9223372036854775807) (hb : ∀ r ∈ l, r.key.length ≤ 9223372036854775807 ∧ r.val.length ≤ 9223372036854775807) (hl : RecsAt w p l)
    (hm : m = l'.length) (hd : m ≤ d) (hd' : d ≤ 9223372036854775807) (hb' : ∀ r ∈ l', r.key.length ≤ 9223372036854775807 ∧ r.val.length ≤ 9223372036854775807) (hl' : RecsAt w q l') (hno : fewR l 20 500 = false ∨ fewR l' 20 500 = false) :
    Calls Tryz.prog 6 #[.int .u8 (k : Int), .slice p n c, .slice q m d] w fun e w' => e = .returned (.bool true) ∧ Keeps NoBlock w w' := by
  have HL := Lib.hid (fun w => lives16_true HB HNw HOp H w)
  have HF1 := Lib.hid (fun (w : World) hl => few_any p n c l 20 500 20 500 rfl rfl hn (by omega) hb w hl)
  have HF2 := Lib.hid (fun (w : World) hl => few_any q m d l' 20 500 20 500 rfl rfl hm (by omega) hb' w hl)
  have HR := Lib.hid hl
  have HR' := Lib.hid hl'
  by_cases h1 : fewR l 20 500 = true
  · have h2 : fewR l' 20 500 = false := hno.resolve_left (by rw [h1]; simp)
    rw [h1] at HF1
    rw [h2] at HF2
    clear hl hb hl' hb' HB HNw HOp H hn hm h1 h2 hno
    go_enter Tryz.func6, Tryz.ntmps6
    go_wp2_with fail
    refine (HL.out _).mono ?_
    rintro e w1 ⟨rfl, hk1⟩
    have HK := Lib.hid hk1
    clear hk1
    go_wp2_with fail
    refine (HF1.out _ (HR.out.keep HK.out (fun _ _ h => h))).mono ?_
    rintro e w2 ⟨rfl, hk1⟩
    have HK := Lib.hid (HK.out.trans hk1)
    clear hk1
    go_wp2_with fail
    refine (HF2.out _ (HR'.out.keep HK.out (fun _ _ h => h))).mono ?_
    rintro e w3 ⟨rfl, hk1⟩
    have HK := Lib.hid (HK.out.trans hk1)
    clear hk1
    go_wp2_with fail
    refine (HL.out _).mono ?_
    rintro e w4 ⟨rfl, hk1⟩
    have HK := Lib.hid (HK.out.trans hk1)
    clear hk1
    go_wp2_with fail
    go_ret
    exact ⟨rfl, HK.out⟩
  · rw [Bool.not_eq_true] at h1
    rw [h1] at HF1
    clear hl hb hl' hb' HB HNw HOp H hn hm h1 hno
    go_enter Tryz.func6, Tryz.ntmps6
    go_wp2_with fail
    refine (HL.out _).mono ?_
    rintro e w1 ⟨rfl, hk1⟩
    have HK := Lib.hid hk1
    clear hk1
    go_wp2_with fail
    refine (HF1.out _ (HR.out.keep HK.out (fun _ _ h => h))).mono ?_
    rintro e w2 ⟨rfl, hk1⟩
    have HK := Lib.hid (HK.out.trans hk1)
    clear hk1
    go_wp2_with fail
    refine (HL.out _).mono ?_
    rintro e w4 ⟨rfl, hk1⟩
    have HK := Lib.hid (HK.out.trans hk1)
    clear hk1
    go_wp2_with fail
    go_ret
    exact ⟨rfl, HK.out⟩

set_option maxHeartbeats 8000000 in
set_option maxRecDepth 10000 in
theorem imapart_few {At : BAt} (HB : SgBuild At) (HNw : SgNewOk At) (HOp : SgOpenOk At) (H : ImEncOk) (HSa : ImSameOk) (k : Nat) (p : Option Addr) (n c : Nat) (l : List Rec) (q : Option Addr) (m d : Nat) (l' : List Rec) (w : World) (hk : k < 256) (hn : n = l.length) (hc : n ≤ c) (hc' : c ≤ 9223372036854775807) (hf : ∀ r ∈ l, r.Fine) (hb : ∀ r ∈ l, r.key.length ≤ 9223372036854775807 ∧ r.val.length ≤ 9223372036854775807) (hl : RecsAt w p l)
    (hm : m = l'.length) (hd : m ≤ d) (hd' : d ≤ 9223372036854775807) (hf' : ∀ r ∈ l', r.Fine) (hb' : ∀ r ∈ l', r.key.length ≤ 9223372036854775807 ∧ r.val.length ≤ 9223372036854775807) (hl' : RecsAt w q l') (h1 : fewR l 20 500 = true) (h2 : fewR l' 20 500 = true) :
    Calls Tryz.prog 6 #[.int .u8 (k : Int), .slice p n c, .slice q m d] w fun e w' => e = .returned (.bool true) ∧ Keeps NoBlock w w' := by
  have HL := Lib.hid (fun w => lives16_true HB HNw HOp H w)
  have HF1 := Lib.hid (fun (w : World) hl => few_any p n c l 20 500 20 500 rfl rfl hn (by omega) hb w hl)
  have HF2 := Lib.hid (fun (w : World) hl => few_any q m d l' 20 500 20 500 rfl rfl hm (by omega) hb' w hl)
  rw [h1] at HF1
  rw [h2] at HF2
  obtain ⟨g1, g2⟩ := few_lit h1
  obtain ⟨g3, g4⟩ := few_lit h2
  have HI := Lib.hid (show InR w p n c l from ⟨hn, hc, hc', hf, fun r hr => by have := (g2 r hr).1; omega, fun r hr => by have := (g2 r hr).2; omega, hl⟩)
  have HI' := Lib.hid (show InR w q m d l' from ⟨hm, hd, hd', hf', fun r hr => by have := (g4 r hr).1; omega, fun r hr => by have := (g4 r hr).2; omega, hl'⟩)
  obtain ⟨he1, he2, hs1, hs2⟩ := small_room k
  have HSm := Lib.hid (fun w => small15_go k hk w)
  have HEn := Lib.hid (fun w h => H.enc (smallE k) (smallS k) p n c l w (by omega) (by omega) (by omega) (by omega) h)
  have HEn' := Lib.hid (fun w h => H.enc (smallE k) (smallS k) q m d l' w (by omega) (by omega) (by omega) (by omega) h)
  have HSm1 := Lib.hid (fun w h h' => HSa.same p n c l q m d l' w (by omega) (by omega) h h')
  have HSm2 := Lib.hid (fun w h h' => same16_ref p n c l q m d l' hn hm (by omega) hf hf' w h h')
  have hXo := enc_octets (e := smallE k) (s := smallS k) (by omega) hf
  have hXo' := enc_octets (e := smallE k) (s := smallS k) (by omega) hf'
  have hap := fun h1 h2 => enc_apart (e := smallE k) (s := smallS k) (by omega) (by omega) (l := l) (k := l') (by omega) (by omega) hf hf' h1 h2
  obtain ⟨e, hed⟩ : ∃ e, e = smallE k := ⟨_, rfl⟩
  obtain ⟨s, hsd⟩ : ∃ s, s = smallS k := ⟨_, rfl⟩
  rw [← hed, ← hsd] at HSm HEn HEn' hap hXo hXo'
  obtain ⟨X, hX⟩ : ∃ X, X = (encI e s l).2 := ⟨_, rfl⟩
  obtain ⟨y, hy⟩ : ∃ y, y = (encI e s l).1 := ⟨_, rfl⟩
  obtain ⟨X', hX'⟩ : ∃ X, X = (encI e s l').2 := ⟨_, rfl⟩
  obtain ⟨y', hy'⟩ : ∃ y, y = (encI e s l').1 := ⟨_, rfl⟩
  rw [← hX, ← hy] at HEn
  rw [← hX', ← hy'] at HEn'
  rw [← hX] at hXo
  rw [← hX'] at hXo'
  have HX := Lib.hid hXo
  have HX' := Lib.hid hXo'
  rw [← hX, ← hy, ← hX', ← hy'] at hap
  obtain ⟨t, ht⟩ : ∃ t, t = decide (l = l') := ⟨_, rfl⟩
  rw [← ht] at HSm1 HSm2
  have HT : Hid (y = 0 → y' = 0 → t = decide (X = X')) := Lib.hid (fun h1 h2 => by rw [ht]; exact decide_eq_decide.2 (hap h1 h2).symm)
  clear hX hy hX' hy' hed hsd hXo hXo' hl hb hf hl' hb' hf' HB HNw HOp H HSa hn hm he1 he2 hs1 hs2 h1 h2 g1 g2 g3 g4 ht hap
  unfold confV at HSm HEn HEn'
  go_enter Tryz.func6, Tryz.ntmps6
  go_wp2_with fail
  refine (HL.out _).mono ?_
  rintro e1 w1 ⟨rfl, hk1⟩
  have HK := Lib.hid hk1
  clear hk1
  go_wp2_with fail
  refine (HF1.out _ (HI.out.at_.keep HK.out (fun _ _ h => h))).mono ?_
  rintro e2 w2 ⟨rfl, hk1⟩
  have HK := Lib.hid (HK.out.trans hk1)
  clear hk1
  go_wp2_with fail
  refine (HF2.out _ (HI'.out.at_.keep HK.out (fun _ _ h => h))).mono ?_
  rintro e2 w2 ⟨rfl, hk1⟩
  have HK := Lib.hid (HK.out.trans hk1)
  clear hk1
  go_wp2_with fail
  refine (HSm.out _).mono ?_
  rintro e3 w3 ⟨rfl, hk1⟩
  have HK := Lib.hid (HK.out.trans hk1)
  clear hk1
  go_wp2_with fail
  obtain ⟨wC, hwC⟩ : ∃ wC, wC = w3.alloc (.cells #[.int .u8 (e : Int), .int .u32 (s : Int)] 27) := ⟨_, rfl⟩
  have HK : Hid (Keeps NoBlock w wC) := Lib.hid (by rw [hwC]; exact HK.out.alloc _)
  have HC : Hid (Whole wC w3.heap.size 27 (confCells e s)) := Lib.hid (by rw [hwC]; exact Whole.new w3 _ _)
  rw [← hwC]
  clear hwC
  refine (HEn.out _ (HI.out.keep HK.out)).mono ?_
  rintro e4 w4 ⟨u, rfl, ho, hk1⟩
  obtain ⟨q1, d1, rfl, -, -, h8, -, -⟩ := ho.read
  have HK := Lib.hid (HK.out.trans hk1)
  have HC := Lib.hid (HC.out.keep hk1 (fun h => h))
  have H8 := Lib.hid h8
  clear hk1 ho h8
  have g0 := HC.out.cell 0 rfl
  have g1 := HC.out.cell 1 rfl
  simp only [confCells, List.getElem_toArray, List.getElem_cons_zero, List.getElem_cons_succ] at g0 g1
  go_wp2_with fail
  refine (HEn'.out _ (HI'.out.keep HK.out)).mono ?_
  rintro e5 w5 ⟨u, rfl, ho, hk1⟩
  obtain ⟨q2, d2, rfl, -, -, h8, -, -⟩ := ho.read
  have HK := Lib.hid (HK.out.trans hk1)
  have H8 := Lib.hid (H8.out.keep hk1 (fun _ _ h => h))
  have H8' := Lib.hid h8
  clear hk1 ho h8 g0 g1 HC
  go_wp2_with fail
  refine (HSm1.out _ (HI.out.keep HK.out) (HI'.out.keep HK.out)).mono ?_
  rintro e6 w6 ⟨rfl, hk1⟩
  have HK := Lib.hid (HK.out.trans hk1)
  have H8 := Lib.hid (H8.out.keep hk1 (fun _ _ h => h))
  have H8' := Lib.hid (H8'.out.keep hk1 (fun _ _ h => h))
  clear hk1
  go_wp2_with fail
  refine (HSm2.out _ (HI.out.keep HK.out).at_ (HI'.out.keep HK.out).at_).mono ?_
  rintro e7 w7 ⟨rfl, hk1⟩
  have HK := Lib.hid (HK.out.trans hk1)
  have H8 := Lib.hid (H8.out.keep hk1 (fun _ _ h => h))
  have H8' := Lib.hid (H8'.out.keep hk1 (fun _ _ h => h))
  clear hk1
  obtain ⟨W, rfl⟩ : ∃ W, W = w7 := ⟨_, rfl⟩
  have htt : (t != t) = false := by simp
  by_cases hy : y = 0
  rotate_left
  · have hne : (y != 0) = true := by rw [bne_iff_ne]; exact hy
    clear hy
    go_wp2_with fail
    go_region
    all_goals go_wp2_with fail
    all_goals go_ret
    all_goals exact ⟨rfl, by first | exact HK.out | exact HK.out.drew | exact HK.out.drewN _⟩
  subst hy
  by_cases hy' : y' = 0
  rotate_left
  · have hne : (y' != 0) = true := by rw [bne_iff_ne]; exact hy'
    clear hy'
    go_wp2_with fail
    go_region
    all_goals go_wp2_with fail
    all_goals go_ret
    all_goals exact ⟨rfl, by first | exact HK.out | exact HK.out.drew | exact HK.out.drewN _⟩
  subst hy'
  have htx := str_same HX.out HX'.out
  have ht := HT.out rfl rfl
  rw [← ht] at htx
  have hcc : (t == t) = true := by simp
  clear ht
  go_wp2_with fail
  have s0 := And.intro (textOf q1 X.length d1 X W.drew rfl H8.out) (textOf q2 X'.length d2 X' W.drew rfl H8'.out)
  have sN := And.intro (textOf q1 X.length d1 X W rfl H8.out) (textOf q2 X'.length d2 X' W rfl H8'.out)
  go_region_held3 (fun w' => (convert 29 9 (.slice q1 X.length d1)).run Tryz.prog w' = .ok (.string (strOfNums X)) w' ∧ (convert 29 9 (.slice q2 X'.length d2)).run Tryz.prog w' = .ok (.string (strOfNums X')) w')
    (first | exact s5 | exact s0 | exact sN)
    (first | (go_at_call 16; refine (HSm1.out _ (HI.out.keep (by first | exact HK.out | exact HK.out.drew | exact HK.out.drewN _)) (HI'.out.keep (by first | exact HK.out | exact HK.out.drew | exact HK.out.drewN _))).mono ?_; rintro e w5 ⟨rfl, hk⟩; have hk' : Keeps NoBlock W w5 := (by first | exact hk | exact hk.ofDrew | exact hk.ofDrewN); have HK := Lib.hid (HK.out.trans hk'); have H8 := Lib.hid (H8.out.keep hk' (fun _ _ h => h)); have H8' := Lib.hid (H8'.out.keep hk' (fun _ _ h => h)); have s5 := And.intro (textOf q1 X.length d1 X w5 rfl H8.out) (textOf q2 X'.length d2 X' w5 rfl H8'.out); clear hk hk'; obtain ⟨W, rfl⟩ : ∃ x, x = w5 := ⟨_, rfl⟩))
  all_goals go_wp2_with fail
  all_goals go_ret
  all_goals exact ⟨by first | rfl | simp, by first | exact HK.out | exact HK.out.drew | exact HK.out.drewN _⟩
theorem imapart_walk {At : BAt} (HB : SgBuild At) (HNw : SgNewOk At) (HOp : SgOpenOk At) (H : ImEncOk) (HSa : ImSameOk) (k : Nat) (p : Option Addr) (n c : Nat) (l : List Rec) (q : Option Addr) (m d : Nat) (l' : List Rec) (w : World) (hk : k < 256) (hn : n = l.length) (hc : n ≤ c) (hc' : c ≤ 9223372036854775807) (hf : ∀ r ∈ l, r.Fine) (hb : ∀ r ∈ l, r.key.length ≤ 9223372036854775807 ∧ r.val.length ≤ 9223372036854775807) (hl : RecsAt w p l)
    (hm : m = l'.length) (hd : m ≤ d) (hd' : d ≤ 9223372036854775807) (hf' : ∀ r ∈ l', r.Fine) (hb' : ∀ r ∈ l', r.key.length ≤ 9223372036854775807 ∧ r.val.length ≤ 9223372036854775807) (hl' : RecsAt w q l') :
    Calls Tryz.prog 6 #[.int .u8 (k : Int), .slice p n c, .slice q m d] w fun e w' => e = .returned (.bool true) ∧ Keeps NoBlock w w' := by
  cases h1 : fewR l 20 500
  · exact imapart_many HB HNw HOp H k p n c l q m d l' w hn hc hc' hb hl hm hd hd' hb' hl' (.inl h1)
  · cases h2 : fewR l' 20 500
    · exact imapart_many HB HNw HOp H k p n c l q m d l' w hn hc hc' hb hl hm hd hd' hb' hl' (.inr h2)
    · exact imapart_few HB HNw HOp H HSa k p n c l q m d l' w hk hn hc hc' hf hb hl hm hd hd' hf' hb' hl' h1 h2
end Go.Proofs.YtjeammmfdniokaaGreat

namespace Go.Proofs.YtjeammmfdniokaaGreat
open Go.RowKit

end Go.Proofs.YtjeammmfdniokaaGreat

namespace Go.Proofs.YtjeammmfdniokaaGreat
open Go.RowKit

theorem enc_small {k : Nat} {l : List Rec} (h9 : l.length ≤ 10000) (h : (encI (smallE k) (smallS k) l).1 = 0) : (encI (smallE k) (smallS k) l).2.length ≤ 65536 := by
  have hp := enc_ok.1 h
  rw [image_length h9 hp]
  have h1 := parts_few h9 hp
  obtain ⟨_, _, hs1, hs2⟩ := small_room k
  have hz : 4096 ≤ 2 ^ smallE k ∧ 2 ^ smallE k ≤ 8192 := two15 k
  have h2 := Nat.mul_le_mul (Nat.le_trans h1 hs2) hz.2
  omega

end Go.Proofs.YtjeammmfdniokaaGreat

/-
  The document's Check and Text of pairs.
-/
import Derived.Test.YtdkpkpmgiglnhaaElNum
import Derived.Test.YtdkpkpmgiglnhaaThinRefSum
import Derived.Test.YtdkpkpmgiglnhaaTextEq
import Derived.Test.YtdkpkpmgiglnhaaRecRef
import Derived.Deep.RegionHeld3
namespace Go.Proofs.Ytdkpkpmgiglnhaa
open Go.RowKit

def prV (p : Pr) : Value := .agg #[.string (strOfNums p.key), .string (strOfNums p.val)]
def prCells (p : Pr) : Array Value := #[.string (strOfNums p.key), .string (strOfNums p.val)]
def PrAt (w : World) (g : Nat) (p : Pr) : Prop := w.cell? ⟨g, 0, none⟩ = some (.string (strOfNums p.key)) ∧ w.cell? ⟨g, 1, none⟩ = some (.string (strOfNums p.val))
theorem PrAt.ofWhole {w : World} {g : Nat} {t : TypeId} {p : Pr} (h : Whole w g t (prCells p)) : PrAt w g p := ⟨h.cell 0 rfl, h.cell 1 rfl⟩

set_option maxHeartbeats 800000 in
set_option maxRecDepth 10000 in
theorem check10_ref (p : Pr) (h1 : p.key.length ≤ 9223372036854775807) (h2 : p.val.length ≤ 9223372036854775807) (w : World) :
    Calls Try.prog 13 #[prV p] w fun e w' => e = .returned (.int .i64 (checkP p)) ∧ Keeps NoBlock w w' := by
  have hs1 := str_size p.key
  have hs2 := str_size p.val
  have hem := str_isnone p.key
  have HK := Lib.hid ((Keeps.refl NoBlock w).alloc (.cells (prCells p) 36))
  have hdef : checkP p = if p.key.length = 0 then 4 else if 4096 < p.key.length ∨ 1048576 < p.val.length then 3 else 0 := rfl
  have hem0 : p.key.isEmpty = decide (p.key.length = 0) := by cases p.key <;> simp
  rw [hem0] at hem
  obtain ⟨k, hk⟩ : ∃ k, k = p.key.length := ⟨_, rfl⟩
  obtain ⟨v, hv⟩ : ∃ v, v = p.val.length := ⟨_, rfl⟩
  rw [← hk] at hs1 hem h1 hdef
  rw [← hv] at hs2 h2 hdef
  clear hk hv hem0
  unfold prV
  by_cases c0 : k = 0
  · have HD := Lib.hid (hdef.trans (if_pos c0))
    rw [decide_eq_true c0] at hem
    clear hdef c0
    go_enter Try.func13, Try.ntmps13
    go_wp2_with fail
    go_ret
    exact ⟨by rw [HD.out]; rfl, HK.out⟩
  · rw [decide_eq_false c0] at hem
    rw [if_neg c0] at hdef
    by_cases c1 : 4096 < k
    · have HD := Lib.hid (hdef.trans (if_pos (.inl c1)))
      have d1 : decide ((4096 : Int) < (k : Int)) = true := decide_eq_true (by omega)
      clear hdef c0 c1
      go_enter Try.func13, Try.ntmps13
      go_wp2_with fail
      go_ret
      exact ⟨by rw [HD.out]; rfl, HK.out⟩
    · have d1 : decide ((4096 : Int) < (k : Int)) = false := decide_eq_false (by omega)
      by_cases c2 : 1048576 < v
      · have HD := Lib.hid (hdef.trans (if_pos (.inr c2)))
        have d2 : decide ((1048576 : Int) < (v : Int)) = true := decide_eq_true (by omega)
        clear hdef c0 c1 c2
        go_enter Try.func13, Try.ntmps13
        go_wp2_with fail
        go_ret
        exact ⟨by rw [HD.out]; rfl, HK.out⟩
      · have HD := Lib.hid (hdef.trans (if_neg (fun h => h.elim c1 c2)))
        have d2 : decide ((1048576 : Int) < (v : Int)) = false := decide_eq_false (by omega)
        clear hdef c0 c1 c2
        go_enter Try.func13, Try.ntmps13
        go_wp2_with fail
        go_ret
        exact ⟨by rw [HD.out]; rfl, HK.out⟩

set_option maxHeartbeats 4000000 in
set_option maxRecDepth 10000 in
theorem text10_ref (p : Pr) (hf : p.Fine) (h1 : p.key.length ≤ 10000000) (h2 : p.val.length ≤ 10000000) (w : World) :
    Calls Try.prog 16 #[prV p] w fun e w' => e = .returned (.string (strOfNums (textP p))) ∧ Keeps NoBlock w w' := by
  have hs1 := str_size p.key
  have hs2 := str_size p.val
  have HNk := Lib.hid (fun w => num_any (IntKind.u64.wrap (p.key.length : Int)) 4 4 rfl (by decide) (by rw [IntKind.wrap_u64]; omega) (by rw [IntKind.wrap_u64]; omega) w)
  have HNv := Lib.hid (fun w => num_any (IntKind.u64.wrap (p.val.length : Int)) 4 4 rfl (by decide) (by rw [IntKind.wrap_u64]; omega) (by rw [IntKind.wrap_u64]; omega) w)
  have wk : IntKind.u64.wrap (p.key.length : Int) = (p.key.length : Int) := by rw [IntKind.wrap_u64]; omega
  have wv : IntKind.u64.wrap (p.val.length : Int) = (p.val.length : Int) := by rw [IntKind.wrap_u64]; omega
  have hA : digits (IntKind.u64.wrap (p.key.length : Int)) 4 = digits (p.key.length : Int) 4 := by rw [wk]
  have hB : digits (IntKind.u64.wrap (p.val.length : Int)) 4 = digits (p.val.length : Int) 4 := by rw [wv]
  rw [hA] at HNk
  rw [hB] at HNv
  have hho := headP_octets hf
  have hhl := headP_length p
  have hu : 0 ≤ xxh 0 (headP p) ∧ xxh 0 (headP p) < 4294967296 := tend_bound _
  have HSm := Lib.hid (fun w => sum_ref 0 (headP p) (by constructor <;> decide) hho (by omega) w)
  have HNx := Lib.hid (fun w => num_any (xxh 0 (headP p)) 4 4 rfl (by decide) hu.1 (Int.lt_trans hu.2 (by decide)) w)
  have wx : IntKind.u64.wrap (xxh 0 (headP p)) = xxh 0 (headP p) := by rw [IntKind.wrap_u64]; exact Int.emod_eq_of_lt hu.1 (Int.lt_trans hu.2 (by decide))
  have a1 := str_append (digits (p.key.length : Int) 4) (digits (p.val.length : Int) 4)
  have a2 := str_append (digits (p.key.length : Int) 4 ++ digits (p.val.length : Int) 4) p.key
  have a3 : strOfNums (digits (p.key.length : Int) 4 ++ digits (p.val.length : Int) 4 ++ p.key) ++ strOfNums p.val = strOfNums (headP p) := str_append _ p.val
  have a4 : strOfNums (headP p) ++ strOfNums (digits (xxh 0 (headP p)) 4) = strOfNums (textP p) := str_append _ _
  have z1 : (strOfNums (digits (p.key.length : Int) 4)).size = 4 := by rw [str_size, digits_length]
  have z2 : (strOfNums (digits (p.val.length : Int) 4)).size = 4 := by rw [str_size, digits_length]
  have z3 : (strOfNums (digits (p.key.length : Int) 4 ++ digits (p.val.length : Int) 4)).size = 8 := by rw [str_size, List.length_append, digits_length, digits_length]
  have z4 : (strOfNums (digits (p.key.length : Int) 4 ++ digits (p.val.length : Int) 4 ++ p.key)).size = 8 + p.key.length := by rw [str_size, List.length_append, List.length_append, digits_length, digits_length]
  have z5 : (strOfNums (headP p)).size = 8 + p.key.length + p.val.length := by rw [str_size, hhl]
  have z6 : (strOfNums (digits (xxh 0 (headP p)) 4)).size = 4 := by rw [str_size, digits_length]
  have HW0 := Lib.hid (Whole.new w 36 (prCells p))
  obtain ⟨A, hA2⟩ : ∃ A, A = digits (p.key.length : Int) 4 := ⟨_, rfl⟩
  obtain ⟨B, hB2⟩ : ∃ B, B = digits (p.val.length : Int) 4 := ⟨_, rfl⟩
  obtain ⟨X, hX⟩ : ∃ X, X = digits (xxh 0 (headP p)) 4 := ⟨_, rfl⟩
  obtain ⟨x, hx⟩ : ∃ x, x = xxh 0 (headP p) := ⟨_, rfl⟩
  obtain ⟨T, hT⟩ : ∃ T, T = textP p := ⟨_, rfl⟩
  obtain ⟨Hd, hHd⟩ : ∃ Hd, Hd = headP p := ⟨_, rfl⟩
  rw [← hA2] at HNk a1 a2 a3 z1 z3 z4
  rw [← hB2] at HNv a1 a2 a3 z2 z3 z4
  rw [← hX] at HNx a4 z6
  rw [← hx] at HSm HNx wx
  rw [← hT] at a4 ⊢
  rw [← hHd] at HSm a3 a4 z5
  obtain ⟨k, hk⟩ : ∃ k, k = p.key.length := ⟨_, rfl⟩
  obtain ⟨v, hv⟩ : ∃ v, v = p.val.length := ⟨_, rfl⟩
  rw [← hk] at HNk hs1 z4 z5 h1
  rw [← hv] at HNv hs2 z5 h2
  obtain ⟨AB, hAB⟩ : ∃ AB, AB = A ++ B := ⟨_, rfl⟩
  rw [← hAB] at a1 a2 a3 z3 z4
  obtain ⟨ABK, hABK⟩ : ∃ ABK, ABK = AB ++ p.key := ⟨_, rfl⟩
  rw [← hABK] at a2 a3 z4
  have r1 : ¬ 9223372036854775807 < 4 + 4 := by decide
  have r2 : ¬ 9223372036854775807 < 8 + k := by omega
  have r3 : ¬ 9223372036854775807 < 8 + k + v := by omega
  have r4 : ¬ 9223372036854775807 < 8 + k + v + 4 := by omega
  clear hA hB hA2 hB2 hX hx hT hHd hk hv hAB hABK wk wv hho hhl hu hf
  unfold prV
  go_enter Try.func16, Try.ntmps16
  go_wp2_with fail
  obtain ⟨W, hW⟩ : ∃ W, W = w.alloc (.cells #[.string (strOfNums p.key), .string (strOfNums p.val)] 36) := ⟨_, rfl⟩
  have HR : Hid (Whole W w.heap.size 36 (prCells p)) := by rw [hW]; exact HW0
  have HK : Hid (Keeps NoBlock w W) := Lib.hid (by rw [hW]; exact (Keeps.refl _ _).alloc _)
  rw [← hW]
  clear hW HW0
  have s0 := PrAt.ofWhole (w := W.drew) HR.out
  have sN := PrAt.ofWhole HR.out
  unfold PrAt at s0 sN
  go_region_held3 (fun w' => w'.cell? ⟨w.heap.size, 0, none⟩ = some (.string (strOfNums p.key)) ∧ w'.cell? ⟨w.heap.size, 1, none⟩ = some (.string (strOfNums p.val)))
    (first | exact s5 | exact s0 | exact sN)
    (first | (go_at_call 28; (first | (with_reducible refine (HNk.out _).mono ?_) | (with_reducible refine (HNv.out _).mono ?_)); rintro e w5 ⟨rfl, hk⟩; have hk' : Keeps NoBlock W w5 := (by first | exact hk | exact hk.ofDrew | exact hk.ofDrewN); have HK := Lib.hid (HK.out.trans hk'); have HR := Lib.hid (HR.out.keep hk' (fun h => h)); have s5 := PrAt.ofWhole HR.out; unfold PrAt at s5; clear hk hk'; obtain ⟨W, rfl⟩ : ∃ x, x = w5 := ⟨_, rfl⟩))
  go_wp2_with fail
  refine (HSm.out _).mono ?_
  rintro e w6 ⟨rfl, hk⟩
  have HK := Lib.hid (HK.out.trans hk)
  clear hk s0 sN
  go_wp2_with fail
  refine (HNx.out _).mono ?_
  rintro e w7 ⟨rfl, hk⟩
  have HK := Lib.hid (HK.out.trans hk)
  clear hk
  go_wp2_with fail
  go_ret
  exact ⟨rfl, HK.out⟩
end Go.Proofs.Ytdkpkpmgiglnhaa

/-
  What the laws of package config ask of its functions; their example; ConfigBounds.
-/
import Derived.Test.YtiohjnannlekmaaConfRef3
namespace Go.Proofs.Ytiohjnannlekmaa
open Go.RowKit

def whereC (e s x : Nat) : Nat × Nat × Int := if mayC e s = true then (if x / 2 ^ e < s then (x / 2 ^ e, x % 2 ^ e, 0) else (0, 0, 10)) else (0, 0, 1)
def got8 (t : Nat × Int) : Value := .tuple #[.int .u32 (t.1 : Int), .int .i64 t.2]
def checkC (e s : Nat) : Int := if mayC e s = true then 0 else 1
def sizeC (e s : Nat) : Nat := if mayC e s = true then 2 ^ e else 0

/-- The contracts of Check, Size, Count, Bounds, Where. -/
structure ConfOk : Prop where
  check : ∀ (e s : Nat) (w : World), e < 256 → s < 4294967296 → Calls Try.prog 11 #[confV e s] w fun r w' => r = .returned (.int .i64 (checkC e s)) ∧ Keeps NoBlock w w'
  size : ∀ (e s : Nat) (w : World), e < 256 → s < 4294967296 → Calls Try.prog 12 #[confV e s] w fun r w' => r = .returned (.int .i64 (sizeC e s : Int)) ∧ Keeps NoBlock w w'
  count : ∀ (e s n : Nat) (w : World), e < 256 → s < 4294967296 → n < 18446744073709551616 → Calls Try.prog 9 #[confV e s, .int .u64 (n : Int)] w fun r w' => r = .returned (got8 (countC e s n)) ∧ Keeps NoBlock w w'
  bounds : ∀ (e s n i : Nat) (w : World), e < 256 → s < 4294967296 → n < 18446744073709551616 → i < 18446744073709551616 → Calls Try.prog 13 #[confV e s, .int .u64 (n : Int), .int .u64 (i : Int)] w fun r w' => r = .returned (boundsOut (boundsC e s n i)) ∧ Keeps NoBlock w w'
  where_ : ∀ (e s x : Nat) (w : World), e < 256 → s < 4294967296 → x < 18446744073709551616 → Calls Try.prog 15 #[confV e s, .int .u64 (x : Int)] w fun r w' => r = .returned (boundsOut (whereC e s x)) ∧ Keeps NoBlock w w'

set_option maxHeartbeats 2000000 in
set_option maxRecDepth 10000 in
theorem lives8_true (H : ConfOk) (w : World) : Calls Try.prog 6 #[] w fun e w' => e = .returned (.bool true) ∧ Keeps NoBlock w w' := by
  have H1 := Lib.hid (fun w => H.count 12 2 8192 w (by decide) (by decide) (by decide))
  have H2 := Lib.hid (fun w => H.count 12 2 4097 w (by decide) (by decide) (by decide))
  have H3 := Lib.hid (fun w => H.bounds 12 2 5000 1 w (by decide) (by decide) (by decide) (by decide))
  rw [show countC 12 2 8192 = (2, 0) by decide] at H1
  rw [show countC 12 2 4097 = (0, 4) by decide] at H2
  rw [show boundsC 12 2 5000 1 = (4096, 5000, 0) by decide] at H3
  have HR := Lib.hid (Whole.new w 24 (confCells 12 2))
  have HK := Lib.hid ((Keeps.refl NoBlock w).alloc (.cells (confCells 12 2) 24))
  unfold confV got8 at H1 H2
  unfold confV boundsOut at H3
  clear H
  go_enter Try.func6, Try.ntmps6
  go_wp2_with fail
  refine (H1.out _).mono ?_
  rintro r w1 ⟨rfl, hk⟩
  have HR := Lib.hid (HR.out.keep hk (fun h => h))
  have HK := Lib.hid (HK.out.trans hk)
  clear hk
  have c0 := HR.out.cell 0 rfl
  have c1 := HR.out.cell 1 rfl
  simp only [confCells, List.getElem_toArray, List.getElem_cons_zero, List.getElem_cons_succ] at c0 c1
  go_wp2_with fail
  refine (H2.out _).mono ?_
  rintro r w2 ⟨rfl, hk⟩
  have HR := Lib.hid (HR.out.keep hk (fun h => h))
  have HK := Lib.hid (HK.out.trans hk)
  clear hk c0 c1
  have c0 := HR.out.cell 0 rfl
  have c1 := HR.out.cell 1 rfl
  simp only [confCells, List.getElem_toArray, List.getElem_cons_zero, List.getElem_cons_succ] at c0 c1
  go_wp2_with fail
  refine (H3.out _).mono ?_
  rintro r w3 ⟨rfl, hk⟩
  have HR := Lib.hid (HR.out.keep hk (fun h => h))
  have HK := Lib.hid (HK.out.trans hk)
  clear hk c0 c1
  go_wp2_with fail
  go_ret
  exact ⟨rfl, HK.out⟩

set_option maxHeartbeats 2000000 in
set_option maxRecDepth 10000 in
theorem bounds8_walk (H : ConfOk) (e s n i : Nat) (he : e < 256) (hs : s < 4294967296) (hn : n < 18446744073709551616) (hi : i < 18446744073709551616) (w : World) :
    Calls Try.prog 4 #[confV e s, .int .u64 (n : Int), .int .u64 (i : Int)] w fun e w' => e = .returned (.bool true) ∧ Keeps NoBlock w w' := by
  have HLv := Lib.hid (fun w => lives8_true H w)
  have H1 := Lib.hid (fun w => H.bounds e s n i w he hs hn hi)
  have H2 := Lib.hid (fun w => bounds_ref e s n i hn hi w)
  have HR := Lib.hid (Whole.new w 24 (confCells e s))
  have HK := Lib.hid ((Keeps.refl NoBlock w).alloc (.cells (confCells e s) 24))
  obtain ⟨a, b, z, ht⟩ : ∃ a b z, boundsC e s n i = (a, b, z) := ⟨_, _, _, rfl⟩
  rw [ht] at H1 H2
  unfold confV boundsOut at H1 H2
  unfold confV
  clear H he hs hn hi ht
  go_enter Try.func4, Try.ntmps4
  go_wp2_with fail
  refine (HLv.out _).mono ?_
  rintro r w1 ⟨rfl, hk⟩
  have HR := Lib.hid (HR.out.keep hk (fun h => h))
  have HK := Lib.hid (HK.out.trans hk)
  clear hk
  have c0 := HR.out.cell 0 rfl
  have c1 := HR.out.cell 1 rfl
  simp only [confCells, List.getElem_toArray, List.getElem_cons_zero, List.getElem_cons_succ] at c0 c1
  go_wp2_with fail
  refine (H1.out _).mono ?_
  rintro r w2 ⟨rfl, hk⟩
  have HR := Lib.hid (HR.out.keep hk (fun h => h))
  have HK := Lib.hid (HK.out.trans hk)
  clear hk c0 c1
  have c0 := HR.out.cell 0 rfl
  have c1 := HR.out.cell 1 rfl
  simp only [confCells, List.getElem_toArray, List.getElem_cons_zero, List.getElem_cons_succ] at c0 c1
  go_wp2_with fail
  refine (H2.out _).mono ?_
  rintro r w3 ⟨rfl, hk⟩
  have HR := Lib.hid (HR.out.keep hk (fun h => h))
  have HK := Lib.hid (HK.out.trans hk)
  clear hk c0 c1
  go_wp2_with fail
  go_ret
  exact ⟨rfl, HK.out⟩
end Go.Proofs.Ytiohjnannlekmaa

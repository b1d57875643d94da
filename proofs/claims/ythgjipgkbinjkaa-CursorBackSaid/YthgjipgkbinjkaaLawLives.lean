/-
  The law's own example, 'lives': it is true.
-/
import Derived.Test.YthgjipgkbinjkaaCurE
namespace Go.Proofs.Ythgjipgkbinjkaa
open Go.RowKit

theorem enterLives (args : Array Value) (w : World) : (callFunc 25 args).run Try.prog w = .ok (.enter 25 args) w := by kernel_rfl

theorem keepsNew {w W w2 : World} {S : Nat → Prop} (h : Keeps NoBlock w W) (g : Keeps S W w2) (hs : ∀ k, S k → w.heap.size ≤ k) : Keeps NoBlock w w2 :=
  h.then g fun k hk hS => absurd (hs k hS) (by omega)

theorem livesRead (w0 W : World) (D : Nat) (p : Option Addr) (c : Nat) (hc : 3 ≤ c) (hc' : c ≤ 9223372036854775807) (hB : Begun w0 p 3 c 0 0 W) (hK : Keeps NoBlock w0 W) (hb : Bytes8 W p [1, 2, 3]) (hp : ∀ q, p = some q → q.block < w0.heap.size) :
    Calls Try.prog 25 (#[.pointer (some ⟨w0.heap.size + 1 + 1, 0, none⟩)] ++ #[.pointer (some ⟨D, 0, none⟩)]) W (ReadEnds w0 p 3 c 1 2 (Keeps NoBlock w0)) := by
  have HB := Lib.hid hB; have HK := Lib.hid hK; have Hb := Lib.hid hb; have HP := Lib.hid hp
  clear hB hK hb hp
  simp only [List.append_toArray, List.nil_append, List.cons_append]
  go_enter Try.func25, Try.ntmps25
  go_wp2_with fail
  refine (byte_at _ p [1, 2, 3] 3 c 0 _ rfl HB.out.cur Hb.out (by intro b hb; simp at hb; omega) (fun _ q hq => by have := HP.out q hq; omega) (by omega) hc hc').mono ?_
  rintro e w1 ⟨rfl, hcur, hk⟩
  have HB1 := Lib.hid (HB.out.keep hk hcur)
  have HK1 := Lib.hid (keepsNew HK.out hk (by rintro k rfl; omega))
  clear hk hcur
  go_wp2_with fail
  refine (four_short _ p 3 c (0 + 1) _ HB1.out.cur (by omega) (by omega) (by omega)).mono ?_
  rintro e w2 ⟨rfl, hcur, hk⟩
  exact ⟨rfl, .inr (gave_given _), HB1.out.keep hk hcur, keepsNew HK1.out hk (by rintro k rfl; omega)⟩

theorem lives_true (w : World) : Calls Try.prog 6 #[] w fun e w' => e = .returned (.bool true) ∧ Keeps NoBlock w w' := by
  have hmf : ∀ (fn : Fn) (first cap : Array Value) (w : World), (Instr.makeFunc fn first cap).run Try.prog w = .ok (.func fn first cap) w := fun _ _ _ _ => rfl
  go_enter Try.func6, Try.ntmps6
  go_wp2_with fail
  refine (run_any _ _ (some ⟨w.heap.size + 1, 0, none⟩) 3 3 1 2 (Keeps NoBlock ((w.alloc (.cells #[.bool false] 4)).alloc (.cells #[.int .u8 1, .int .u8 2, .int .u8 3] 5))) _ enterLives ?_).mono ?_
  · intro W hB hK _
    refine livesRead _ W _ _ 3 (by omega) (by omega) hB hK ?_ (by intro q hq; obtain rfl := Option.some.inj hq; simp)
    refine Whole.bytes (Whole.keep (Whole.newAt _ _ _ _ (by simp)) hK (fun h => h)) _ ?_
    intro i hi
    match i, hi with
    | 0, _ => rfl
    | 1, _ => rfl
    | 2, _ => rfl
  · rintro e w' ⟨rfl, w2, hR, hT⟩
    have hk : Keeps NoBlock w w' := ((((Keeps.refl _ _).alloc _).alloc _).trans hR).then hT.2.2.2.2 (by simp only [World.size_alloc]; omega)
    have hd : Whole w' w.heap.size 4 #[.bool false] := ((Whole.alloc (Whole.new _ _ _) _).keep hR (fun h => h)).keep hT.2.2.2.2 (by simp only [World.size_alloc]; omega)
    have cd := hd.cell 0 rfl
    simp only [List.getElem_toArray, List.getElem_cons_zero] at cd
    have HK := Lib.hid hk
    clear hT hR hd hk
    go_wp2_with fail
    go_ret
    exact ⟨rfl, HK.out⟩
end Go.Proofs.Ythgjipgkbinjkaa

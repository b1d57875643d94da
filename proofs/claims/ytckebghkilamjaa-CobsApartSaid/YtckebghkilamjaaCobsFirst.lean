/-
  Package cobs: bytes.IndexByte of a nought, first, Most.
-/
import Derived.Test.YtckebghkilamjaaCobsLaws
import Derived.Test.YtckebghkilamjaaCobsGrp
import Derived.Laws.Externs
namespace Go.Proofs.Ytckebghkilamjaa
open Go.RowKit

theorem run_index (w : World) (p : Option Addr) (n c : Nat) (xs : List Int) (hx : n = xs.length) (ho : Octets xs) (hb : Bytes8 w p xs) (hn0 : p = none → n = 0) :
    (Extern.BytealgIndexByte.indexByte #[.slice p n c, .int .u8 0]).run Try.prog w = .ok (.int .i64 (nought xs)) w := by
  have hs := Lib.run_indexByteString (P := Try.prog) ⟨(Lib.bytesOf xs).toArray⟩ 0 w
  have hl : (Extern.Bytes.bytesOf (.slice p n c)).run Try.prog w = .ok (⟨(Lib.bytesOf xs).toArray⟩ : ByteArray) w := by
    cases p with
    | none =>
      have h0 := hn0 rfl
      obtain rfl : xs = [] := List.length_eq_zero_iff.1 (by omega)
      rfl
    | some a =>
      have h := Lib.run_loadBytesX (P := Try.prog) w xs a .empty (fun j x hj => by
        have hjl : j < xs.length := (List.getElem?_eq_some_iff.1 hj).1
        obtain ⟨a', ha', hc⟩ := hb (by omega)
        obtain rfl := Option.some.inj ha'
        rw [hc j hjl, List.getD_eq_getElem?_getD, hj]
        rfl)
      rw [← hx] at h
      have he : (⟨ByteArray.empty.data ++ (Lib.bytesOf xs).toArray⟩ : ByteArray) = ⟨(Lib.bytesOf xs).toArray⟩ := by
        apply ByteArray.ext
        show (#[] : Array UInt8) ++ (Lib.bytesOf xs).toArray = (Lib.bytesOf xs).toArray
        simp
      rw [he] at h
      exact h
  rw [show ((0 : Int).toNat.toUInt8) = (0 : UInt8) from rfl, show ((⟨(Lib.bytesOf xs).toArray⟩ : ByteArray).data.toList) = Lib.bytesOf xs from rfl, index_nought ho] at hs
  change Sem.run Try.prog (do
    let b ← Extern.Bytes.bytesOf (.slice p n c)
    let c ← Extern.Bytes.asByte (.int .u8 0)
    match (List.range b.size).find? fun i => b[i]! == c with
    | some i => pure (goInt i)
    | none => pure (goInt (-1))) w = _
  change Sem.run Try.prog (do
    let b ← Extern.Bytes.bytesOf (.string ⟨(Lib.bytesOf xs).toArray⟩)
    let c ← Extern.Bytes.asByte (.int .u8 0)
    match (List.range b.size).find? fun i => b[i]! == c with
    | some i => pure (goInt i)
    | none => pure (goInt (-1))) w = _ at hs
  rw [Sem.run_bind, hl]
  simp only [Extern.Bytes.bytesOf, Sem.run_bind, Sem.run_pure, Result.andThen] at hs ⊢
  exact hs

theorem run_index_at (w : World) (p : Option Addr) (n c : Nat) (xs : List Int) (hx : n = xs.length) (ho : Octets xs) (hb : Bytes8 w p xs) (hn0 : p = none → n = 0) :
    (callFunc 19 #[.slice p n c, .int .u8 0]).run Try.prog w = .ok (.value (.int .i64 (nought xs))) w := by
  rw [run_callFunc_extern (e := Extern.BytealgIndexByte.indexByte) Try.func19 (by kernel_rfl) (by kernel_rfl) (by kernel_rfl) (by kernel_rfl), run_index w p n c xs hx ho hb hn0]
  rfl

set_option maxHeartbeats 800000 in
set_option maxRecDepth 10000 in
theorem index_cobs (p : Option Addr) (n c : Nat) (xs : List Int) (w : World) (hx : n = xs.length) (ho : Octets xs) (hb : Bytes8 w p xs) (hn0 : p = none → n = 0) :
    Calls Try.prog 16 #[.slice p n c, .int .u8 0] w fun e w' => e = .returned (.int .i64 (nought xs)) ∧ w' = w := by
  have hr := run_index_at w p n c xs hx ho hb hn0
  clear hx ho hb hn0
  go_enter Try.func16, Try.ntmps16
  go_wp2_with fail
  go_ret
  exact ⟨rfl, rfl⟩

set_option maxHeartbeats 800000 in
set_option maxRecDepth 10000 in
theorem first_cobs (p : Option Addr) (n c : Nat) (xs : List Int) (w : World) (hx : n = xs.length) (hc : n ≤ c) (hc' : c ≤ 9223372036854775807) (ho : Octets xs) (hb : Bytes8 w p xs) (hn0 : p = none → n = 0 ∧ c = 0) :
    Calls Try.prog 18 #[.slice p n c] w fun e w' => e = .returned (.int .i64 (firstN xs : Int)) ∧ w' = w := by
  obtain ⟨m, hm⟩ : ∃ m, m = min n 254 := ⟨_, rfl⟩
  have hml : m = (xs.take 254).length := by rw [List.length_take, hm, hx]; omega
  have HI := Lib.hid (fun (n' d : Nat) (hn' : n' = m) => index_cobs p n' d (xs.take 254) w (hn'.trans hml) (ho.take _) (by
    have := hb.piece (q := p) 0 m (by omega) (fun h => by cases p <;> simp [Addr.add])
    rw [List.drop_zero] at this
    rw [show xs.take 254 = xs.take m by rw [hm, hx]; simp [List.take_eq_take_iff, Nat.min_comm]]
    exact this) (fun h => by have := hn0 h; omega))
  have hmn : min (n : Int) 254 = (m : Int) := by omega
  have hm1 : (m : Int) ≤ (c : Int) := by omega
  have hm2 : (m : Int) ≤ 254 := by omega
  obtain ⟨z, hz⟩ : ∃ z, z = nought (xs.take 254) := ⟨_, rfl⟩
  have hzf : (0 ≤ z ∧ z = (firstN xs : Int)) ∨ (z = -1 ∧ (firstN xs : Int) = (m : Int)) := by
    by_cases h : 0 ∈ xs.take 254
    · left
      rw [hz, firstN_nought_some h]
      exact ⟨by omega, rfl⟩
    · right
      obtain ⟨e1, e2⟩ := firstN_nought_none h
      rw [hz, e1, e2, ← hml]
      exact ⟨rfl, rfl⟩
  rw [← hz] at HI
  clear hml hm hb hn0 ho hx hz
  rcases hzf with ⟨h0, hz⟩ | ⟨hz, hf⟩
  · have hd : decide (0 ≤ z) = true := decide_eq_true h0
    rw [← hz]
    clear hz
    go_enter Try.func18, Try.ntmps18
    go_wp2_with fail
    all_goals
      refine (HI.out _ _ (by omega)).mono ?_
      rintro e w1 ⟨rfl, rfl⟩
      go_wp2_with fail
      go_ret
      first
        | exact ⟨rfl, rfl⟩
        | exact ⟨congrArg (fun z => Ending.returned (Value.int .i64 z)) (by omega), rfl⟩
  · have hd : decide (0 ≤ (-1 : Int)) = false := by decide
    subst hz
    rw [hf]
    clear hf
    go_enter Try.func18, Try.ntmps18
    go_wp2_with fail
    all_goals
      refine (HI.out _ _ (by omega)).mono ?_
      rintro e w1 ⟨rfl, rfl⟩
      go_wp2_with fail
      go_ret
      first
        | exact ⟨rfl, rfl⟩
        | exact ⟨congrArg (fun z => Ending.returned (Value.int .i64 z)) (by omega), rfl⟩

theorem most_cobs (z : Int) (w : World) (h0 : -1000000 ≤ z) (h1 : z ≤ 1000000) :
    Calls Try.prog 13 #[.int .i64 z] w fun e w' => e = .returned (.int .i64 ((mostOf z.toNat : Nat) : Int)) ∧ w' = w := by
  have hq : 0 < z → (z - 1).tdiv 254 = (z - 1) / 254 := fun h => Int.tdiv_eq_ediv_of_nonneg (by omega)
  by_cases hz : z ≤ 0
  · have hd : decide (z ≤ 0) = true := decide_eq_true hz
    have e : ((mostOf z.toNat : Nat) : Int) = 1 := by rw [show z.toNat = 0 by omega]; rfl
    rw [e]
    go_enter Try.func13, Try.ntmps13
    go_wp2_with fail
    go_ret
    exact ⟨rfl, rfl⟩
  · have hd : decide (z ≤ 0) = false := decide_eq_false hz
    have e : ((mostOf z.toNat : Nat) : Int) = z + 1 + (z - 1) / 254 := by unfold mostOf; rw [if_neg (by omega)]; omega
    have hq := hq (by omega)
    rw [e]
    go_enter Try.func13, Try.ntmps13
    go_wp2_with fail
    go_ret
    exact ⟨rfl, rfl⟩
end Go.Proofs.Ytckebghkilamjaa

/-
  RecLaws; TextGet; StrBytes; TextPut; VarLen; RecOwn.
-/
import Derived.Lib.ConvBytes
import Derived.Lib.BitFns
import Derived.Lib.Walk
import Derived.Lib.Strings
import Derived.Lib.Slices
import Derived.Lib.Small
import Derived.Test.YtjeammmfdniokaaGreatM01
import Derived.Test.YtjeammmfdniokaaGreatM02
import Derived.Test.YtjeammmfdniokaaGreatM05
import Derived.Test.YtjeammmfdniokaaGreatM07
import Derived.Test.YtjeammmfdniokaaGreatM13
import Derived.Test.YtjeammmfdniokaaGreatM18
namespace Go.Proofs.YtjeammmfdniokaaGreat
open Go.RowKit

/-- A record of no more bytes than the laws have. -/
structure Rec.Modest (r : Rec) : Prop where
  fine : r.Fine
  key : r.key.length ≤ 2000000
  val : r.val.length ≤ 2000000
def bodyE (r : Rec) : List Int := if checkR r = 0 then bodyR r else []

/-- The contract of Rising. -/
structure RisesOk : Prop where
  rising : ∀ (p : Option Addr) (n c : Nat) (l : List Rec) (w : World), n = l.length → n ≤ c → c ≤ 9223372036854775807 → n ≤ 1000000 → (∀ r ∈ l, r.Modest) → RecsAt w p l →
    Calls Tryz.prog 53 #[.slice p n c] w fun e w' => e = .returned (.int .i64 (risingR l)) ∧ Keeps NoBlock w w'

end Go.Proofs.YtjeammmfdniokaaGreat

namespace Go.Proofs.YtjeammmfdniokaaGreat
open Go.RowKit

end Go.Proofs.YtjeammmfdniokaaGreat

namespace Go.Proofs.YtjeammmfdniokaaGreat
open Go.RowKit

theorem bytesWorld_keeps (S : Nat → Prop) (w : World) (e : TypeId) (s : ByteArray) : Keeps S w (Lib.bytesWorld w e s) :=
  ⟨rfl, rfl, rfl, by rw [Lib.bytesWorld_size]; omega, fun k hk _ => Lib.bytesWorld_at_old w e s k hk⟩

theorem bytesWorld_bytes (w : World) (e : TypeId) (xs : List Int) (ho : Octets xs) : Bytes8 (Lib.bytesWorld w e (strOfNums xs)) (some ⟨w.heap.size, 0, none⟩) xs := fun _ => ⟨_, rfl, fun i hi => by
  rw [show (⟨w.heap.size, 0, none⟩ : Addr).add i = ⟨w.heap.size, i, none⟩ by
    unfold Addr.add
    split
    · rename_i h
      subst h
      rfl
    · simp]
  rw [Lib.bytesWorld_cell w e _ i (by rw [str_size]; exact hi)]
  have hb := ho (xs.getD i 0) (by rw [List.getD_eq_getElem?_getD, List.getElem?_eq_getElem hi]; exact List.getElem_mem hi)
  have e1 : (strOfNums xs).data.toList.getD i 0 = UInt8.ofNat (xs.getD i 0).toNat := by
    simp [strOfNums, List.getD_eq_getElem?_getD, hi]
  rw [e1]
  have e2 : ((UInt8.ofNat (xs.getD i 0).toNat).toNat : Int) = xs.getD i 0 := by
    simp only [UInt8.toNat_ofNat']
    omega
  rw [e2]⟩

/-- '[]byte(s)': the slice, and the world behind it. -/
theorem run_str_bytes (xs : List Int) (w : World) :
    (convert 9 29 (.string (strOfNums xs))).run Tryz.prog w = .ok (.slice (some ⟨w.heap.size, 0, none⟩) xs.length (grownCap w xs.length 0 5)) (Lib.bytesWorld w 5 (strOfNums xs)) := by
  have h := Lib.run_convert_string_bytes (P := Tryz.prog) w 9 29 5 (strOfNums xs) Tryz.underlying9 Tryz.underlying29 Tryz.underlying5
  rw [str_size] at h
  exact h
end Go.Proofs.YtjeammmfdniokaaGreat

namespace Go.Proofs.YtjeammmfdniokaaGreat
open Go.RowKit

set_option maxHeartbeats 800000 in
set_option maxRecDepth 10000 in
theorem puttext_any (base g : Nat) (xs t : List Int) (w : World) (h : BufAt w base g xs) (hb : base ≤ g) (hs : base ≤ w.heap.size) (ho : Octets t) (ht : t.length ≤ 100000000) (hx : xs.length ≤ 1000000000) :
    Calls Tryz.prog 94 #[.pointer (some ⟨g, 0, none⟩), .string (strOfNums t)] w fun e w' => e = .returned (.tuple #[]) ∧ BufAt w' base g (xs ++ textB t) ∧ Below base w w' := by
  have HP := Lib.hid (fun z hz => put_any base g xs t.length z hz w h hs (by omega) (by omega))
  have hten := vnum_ten (x := t.length) (by omega)
  have hsz := str_size t
  have hcv := run_str_bytes t
  have HR := Lib.hid (fun W q c (h : BufAt W base g (xs ++ vnum t.length)) (hs : base ≤ W.heap.size) (hy : Bytes8 W (some q) t) => bufRaw_some base g (xs ++ vnum t.length) t q t.length c W h rfl hy hb hs (by rw [List.length_append]; omega))
  have HB := Lib.hid (fun W => bytesWorld_bytes W 5 t ho)
  unfold textB
  rw [← List.append_assoc]
  obtain ⟨L, hL⟩ : ∃ L, L = t.length := ⟨_, rfl⟩
  rw [← hL] at hsz hcv HP HR ht ⊢
  clear h ho hten hx hL
  go_enter Tryz.func94, Tryz.ntmps94
  go_wp2_with fail
  refine (HP.out _ (by first | rfl | omega | (rw [IntKind.wrap_u64']; omega))).mono ?_
  rintro e w1 ⟨rfl, hbuf, hk⟩
  have HBu := Lib.hid hbuf; have HK := Lib.hid hk
  clear hbuf hk HP
  go_wp2_with fail
  have hk2 := HK.out.trans (bytesWorld_keeps (OnBuf base g) w1 5 (strOfNums t))
  have hbuf2 : BufAt (Lib.bytesWorld w1 5 (strOfNums t)) base g (xs ++ vnum L) := HBu.out.keepO (bytesWorld_keeps NoBlock w1 5 (strOfNums t)) (fun h => h) (fun _ _ _ _ h => h)
  refine (HR.out _ _ _ hbuf2 (by rw [Lib.bytesWorld_size]; have := hk2.size; have := HK.out.size; omega) (HB.out _)).mono ?_
  rintro e w2 ⟨rfl, hbuf, hbel⟩
  have HL2 := Lib.hid ((onBuf_below hk2 hb hs).trans hbel); have HB2 := Lib.hid hbuf
  clear hbuf hbel hk2 hbuf2 HR HB HBu HK
  go_wp2_with fail
  go_returns
  exact ⟨rfl, HB2.out, HL2.out⟩
end Go.Proofs.YtjeammmfdniokaaGreat

namespace Go.Proofs.YtjeammmfdniokaaGreat
open Go.RowKit

end Go.Proofs.YtjeammmfdniokaaGreat

namespace Go.Proofs.YtjeammmfdniokaaGreat
open Go.RowKit

theorem str_none {xs : List Int} (h : xs.length = 0) : strOfNums xs = ⟨#[]⟩ := by
  obtain rfl : xs = [] := List.length_eq_zero_iff.1 h
  rfl
theorem str_some {xs : List Int} (h : 0 < xs.length) : (strOfNums xs).toList.isEmpty = false := by
  rw [ByteArray.toList_eq]
  cases xs with
  | nil => simp at h
  | cons a r => simp [strOfNums]

set_option maxHeartbeats 1600000 in
set_option maxRecDepth 10000 in
theorem check_own (r : Rec) (h1 : r.key.length ≤ 140737488355328) (h2 : r.val.length ≤ 140737488355328) (w : World) :
    Calls Tryz.prog 77 #[recV r] w fun e w' => e = .returned (.int .i64 (checkR r)) ∧ Keeps NoBlock w w' := by
  obtain ⟨del, seq, key, val⟩ := r
  simp only at h1 h2
  have hk := str_size key
  have hv := str_size val
  have hdef : checkR ⟨del, seq, key, val⟩ = if key.length = 0 then 4 else if 4096 < key.length then 3 else if del = true ∧ 0 < val.length then 4 else if 1048576 < val.length then 3 else 0 := rfl
  rw [hdef]
  have hv0 := fun h => str_none (xs := val) h
  have hv1 := fun h => str_some (xs := val) h
  unfold recV
  simp only
  clear hdef
  obtain ⟨K, hK⟩ : ∃ K, K = key.length := ⟨_, rfl⟩
  obtain ⟨V, hV⟩ : ∃ V, V = val.length := ⟨_, rfl⟩
  rw [← hK] at h1 hk ⊢
  rw [← hV] at h2 hv hv0 hv1 ⊢
  clear hK hV
  by_cases c1 : K = 0
  · rw [if_pos c1]
    subst c1
    clear hv0 hv1
    go_enter Tryz.func77, Tryz.ntmps77
    go_wp2_with fail
    go_ret
    exact ⟨rfl, (Keeps.refl _ _).alloc _⟩
  · rw [if_neg c1]
    have d1 : decide ((K : Int) < 1) = false := decide_eq_false (by omega)
    by_cases c2 : 4096 < K
    · rw [if_pos c2]
      have d2 : decide ((4096 : Int) < (K : Int)) = true := decide_eq_true (by omega)
      clear hv0 hv1
      go_enter Tryz.func77, Tryz.ntmps77
      go_wp2_with fail
      go_ret
      exact ⟨rfl, (Keeps.refl _ _).alloc _⟩
    · rw [if_neg c2]
      have d2 : decide ((4096 : Int) < (K : Int)) = false := decide_eq_false (by omega)
      cases del with
      | true =>
        by_cases c3 : 0 < V
        · rw [if_pos ⟨rfl, c3⟩]
          have e3 := hv1 c3
          clear hv0 hv1
          go_enter Tryz.func77, Tryz.ntmps77
          go_wp2_with fail
          go_ret
          exact ⟨rfl, (Keeps.refl _ _).alloc _⟩
        · obtain rfl : V = 0 := by omega
          rw [if_neg (by simp), if_neg (by decide)]
          rw [hv0 rfl]
          clear hv0 hv1 hv
          go_enter Tryz.func77, Tryz.ntmps77
          go_wp2_with fail
          go_ret
          exact ⟨rfl, (Keeps.refl _ _).alloc _⟩
      | false =>
        rw [if_neg (by simp)]
        clear hv0 hv1
        by_cases c4 : 1048576 < V
        · rw [if_pos c4]
          have d4 : decide ((1048576 : Int) < (V : Int)) = true := decide_eq_true (by omega)
          go_enter Tryz.func77, Tryz.ntmps77
          go_wp2_with fail
          go_ret
          exact ⟨rfl, (Keeps.refl _ _).alloc _⟩
        · rw [if_neg c4]
          have d4 : decide ((1048576 : Int) < (V : Int)) = false := decide_eq_false (by omega)
          go_enter Tryz.func77, Tryz.ntmps77
          go_wp2_with fail
          go_ret
          exact ⟨rfl, (Keeps.refl _ _).alloc _⟩

theorem kind_own (r : Rec) (w : World) :
    Calls Tryz.prog 93 #[recV r] w fun e w' => e = .returned (.int .u8 (if r.del then 3 else 2)) ∧ Keeps NoBlock w w' := by
  obtain ⟨del, seq, key, val⟩ := r
  unfold recV
  simp only
  cases del
  all_goals
    go_enter Tryz.func93, Tryz.ntmps93
    go_wp2_with fail
    go_ret
    exact ⟨rfl, (Keeps.refl _ _).alloc _⟩

end Go.Proofs.YtjeammmfdniokaaGreat

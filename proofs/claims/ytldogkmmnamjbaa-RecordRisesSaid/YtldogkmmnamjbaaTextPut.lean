/-
  Contract of PutText: a text's length, and its bytes.
-/
import Derived.Test.YtldogkmmnamjbaaBufO
import Derived.Test.YtldogkmmnamjbaaStrBytes
import Derived.Test.YtldogkmmnamjbaaVarPut
import Derived.Test.YtldogkmmnamjbaaRecNum
namespace Go.Proofs.Ytldogkmmnamjbaa
open Go.RowKit

set_option maxHeartbeats 800000 in
set_option maxRecDepth 10000 in
theorem puttext_any (base g : Nat) (xs t : List Int) (w : World) (h : BufAt w base g xs) (hb : base ≤ g) (hs : base ≤ w.heap.size) (ho : Octets t) (ht : t.length ≤ 100000000) (hx : xs.length ≤ 1000000000) :
    Calls Try.prog 14 #[.pointer (some ⟨g, 0, none⟩), .string (strOfNums t)] w fun e w' => e = .returned (.tuple #[]) ∧ BufAt w' base g (xs ++ textB t) ∧ Below base w w' := by
  have HP := Lib.hid (fun z hz => put_any base g xs t.length z hz w h hs (by omega) (by omega))
  have hten := vnum_ten (x := t.length) (by omega)
  have hsz := str_size t
  have hcv := run_str_bytes t
  have HR := Lib.hid (fun W q c (h : BufAt W base g (xs ++ vnum t.length)) (hs : base ≤ W.heap.size) (hy : Bytes8 W (some q) t) => bufRaw_some base g (xs ++ vnum t.length) t q t.length c W h rfl hy hb hs (by rw [List.length_append]; omega))
  have HB := Lib.hid (fun W => bytesWorld_bytes W 5 t ho)
  unfold textB
  rw [← List.append_assoc]
  obtain ⟨L, hL⟩ : ∃ L, L = t.length := ⟨_, rfl⟩
  rw [← hL] at hsz hcv HP HR ht ⊢
  clear h ho hten hx hL
  go_enter Try.func14, Try.ntmps14
  go_wp2_with fail
  refine (HP.out _ (by first | rfl | omega | (rw [IntKind.wrap_u64']; omega))).mono ?_
  rintro e w1 ⟨rfl, hbuf, hk⟩
  have HBu := Lib.hid hbuf; have HK := Lib.hid hk
  clear hbuf hk HP
  go_wp2_with fail
  have hk2 := HK.out.trans (bytesWorld_keeps (OnBuf base g) w1 5 (strOfNums t))
  have hbuf2 : BufAt (Lib.bytesWorld w1 5 (strOfNums t)) base g (xs ++ vnum L) := HBu.out.keepO (bytesWorld_keeps NoBlock w1 5 (strOfNums t)) (fun h => h) (fun _ _ _ _ h => h)
  refine (HR.out _ _ _ hbuf2 (by rw [Lib.bytesWorld_size]; have := hk2.size; have := HK.out.size; omega) (HB.out _)).mono ?_
  rintro e w2 ⟨rfl, hbuf, hbel⟩
  have HL2 := Lib.hid ((onBuf_below hk2 hb hs).trans hbel); have HB2 := Lib.hid hbuf
  clear hbuf hbel hk2 hbuf2 HR HB HBu HK
  go_wp2_with fail
  go_returns
  exact ⟨rfl, HB2.out, HL2.out⟩
end Go.Proofs.Ytldogkmmnamjbaa

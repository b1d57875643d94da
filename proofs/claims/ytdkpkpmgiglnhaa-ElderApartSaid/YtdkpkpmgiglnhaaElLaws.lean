/-
  What the laws of package elder ask of its functions; their example; ElderGets.
-/
import Derived.Test.YtdkpkpmgiglnhaaElGetAll
import Derived.Test.YtdkpkpmgiglnhaaNewBytes
import Derived.Test.YtdkpkpmgiglnhaaIn8
import Derived.Test.YtdkpkpmgiglnhaaCopied
namespace Go.Proofs.Ytdkpkpmgiglnhaa
open Go.RowKit

structure Pr.Small (p : Pr) : Prop where
  fine : p.Fine
  key : p.key.length ≤ 100000
  val : p.val.length ≤ 100000
def putP (p : Pr) : List Int := if checkP p = 0 then textP p else []
def putsP (l : List Pr) : List Int := if checkAll l = 0 then textAll l else []

/-- The contracts of Check, Put, Get, PutAll, GetAll. -/
structure ElderOk : Prop where
  check : ∀ (p : Pr) (w : World), p.Small → Calls Try.prog 14 #[prV p] w fun e w' => e = .returned (.int .i64 (checkP p)) ∧ Keeps NoBlock w w'
  put_ : ∀ (p : Pr) (w : World), p.Small → Calls Try.prog 12 #[prV p] w fun e w' => ∃ v, e = .returned (.tuple #[v, .int .i64 (checkP p)]) ∧ NewBytes w (putP p) v w'
  get : ∀ (p : Option Addr) (N c : Nat) (xs : List Int) (w : World), In8 w p N c xs → N ≤ 500000 →
    Calls Try.prog 15 #[.slice p N c] w fun e w' => e = .returned (.tuple #[prV (getP xs).p, .int .i64 ((getP xs).n : Int), .int .i64 (getP xs).e]) ∧ Keeps NoBlock w w'
  putall : ∀ (p : Option Addr) (n c : Nat) (l : List Pr) (w : World), n = l.length → n ≤ c → c ≤ 9223372036854775807 → n ≤ 100000 → (∀ p ∈ l, p.Small) → (textAll l).length ≤ 500000 → PrsAt w p l →
    Calls Try.prog 10 #[.slice p n c] w fun e w' => ∃ v, e = .returned (.tuple #[v, .int .i64 (checkAll l)]) ∧ NewBytes w (putsP l) v w'
  getall : ∀ (p : Option Addr) (N c : Nat) (xs : List Int) (w : World), In8 w p N c xs → N ≤ 500000 →
    Calls Try.prog 11 #[.slice p N c] w (AllOk (allP xs) w)

theorem put_lives : putP ⟨[97], []⟩ = [1, 0, 0, 0, 0, 0, 0, 0, 97] ++ digits (xxh 0 (headP ⟨[97], []⟩)) 4 := by
  unfold putP
  rw [if_pos (by decide)]
  rfl

set_option maxHeartbeats 1600000 in
set_option maxRecDepth 10000 in
theorem lives10_true (H : ElderOk) (w : World) : Calls Try.prog 8 #[] w fun e w' => e = .returned (.bool true) ∧ Keeps NoBlock w w' := by
  have hsm : Pr.Small ⟨[97], []⟩ := ⟨⟨fun b hb => by simp at hb; omega, fun b hb => by simp at hb⟩, by decide, by decide⟩
  have HP := Lib.hid (fun w => H.put_ ⟨[97], []⟩ w hsm)
  rw [show checkP ⟨[97], []⟩ = 0 by decide, put_lives] at HP
  unfold prV at HP
  simp only at HP
  rw [show strOfNums [97] = ⟨#[97]⟩ from rfl, show strOfNums [] = ⟨#[]⟩ from rfl] at HP
  have hl := digits_length (xxh 0 (headP ⟨[97], []⟩)) 4
  obtain ⟨X, hX⟩ : ∃ X, X = digits (xxh 0 (headP ⟨[97], []⟩)) 4 := ⟨_, rfl⟩
  rw [← hX] at HP hl
  have HL := Lib.hid hl
  have he : ((strOfNums [1, 0, 0, 0, 0, 0, 0, 0, 97]).toList == [1, 0, 0, 0, 0, 0, 0, 0, 97]) = true := by rw [ByteArray.toList_eq]; decide
  clear H hsm hX hl
  go_enter Try.func8, Try.ntmps8
  go_wp2_with fail
  refine (HP.out _).mono ?_
  rintro e w1 ⟨v, rfl, q, m, d, rfl, hm, hmd, _, _, hb, hk⟩
  have hm13 : m = 13 := by rw [hm, List.length_append, HL.out]; rfl
  subst hm13
  have HK := Lib.hid hk
  have h9 : Bytes8 w1 q [1, 0, 0, 0, 0, 0, 0, 0, 97] := Bytes8.left hb
  have t1 := textOf q 9 d [1, 0, 0, 0, 0, 0, 0, 0, 97] w1 rfl h9
  clear hm hb hk h9
  go_wp2_with fail
  go_ret
  exact ⟨rfl, HK.out⟩

theorem prEq (p : Pr) (w : World) : (binOp .eql 36 (.agg #[.string (strOfNums p.key), .string (strOfNums p.val)]) (.agg #[.string (strOfNums p.key), .string (strOfNums p.val)])).run Try.prog w = .ok (.bool true) w := by
  simp [go_sem]

set_option maxHeartbeats 4000000 in
set_option maxRecDepth 10000 in
theorem elgets_walk (H : ElderOk) (p : Option Addr) (N c : Nat) (xs : List Int) (w : World) (hin : In8 w p N c xs) :
    Calls Try.prog 5 #[.slice p N c] w fun e w' => e = .returned (.bool true) ∧ Keeps NoBlock w w' := by
  have HLv := Lib.hid (fun w => lives10_true H w)
  by_cases hg : N ≤ 600
  · have HG := Lib.hid (fun w (hb8 : Bytes8 w p xs) => H.get p N c xs w ⟨hin.len, hin.cap, hin.room, hin.bare, hin.oct, hb8⟩ (by omega))
    have HR := Lib.hid (fun w => getpair_ref xs hin.oct (by have := hin.len; omega) w)
    have HX := Lib.hid hin.len
    have HCh := Lib.hid hin.at_
    have hcap := hin.cap; have hroom := hin.room
    have hgd : decide ((600 : Int) < (N : Int)) = false := decide_eq_false (by omega)
    obtain ⟨g, hg2⟩ : ∃ g, g = getP xs := ⟨_, rfl⟩
    rw [← hg2] at HG HR
    have HE := prEq g.p
    unfold pgOut prV at HR
    unfold prV at HG
    clear H hin hg2 hg
    go_enter Try.func5, Try.ntmps5
    go_wp2_with fail
    refine (HLv.out _).mono ?_
    rintro e w1 ⟨rfl, hk⟩
    have HK := Lib.hid hk
    have HCh := Lib.hid (HCh.out.keep hk (fun _ _ h => h))
    clear hk
    go_wp2_with fail
    refine (HG.out _ HCh.out).mono ?_
    rintro e w2 ⟨rfl, hk⟩
    have hK := HK.out.trans hk
    have hCh := HCh.out.keep hk (fun _ _ h => h)
    obtain ⟨V, hV⟩ : ∃ V, V = w2.alloc (.cells #[.string (strOfNums g.p.key), .string (strOfNums g.p.val)] 30) := ⟨_, rfl⟩
    have HK : Hid (Keeps NoBlock w V) := Lib.hid (by rw [hV]; exact hK.alloc _)
    have HCh : Hid (Bytes8 V p xs) := Lib.hid (by rw [hV]; exact hCh.keep ((Keeps.refl NoBlock w2).alloc _) (fun _ _ h => h))
    have HY : Hid (Whole V w2.heap.size 30 (prCells g.p)) := Lib.hid (by rw [hV]; exact Whole.new w2 _ (prCells g.p))
    clear hk hK hCh
    go_upto_region 4 with (fail)
    rw [← hV]
    clear hV
    have t1 := textOf p N c xs V HX.out HCh.out
    go_wp2_with fail
    refine (HR.out _).mono ?_
    rintro e w3 ⟨rfl, hk⟩
    have hK := HK.out.trans hk
    have hY := HY.out.keep hk (fun h => h)
    obtain ⟨U, hU⟩ : ∃ U, U = w3.alloc (.cells #[.string (strOfNums g.p.key), .string (strOfNums g.p.val)] 36) := ⟨_, rfl⟩
    have HK : Hid (Keeps NoBlock w U) := Lib.hid (by rw [hU]; exact hK.alloc _)
    have HY : Hid (Whole U w2.heap.size 30 (prCells g.p)) := Lib.hid (by rw [hU]; exact hY.alloc _)
    have HZ : Hid (Whole U w3.heap.size 36 (prCells g.p)) := Lib.hid (by rw [hU]; exact Whole.new w3 _ (prCells g.p))
    clear hk hK hY t1
    go_upto_region 5 with (fail)
    rw [← hU]
    clear hU
    obtain ⟨y0, y1⟩ := PrAt.ofWhole HY.out
    obtain ⟨z0, z1⟩ := PrAt.ofWhole HZ.out
    go_wp2_with fail
    go_ret
    exact ⟨rfl, HK.out⟩
  · have hgd : decide ((600 : Int) < (N : Int)) = true := decide_eq_true (by omega)
    have hroom := hin.room
    have hcap := hin.cap
    clear H hin
    go_enter Try.func5, Try.ntmps5
    go_wp2_with fail
    refine (HLv.out _).mono ?_
    rintro e w1 ⟨rfl, hk⟩
    have HK := Lib.hid hk
    clear hk
    go_wp2_with fail
    refine (HLv.out _).mono ?_
    rintro e w2 ⟨rfl, hk⟩
    have HK := Lib.hid (HK.out.trans hk)
    clear hk
    go_wp2_with fail
    go_ret
    exact ⟨rfl, HK.out⟩
end Go.Proofs.Ytdkpkpmgiglnhaa

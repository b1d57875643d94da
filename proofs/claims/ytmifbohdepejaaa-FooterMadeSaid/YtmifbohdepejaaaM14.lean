/-
  ApartWalk; VBackRead; FtGet; FtLaws; FtMoWalk; FenByIn.
-/
import Derived.Test.YtmifbohdepejaaaM03
import Derived.Test.YtmifbohdepejaaaM05
import Derived.Test.YtmifbohdepejaaaM06
import Derived.Test.YtmifbohdepejaaaM07
import Derived.Test.YtmifbohdepejaaaM09
import Derived.Test.YtmifbohdepejaaaM10
import Derived.Test.YtmifbohdepejaaaM11
import Derived.Test.YtmifbohdepejaaaM13
namespace Go.Proofs.Ytmifbohdepejaaa
open Go.RowKit

/-- Whether two rows are alike so far. -/
def alike (l m : List Nat) (k : Nat) : Bool := decide (l.length = m.length ∧ l.take k = m.take k)

theorem alike_zero (l m : List Nat) : alike l m 0 = decide (l.length = m.length) := by simp [alike]
theorem alike_len {l m : List Nat} {k : Nat} (h : alike l m k = true) : l.length = m.length := (of_decide_eq_true h).1
theorem take_succ_nat (xs : List Nat) (k : Nat) (h : k < xs.length) : xs.take (k + 1) = xs.take k ++ [xs.getD k 0] := by
  rw [List.take_succ_eq_append_getElem h]
  simp [h]
theorem alike_succ {l m : List Nat} {k : Nat} (hk : k < l.length) (h : alike l m k = true) : alike l m (k + 1) = decide (l.getD k 0 = m.getD k 0) := by
  obtain ⟨h1, h2⟩ := of_decide_eq_true h
  unfold alike
  rw [take_succ_nat l k hk, take_succ_nat m k (by omega), h2]
  simp [h1]
theorem alike_not {l m : List Nat} {k : Nat} (h : alike l m k = false) : alike l m (k + 1) = false := by
  have h1 := of_decide_eq_false h
  refine decide_eq_false fun hh => h1 ⟨hh.1, ?_⟩
  have := congrArg (List.take k) hh.2
  simpa [List.take_take] using this
theorem alike_all (l m : List Nat) : alike l m l.length = decide (strOfNums (vnums l) = strOfNums (vnums m)) := by
  unfold alike
  congr 1
  apply propext
  constructor
  · rintro ⟨h1, h2⟩
    rw [List.take_of_length_le (Nat.le_refl _), h1, List.take_of_length_le (Nat.le_refl _)] at h2
    rw [h2]
  · intro h
    have e := vnums_inj l m (strOf_inj (vnums_octets l) (vnums_octets m) h)
    rw [e]
    exact ⟨rfl, rfl⟩

theorem vnums_take_len {l : List Nat} (h : ∀ x ∈ l, x < 18446744073709551616) (k : Nat) : (vnums (l.take k)).length ≤ 10 * l.length := by
  have h1 := vnums_length (l.take k) (fun x hx => h x (List.mem_of_mem_take hx))
  have h2 : (l.take k).length ≤ l.length := by simp; omega
  omega

/-- A text of bytes, also behind a draw. -/
theorem textBoth {q : Option Addr} {n c : Nat} {xs : List Int} {w : World} (hx : n = xs.length) (h : Bytes8 w q xs) : (convert 27 9 (.slice q n c)).run Try.prog w = .ok (.string (strOfNums xs)) w ∧ (convert 27 9 (.slice q n c)).run Try.prog w.drew = .ok (.string (strOfNums xs)) w.drew :=
  ⟨textOf q n c xs w hx h, textOf q n c xs w.drew hx h⟩

theorem bufBytesD (base g : Nat) (xs : List Int) (w : World) (h : BufAt w base g xs) (hx : xs.length ≤ 140737488355328) :
    Calls Try.prog 27 #[.pointer (some ⟨g, 0, none⟩)] w.drew fun e w' => ∃ v, e = .returned v ∧ Fresh8 NoBlock xs.length xs w.drew v w' :=
  bufBytes base g xs w.drew h hx

theorem Keeps.fromDrew {S : Nat → Prop} {a b : World} (h : Keeps S a.drew b) : Keeps S a b := ⟨h.os, h.tape, h.output, h.size, h.block⟩

end Go.Proofs.Ytmifbohdepejaaa


namespace Go.Proofs.Ytmifbohdepejaaa
open Go.RowKit

theorem end_here {p : Option Addr} {Nb cb : Nat} {w : World} (k : Nat) (y : Int) (h : CurB w k p Nb cb Nb true y) (hc : (Nb : Int) ≤ 9223372036854775807) :
    Calls Try.prog 73 #[.pointer (some ⟨k, 0, none⟩)] w fun e w' => e = .returned (.tuple #[]) ∧ ∃ m, w' = w.drewN m := by
  have H := Lib.hid h; clear h
  go_enter Try.func73, Try.ntmps73
  go_wp2_with fail
  refine (left_at k p Nb cb Nb y _ H.out (Nat.le_refl _) hc).mono ?_
  rintro e w' ⟨rfl, m, rfl⟩
  go_wp2_with fail
  go_returns
  exact ⟨rfl, m, rfl⟩

theorem RowN.keepAt {w w' : World} {p : Option Addr} {l : List Nat} (h : RowN w p l) {S : Nat → Prop} (hk : Keeps S w w') (hs : 0 < l.length → ∀ q, p = some q → ¬ S q.block) : RowN w' p l := fun i hi => by
  obtain ⟨a, rfl, hc⟩ := h i hi
  exact ⟨a, rfl, hk.cell hc (by rw [addBlock]; exact hs (by omega) a rfl)⟩

theorem vnums_append : ∀ (l m : List Nat), vnums (l ++ m) = vnums l ++ vnums m
  | [], m => by simp [vnums]
  | x :: r, m => by simp [vnums, vnums_append r m]

theorem vnums_split (l : List Nat) (k : Nat) (hk : k < l.length) : (vnums l).drop (vnums (l.take k)).length = vnum (l.getD k 0) ++ vnums (l.drop (k + 1)) := by
  have e : l = l.take k ++ (l.getD k 0 :: l.drop (k + 1)) := by
    conv => lhs; rw [← List.take_append_drop k l, List.drop_eq_getElem_cons hk]
    simp [hk]
  conv => lhs; arg 2; rw [e]
  rw [vnums_append, List.drop_left]
  rfl

theorem vnums_take_le (l : List Nat) (k : Nat) : (vnums (l.take k)).length ≤ (vnums l).length := by
  conv => rhs; rw [← List.take_append_drop k l]
  rw [vnums_append, List.length_append]
  omega

/-- What the reading's loop carries. -/
structure VLoop (w0 W : World) (RB : Nat) (p : Option Addr) (Nb cb a : Nat) (wr : World) : Prop where
  cur : CurB wr (w0.heap.size + 1 + 1) p Nb cb a true 0
  keep : Keeps (fun i => i = w0.heap.size + 1 + 1 ∨ i = RB) W wr
  right : Whole wr RB 4 #[.bool true]

end Go.Proofs.Ytmifbohdepejaaa

namespace Go.Proofs.Ytmifbohdepejaaa
open Go.RowKit

/-- How Get of a footer ends. -/
def FtPost (w : World) (U : GFt) (e : Ending) (w' : World) : Prop :=
  ∃ (q : Option Addr) (m d : Nat), e = .returned (.tuple #[ftV U.f.used q m d, .int .i64 U.y]) ∧ m = U.f.tab.length ∧ m ≤ d ∧ d ≤ 9223372036854775807 ∧ (q = none → m = 0 ∧ d = 0) ∧ EnsAt w' q U.f.tab ∧ Keeps NoBlock w w'
theorem FtPost.gone {w w' : World} {U : GFt} {y : Int} (hU : U = ⟨y, Ft.none⟩) (hk : Keeps NoBlock w w') : FtPost w U (.returned (.tuple #[.agg #[.int .u32 0, .slice none 0 0], .int .i64 y])) w' := by
  subst hU
  exact ⟨none, 0, 0, rfl, rfl, Nat.le_refl _, by decide, fun _ => ⟨rfl, rfl⟩, TwosAt.nil _ _, hk⟩
theorem le_short {xs : List Int} {n : Nat} (ho : Octets xs) (h : xs.length ≤ n) : 0 ≤ le xs ∧ (le xs).toNat < 2 ^ (8 * n) := by
  have h1 := le_bound xs ho
  have e : (2 : Int) ^ (8 * xs.length) = ((2 ^ (8 * xs.length) : Nat) : Int) := by simp
  have p := Nat.pow_le_pow_right (n := 2) (by decide) (show 8 * xs.length ≤ 8 * n by omega)
  rw [e] at h1
  refine ⟨h1.1, Nat.lt_of_lt_of_le ?_ p⟩
  obtain ⟨P, hP⟩ : ∃ P, P = 2 ^ (8 * xs.length) := ⟨_, rfl⟩
  rw [← hP] at h1 ⊢
  omega
theorem takeE_fine : ∀ (n : Nat) {xs : List Int}, Octets xs → ∀ e ∈ takeE n xs, e.Fine
  | 0, _, _, e, he => by simp [takeE] at he
  | n + 1, xs, ho, e, he => by
    rw [takeE] at he
    rcases List.mem_cons.1 he with rfl | he
    · have h1 := (le_short (n := 8) (ho.take 8) (by rw [List.length_take]; omega)).2
      have h2 := (le_short (n := 4) ((ho.drop 8).take 4) (by rw [List.length_take]; omega)).2
      exact ⟨h1, h2⟩
    · exact takeE_fine n (ho.drop 12) e he
theorem takeF_fine : ∀ (n : Nat) {xs : List Int}, Octets xs → ∀ x ∈ takeF n xs, x < 18446744073709551616
  | 0, _, _, e, he => by simp [takeF] at he
  | n + 1, xs, ho, e, he => by
    rw [takeF] at he
    rcases List.mem_cons.1 he with rfl | he
    · exact (le_short (n := 8) (ho.take 8) (by rw [List.length_take]; omega)).2
    · exact takeF_fine n (ho.drop 8) e he
theorem getES_fine (y n : Int) {xs : List Int} (ho : Octets xs) : (∀ e ∈ (getES y n xs).l, e.Fine) ∧ (getES y n xs).m ≤ xs.length ∧ (getES y n xs).l.length ≤ xs.length := by
  unfold getES getE
  split
  · exact ⟨fun e he => by simp at he, Nat.zero_le _, Nat.zero_le _⟩
  · split
    · exact ⟨fun e he => by simp at he, Nat.zero_le _, Nat.zero_le _⟩
    · split
      · exact ⟨fun e he => by simp at he, Nat.zero_le _, Nat.zero_le _⟩
      · split
        · exact ⟨takeE_fine _ ho, by show 12 * _ ≤ _; omega, by show (takeE _ _).length ≤ _; rw [takeE_length]; omega⟩
        · exact ⟨fun e he => by simp at he, by show 12 * _ ≤ _; omega, Nat.zero_le _⟩
theorem getFS_fine (y n : Int) {xs : List Int} (ho : Octets xs) : (∀ x ∈ (getFS y n xs).l, x < 18446744073709551616) ∧ (getFS y n xs).m ≤ xs.length ∧ (getFS y n xs).l.length ≤ xs.length := by
  unfold getFS getF
  split
  · exact ⟨fun e he => by simp at he, Nat.zero_le _, Nat.zero_le _⟩
  · split
    · exact ⟨fun e he => by simp at he, Nat.zero_le _, Nat.zero_le _⟩
    · split
      · exact ⟨fun e he => by simp at he, Nat.zero_le _, Nat.zero_le _⟩
      · split
        · exact ⟨takeF_fine _ ho, by show 8 * _ ≤ _; omega, by show (takeF _ _).length ≤ _; rw [takeF_length]; omega⟩
        · exact ⟨fun e he => by simp at he, by show 8 * _ ≤ _; omega, Nat.zero_le _⟩

theorem Whole.notCell {w : World} {g : Nat} {t : TypeId} {cs : Array Value} (h : Whole w g t cs) {a : Addr} {v : Value} (hc : w.cell? a = some v) (hn : ∀ i : Nat, cs[i]? ≠ some v) : a.block ≠ g := by
  intro e
  unfold World.cell? at hc
  rw [e] at hc
  simp only [show w.heap[g]? = _ from h] at hc
  split at hc
  · exact absurd hc (by simp)
  · exact hn _ hc
theorem EnsAt.notRdr {w : World} {q : Option Addr} {l : List En} (h : EnsAt w q l) {g : Nat} {t : TypeId} {xs : List Int} {x y : Int} (hg : Whole w g t (rdrCells xs x y)) : 0 < l.length → ∀ a, q = some a → a.block ≠ g := fun h0 a ha => by
  obtain ⟨a', ha', c0, _⟩ := h.at_ 0 h0
  obtain rfl := Option.some.inj (ha.symm.trans ha')
  have := Whole.notCell hg c0 (fun i => by
    match i with
    | 0 => simp [rdrCells]
    | 1 => simp [rdrCells]
    | 2 => simp [rdrCells]
    | k + 3 => simp [rdrCells])
  rwa [addBlock] at this
theorem EnsAt.notFt {w : World} {q : Option Addr} {l : List En} (h : EnsAt w q l) {g : Nat} {t : TypeId} {u : Nat} {q2 : Option Addr} {n c : Nat} (hg : Whole w g t (ftCells u q2 n c)) : 0 < l.length → ∀ a, q = some a → a.block ≠ g := fun h0 a ha => by
  obtain ⟨a', ha', c0, _⟩ := h.at_ 0 h0
  obtain rfl := Option.some.inj (ha.symm.trans ha')
  have := Whole.notCell hg c0 (fun i => by
    match i with
    | 0 => simp [ftCells]
    | 1 => simp [ftCells]
    | k + 2 => simp [ftCells])
  rwa [addBlock] at this
/-- Within Get: the reader in block g, the answer's cells, what was there as it was. -/
structure RdSt (w : World) (g : Nat) (xs : List Int) (a y : Int) (W : World) : Prop where
  rd : Whole W g 84 (rdrCells xs a y)
  z : Whole W w.heap.size 34 (ftCells 0 none 0 0)
  kp : Keeps NoBlock w W
  lt : w.heap.size < g
theorem RdSt.keep {w : World} {g : Nat} {xs : List Int} {a y : Int} {W W' : World} (h : RdSt w g xs a y W) (hk : Keeps NoBlock W W') : RdSt w g xs a y W' := ⟨h.rd.keep hk (fun h => h), h.z.keep hk (fun h => h), h.kp.trans hk, h.lt⟩
theorem RdSt.put {w : World} {g : Nat} {xs : List Int} {a y : Int} {W : World} (h : RdSt w g xs a y W) (xs' : List Int) (a' y' : Int) : RdSt w g xs' a' y' (((W.setCell ⟨g, 0, none⟩ (.string (strOfNums xs'))).setCell ⟨g, 1, none⟩ (.int .i64 a')).setCell ⟨g, 2, none⟩ (.int .i64 y')) :=
  ⟨((h.rd.set 0 _).set 1 _).set 2 _, ((h.z.setOther (by have := h.lt; simp; omega) _).setOther (by have := h.lt; simp; omega) _).setOther (by have := h.lt; simp; omega) _,
   ((h.kp.setNew (g := g) (Nat.le_of_lt h.lt) 0 _).setNew (g := g) (Nat.le_of_lt h.lt) 1 _).setNew (g := g) (Nat.le_of_lt h.lt) 2 _, h.lt⟩
theorem put3_keeps (W : World) (g : Nat) (a b c : Value) : Keeps (Just g) W (((W.setCell ⟨g, 0, none⟩ a).setCell ⟨g, 1, none⟩ b).setCell ⟨g, 2, none⟩ c) := (((Keeps.refl (Just g) W).setIn (Just.self g) 0 a).setIn (Just.self g) 1 b).setIn (Just.self g) 2 c

set_option maxHeartbeats 16000000 in
set_option maxRecDepth 10000 in
theorem getft_ref (ys : List Int) (ho : Octets ys) (hl : ys.length ≤ 100000) (w : World) :
    Calls Try.prog 17 #[.string (strOfNums ys)] w (FtPost w (getFt ys)) := by
  have HOp := Lib.hid (fun w => open9_ref ys ho (by omega) w)
  obtain ⟨hb1, hb2⟩ := open_bound ho
  obtain ⟨U, hU⟩ : ∃ U, U = getFt ys := ⟨_, rfl⟩
  rw [← hU]
  unfold getFt at hU
  obtain ⟨Y0, hY0⟩ : ∃ y, y = (openN ys).1 := ⟨_, rfl⟩
  obtain ⟨T, hT⟩ : ∃ t, t = (openN ys).2 := ⟨_, rfl⟩
  unfold openOut at HOp
  rw [← hY0] at HOp hU
  rw [← hT] at HOp hU hb1 hb2
  have HU := Lib.hid hU
  have HZ := Lib.hid (Whole.new w 34 (ftCells 0 none 0 0))
  have HK := Lib.hid ((Keeps.refl NoBlock w).alloc (.cells (ftCells 0 none 0 0) 34))
  clear hU hY0 hT ho
  go_enter Try.func17, Try.ntmps17
  go_wp2_with fail
  refine (HOp.out _).mono ?_
  rintro e w1 ⟨rfl, hk⟩
  have HZ := Lib.hid (HZ.out.keep hk (fun h => h))
  have HK := Lib.hid (HK.out.trans hk)
  clear hk HOp
  have z0 := HZ.out.cell 0 rfl
  have z1 := HZ.out.cell 1 rfl
  have f0 := HZ.out.free 0
  have f1 := HZ.out.free 1
  simp only [ftCells, List.getElem_toArray, List.getElem_cons_zero, List.getElem_cons_succ] at z0 z1
  by_cases h0 : Y0 = 0
  rotate_left
  · have hne : (Y0 != 0) = true := by rw [bne_iff_ne]; exact h0
    have HU := Lib.hid (HU.out.trans (if_pos h0))
    clear h0
    go_wp2_with fail
    exact bodyPost_ret (v := .tuple #[.agg #[.int .u32 0, .slice none 0 0], .int .i64 Y0]) (by simp [results, Try.results17, go_sem, z0, z1]) rfl (FtPost.gone HU.out (by first | exact (HK.out.setNew (g := w.heap.size) (Nat.le_refl _) 0 _).setNew (g := w.heap.size) (Nat.le_refl _) 1 _ | exact ((HK.out.setNew (g := w.heap.size) (Nat.le_refl _) 0 _).setNew (g := w.heap.size) (Nat.le_refl _) 1 _).drewN _ | exact (HK.out.drewN 1 |>.setNew (g := w.heap.size) (Nat.le_refl _) 0 _).setNew (g := w.heap.size) (Nat.le_refl _) 1 _))
  subst h0
  have HU : Hid (U = readFt T) := Lib.hid (HU.out.trans (if_neg (by simp)))
  have hsT := str_size T
  by_cases hT0 : T = []
  · subst hT0
    have HU := Lib.hid (show U = ⟨2, Ft.none⟩ from HU.out)
    have hem : (strOfNums []).toList.isEmpty = true := str_isnone []
    go_wp2_with fail
    exact bodyPost_ret (v := .tuple #[.agg #[.int .u32 0, .slice none 0 0], .int .i64 2]) (by simp [results, Try.results17, go_sem, z0, z1]) rfl (FtPost.gone HU.out (by first | exact (HK.out.setNew (g := w.heap.size) (Nat.le_refl _) 0 _).setNew (g := w.heap.size) (Nat.le_refl _) 1 _ | exact ((HK.out.setNew (g := w.heap.size) (Nat.le_refl _) 0 _).setNew (g := w.heap.size) (Nat.le_refl _) 1 _).drewN _ | exact (HK.out.drewN 1 |>.setNew (g := w.heap.size) (Nat.le_refl _) 0 _).setNew (g := w.heap.size) (Nat.le_refl _) 1 _))
  have hem : (strOfNums T).toList.isEmpty = false := by rw [str_isnone]; cases T with
    | nil => exact absurd rfl hT0
    | cons a r => rfl
  obtain ⟨b, r0, hR⟩ := List.exists_cons_of_ne_nil hT0
  have hpos : 0 < (strOfNums T).size := by rw [hsT, hR]; simp
  have hsg := str_get T hb1 0 hpos
  rw [show T.getD 0 0 = b by rw [hR]; rfl] at hsg
  have hbb := hb1 b (by rw [hR]; exact List.mem_cons_self)
  obtain ⟨B, rfl⟩ := Int.eq_ofNat_of_zero_le (show 0 ≤ b by omega)
  have HU : Hid (U = if (B : Int) = 4 then ftCount r0 else ⟨4, Ft.none⟩) := Lib.hid (by rw [HU.out, hR]; rfl)
  have hro : Octets r0 := fun x hx => hb1 x (by rw [hR]; exact List.mem_cons_of_mem _ hx)
  have hdr : T.drop 1 = r0 := by rw [hR]; rfl
  have hrl : r0.length + 1 = T.length := by rw [hR]; rfl
  have hext := str_drop T 1
  rw [hdr] at hext
  obtain ⟨L, hL⟩ : ∃ L, L = T.length := ⟨_, rfl⟩
  rw [← hL] at hsT hb2 hrl
  rw [hsT] at hext
  clear hT0 hR hbb hdr hL hb1
  by_cases hB : (B : Int) = 4
  rotate_left
  · have hne : ((B : Int) != 4) = true := by rw [bne_iff_ne]; exact hB
    have HU := Lib.hid (HU.out.trans (if_neg hB))
    clear hB
    go_wp2_with fail
    exact bodyPost_ret (v := .tuple #[.agg #[.int .u32 0, .slice none 0 0], .int .i64 4]) (by simp [results, Try.results17, go_sem, z0, z1]) rfl (FtPost.gone HU.out (by first | exact (HK.out.setNew (g := w.heap.size) (Nat.le_refl _) 0 _).setNew (g := w.heap.size) (Nat.le_refl _) 1 _ | exact ((HK.out.setNew (g := w.heap.size) (Nat.le_refl _) 0 _).setNew (g := w.heap.size) (Nat.le_refl _) 1 _).drewN _ | exact (HK.out.drewN 1 |>.setNew (g := w.heap.size) (Nat.le_refl _) 0 _).setNew (g := w.heap.size) (Nat.le_refl _) 1 _))
  have HS : Hid (U = ftS1 r0) := Lib.hid ((HU.out.trans (if_pos hB)).trans (ftS1_count r0).symm)
  obtain rfl : B = 4 := by omega
  clear hB HU
  have HU := HS
  clear HS
  have G1 := Lib.hid (fun w => get4_all r0 0 0 hro (by omega) (by omega) w)
  obtain ⟨hx1, hm1⟩ := get4S_bound 0 hro
  unfold ftS1 at HU
  obtain ⟨t1, ht1⟩ : ∃ t, t = get4S 0 r0 := ⟨_, rfl⟩
  rw [← ht1] at G1 HU hx1 hm1
  obtain ⟨Y1, N1, m1⟩ := t1
  simp only at G1 HU hx1 hm1
  obtain ⟨R1, hR1⟩ : ∃ R, R = r0.drop m1 := ⟨_, rfl⟩
  have ho1 : Octets R1 := by rw [hR1]; exact hro.drop _
  have hl1 : R1.length ≤ 100000 := by rw [hR1, List.length_drop]; omega
  have hA1 : 0 ≤ (0 : Int) + (m1 : Int) ∧ (0 : Int) + (m1 : Int) ≤ 100000 := by omega
  rw [← hR1] at G1 HU
  obtain ⟨A1, hA⟩ : ∃ A : Int, A = 0 + (m1 : Int) := ⟨_, rfl⟩
  rw [← hA] at G1 hA1
  unfold rdr at G1
  clear ht1 hR1 hA hro hm1
  have h1L : (1 : Int) ≤ (L : Int) := by omega
  have h1L2 : 1 ≤ L := by omega
  go_wp2_with fail
  refine (G1.out _).mono ?_
  rintro e w2 ⟨rfl, hk⟩
  have HZ := Lib.hid (HZ.out.keep hk (fun h => h))
  have HK := Lib.hid (HK.out.trans hk)
  have HD := Lib.hid (show RdSt w w2.heap.size R1 A1 Y1 (w2.alloc (.cells (rdrCells R1 A1 Y1) 84)) from ⟨Whole.new w2 _ _, HZ.out.alloc _, HK.out.alloc _, HZ.out.lt⟩)
  clear hk G1 z0 z1 f0 f1 hsg hem hext hsT hpos
  go_upto_region 9 with (fail)
  obtain ⟨W, hW⟩ : ∃ W, W = w2.alloc (.cells #[.string (strOfNums R1), .int .i64 A1, .int .i64 Y1] 84) := ⟨_, rfl⟩
  have HD : Hid (RdSt w w2.heap.size R1 A1 Y1 W) := by rw [hW]; exact HD
  rw [← hW]
  obtain ⟨g, hg⟩ : ∃ g, g = w2.heap.size := ⟨_, rfl⟩
  rw [← hg] at HD ⊢
  clear hW hg HZ HK
  have HG4 := Lib.hid (fun (xs : List Int) (a y : Int) (ho : Octets xs) (hl : xs.length ≤ 100000) (ha : 0 ≤ a ∧ a ≤ 10000000) w => get4_all xs a y ho (by omega) (by omega) w)
  have HGE := Lib.hid (fun (n : Int) (xs : List Int) (a y : Int) (ho : Octets xs) (hl : xs.length ≤ 100000) (ha : 0 ≤ a ∧ a ≤ 10000000) w => getents_all n xs ho (by omega) a y (by omega) w)
  have HGF := Lib.hid (fun (n : Int) (xs : List Int) (a y : Int) (ho : Octets xs) (hl : xs.length ≤ 100000) (ha : 0 ≤ a ∧ a ≤ 10000000) w => get12_all n xs ho (by omega) a y (by omega) w)
  by_cases hy1 : Y1 = 0
  rotate_left
  · have HS : Hid (U = ftS2 N1 Y1 R1) := Lib.hid (HU.out.trans (if_neg (fun h => hy1 h.1)))
    have hn1 : (Y1 == 0) = false := beq_eq_false_iff_ne.2 hy1
    clear HU
    have HU := HS
    clear HS
    have G2 := Lib.hid (HG4.out R1 A1 Y1 ho1 hl1 (by omega))
    obtain ⟨hx2, hm2⟩ := get4S_bound Y1 ho1
    unfold ftS2 at HU
    obtain ⟨t2, ht2⟩ : ∃ t, t = get4S Y1 R1 := ⟨_, rfl⟩
    rw [← ht2] at G2 HU hx2 hm2
    obtain ⟨Y2, X2, m2⟩ := t2
    simp only at G2 HU hx2 hm2
    obtain ⟨R2, hR2⟩ : ∃ R, R = R1.drop m2 := ⟨_, rfl⟩
    have ho2 : Octets R2 := by rw [hR2]; exact ho1.drop _
    have hl2 : R2.length ≤ 100000 := by rw [hR2, List.length_drop]; omega
    rw [← hR2] at G2 HU
    obtain ⟨A2, hA2⟩ : ∃ A : Int, A = A1 + (m2 : Int) := ⟨_, rfl⟩
    have hA2b : 0 ≤ A2 ∧ A2 ≤ 200000 := by omega
    rw [← hA2] at G2
    unfold rdr at G2
    have hy2 : ¬ Y2 = 0 := by
      have e : get4S Y1 R1 = ⟨Y1, 0, 0⟩ := if_pos hy1
      rw [e] at ht2
      injection ht2 with a b c
      rw [a]
      exact hy1
    clear ht2 hR2 hA2 hm2
    have r0 := HD.out.rd.cell 0 rfl
    have r1 := HD.out.rd.cell 1 rfl
    have r2 := HD.out.rd.cell 2 rfl
    have g0 := HD.out.rd.free 0
    have g1 := HD.out.rd.free 1
    have g2 := HD.out.rd.free 2
    simp only [rdrCells, List.getElem_toArray, List.getElem_cons_zero, List.getElem_cons_succ] at r0 r1 r2
    go_wp2_with fail
    refine (G2.out _).mono ?_
    rintro e w3 ⟨rfl, hk⟩
    have HD := Lib.hid (HD.out.keep hk)
    clear r0 r1 r2 g0 g1 g2 hk G2
    have r0 := HD.out.rd.cell 0 rfl
    have r1 := HD.out.rd.cell 1 rfl
    have r2 := HD.out.rd.cell 2 rfl
    have g0 := HD.out.rd.free 0
    have g1 := HD.out.rd.free 1
    have g2 := HD.out.rd.free 2
    simp only [rdrCells, List.getElem_toArray, List.getElem_cons_zero, List.getElem_cons_succ] at r0 r1 r2
    have HD := Lib.hid (HD.out.put R2 A2 Y2)
    have G3 := Lib.hid (HGE.out (N1 : Int) R2 A2 Y2 ho2 hl2 (by omega))
    obtain ⟨hfe, hm3, hll⟩ := getES_fine Y2 (N1 : Int) ho2
    unfold ftS3 at HU
    obtain ⟨t3, ht3⟩ : ∃ t, t = getES Y2 (N1 : Int) R2 := ⟨_, rfl⟩
    unfold GotE at G3
    rw [← ht3] at G3 HU hfe hm3 hll
    obtain ⟨m3, Y3, El⟩ := t3
    simp only at G3 HU hfe hm3 hll
    obtain ⟨R3, hR3⟩ : ∃ R, R = R2.drop m3 := ⟨_, rfl⟩
    have ho3 : Octets R3 := by rw [hR3]; exact ho2.drop _
    have hl3 : R3.length ≤ 100000 := by rw [hR3, List.length_drop]; omega
    rw [← hR3] at G3 HU
    obtain ⟨A3, hA3⟩ : ∃ A : Int, A = A2 + (m3 : Int) := ⟨_, rfl⟩
    have hA3b : 0 ≤ A3 ∧ A3 ≤ 300000 := by omega
    rw [← hA3] at G3
    unfold rdr at G3
    have HFe := Lib.hid hfe
    have HLl := Lib.hid (show El.length ≤ 100000 by omega)
    have hy3 : ¬ Y3 = 0 := by
      rw [getES_gone _ _ _ hy2] at ht3
      injection ht3 with a b c
      rw [b]
      exact hy2
    clear ht3 hR3 hA3 hm3 hfe hll
    have wN : IntKind.i64.wrap (N1 : Int) = (N1 : Int) := IntWalk.i64_in _ (by omega)
    go_wp2_with fail
    refine (G3.out _).mono ?_
    rintro e w4 ⟨v4, rfl, q4, m4, d4, rfl, hm4, hmd4, hd4, hq4, hat4, hk⟩
    have HD := Lib.hid (HD.out.keep hk)
    have HM4 := Lib.hid (And.intro hm4 (And.intro hmd4 (And.intro hd4 hq4)))
    have HE := Lib.hid (show EnsAt w4 q4 El from hat4)
    clear r0 r1 r2 g0 g1 g2 hk G3 hm4 hmd4 hd4 hq4 hat4
    have r0 := HD.out.rd.cell 0 rfl
    have r1 := HD.out.rd.cell 1 rfl
    have r2 := HD.out.rd.cell 2 rfl
    have g0 := HD.out.rd.free 0
    have g1 := HD.out.rd.free 1
    have g2 := HD.out.rd.free 2
    simp only [rdrCells, List.getElem_toArray, List.getElem_cons_zero, List.getElem_cons_succ] at r0 r1 r2
    have HFar := Lib.hid (HE.out.notRdr HD.out.rd)
    have HE := Lib.hid (EnsAt.keepFar HE.out (put3_keeps w4 g (.string (strOfNums R3)) (.int .i64 A3) (.int .i64 Y3)) HFar.out)
    have HD := Lib.hid (HD.out.put R3 A3 Y3)
    obtain ⟨C, hC⟩ : ∃ C, C = countF (N1 : Int) := ⟨_, rfl⟩
    have hCd : C = (N1 + 15) / 16 := by rw [hC]; unfold countF; rw [Int.toNat_natCast]
    have hq16 : ((N1 : Int) + 15).tdiv 16 = (C : Int) := by rw [Int.tdiv_eq_ediv_of_nonneg (by omega)]; omega
    have wN2 : IntKind.i64.wrap ((N1 : Int) + 15) = (N1 : Int) + 15 := IntWalk.i64_in _ (by omega)
    have hq162 : ((N1 : Int) + 15) / 16 = (C : Int) := by omega
    have G4 := Lib.hid (HGF.out (C : Int) R3 A3 Y3 ho3 hl3 (by omega))
    obtain ⟨hff, hm5, hfl⟩ := getFS_fine Y3 (C : Int) ho3
    unfold ftS4 at HU
    rw [← hC] at HU
    obtain ⟨t4, ht4⟩ : ∃ t, t = getFS Y3 (C : Int) R3 := ⟨_, rfl⟩
    unfold GotF at G4
    rw [← ht4] at G4 HU hff hm5 hfl
    obtain ⟨m5, Y4, Fl⟩ := t4
    simp only at G4 HU hff hm5 hfl
    obtain ⟨R4, hR4⟩ : ∃ R, R = R3.drop m5 := ⟨_, rfl⟩
    rw [← hR4] at G4 HU
    obtain ⟨A4, hA4⟩ : ∃ A : Int, A = A3 + (m5 : Int) := ⟨_, rfl⟩
    rw [← hA4] at G4
    have G5 := Lib.hid (fun w => end_ref R4 A4 Y4 w)
    unfold rdr at G4 G5
    have HFf := Lib.hid hff
    have HLf := Lib.hid (show Fl.length ≤ 100000 by omega)
    obtain ⟨Y5, hY5⟩ : ∃ y, y = endE R4 Y4 := ⟨_, rfl⟩
    rw [← hY5] at G5 HU
    have hy4 : ¬ Y4 = 0 := by
      rw [getFS_gone _ _ _ hy3] at ht4
      injection ht4 with a b c
      rw [b]
      exact hy3
    have hy5 : ¬ Y5 = 0 := by
      rw [hY5]
      unfold endE
      rw [if_neg hy4]
      exact hy4
    clear ht4 hR4 hA4 hm5 hff hfl hC hCd hY5
    go_wp2_with fail
    refine (G4.out _).mono ?_
    rintro e w5 ⟨v5, rfl, hnum⟩
    obtain ⟨q5, m5, d5, rfl, hbare5, hm5, hc5⟩ := own_nums hnum.1
    have hk : Keeps NoBlock _ w5 := Keeps.ofBelow hnum.2
    have HD := Lib.hid (HD.out.keep hk)
    have HE := Lib.hid (EnsAt.keep HE.out hk)
    have HF := Lib.hid (cells_rowN hm5 hbare5 hc5)
    have HM5 := Lib.hid hm5
    have HFar2 : Hid (∀ a, q5 = some a → a.block ≠ g) := Lib.hid (fun a ha => by
      have h1 := own_apart (t := 84) (by decide) hnum.1 HD.out.rd
      intro e
      subst ha
      exact h1 (by simp [Value.ownBlock, e]))
    clear r0 r1 r2 g0 g1 g2 hk G4 hbare5 hm5 hc5 hnum
    have r0 := HD.out.rd.cell 0 rfl
    have r1 := HD.out.rd.cell 1 rfl
    have r2 := HD.out.rd.cell 2 rfl
    have g0 := HD.out.rd.free 0
    have g1 := HD.out.rd.free 1
    have g2 := HD.out.rd.free 2
    simp only [rdrCells, List.getElem_toArray, List.getElem_cons_zero, List.getElem_cons_succ] at r0 r1 r2
    have HE := Lib.hid (EnsAt.keepFar HE.out (put3_keeps w5 g (.string (strOfNums R4)) (.int .i64 A4) (.int .i64 Y4)) (HE.out.notRdr HD.out.rd))
    have HF := Lib.hid (RowN.keepAt HF.out (put3_keeps w5 g (.string (strOfNums R4)) (.int .i64 A4) (.int .i64 Y4)) (fun _ a ha => HFar2.out a ha))
    have HD := Lib.hid (HD.out.put R4 A4 Y4)
    go_wp2_with fail
    refine (G5.out _).mono ?_
    rintro e w6 ⟨rfl, hk⟩
    have HD := Lib.hid (HD.out.keep hk)
    have HE := Lib.hid (EnsAt.keep HE.out hk)
    have HF := Lib.hid (RowN.keep HF.out hk (fun _ _ h => h))
    clear r0 r1 r2 g0 g1 g2 hk G5
    have r0 := HD.out.rd.cell 0 rfl
    have r1 := HD.out.rd.cell 1 rfl
    have r2 := HD.out.rd.cell 2 rfl
    have g0 := HD.out.rd.free 0
    have g1 := HD.out.rd.free 1
    have g2 := HD.out.rd.free 2
    simp only [rdrCells, List.getElem_toArray, List.getElem_cons_zero, List.getElem_cons_succ] at r0 r1 r2
    have HE := Lib.hid (EnsAt.keepFar HE.out (put3_keeps w6 g (.string (strOfNums R4)) (.int .i64 A4) (.int .i64 Y5)) (HE.out.notRdr HD.out.rd))
    have HF := Lib.hid (RowN.keepAt HF.out (put3_keeps w6 g (.string (strOfNums R4)) (.int .i64 A4) (.int .i64 Y5)) (fun _ a ha => HFar2.out a ha))
    have HD := Lib.hid (HD.out.put R4 A4 Y5)
    go_upto_region 15 with (fail)
    obtain ⟨W, hW⟩ : ∃ W, W = ((w6.setCell ⟨g, 0, none⟩ (.string (strOfNums R4))).setCell ⟨g, 1, none⟩ (.int .i64 A4)).setCell ⟨g, 2, none⟩ (.int .i64 Y5) := ⟨_, rfl⟩
    rw [← hW] at HD HE HF
    rw [← hW]
    clear r0 r1 r2 g0 g1 g2 hW
    have r0 := HD.out.rd.cell 0 rfl
    have r1 := HD.out.rd.cell 1 rfl
    have r2 := HD.out.rd.cell 2 rfl
    have g0 := HD.out.rd.free 0
    have g1 := HD.out.rd.free 1
    have g2 := HD.out.rd.free 2
    simp only [rdrCells, List.getElem_toArray, List.getElem_cons_zero, List.getElem_cons_succ] at r0 r1 r2
    have z0 := HD.out.z.cell 0 rfl
    have z1 := HD.out.z.cell 1 rfl
    have f0 := HD.out.z.free 0
    have f1 := HD.out.z.free 1
    have HK := Lib.hid HD.out.kp
    simp only [ftCells, List.getElem_toArray, List.getElem_cons_zero, List.getElem_cons_succ] at z0 z1
    have HZw := Lib.hid HD.out.z
    unfold ftLastS at HU
    · have hne : (Y5 != 0) = true := by rw [bne_iff_ne]; exact hy5
      have HUe := Lib.hid (HU.out.trans (if_pos hy5))
      go_wp2_with fail
      have q2 : W.drew.cell? ⟨g, 2, none⟩ = some (.int .i64 Y5) := r2
      go_region
      all_goals go_wp2_with fail
      all_goals exact bodyPost_ret (v := .tuple #[.agg #[.int .u32 0, .slice none 0 0], .int .i64 Y5]) (by simp [results, Try.results17, go_sem, z0, z1]) rfl (FtPost.gone HUe.out (by first | exact (HK.out.setNew (g := w.heap.size) (Nat.le_refl _) 0 _).setNew (g := w.heap.size) (Nat.le_refl _) 1 _ | exact ((HK.out.setNew (g := w.heap.size) (Nat.le_refl _) 0 _).setNew (g := w.heap.size) (Nat.le_refl _) 1 _).drewN _ | exact (HK.out.drewN 1 |>.setNew (g := w.heap.size) (Nat.le_refl _) 0 _).setNew (g := w.heap.size) (Nat.le_refl _) 1 _))
  subst hy1
  by_cases hbig : 1048576 < N1
  · have HS : Hid (U = ⟨3, Ft.none⟩) := Lib.hid (HU.out.trans (if_pos ⟨by trivial, hbig⟩))
    clear HU
    have HU := HS
    have hd1 : decide ((1048576 : Int) < (N1 : Int)) = true := decide_eq_true (by omega)
    have hd2 : decide (1048576 < N1) = true := decide_eq_true hbig
    have r0 := HD.out.rd.cell 0 rfl
    have r1 := HD.out.rd.cell 1 rfl
    have r2 := HD.out.rd.cell 2 rfl
    have g0 := HD.out.rd.free 0
    have g1 := HD.out.rd.free 1
    have g2 := HD.out.rd.free 2
    simp only [rdrCells, List.getElem_toArray, List.getElem_cons_zero, List.getElem_cons_succ] at r0 r1 r2
    have z0 := HD.out.z.cell 0 rfl
    have z1 := HD.out.z.cell 1 rfl
    have f0 := HD.out.z.free 0
    have f1 := HD.out.z.free 1
    have HK := Lib.hid HD.out.kp
    simp only [ftCells, List.getElem_toArray, List.getElem_cons_zero, List.getElem_cons_succ] at z0 z1
    go_wp2_with fail
    exact bodyPost_ret (v := .tuple #[.agg #[.int .u32 0, .slice none 0 0], .int .i64 3]) (by simp [results, Try.results17, go_sem, z0, z1]) rfl (FtPost.gone HU.out (by first | exact (HK.out.setNew (g := w.heap.size) (Nat.le_refl _) 0 _).setNew (g := w.heap.size) (Nat.le_refl _) 1 _ | exact ((HK.out.setNew (g := w.heap.size) (Nat.le_refl _) 0 _).setNew (g := w.heap.size) (Nat.le_refl _) 1 _).drewN _ | exact (HK.out.drewN 1 |>.setNew (g := w.heap.size) (Nat.le_refl _) 0 _).setNew (g := w.heap.size) (Nat.le_refl _) 1 _))
  have HS : Hid (U = ftS2 N1 0 R1) := Lib.hid (HU.out.trans (if_neg (fun h => hbig h.2)))
  clear HU
  have HU := HS
  clear HS
  have hd1 : decide ((1048576 : Int) < (N1 : Int)) = false := decide_eq_false (by omega)
  have hd2 : decide (1048576 < N1) = false := decide_eq_false hbig
  have G2 := Lib.hid (HG4.out R1 A1 0 ho1 hl1 (by omega))
  obtain ⟨hx2, hm2⟩ := get4S_bound 0 ho1
  unfold ftS2 at HU
  obtain ⟨t2, ht2⟩ : ∃ t, t = get4S 0 R1 := ⟨_, rfl⟩
  rw [← ht2] at G2 HU hx2 hm2
  obtain ⟨Y2, X2, m2⟩ := t2
  simp only at G2 HU hx2 hm2
  obtain ⟨R2, hR2⟩ : ∃ R, R = R1.drop m2 := ⟨_, rfl⟩
  have ho2 : Octets R2 := by rw [hR2]; exact ho1.drop _
  have hl2 : R2.length ≤ 100000 := by rw [hR2, List.length_drop]; omega
  rw [← hR2] at G2 HU
  obtain ⟨A2, hA2⟩ : ∃ A : Int, A = A1 + (m2 : Int) := ⟨_, rfl⟩
  have hA2b : 0 ≤ A2 ∧ A2 ≤ 200000 := by omega
  rw [← hA2] at G2
  unfold rdr at G2
  clear ht2 hR2 hA2 hm2
  have r0 := HD.out.rd.cell 0 rfl
  have r1 := HD.out.rd.cell 1 rfl
  have r2 := HD.out.rd.cell 2 rfl
  have g0 := HD.out.rd.free 0
  have g1 := HD.out.rd.free 1
  have g2 := HD.out.rd.free 2
  simp only [rdrCells, List.getElem_toArray, List.getElem_cons_zero, List.getElem_cons_succ] at r0 r1 r2
  go_wp2_with fail
  refine (G2.out _).mono ?_
  rintro e w3 ⟨rfl, hk⟩
  have HD := Lib.hid (HD.out.keep hk)
  clear r0 r1 r2 g0 g1 g2 hk G2
  have r0 := HD.out.rd.cell 0 rfl
  have r1 := HD.out.rd.cell 1 rfl
  have r2 := HD.out.rd.cell 2 rfl
  have g0 := HD.out.rd.free 0
  have g1 := HD.out.rd.free 1
  have g2 := HD.out.rd.free 2
  simp only [rdrCells, List.getElem_toArray, List.getElem_cons_zero, List.getElem_cons_succ] at r0 r1 r2
  have HD := Lib.hid (HD.out.put R2 A2 Y2)
  have G3 := Lib.hid (HGE.out (N1 : Int) R2 A2 Y2 ho2 hl2 (by omega))
  obtain ⟨hfe, hm3, hll⟩ := getES_fine Y2 (N1 : Int) ho2
  unfold ftS3 at HU
  obtain ⟨t3, ht3⟩ : ∃ t, t = getES Y2 (N1 : Int) R2 := ⟨_, rfl⟩
  unfold GotE at G3
  rw [← ht3] at G3 HU hfe hm3 hll
  obtain ⟨m3, Y3, El⟩ := t3
  simp only at G3 HU hfe hm3 hll
  obtain ⟨R3, hR3⟩ : ∃ R, R = R2.drop m3 := ⟨_, rfl⟩
  have ho3 : Octets R3 := by rw [hR3]; exact ho2.drop _
  have hl3 : R3.length ≤ 100000 := by rw [hR3, List.length_drop]; omega
  rw [← hR3] at G3 HU
  obtain ⟨A3, hA3⟩ : ∃ A : Int, A = A2 + (m3 : Int) := ⟨_, rfl⟩
  have hA3b : 0 ≤ A3 ∧ A3 ≤ 300000 := by omega
  rw [← hA3] at G3
  unfold rdr at G3
  have HFe := Lib.hid hfe
  have HLl := Lib.hid (show El.length ≤ 100000 by omega)
  clear ht3 hR3 hA3 hm3 hfe hll
  have wN : IntKind.i64.wrap (N1 : Int) = (N1 : Int) := IntWalk.i64_in _ (by omega)
  go_wp2_with fail
  refine (G3.out _).mono ?_
  rintro e w4 ⟨v4, rfl, q4, m4, d4, rfl, hm4, hmd4, hd4, hq4, hat4, hk⟩
  have HD := Lib.hid (HD.out.keep hk)
  have HM4 := Lib.hid (And.intro hm4 (And.intro hmd4 (And.intro hd4 hq4)))
  have HE := Lib.hid (show EnsAt w4 q4 El from hat4)
  clear r0 r1 r2 g0 g1 g2 hk G3 hm4 hmd4 hd4 hq4 hat4
  have r0 := HD.out.rd.cell 0 rfl
  have r1 := HD.out.rd.cell 1 rfl
  have r2 := HD.out.rd.cell 2 rfl
  have g0 := HD.out.rd.free 0
  have g1 := HD.out.rd.free 1
  have g2 := HD.out.rd.free 2
  simp only [rdrCells, List.getElem_toArray, List.getElem_cons_zero, List.getElem_cons_succ] at r0 r1 r2
  have HFar := Lib.hid (HE.out.notRdr HD.out.rd)
  have HE := Lib.hid (EnsAt.keepFar HE.out (put3_keeps w4 g (.string (strOfNums R3)) (.int .i64 A3) (.int .i64 Y3)) HFar.out)
  have HD := Lib.hid (HD.out.put R3 A3 Y3)
  obtain ⟨C, hC⟩ : ∃ C, C = countF (N1 : Int) := ⟨_, rfl⟩
  have hCd : C = (N1 + 15) / 16 := by rw [hC]; unfold countF; rw [Int.toNat_natCast]
  have hq16 : ((N1 : Int) + 15).tdiv 16 = (C : Int) := by rw [Int.tdiv_eq_ediv_of_nonneg (by omega)]; omega
  have wN2 : IntKind.i64.wrap ((N1 : Int) + 15) = (N1 : Int) + 15 := IntWalk.i64_in _ (by omega)
  have hq162 : ((N1 : Int) + 15) / 16 = (C : Int) := by omega
  have G4 := Lib.hid (HGF.out (C : Int) R3 A3 Y3 ho3 hl3 (by omega))
  obtain ⟨hff, hm5, hfl⟩ := getFS_fine Y3 (C : Int) ho3
  unfold ftS4 at HU
  rw [← hC] at HU
  obtain ⟨t4, ht4⟩ : ∃ t, t = getFS Y3 (C : Int) R3 := ⟨_, rfl⟩
  unfold GotF at G4
  rw [← ht4] at G4 HU hff hm5 hfl
  obtain ⟨m5, Y4, Fl⟩ := t4
  simp only at G4 HU hff hm5 hfl
  obtain ⟨R4, hR4⟩ : ∃ R, R = R3.drop m5 := ⟨_, rfl⟩
  rw [← hR4] at G4 HU
  obtain ⟨A4, hA4⟩ : ∃ A : Int, A = A3 + (m5 : Int) := ⟨_, rfl⟩
  rw [← hA4] at G4
  have G5 := Lib.hid (fun w => end_ref R4 A4 Y4 w)
  unfold rdr at G4 G5
  have HFf := Lib.hid hff
  have HLf := Lib.hid (show Fl.length ≤ 100000 by omega)
  obtain ⟨Y5, hY5⟩ : ∃ y, y = endE R4 Y4 := ⟨_, rfl⟩
  rw [← hY5] at G5 HU
  clear ht4 hR4 hA4 hm5 hff hfl hC hCd hY5
  go_wp2_with fail
  refine (G4.out _).mono ?_
  rintro e w5 ⟨v5, rfl, hnum⟩
  obtain ⟨q5, m5, d5, rfl, hbare5, hm5, hc5⟩ := own_nums hnum.1
  have hk : Keeps NoBlock _ w5 := Keeps.ofBelow hnum.2
  have HD := Lib.hid (HD.out.keep hk)
  have HE := Lib.hid (EnsAt.keep HE.out hk)
  have HF := Lib.hid (cells_rowN hm5 hbare5 hc5)
  have HM5 := Lib.hid hm5
  have HFar2 : Hid (∀ a, q5 = some a → a.block ≠ g) := Lib.hid (fun a ha => by
    have h1 := own_apart (t := 84) (by decide) hnum.1 HD.out.rd
    intro e
    subst ha
    exact h1 (by simp [Value.ownBlock, e]))
  clear r0 r1 r2 g0 g1 g2 hk G4 hbare5 hm5 hc5 hnum
  have r0 := HD.out.rd.cell 0 rfl
  have r1 := HD.out.rd.cell 1 rfl
  have r2 := HD.out.rd.cell 2 rfl
  have g0 := HD.out.rd.free 0
  have g1 := HD.out.rd.free 1
  have g2 := HD.out.rd.free 2
  simp only [rdrCells, List.getElem_toArray, List.getElem_cons_zero, List.getElem_cons_succ] at r0 r1 r2
  have HE := Lib.hid (EnsAt.keepFar HE.out (put3_keeps w5 g (.string (strOfNums R4)) (.int .i64 A4) (.int .i64 Y4)) (HE.out.notRdr HD.out.rd))
  have HF := Lib.hid (RowN.keepAt HF.out (put3_keeps w5 g (.string (strOfNums R4)) (.int .i64 A4) (.int .i64 Y4)) (fun _ a ha => HFar2.out a ha))
  have HD := Lib.hid (HD.out.put R4 A4 Y4)
  go_wp2_with fail
  refine (G5.out _).mono ?_
  rintro e w6 ⟨rfl, hk⟩
  have HD := Lib.hid (HD.out.keep hk)
  have HE := Lib.hid (EnsAt.keep HE.out hk)
  have HF := Lib.hid (RowN.keep HF.out hk (fun _ _ h => h))
  clear r0 r1 r2 g0 g1 g2 hk G5
  have r0 := HD.out.rd.cell 0 rfl
  have r1 := HD.out.rd.cell 1 rfl
  have r2 := HD.out.rd.cell 2 rfl
  have g0 := HD.out.rd.free 0
  have g1 := HD.out.rd.free 1
  have g2 := HD.out.rd.free 2
  simp only [rdrCells, List.getElem_toArray, List.getElem_cons_zero, List.getElem_cons_succ] at r0 r1 r2
  have HE := Lib.hid (EnsAt.keepFar HE.out (put3_keeps w6 g (.string (strOfNums R4)) (.int .i64 A4) (.int .i64 Y5)) (HE.out.notRdr HD.out.rd))
  have HF := Lib.hid (RowN.keepAt HF.out (put3_keeps w6 g (.string (strOfNums R4)) (.int .i64 A4) (.int .i64 Y5)) (fun _ a ha => HFar2.out a ha))
  have HD := Lib.hid (HD.out.put R4 A4 Y5)
  go_upto_region 15 with (fail)
  obtain ⟨W, hW⟩ : ∃ W, W = ((w6.setCell ⟨g, 0, none⟩ (.string (strOfNums R4))).setCell ⟨g, 1, none⟩ (.int .i64 A4)).setCell ⟨g, 2, none⟩ (.int .i64 Y5) := ⟨_, rfl⟩
  rw [← hW] at HD HE HF
  rw [← hW]
  clear r0 r1 r2 g0 g1 g2 hW
  have r0 := HD.out.rd.cell 0 rfl
  have r1 := HD.out.rd.cell 1 rfl
  have r2 := HD.out.rd.cell 2 rfl
  have g0 := HD.out.rd.free 0
  have g1 := HD.out.rd.free 1
  have g2 := HD.out.rd.free 2
  simp only [rdrCells, List.getElem_toArray, List.getElem_cons_zero, List.getElem_cons_succ] at r0 r1 r2
  have z0 := HD.out.z.cell 0 rfl
  have z1 := HD.out.z.cell 1 rfl
  have f0 := HD.out.z.free 0
  have f1 := HD.out.z.free 1
  have HK := Lib.hid HD.out.kp
  simp only [ftCells, List.getElem_toArray, List.getElem_cons_zero, List.getElem_cons_succ] at z0 z1
  have HZw := Lib.hid HD.out.z
  unfold ftLastS at HU
  by_cases hy5 : Y5 = 0
  rotate_left
  · have hne : (Y5 != 0) = true := by rw [bne_iff_ne]; exact hy5
    have HUe := Lib.hid (HU.out.trans (if_pos hy5))
    go_wp2_with fail
    have q2 : W.drew.cell? ⟨g, 2, none⟩ = some (.int .i64 Y5) := r2
    go_region
    all_goals go_wp2_with fail
    all_goals exact bodyPost_ret (v := .tuple #[.agg #[.int .u32 0, .slice none 0 0], .int .i64 Y5]) (by simp [results, Try.results17, go_sem, z0, z1]) rfl (FtPost.gone HUe.out (by first | exact (HK.out.setNew (g := w.heap.size) (Nat.le_refl _) 0 _).setNew (g := w.heap.size) (Nat.le_refl _) 1 _ | exact ((HK.out.setNew (g := w.heap.size) (Nat.le_refl _) 0 _).setNew (g := w.heap.size) (Nat.le_refl _) 1 _).drewN _ | exact (HK.out.drewN 1 |>.setNew (g := w.heap.size) (Nat.le_refl _) 0 _).setNew (g := w.heap.size) (Nat.le_refl _) 1 _))
  subst hy5
  have HS := Lib.hid (HU.out.trans (if_neg (by simp)))
  clear HU
  have HU := HS
  clear HS HFar HFar2
  have wX : IntKind.u32.wrap (X2 : Int) = (X2 : Int) := by rw [IntKind.wrap_u32]; omega
  have HCk := Lib.hid (fun W h => check13_ref X2 q4 m4 d4 El HM4.out.1 (by have := HM4.out.1; have := HLl.out; omega) W h)
  unfold ftV at HCk
  clear hbig hd1 hd2 hx1 hx2 ho1 ho2 ho3 hl1 hl2 hl3 hA1 hA2b hA3b wN wN2 hq16 hq162 h1L h1L2 hrl hb2 hl HG4 HGE HGF
  obtain ⟨ck, hck⟩ : ∃ c, c = checkFt ⟨X2, El⟩ := ⟨_, rfl⟩
  rw [← hck] at HCk HU
  have HZ := Lib.hid (Whole.alloc (show Whole W w.heap.size 34 (ftCells 0 none 0 0) from HZw.out) (.cells (ftCells X2 q4 m4 d4) 34))
  have HD := Lib.hid (Whole.new W 34 (ftCells X2 q4 m4 d4))
  have HK := Lib.hid (HK.out.alloc (.cells (ftCells X2 q4 m4 d4) 34))
  have HE := Lib.hid (EnsAt.keep HE.out ((Keeps.refl NoBlock W).alloc (.cells (ftCells X2 q4 m4 d4) 34)))
  have HF := Lib.hid (RowN.keep HF.out ((Keeps.refl NoBlock W).alloc (.cells (ftCells X2 q4 m4 d4) 34)) (fun _ _ h => h))
  clear z0 z1 f0 f1 hck
  go_wp2_with fail
  refine (HCk.out _ (by exact HE.out)).mono ?_
  rintro e w7 ⟨rfl, hk⟩
  have HZ := Lib.hid (HZ.out.keep hk (fun h => h))
  have HD := Lib.hid (HD.out.keep hk (fun h => h))
  have HK := Lib.hid (HK.out.trans hk)
  have HE := Lib.hid (EnsAt.keep HE.out hk)
  have HF := Lib.hid (RowN.keep HF.out hk (fun _ _ h => h))
  clear hk HCk
  have z0 := HZ.out.cell 0 rfl
  have z1 := HZ.out.cell 1 rfl
  have f0 := HZ.out.free 0
  have f1 := HZ.out.free 1
  simp only [ftCells, List.getElem_toArray, List.getElem_cons_zero, List.getElem_cons_succ] at z0 z1
  by_cases hc0 : ck = 0
  rotate_left
  · have hne : (ck != 0) = true := by rw [bne_iff_ne]; exact hc0
    have HU := Lib.hid (HU.out.trans (if_pos hc0))
    go_wp2_with fail
    exact bodyPost_ret (v := .tuple #[.agg #[.int .u32 0, .slice none 0 0], .int .i64 ck]) (by simp [results, Try.results17, go_sem, z0, z1]) rfl (FtPost.gone HU.out (by first | exact (HK.out.setNew (g := w.heap.size) (Nat.le_refl _) 0 _).setNew (g := w.heap.size) (Nat.le_refl _) 1 _ | exact ((HK.out.setNew (g := w.heap.size) (Nat.le_refl _) 0 _).setNew (g := w.heap.size) (Nat.le_refl _) 1 _).drewN _ | exact (HK.out.drewN 1 |>.setNew (g := w.heap.size) (Nat.le_refl _) 0 _).setNew (g := w.heap.size) (Nat.le_refl _) 1 _))
  subst hc0
  have HS := Lib.hid (HU.out.trans (if_neg (by simp)))
  clear HU
  have HU := HS
  clear HS z0 z1 f0 f1
  have hfo := ofF_length El
  have HTa := Lib.hid (fun W h => text12_ref q5 m5 d5 Fl HM5.out (by have := HM5.out; have := HLf.out; omega) HFf.out W h)
  have HOf := Lib.hid (fun W h => of12_ref q4 m4 d4 El HM4.out.1 (by have := HM4.out.1; have := HLl.out; omega) W h)
  have HTb := Lib.hid (fun q m d W (hm : m = (ofF El).length) h => text12_ref q m d (ofF El) hm (by have := HLl.out; omega) (ofF_fine HFe.out) W h)
  have hcmp : ((strOfNums (textF Fl)).toList == (strOfNums (textF (ofF El))).toList) = decide (Fl = ofF El) := by
    rw [text_beq, decide_eq_decide]
    exact ⟨fun h => textF_inj HFf.out (ofF_fine HFe.out) (strOf_inj (textF_octets _) (textF_octets _) h), fun h => by rw [h]⟩
  obtain ⟨Ta, hTa⟩ : ∃ T, T = textF Fl := ⟨_, rfl⟩
  obtain ⟨Tb, hTb⟩ : ∃ T, T = textF (ofF El) := ⟨_, rfl⟩
  rw [← hTa] at HTa hcmp
  rw [← hTb] at HTb hcmp
  clear hTa hTb hfo
  go_wp2_with fail
  refine (HTa.out _ HF.out).mono ?_
  rintro e w8 ⟨rfl, hk⟩
  have HZ := Lib.hid (HZ.out.keep hk (fun h => h))
  have HD := Lib.hid (HD.out.keep hk (fun h => h))
  have HK := Lib.hid (HK.out.trans hk)
  have HE := Lib.hid (EnsAt.keep HE.out hk)
  clear hk HTa HF
  go_wp2_with fail
  refine (HOf.out _ HE.out).mono ?_
  rintro e w9 ⟨v9, rfl, hnum⟩
  obtain ⟨q9, m9, d9, rfl, hbare9, hm9, hc9⟩ := own_nums hnum.1
  have hk : Keeps NoBlock _ w9 := Keeps.ofBelow hnum.2
  have HZ := Lib.hid (HZ.out.keep hk (fun h => h))
  have HD := Lib.hid (HD.out.keep hk (fun h => h))
  have HK := Lib.hid (HK.out.trans hk)
  have HE := Lib.hid (EnsAt.keep HE.out hk)
  have HF := Lib.hid (cells_rowN hm9 hbare9 hc9)
  have HM9 := Lib.hid hm9
  clear hk HOf hbare9 hm9 hc9 hnum
  go_wp2_with fail
  refine (HTb.out _ _ _ _ HM9.out HF.out).mono ?_
  rintro e w10 ⟨rfl, hk⟩
  have HZ := Lib.hid (HZ.out.keep hk (fun h => h))
  have HD := Lib.hid (HD.out.keep hk (fun h => h))
  have HK := Lib.hid (HK.out.trans hk)
  have HE := Lib.hid (EnsAt.keep HE.out hk)
  clear hk HTb HF
  have z0 := HZ.out.cell 0 rfl
  have z1 := HZ.out.cell 1 rfl
  have f0 := HZ.out.free 0
  have f1 := HZ.out.free 1
  simp only [ftCells, List.getElem_toArray, List.getElem_cons_zero, List.getElem_cons_succ] at z0 z1
  by_cases hfe : Fl = ofF El
  rotate_left
  · have hb : ((strOfNums Ta).toList == (strOfNums Tb).toList) = false := by rw [hcmp]; exact decide_eq_false hfe
    have HU := Lib.hid (HU.out.trans (if_pos hfe))
    clear hcmp hfe
    go_wp2_with fail
    exact bodyPost_ret (v := .tuple #[.agg #[.int .u32 0, .slice none 0 0], .int .i64 4]) (by simp [results, Try.results17, go_sem, z0, z1]) rfl (FtPost.gone HU.out (by first | exact (HK.out.setNew (g := w.heap.size) (Nat.le_refl _) 0 _).setNew (g := w.heap.size) (Nat.le_refl _) 1 _ | exact ((HK.out.setNew (g := w.heap.size) (Nat.le_refl _) 0 _).setNew (g := w.heap.size) (Nat.le_refl _) 1 _).drewN _ | exact (HK.out.drewN 1 |>.setNew (g := w.heap.size) (Nat.le_refl _) 0 _).setNew (g := w.heap.size) (Nat.le_refl _) 1 _))
  have hb : ((strOfNums Ta).toList == (strOfNums Tb).toList) = true := by rw [hcmp]; exact decide_eq_true hfe
  have HU := Lib.hid (HU.out.trans (if_neg (by simpa using hfe)))
  clear hcmp hfe
  have y0 := HD.out.cell 0 rfl
  have y1 := HD.out.cell 1 rfl
  simp only [ftCells, List.getElem_toArray, List.getElem_cons_zero, List.getElem_cons_succ] at y0 y1
  have HE2 := Lib.hid (EnsAt.keepFar HE.out (((Keeps.refl (Just w.heap.size) w10).setIn (Just.self _) 0 (.int .u32 (X2 : Int))).setIn (Just.self _) 1 (.slice q4 m4 d4)) (HE.out.notFt HZ.out))
  go_wp2_with fail
  exact bodyPost_ret (v := .tuple #[.agg #[.int .u32 (X2 : Int), .slice q4 m4 d4], .int .i64 0]) (by simp [results, Try.results17, go_sem, z0, z1]) rfl (by rw [HU.out]; exact ⟨q4, m4, d4, rfl, HM4.out.1, HM4.out.2.1, HM4.out.2.2.1, HM4.out.2.2.2, HE2.out, (HK.out.setNew (g := w.heap.size) (Nat.le_refl _) 0 _).setNew (g := w.heap.size) (Nat.le_refl _) 1 _⟩)
end Go.Proofs.Ytmifbohdepejaaa

namespace Go.Proofs.Ytmifbohdepejaaa
open Go.RowKit

/-- A row of numbers of 32 bits that can be read. -/
def Row32 (w : World) (p : Option Addr) (l : List Nat) : Prop := ∀ i, i < l.length → ∃ a, p = some a ∧ w.cell? (a.add i) = some (.int .u32 (l.getD i 0 : Nat))
theorem Row32.keep {w w' : World} {p : Option Addr} {l : List Nat} (h : Row32 w p l) {S : Nat → Prop} (hk : Keeps S w w') (hs : ∀ k, k < w.heap.size → ¬ S k) : Row32 w' p l := fun i hi => by
  obtain ⟨a, rfl, hc⟩ := h i hi
  exact ⟨a, rfl, hk.cell hc (hs _ (ltOfCell hc))⟩
/-- A row of numbers of 32 bits of new memory. -/
def NewRow32 (w : World) (l : List Nat) (v : Value) (w' : World) : Prop :=
  ∃ (q : Option Addr) (m d : Nat), v = .slice q m d ∧ m = l.length ∧ m ≤ d ∧ d ≤ 9223372036854775807 ∧ (q = none → m = 0 ∧ d = 0) ∧ Row32 w' q l ∧ Keeps NoBlock w w'

/-- The contracts of Most, Check, Put, Get, Places. -/
structure FtMostOk : Prop where
  most : ∀ (z : Int) (w : World), -500000 ≤ z → z ≤ 500000 → Calls Try.prog 15 #[.int .i64 z] w fun e w' => e = .returned (.int .i64 ((mostFt z.toNat : Nat) : Int)) ∧ Keeps NoBlock w w'
structure FtCkOk : Prop where
  check : ∀ (u : Nat) (q : Option Addr) (n c : Nat) (l : List En) (w : World), u < 4294967296 → InE w q n c l → n ≤ 100000 →
    Calls Try.prog 12 #[ftV u q n c] w fun e w' => e = .returned (.int .i64 (checkFt ⟨u, l⟩)) ∧ Keeps NoBlock w w'
structure FtPutOk : Prop where
  put : ∀ (u : Nat) (q : Option Addr) (n c : Nat) (l : List En) (w : World), u < 4294967296 → InE w q n c l → n ≤ 10000 →
    Calls Try.prog 9 #[ftV u q n c] w fun e w' => ∃ v, e = .returned (.tuple #[v, .int .i64 (checkFt ⟨u, l⟩)]) ∧ NewBytes w (putFt ⟨u, l⟩) v w'
structure FtGetOk : Prop where
  get : ∀ (p : Option Addr) (N c : Nat) (ys : List Int) (w : World), In8 w p N c ys → N ≤ 100000 →
    Calls Try.prog 13 #[.slice p N c] w (FtPost w (getFt ys))
structure FtPlOk : Prop where
  places : ∀ (u : Nat) (q : Option Addr) (n c : Nat) (l : List En) (h : Nat) (w : World), u < 4294967296 → InE w q n c l → n ≤ 10000 → h < 18446744073709551616 →
    Calls Try.prog 18 #[ftV u q n c, .int .u64 (h : Int)] w fun e w' => ∃ v, e = .returned v ∧ NewRow32 w (placesFt ⟨u, l⟩ h) v w'

theorem mostFt_one : mostFt 1 = 39 := by decide

set_option maxHeartbeats 1600000 in
set_option maxRecDepth 10000 in
theorem lives13_true (H : FtMostOk) (w : World) : Calls Try.prog 8 #[] w fun e w' => e = .returned (.bool true) ∧ Keeps NoBlock w w' := by
  have H0 := Lib.hid (fun w => H.most 1 w (by decide) (by decide))
  rw [show ((mostFt (1 : Int).toNat : Nat) : Int) = 39 by rw [show (1 : Int).toNat = 1 from rfl, mostFt_one]; rfl] at H0
  clear H
  go_enter Try.func8, Try.ntmps8
  go_wp2_with fail
  refine (H0.out _).mono ?_
  rintro e w1 ⟨rfl, hk⟩
  have HK := Lib.hid hk
  clear hk
  go_wp2_with fail
  go_ret
  exact ⟨rfl, HK.out⟩
theorem ftEnd_fine {f : Ft} {fs : List Nat} {r : List Int} (h : f.Fine) : (ftEnd f fs r).f.Fine ∧ (ftEnd f fs r).f.tab.length ≤ f.tab.length := by
  have h0 : Ft.none.Fine ∧ Ft.none.tab.length ≤ f.tab.length := ⟨⟨(show (0 : Nat) < 4294967296 by decide), fun e he => by simp [Ft.none] at he⟩, Nat.zero_le _⟩
  unfold ftEnd
  repeat' split
  · exact h0
  · exact h0
  · exact h0
  · exact ⟨h, Nat.le_refl _⟩
/-- What is got of any bytes is a footer of no more entries than bytes. -/
theorem getFt_small (ys : List Int) (ho : Octets ys) : (getFt ys).f.Fine ∧ (getFt ys).f.tab.length ≤ ys.length := by
  have h0 : Ft.none.Fine ∧ Ft.none.tab.length ≤ ys.length := ⟨⟨(show (0 : Nat) < 4294967296 by decide), fun e he => by simp [Ft.none] at he⟩, Nat.zero_le _⟩
  obtain ⟨hb1, hb2⟩ := open_bound ho
  unfold getFt
  split
  · exact h0
  · obtain ⟨t, ht⟩ : ∃ t, t = (openN ys).2 := ⟨_, rfl⟩
    rw [← ht] at hb1 hb2 ⊢
    clear ht
    match t with
    | [] => exact h0
    | b :: r =>
      rw [readFt]
      split
      · have hr := hb1.drop 1
        simp only [List.drop_succ_cons, List.drop_zero] at hr
        simp only [List.length_cons] at hb2
        unfold ftCount ftUsed ftRows
        split
        · exact h0
        · split
          · exact h0
          · split
            · exact h0
            · split
              · exact h0
              · obtain ⟨n, hn⟩ : ∃ n, n = (le (r.take 4)).toNat := ⟨_, rfl⟩
                have hu := (le_short (n := 4) ((hr.drop 4).take 4) (by rw [List.length_take]; omega)).2
                have he := getES_fine 0 (n : Int) ((hr.drop 4).drop 4)
                have ee : getES 0 (n : Int) ((r.drop 4).drop 4) = getE (n : Int) ((r.drop 4).drop 4) := if_neg (by simp)
                rw [ee] at he
                rw [← hn]
                unfold ftFences
                split
                · exact h0
                · have hf := ftEnd_fine (f := ⟨(le ((r.drop 4).take 4)).toNat, (getE (n : Int) ((r.drop 4).drop 4)).l⟩) (fs := (getF (countF (n : Int) : Nat) (((r.drop 4).drop 4).drop (getE (n : Int) ((r.drop 4).drop 4)).m)).l) (r := (((r.drop 4).drop 4).drop (getE (n : Int) ((r.drop 4).drop 4)).m).drop (getF (countF (n : Int) : Nat) (((r.drop 4).drop 4).drop (getE (n : Int) ((r.drop 4).drop 4)).m)).m) ⟨hu, he.1⟩
                  refine ⟨hf.1, Nat.le_trans hf.2 (Nat.le_trans he.2.2 ?_)⟩
                  rw [List.length_drop, List.length_drop]
                  omega
      · exact h0
end Go.Proofs.Ytmifbohdepejaaa

namespace Go.Proofs.Ytmifbohdepejaaa
open Go.RowKit

theorem mostFt_more (k : Nat) : mostFt k < mostFt (k + 1) := by
  unfold mostFt sizeN mostOf bodyLen countF
  simp only [Int.toNat_natCast]
  rw [if_neg (by omega), if_neg (by omega)]
  omega
theorem mostFt_big (k : Nat) (h : k ≤ 1000000) : mostFt k ≤ 100000000 := by
  unfold mostFt sizeN mostOf bodyLen countF
  simp only [Int.toNat_natCast]
  rw [if_neg (by omega)]
  omega

set_option maxHeartbeats 4000000 in
set_option maxRecDepth 10000 in
theorem ftmost_walk (H : FtMostOk) (z : Int) (w : World) (hz : 0 ≤ z ∧ z < 65536) :
    Calls Try.prog 6 #[.int .u16 z] w fun e w' => e = .returned (.bool true) ∧ Keeps NoBlock w w' := by
  obtain ⟨k, rfl⟩ : ∃ k : Nat, z = (k : Int) := ⟨z.toNat, by omega⟩
  have hk9 : k < 65536 := by omega
  have HLv := Lib.hid (fun w => lives13_true H w)
  have HM0 := Lib.hid (fun w => H.most 0 w (by decide) (by decide))
  have HM1 := Lib.hid (fun w => H.most (-1) w (by decide) (by decide))
  rw [show (0 : Int).toNat = 0 from rfl] at HM0
  rw [show (-1 : Int).toNat = 0 from rfl] at HM1
  have HMk := Lib.hid (fun w => H.most (k : Int) w (by omega) (by omega))
  have HMn := Lib.hid (fun w => H.most ((k : Int) + 1) w (by omega) (by omega))
  have HRf := Lib.hid (fun w => most13_ref k (by omega) w)
  rw [Int.toNat_natCast] at HMk
  rw [show ((k : Int) + 1).toNat = k + 1 by omega] at HMn
  have hmo := mostFt_more k
  obtain ⟨A, hA⟩ : ∃ A, A = mostFt 0 := ⟨_, rfl⟩
  obtain ⟨B, hB⟩ : ∃ B, B = mostFt k := ⟨_, rfl⟩
  obtain ⟨D, hD⟩ : ∃ D, D = mostFt (k + 1) := ⟨_, rfl⟩
  rw [← hA] at HM0 HM1
  rw [← hB] at HMk HRf hmo
  rw [← hD] at HMn hmo
  have g1 : decide ((B : Int) < (D : Int)) = true := decide_eq_true (by omega)
  have g2 : decide (B < D) = true := decide_eq_true hmo
  have e1 : IntKind.i64.wrap ((k : Int)) = (k : Int) := IntWalk.i64_in _ (by omega)
  have e2 : IntKind.i64.wrap ((k : Int) + 1) = (k : Int) + 1 := IntWalk.i64_in _ (by omega)
  clear H hA hB hD hz hmo
  go_enter Try.func6, Try.ntmps6
  go_wp2_with fail
  refine (HLv.out _).mono ?_
  rintro e w1 ⟨rfl, hk⟩
  have HK := Lib.hid hk
  clear hk
  go_wp2_with fail
  refine (HM1.out _).mono ?_
  rintro e w2 ⟨rfl, hk⟩
  have HK := Lib.hid (HK.out.trans hk)
  clear hk
  go_wp2_with fail
  refine (HM0.out _).mono ?_
  rintro e w3 ⟨rfl, hk⟩
  have HK := Lib.hid (HK.out.trans hk)
  clear hk
  go_wp2_with fail
  refine (HMk.out _).mono ?_
  rintro e w4 ⟨rfl, hk⟩
  have HK := Lib.hid (HK.out.trans hk)
  clear hk
  go_wp2_with fail
  refine (HRf.out _).mono ?_
  rintro e w5 ⟨rfl, hk⟩
  have HK := Lib.hid (HK.out.trans hk)
  clear hk
  go_wp2_with fail
  refine (HMn.out _).mono ?_
  rintro e w6 ⟨rfl, hk⟩
  have HK := Lib.hid (HK.out.trans hk)
  clear hk
  go_wp2_with fail
  refine (HMk.out _).mono ?_
  rintro e w7 ⟨rfl, hk⟩
  have HK := Lib.hid (HK.out.trans hk)
  clear hk
  go_wp2_with fail
  go_ret
  exact ⟨rfl, HK.out⟩
end Go.Proofs.Ytmifbohdepejaaa

namespace Go.Proofs.Ytmifbohdepejaaa
open Go.RowKit

/-- A row that was got: new memory. -/
def GotRowF (w : World) (l : List Nat) (v : Value) (w' : World) : Prop :=
  ∃ (q : Option Addr) (m d : Nat), v = .slice q m d ∧ m = l.length ∧ m ≤ d ∧ d ≤ 9223372036854775807 ∧ (q = none → m = 0 ∧ d = 0) ∧ RowN w' q l ∧ (0 < m → ∀ a, q = some a → w.heap.size ≤ a.block)
/-- How Get ends. -/
def GetFPost (k : Nat) (p : Option Addr) (N c a : Nat) (t : GF) (w : World) (e : Ending) (w' : World) : Prop :=
  Keeps (Just k) w w' ∧ ((t.y = 0 ∧ (∃ v, e = .returned v ∧ GotRowF w t.l v w') ∧ CurB w' k p N c (a + t.m) true 0) ∨ (t.y ≠ 0 ∧ e = .panicked (given k) ∧ CurB w' k p N c (a + t.m) true t.y))
/-- A row of numbers that comes in. -/
structure InN (w : World) (p : Option Addr) (n c : Nat) (l : List Nat) : Prop where
  len : n = l.length
  cap : n ≤ c
  room : c ≤ 9223372036854775807
  bare : p = none → n = 0 ∧ c = 0
  fine : ∀ x ∈ l, x < 18446744073709551616
  at_ : RowN w p l
/-- The contracts of Put, Get. -/
structure FenByOk : Prop where
  put : ∀ (base g : Nat) (xs : List Int) (p : Option Addr) (n c : Nat) (l : List Nat) (w : World), BufAt w base g xs → base ≤ w.heap.size → InN w p n c l → n ≤ 100000 → (0 < n → ∀ a, p = some a → ¬ OnBuf base g a.block) → xs.length ≤ 100000000 →
    Calls Try.prog 24 #[.pointer (some ⟨g, 0, none⟩), .slice p n c] w fun e w' => e = .returned (.tuple #[]) ∧ BufAt w' base g (xs ++ textF l) ∧ Keeps (OnBuf base g) w w'
  get : ∀ (k : Nat) (p : Option Addr) (xs : List Int) (N c a : Nat) (z : Int) (w : World), N = xs.length → CurB w k p N c a true 0 → Bytes8 w p xs → Octets xs → (0 < xs.length → ∀ q, p = some q → q.block ≠ k) → a ≤ N → N ≤ c → c ≤ 9223372036854775807 → N ≤ 1000000 →
    Calls Try.prog 72 #[.pointer (some ⟨k, 0, none⟩), .int .i64 z] w (GetFPost k p N c a (getF z (xs.drop a)) w)

/-- What a reading of fences leaves in block D. -/
def LeftF (w0 : World) (D : Nat) (t : GF) (w2 : World) : Prop :=
  Keeps (Just D) w0 w2 ∧ (t.y = 0 → ∃ (q : Option Addr) (m d : Nat), Whole w2 D 47 #[.slice q m d] ∧ m = t.l.length ∧ m ≤ d ∧ d ≤ 9223372036854775807 ∧ (q = none → m = 0 ∧ d = 0) ∧ RowN w2 q t.l ∧ (0 < m → ∀ a, q = some a → w0.heap.size + 1 + 1 + 1 + 1 ≤ a.block))

theorem Begun.storeAt12 {w0 : World} {p : Option Addr} {N c a : Nat} {y : Int} {W : World} (h : Begun w0 p N c a y W) {D : Nat} (hD : D < w0.heap.size) (v : Value) : Begun w0 p N c a y (W.setCell ⟨D, 0, none⟩ v) :=
  ⟨h.at_.setOther (by simp; omega) v, h.why.setOther (by simp; omega) v, Whole.setOther h.cur (by simp; omega) v, h.var.setOther (by simp; omega) v⟩
end Go.Proofs.Ytmifbohdepejaaa

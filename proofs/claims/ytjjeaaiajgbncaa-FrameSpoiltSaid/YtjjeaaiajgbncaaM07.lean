/-
  Copied; SumsWalk; RecRef3; RecRef4; RecRef5; FrRef.
-/
import Derived.Deep.RegionHeld3
import Derived.Deep.CutRange
import Derived.Deep.DeepCutAuto
import Derived.Test.YtjjeaaiajgbncaaM02
import Derived.Test.YtjjeaaiajgbncaaM03
import Derived.Test.YtjjeaaiajgbncaaM04
import Derived.Test.YtjjeaaiajgbncaaM05
import Derived.Test.YtjjeaaiajgbncaaM06
namespace Go.Proofs.Ytjjeaaiajgbncaa
open Go.RowKit

/-- A copy of bytes in new memory. -/
def Copied (w0 : World) (N : Nat) (xs : List Int) (v : Value) (wx : World) : Prop :=
  wx.ownsRow w0.heap.size 5 1 v N (xs.map (Value.int .u8)) ∧ Below w0.heap.size w0 wx

theorem Copied.read {w0 wx : World} {N : Nat} {xs : List Int} {v : Value} (h : Copied w0 N xs v wx) (hn : N = xs.length) : ∃ q d, v = .slice q N d ∧ N ≤ d ∧ d ≤ 9223372036854775807 ∧ Bytes8 wx q xs := by
  obtain ⟨⟨_, ⟨rfl, rfl⟩ | ⟨g, cap, cur, rfl, hg, hh, hc1, hc2, hc3, hc4⟩⟩, _⟩ := h
  · exact ⟨none, 0, rfl, Nat.le_refl _, by omega, fun h => by omega⟩
  · unfold maxLen at hc2
    refine ⟨_, cap, rfl, hc1, by omega, fun hx => ⟨_, rfl, fun i hi => ?_⟩⟩
    have hw : Whole wx g 5 cur := hh
    have hcell : cur[i]? = some (.int .u8 (xs.getD i 0)) := by
      have e : (cur.toList.take (N * 1))[i]? = (xs.map (Value.int .u8))[i]? := by rw [hc4]
      rw [List.getElem?_take, if_pos (by omega)] at e
      rw [← Array.getElem?_toList, e]
      simp [hi]
    rw [addZero]
    exact hw.cell i hcell

theorem Copied.read2 {w0 wx : World} {N : Nat} {xs : List Int} {v : Value} (h : Copied w0 N xs v wx) (hn : N = xs.length) : ∃ q d, v = .slice q N d ∧ N ≤ d ∧ d ≤ 9223372036854775807 ∧ Bytes8 wx q xs ∧ (q = none → N = 0 ∧ d = 0) := by
  obtain ⟨q, d, hv, h1, h2, h3⟩ := h.read hn
  cases q with
  | some a => exact ⟨_, d, hv, h1, h2, h3, fun h => by simp at h⟩
  | none =>
    have hN : N = 0 := by
      rcases Nat.eq_zero_or_pos N with h0 | h0
      · exact h0
      · obtain ⟨a, ha, _⟩ := h3 (by omega)
        simp at ha
    obtain ⟨⟨_, ⟨rfl, _⟩ | ⟨g, cap, cur, rfl, _⟩⟩, _⟩ := h
    · exact ⟨none, 0, by rw [hN], by omega, by omega, h3, fun _ => ⟨hN, rfl⟩⟩
    · simp at hv

theorem Copied.whole {w0 wx : World} {N : Nat} {xs : List Int} {v : Value} (h : Copied w0 N xs v wx) (hn : N = xs.length) (h0 : 0 < N) :
    ∃ g d cur, v = .slice (some ⟨g, 0, none⟩) N d ∧ N ≤ d ∧ d ≤ 9223372036854775807 ∧ w0.heap.size ≤ g ∧ Whole wx g 5 cur ∧ ∀ i, i < N → cur[i]? = some (.int .u8 (xs.getD i 0)) := by
  obtain ⟨⟨_, ⟨rfl, rfl⟩ | ⟨g, cap, cur, rfl, hg, hh, hc1, hc2, hc3, hc4⟩⟩, _⟩ := h
  · omega
  · unfold maxLen at hc2
    refine ⟨g, cap, cur, rfl, hc1, by omega, hg, hh, fun i hi => ?_⟩
    have e : (cur.toList.take (N * 1))[i]? = (xs.map (Value.int .u8))[i]? := by rw [hc4]
    rw [List.getElem?_take, if_pos (by omega)] at e
    rw [← Array.getElem?_toList, e]
    simp [show i < xs.length by omega]

/-- A block of n bytes at least. -/
def Bytish (w : World) (g n : Nat) : Prop := ∃ cur, Whole w g 5 cur ∧ ∀ i, i < n → ∃ x : Int, cur[i]? = some (.int .u8 x) ∧ 0 ≤ x ∧ x < 256

theorem Copied.both {w0 wx : World} {N : Nat} {xs : List Int} {v : Value} (h : Copied w0 N xs v wx) (hn : N = xs.length) (ho : Octets xs) :
    ∃ (q : Option Addr) (d g : Nat), v = .slice q N d ∧ N ≤ d ∧ d ≤ 9223372036854775807 ∧ Bytes8 wx q xs ∧ (q = none → N = 0 ∧ d = 0) ∧ w0.heap.size ≤ g ∧ (0 < N → q = some ⟨g, 0, none⟩) ∧ (0 < N → Bytish wx g N) := by
  obtain ⟨q, d, hv, h1, h2, h3, h4⟩ := h.read2 hn
  by_cases h0 : 0 < N
  · obtain ⟨g, d', cur, hv', _, _, hg, hw, hc⟩ := h.whole hn h0
    have e := hv.symm.trans hv'
    simp only [Value.slice.injEq] at e
    refine ⟨q, d, g, hv, h1, h2, h3, h4, hg, fun _ => e.1, fun _ => ⟨cur, hw, fun i hi => ⟨_, hc i hi, ?_⟩⟩⟩
    exact ho.getD i
  · exact ⟨q, d, w0.heap.size, hv, h1, h2, h3, h4, Nat.le_refl _, fun h => absurd h h0, fun h => absurd h h0⟩
end Go.Proofs.Ytjjeaaiajgbncaa

namespace Go.Proofs.Ytjjeaaiajgbncaa
open Go.RowKit

end Go.Proofs.Ytjjeaaiajgbncaa

namespace Go.Proofs.Ytjjeaaiajgbncaa
open Go.RowKit

/-- The cells of a record that lies in block g. -/
def RecAt (w : World) (g : Nat) (r : Rec) : Prop :=
  w.cell? ⟨g, 0, none⟩ = some (.bool r.del) ∧ w.cell? ⟨g, 1, none⟩ = some (.int .u64 (r.seq : Int)) ∧ w.cell? ⟨g, 2, none⟩ = some (.string (strOfNums r.key)) ∧ w.cell? ⟨g, 3, none⟩ = some (.string (strOfNums r.val))
theorem RecAt.ofWhole {w : World} {g : Nat} {t : TypeId} {r : Rec} (h : Whole w g t (recCells r)) : RecAt w g r :=
  ⟨h.cell 0 rfl, h.cell 1 rfl, h.cell 2 rfl, h.cell 3 rfl⟩

theorem str_cons (b : Int) (xs : List Int) (c : UInt8) (h : UInt8.ofNat b.toNat = c) : (⟨#[c]⟩ : ByteArray) ++ strOfNums xs = strOfNums (b :: xs) := by
  have e : (⟨#[c]⟩ : ByteArray) = strOfNums [b] := by
    apply ByteArray.ext
    simp [strOfNums, h]
  rw [e, str_append]
  rfl

set_option maxHeartbeats 4000000 in
set_option maxRecDepth 10000 in
theorem body7_ref (r : Rec) (hf : r.Fine) (h1 : r.key.length ≤ 100000000) (h2 : r.val.length ≤ 100000000) (w : World) :
    Calls Try.prog 40 #[recV r] w fun e w' => e = .returned (.string (strOfNums (bodyR r))) ∧ Keeps NoBlock w w' := by
  obtain ⟨del, seq, key, val⟩ := r
  have h64 := hf.seq
  simp only at h1 h2 h64
  have HN := Lib.hid (fun w => num_bytes seq (seq : Int) rfl h64 w)
  have HT := Lib.hid (fun (xs : List Int) (w : World) (h : xs = key ∨ xs = val) => text_ref xs (by rcases h with rfl | rfl <;> omega) w)
  have hten := vnum_ten h64
  have htk : (textB key).length ≤ 100000010 := by
    unfold textB
    rw [List.length_append]
    have := vnum_ten (x := key.length) (by omega)
    omega
  have htv : (textB val).length ≤ 100000010 := by
    unfold textB
    rw [List.length_append]
    have := vnum_ten (x := val.length) (by omega)
    omega
  cases del with
  | true =>
    have hdef : bodyR ⟨true, seq, key, val⟩ = 3 :: (vnum seq ++ textB key) := rfl
    rw [hdef]
    have HTK := Lib.hid (fun w => HT.out key w (.inl rfl))
    have a1 := str_cons 3 (vnum seq) 3 rfl
    have a2 := str_append (3 :: vnum seq) (textB key)
    have z1 := str_size (vnum seq)
    have z2 : (strOfNums (3 :: vnum seq)).size = (vnum seq).length + 1 := str_size (3 :: vnum seq)
    have z3 := str_size (textB key)
    rw [List.cons_append] at a2
    obtain ⟨V, hV⟩ : ∃ V, V = vnum seq := ⟨_, rfl⟩
    obtain ⟨TK, hTK⟩ : ∃ TK, TK = textB key := ⟨_, rfl⟩
    rw [← hV] at HN a1 a2 z1 z2 hten ⊢
    rw [← hTK] at HTK a2 z3 htk ⊢
    have zz : (⟨#[3]⟩ : ByteArray).size = 1 := rfl
    have r1 : ¬ 9223372036854775807 < 1 + V.length := by omega
    have r2 : ¬ 9223372036854775807 < V.length + 1 + TK.length := by omega
    have HB := Lib.hid (Whole.new w 35 (recCells ⟨true, seq, key, val⟩))
    clear hdef hV hTK HT hf h1 h2 htv
    unfold recV
    simp only
    go_enter Try.func40, Try.ntmps40
    go_wp2_with fail
    obtain ⟨W, hW⟩ : ∃ W, W = w.alloc (.cells #[.bool true, .int .u64 (seq : Int), .string (strOfNums key), .string (strOfNums val)] 35) := ⟨_, rfl⟩
    have HBW : Hid (Whole W w.heap.size 35 (recCells ⟨true, seq, key, val⟩)) := by rw [hW]; exact HB
    have HK0 : Hid (Keeps NoBlock w W) := Lib.hid (by rw [hW]; exact (Keeps.refl _ _).alloc _)
    rw [← hW]
    clear hW HB
    have s0 := RecAt.ofWhole (w := W.drew) HBW.out
    have sN := RecAt.ofWhole HBW.out
    unfold RecAt at s0 sN
    go_region_held3 (fun w' => w'.cell? ⟨w.heap.size, 0, none⟩ = some (.bool true) ∧ w'.cell? ⟨w.heap.size, 1, none⟩ = some (.int .u64 (seq : Int)) ∧ w'.cell? ⟨w.heap.size, 2, none⟩ = some (.string (strOfNums key)) ∧ w'.cell? ⟨w.heap.size, 3, none⟩ = some (.string (strOfNums val)))
      (first | exact s5 | exact s0 | exact sN)
      (first | (go_at_call 47; refine (HN.out _).mono ?_; rintro e w5 ⟨rfl, hk⟩; have HK0 := Lib.hid (HK0.out.trans (c := w5) (by first | exact hk | exact hk.ofDrew | exact hk.ofDrewN)); have HBW := Lib.hid (HBW.out.keep (w' := w5) (S := NoBlock) (by first | exact hk | exact hk.ofDrew | exact hk.ofDrewN) (fun h => h)); have s5 := RecAt.ofWhole HBW.out; unfold RecAt at s5; clear hk) | (go_at_call 73; refine (HTK.out _).mono ?_; rintro e w5 ⟨rfl, hk⟩; have HK0 := Lib.hid (HK0.out.trans (c := w5) (by first | exact hk | exact hk.ofDrew | exact hk.ofDrewN)); have HBW := Lib.hid (HBW.out.keep (w' := w5) (S := NoBlock) (by first | exact hk | exact hk.ofDrew | exact hk.ofDrewN) (fun h => h)); have s5 := RecAt.ofWhole HBW.out; unfold RecAt at s5; clear hk))
    all_goals
      go_wp2_with fail
      go_ret
      exact ⟨rfl, HK0.out⟩
  | false =>
    have hdef : bodyR ⟨false, seq, key, val⟩ = 2 :: (vnum seq ++ (textB key ++ textB val)) := by rw [← List.append_assoc]; rfl
    rw [hdef]
    have HTK := Lib.hid (fun w => HT.out key w (.inl rfl))
    have HTV := Lib.hid (fun w => HT.out val w (.inr rfl))
    have a1 := str_cons 2 (vnum seq) 2 rfl
    have a2 := str_append (2 :: vnum seq) (textB key)
    have z1 := str_size (vnum seq)
    have z2 : (strOfNums (2 :: vnum seq)).size = (vnum seq).length + 1 := str_size (2 :: vnum seq)
    have z3 := str_size (textB key)
    have a3 := str_append (2 :: (vnum seq ++ textB key)) (textB val)
    have z4 : (strOfNums (2 :: (vnum seq ++ textB key))).size = (vnum seq).length + (textB key).length + 1 := by rw [str_size]; simp
    have z5 := str_size (textB val)
    rw [List.cons_append] at a2 a3
    obtain ⟨V, hV⟩ : ∃ V, V = vnum seq := ⟨_, rfl⟩
    obtain ⟨TK, hTK⟩ : ∃ TK, TK = textB key := ⟨_, rfl⟩
    obtain ⟨TV, hTV⟩ : ∃ TV, TV = textB val := ⟨_, rfl⟩
    rw [← hV] at HN a1 a2 a3 z1 z2 z4 hten ⊢
    rw [← hTK] at HTK a2 a3 z3 z4 htk ⊢
    rw [← hTV] at HTV a3 z5 htv ⊢
    have zz : (⟨#[2]⟩ : ByteArray).size = 1 := rfl
    have r1 : ¬ 9223372036854775807 < 1 + V.length := by omega
    have r2 : ¬ 9223372036854775807 < V.length + 1 + TK.length := by omega
    have r3 : ¬ 9223372036854775807 < V.length + TK.length + 1 + TV.length := by omega
    have HB := Lib.hid (Whole.new w 35 (recCells ⟨false, seq, key, val⟩))
    clear hdef hV hTK hTV HT hf h1 h2
    unfold recV
    simp only
    go_enter Try.func40, Try.ntmps40
    go_wp2_with fail
    obtain ⟨W, hW⟩ : ∃ W, W = w.alloc (.cells #[.bool false, .int .u64 (seq : Int), .string (strOfNums key), .string (strOfNums val)] 35) := ⟨_, rfl⟩
    have HBW : Hid (Whole W w.heap.size 35 (recCells ⟨false, seq, key, val⟩)) := by rw [hW]; exact HB
    have HK0 : Hid (Keeps NoBlock w W) := Lib.hid (by rw [hW]; exact (Keeps.refl _ _).alloc _)
    rw [← hW]
    clear hW HB
    have s0 := RecAt.ofWhole (w := W.drew) HBW.out
    have sN := RecAt.ofWhole HBW.out
    unfold RecAt at s0 sN
    go_region_held3 (fun w' => w'.cell? ⟨w.heap.size, 0, none⟩ = some (.bool false) ∧ w'.cell? ⟨w.heap.size, 1, none⟩ = some (.int .u64 (seq : Int)) ∧ w'.cell? ⟨w.heap.size, 2, none⟩ = some (.string (strOfNums key)) ∧ w'.cell? ⟨w.heap.size, 3, none⟩ = some (.string (strOfNums val)))
      (first | exact s5 | exact s0 | exact sN)
      (first | (go_at_call 47; refine (HN.out _).mono ?_; rintro e w5 ⟨rfl, hk⟩; have HK0 := Lib.hid (HK0.out.trans (c := w5) (by first | exact hk | exact hk.ofDrew | exact hk.ofDrewN)); have HBW := Lib.hid (HBW.out.keep (w' := w5) (S := NoBlock) (by first | exact hk | exact hk.ofDrew | exact hk.ofDrewN) (fun h => h)); have s5 := RecAt.ofWhole HBW.out; unfold RecAt at s5; clear hk) | (go_at_call 73; (first | refine (HTK.out _).mono ?_ | refine (HTV.out _).mono ?_); rintro e w5 ⟨rfl, hk⟩; have HK0 := Lib.hid (HK0.out.trans (c := w5) (by first | exact hk | exact hk.ofDrew | exact hk.ofDrewN)); have HBW := Lib.hid (HBW.out.keep (w' := w5) (S := NoBlock) (by first | exact hk | exact hk.ofDrew | exact hk.ofDrewN) (fun h => h)); have s5 := RecAt.ofWhole HBW.out; unfold RecAt at s5; clear hk))
    all_goals
      go_wp2_with fail
      go_ret
      exact ⟨rfl, HK0.out⟩
end Go.Proofs.Ytjjeaaiajgbncaa

namespace Go.Proofs.Ytjjeaaiajgbncaa
open Go.RowKit

/-- What GetText leaves, wherever the Reader stood. -/
structure GS where
  X : List Int
  A : Int
  E : Int
  T : List Int
def gtS (X : List Int) (A E : Int) (l m : Nat) : GS :=
  if E = 0 then ⟨X.drop (vtext X l m).n, A + (vtext X l m).n, (vtext X l m).e, (vtext X l m).t⟩ else ⟨X, A, E, []⟩

theorem vtext_n (X : List Int) (l m : Nat) : (vtext X l m).n ≤ X.length := by
  have hn : (vget X).n ≤ X.length := vread_n 10 true X
  unfold vtext
  split
  · exact hn
  · split
    · exact hn
    · split
      · exact hn
      · split
        · exact hn
        · rename_i h
          rw [List.length_drop] at h
          show (vget X).n + (vget X).x.toNat ≤ X.length
          omega
theorem gtS_octets {X : List Int} {A E : Int} {l m : Nat} (h : Octets X) : Octets (gtS X A E l m).X := by
  unfold gtS
  split
  · exact h.drop _
  · exact h
theorem gtS_room {X : List Int} {A E : Int} {l m : Nat} {B : Int} (h0 : 0 ≤ A) (h : A + X.length ≤ B) : 0 ≤ (gtS X A E l m).A ∧ (gtS X A E l m).A + (gtS X A E l m).X.length ≤ B ∧ (gtS X A E l m).X.length ≤ X.length := by
  have hn := vtext_n X l m
  unfold gtS
  split
  · simp only [List.length_drop]
    omega
  · exact ⟨h0, h, Nat.le_refl _⟩

theorem gettext_all (X : List Int) (A E : Int) (l m : Nat) (zl zm : Int) (hzl : zl = (l : Int)) (hzm : zm = (m : Int)) (hl4 : l ≤ 4096) (hmp : 0 < m) (hm : m ≤ 1048576) (hl : X.length ≤ 140737488355328) (ha : 0 ≤ A ∧ A + X.length ≤ 140737488355328) (ho : Octets X) (w : World) :
    Calls Try.prog 74 #[rdr X A E, .int .i64 zl, .int .i64 zm] w fun e w' => e = .returned (.tuple #[rdr (gtS X A E l m).X (gtS X A E l m).A (gtS X A E l m).E, .string (strOfNums (gtS X A E l m).T)]) ∧ Keeps NoBlock w w' := by
  unfold gtS
  by_cases hE : E = 0
  · subst hE
    rw [if_pos rfl]
    exact gettext_ref X A l m zl zm hzl hzm hl4 hmp hm hl ha ho w
  · rw [if_neg hE]
    exact gettext_gone X A E zl zm hE w

/-- What the document's Read answers. -/
def readOut7 (t : Int × Rec) : Value := .tuple #[recV t.2, .int .i64 t.1]

/-- What End makes of what was read. -/
def fin7 (del : Bool) (s : Nat) (k v X : List Int) (E : Int) : Int × Rec := if endE X E = 0 then (0, ⟨del, s, k, v⟩) else (endE X E, Rec.none)
theorem fin7_bad {del : Bool} {s : Nat} {k v X : List Int} {E : Int} (h : E ≠ 0) : fin7 del s k v X E = (E, Rec.none) := by
  have e : endE X E = E := by unfold endE; rw [if_neg h]
  unfold fin7
  rw [e, if_neg h]
theorem fin7_end {del : Bool} {s : Nat} {k v X : List Int} : fin7 del s k v X 0 = readEnd del s k v X := by
  unfold fin7 readEnd endE
  rw [if_pos rfl]
  by_cases h : X = []
  · rw [if_pos h, if_pos rfl, if_pos h]
  · rw [if_neg h, if_neg (by decide), if_neg h]
/-- The reading of what follows the kind, step by step. -/
def gone7 (k : GS) : GS := ⟨k.X, k.A, k.E, []⟩
def key7 (xs : List Int) : GS := gtS (xs.drop (vget xs).n) ((vget xs).n : Int) (vget xs).e 1 4096
def val7 (del : Bool) (k : GS) : GS := if del then gone7 k else gtS k.X k.A k.E 0 1048576
def seq7 (xs : List Int) : Nat := (if (vget xs).e = 0 then (vget xs).x else 0).toNat
def steps7 (del : Bool) (xs : List Int) : Int × Rec :=
  fin7 del (seq7 xs) (key7 xs).T (val7 del (key7 xs)).T (val7 del (key7 xs)).X (val7 del (key7 xs)).E
theorem gtS_bad {X : List Int} {A E : Int} {l m : Nat} (h : E ≠ 0) : gtS X A E l m = ⟨X, A, E, []⟩ := by unfold gtS; rw [if_neg h]
theorem gtS_good {X : List Int} {A : Int} {l m : Nat} : gtS X A 0 l m = ⟨X.drop (vtext X l m).n, A + (vtext X l m).n, (vtext X l m).e, (vtext X l m).t⟩ := by unfold gtS; rw [if_pos rfl]
theorem val7_bad {del : Bool} {k : GS} (h : k.E ≠ 0) : (val7 del k).E = k.E := by
  unfold val7
  cases del with
  | true => rfl
  | false => rw [if_neg (by decide), gtS_bad h]
theorem steps7_read (del : Bool) (xs : List Int) : steps7 del xs = readKind (if del then 3 else 2) xs := by
  unfold steps7 readKind
  have h1 : ¬ ((if del = true then (3 : Int) else 2) ≠ 2 ∧ (if del = true then (3 : Int) else 2) ≠ 3) := by cases del <;> simp
  rw [if_neg h1]
  by_cases he : (vget xs).e = 0
  · rw [if_neg (by simpa using he)]
    have hs : seq7 xs = (vget xs).x.toNat := by unfold seq7; rw [if_pos he]
    have hk : key7 xs = ⟨(xs.drop (vget xs).n).drop (vtext (xs.drop (vget xs).n) 1 4096).n, ((vget xs).n : Int) + (vtext (xs.drop (vget xs).n) 1 4096).n, (vtext (xs.drop (vget xs).n) 1 4096).e, (vtext (xs.drop (vget xs).n) 1 4096).t⟩ := by
      unfold key7
      rw [he, gtS_good]
    rw [hs]
    unfold readKey
    by_cases hte : (vtext (xs.drop (vget xs).n) 1 4096).e = 0
    · rw [if_neg (by simpa using hte)]
      cases del with
      | true =>
        have hv : val7 true (key7 xs) = gone7 (key7 xs) := rfl
        rw [hv, hk]
        unfold gone7
        simp only [if_true]
        rw [hte, fin7_end]
      | false =>
        have hv : val7 false (key7 xs) = gtS (key7 xs).X (key7 xs).A (key7 xs).E 0 1048576 := rfl
        rw [hv, hk]
        simp only
        rw [hte, gtS_good]
        simp only
        have h32 : ¬ ((if false = true then (3 : Int) else 2) = 3) := by decide
        rw [if_neg h32]
        by_cases hue : (vtext (List.drop (vtext (xs.drop (vget xs).n) 1 4096).n (xs.drop (vget xs).n)) 0 1048576).e = 0
        · rw [if_neg (by simpa using hue), hue, fin7_end]
        · rw [if_pos (by simpa using hue), fin7_bad hue]
    · have hkE : (key7 xs).E ≠ 0 := by rw [hk]; exact hte
      rw [if_pos (by simpa using hte), fin7_bad (by rw [val7_bad hkE]; exact hkE), val7_bad hkE, hk]
  · rw [if_pos (by simpa using he)]
    have hkE : (key7 xs).E = (vget xs).e := by unfold key7; rw [gtS_bad he]
    have hk0 : (key7 xs).E ≠ 0 := by rw [hkE]; exact he
    rw [fin7_bad (by rw [val7_bad hk0]; exact hk0), val7_bad hk0, hkE]
end Go.Proofs.Ytjjeaaiajgbncaa

namespace Go.Proofs.Ytjjeaaiajgbncaa
open Go.RowKit

theorem Keeps.set4 {S : Nat → Prop} {a b : World} (h : Keeps S a b) {g : Nat} (hg : a.heap.size ≤ g) (x y z u : Value) : Keeps S a ((((b.setCell ⟨g, 0, none⟩ x).setCell ⟨g, 1, none⟩ y).setCell ⟨g, 2, none⟩ z).setCell ⟨g, 3, none⟩ u) :=
  (((h.setNew hg 0 x).setNew hg 1 y).setNew hg 2 z).setNew hg 3 u

set_option maxHeartbeats 4000000 in
set_option maxRecDepth 10000 in
theorem read7_kind (del : Bool) (k : Int) (hk : k = if del then 3 else 2) (xs : List Int) (ho : Octets xs) (hl : xs.length ≤ 10000000) (w : World) :
    Calls Try.prog 41 #[.string (strOfNums (k :: xs))] w fun e w' => e = .returned (readOut7 (steps7 del xs)) ∧ Keeps NoBlock w w' := by
  have hok : Octets (k :: xs) := fun b hb => by
    rcases List.mem_cons.1 hb with rfl | h
    · rw [hk]; cases del <;> simp
    · exact ho b h
  have hsz : (strOfNums (k :: xs)).size = xs.length + 1 := str_size (k :: xs)
  have hpos : 0 < (strOfNums (k :: xs)).size := by rw [hsz]; omega
  have hsg := str_get (k :: xs) hok 0 hpos
  rw [show (k :: xs).getD 0 0 = k from rfl] at hsg
  have hem : (strOfNums (k :: xs)).toList.isEmpty = false := str_isnone _
  have hex : (strOfNums (k :: xs)).extract 1 (xs.length + 1) = strOfNums xs := by
    have := str_drop (k :: xs) 1
    rw [hsz] at this
    exact this
  have HG := Lib.hid (fun w => get_ref xs 0 (by omega) (by omega) ho w)
  have hoz := ho.drop (vget xs).n
  have hln : (vget xs).n ≤ xs.length := vread_n 10 true xs
  have hlz : (xs.drop (vget xs).n).length = xs.length - (vget xs).n := List.length_drop
  have HK := Lib.hid (fun w => gettext_all (xs.drop (vget xs).n) ((vget xs).n : Int) (vget xs).e 1 4096 1 4096 rfl rfl (by decide) (by decide) (by decide) (by omega) (by omega) hoz w)
  have hok2 : Octets (key7 xs).X := gtS_octets hoz
  have hrm := gtS_room (X := xs.drop (vget xs).n) (A := ((vget xs).n : Int)) (E := (vget xs).e) (l := 1) (m := 4096) (B := 10000000) (by omega) (by omega)
  have HV := Lib.hid (fun w => gettext_all (key7 xs).X (key7 xs).A (key7 xs).E 0 1048576 0 1048576 rfl rfl (by decide) (by decide) (by decide) (by have := hrm.2.2; show (gtS _ _ _ 1 4096).X.length ≤ _; omega) (by have := hrm.1; have := hrm.2.1; show 0 ≤ (gtS _ _ _ 1 4096).A ∧ (gtS _ _ _ 1 4096).A + _ ≤ _; exact ⟨hrm.1, Int.le_trans hrm.2.1 (by decide)⟩) hok2 w)
  have HE := Lib.hid (fun w => end_ref (val7 del (key7 xs)).X (val7 del (key7 xs)).A (val7 del (key7 xs)).E w)
  rw [show gtS (xs.drop (vget xs).n) ((vget xs).n : Int) (vget xs).e 1 4096 = key7 xs from rfl] at HK
  have hv1 : del = false → gtS (key7 xs).X (key7 xs).A (key7 xs).E 0 1048576 = val7 del (key7 xs) := fun h => by subst h; rfl
  have hv2 : del = true → val7 del (key7 xs) = gone7 (key7 xs) := fun h => by subst h; rfl
  have hseq : (if (vget xs).e = 0 then (vget xs).x else 0) = ((seq7 xs : Nat) : Int) := by
    unfold seq7
    split
    · rename_i h
      have hb := vread_bound 9 true xs ho h
      have : 0 ≤ (vget xs).x := hb.1
      omega
    · rfl
  unfold refOut at HG
  rw [hseq, Int.zero_add] at HG
  unfold steps7 readOut7 fin7
  obtain ⟨s, hs⟩ : ∃ s, s = seq7 xs := ⟨_, rfl⟩
  obtain ⟨K, hK⟩ : ∃ K, K = key7 xs := ⟨_, rfl⟩
  rw [← hs] at HG ⊢
  rw [← hK] at HK HV HE hv1 hv2 ⊢
  obtain ⟨V, hV⟩ : ∃ V, V = val7 del K := ⟨_, rfl⟩
  rw [← hV] at HE hv1 hv2 ⊢
  obtain ⟨Z, hZ⟩ : ∃ Z, Z = xs.drop (vget xs).n := ⟨_, rfl⟩
  rw [← hZ] at HG HK
  obtain ⟨z, hz⟩ : ∃ z, z = endE V.X V.E := ⟨_, rfl⟩
  rw [← hz] at HE ⊢
  obtain ⟨g, hg⟩ : ∃ g, g = vget xs := ⟨_, rfl⟩
  rw [← hg] at HG HK
  obtain ⟨KX, KA, KE, KT⟩ := K
  obtain ⟨VX, VA, VE, VT⟩ := V
  obtain ⟨ge, gn, gx⟩ := g
  unfold gone7 at hv2
  simp only at HG HK HV HE hv1 hv2 ⊢
  obtain ⟨L, hL⟩ : ∃ L, L = xs.length := ⟨_, rfl⟩
  rw [← hL] at hsz hl
  rw [← hL] at hex
  clear hL hg hz hZ hV hK hs hrm hok2 hoz hln hlz hseq hok ho
  unfold rdr at *
  cases del with
  | true =>
    obtain rfl : k = 3 := hk
    clear HV hv1
    obtain ⟨rfl, rfl, rfl, rfl⟩ : VX = KX ∧ VA = KA ∧ VE = KE ∧ VT = [] := by
      have := hv2 rfl
      simpa using this
    clear hv2
    by_cases hz : z = 0
    · subst hz
      rw [if_pos rfl]
      simp only
      go_enter Try.func41, Try.ntmps41
      go_wp2_with fail
      refine (HG.out _).mono ?_
      rintro e w1 ⟨rfl, hk⟩
      have hR1 : Whole w1 w.heap.size 35 #[.bool false, .int .u64 0, .string ⟨#[]⟩, .string ⟨#[]⟩] := ((Whole.new w _ _).alloc _).keep hk (fun h => h)
      have hX1 : Whole w1 (w.heap.size + 1) 35 #[.bool true, .int .u64 0, .string ⟨#[]⟩, .string ⟨#[]⟩] := (Whole.newAt _ _ _ _ (by simp)).keep hk (fun h => h)
      have hK1 : Keeps NoBlock w w1 := (((Keeps.refl NoBlock w).alloc _).alloc _).trans hk
      obtain ⟨W, hW⟩ : ∃ W, W = w1.alloc (.cells #[.string (strOfNums Z), .int .i64 (gn : Int), .int .i64 ge] 79) := ⟨_, rfl⟩
      have hRW : Whole W w.heap.size 35 #[.bool false, .int .u64 0, .string ⟨#[]⟩, .string ⟨#[]⟩] := by rw [hW]; exact hR1.alloc _
      have hXW : Whole W (w.heap.size + 1) 35 #[.bool true, .int .u64 0, .string ⟨#[]⟩, .string ⟨#[]⟩] := by rw [hW]; exact hX1.alloc _
      have hDW : Whole W w1.heap.size 79 #[.string (strOfNums Z), .int .i64 (gn : Int), .int .i64 ge] := by rw [hW]; exact Whole.new _ _ _
      have hKW : Keeps NoBlock w W := by rw [hW]; exact hK1.alloc _
      have hlt1 := hX1.lt
      obtain ⟨D, hD⟩ : ∃ D, D = w1.heap.size := ⟨_, rfl⟩
      rw [← hD] at hDW hlt1
      have HR := Lib.hid hRW
      have HX := Lib.hid hXW
      have HD := Lib.hid hDW
      have HKp := Lib.hid hKW
      have d0 := hDW.cell 0 rfl
      have d1 := hDW.cell 1 rfl
      have d2 := hDW.cell 2 rfl
      have e0 := hDW.free 0
      have e1 := hDW.free 1
      have e2 := hDW.free 2
      simp only [List.getElem_toArray, List.getElem_cons_zero, List.getElem_cons_succ] at d0 d1 d2
      clear hk hR1 hX1 hK1 hRW hXW hDW hKW
      go_upto_region 7 with (fail)
      rw [← hW, ← hD]
      clear hW hD
      go_wp2_with fail
      refine (HK.out _).mono ?_
      rintro e w2 ⟨rfl, hk⟩
      have HR := Lib.hid ((HR.out.keep hk (fun h => h)).other3 (h := D) (by omega) (.string (strOfNums VX)) (.int .i64 VA) (.int .i64 VE))
      have HX := Lib.hid ((HX.out.keep hk (fun h => h)).other3 (h := D) (by omega) (.string (strOfNums VX)) (.int .i64 VA) (.int .i64 VE))
      have HKp := Lib.hid ((HKp.out.trans hk).set3 (g := D) (by omega) (.string (strOfNums VX)) (.int .i64 VA) (.int .i64 VE))
      have hD2 := HD.out.keep hk (fun h => h)
      have HD := Lib.hid (hD2.set3 (.string (strOfNums VX)) (.int .i64 VA) (.int .i64 VE))
      clear d0 d1 d2 e0 e1 e2
      have d0 := hD2.cell 0 rfl
      have d1 := hD2.cell 1 rfl
      have d2 := hD2.cell 2 rfl
      have e0 := hD2.free 0
      have e1 := hD2.free 1
      have e2 := hD2.free 2
      simp only [List.getElem_toArray, List.getElem_cons_zero, List.getElem_cons_succ] at d0 d1 d2
      clear hk hD2
      go_upto_region 8 with (fail)
      obtain ⟨Y2, hY2⟩ : ∃ Y, Y = ((w2.setCell ⟨D, 0, none⟩ (.string (strOfNums VX))).setCell ⟨D, 1, none⟩ (.int .i64 VA)).setCell ⟨D, 2, none⟩ (.int .i64 VE) := ⟨_, rfl⟩
      rw [← hY2] at HR HX HKp HD ⊢
      clear hY2 d0 d1 d2 e0 e1 e2
      have d0 := HD.out.cell 0 rfl
      have d1 := HD.out.cell 1 rfl
      have d2 := HD.out.cell 2 rfl
      have e0 := HD.out.free 0
      have e1 := HD.out.free 1
      have e2 := HD.out.free 2
      have x0 := HX.out.cell 0 rfl
      simp only [List.getElem_toArray, List.getElem_cons_zero, List.getElem_cons_succ] at d0 d1 d2 x0
      go_wp2_with fail
      refine (HE.out _).mono ?_
      rintro e w3 ⟨rfl, hk⟩
      have HR := Lib.hid ((HR.out.keep hk (fun h => h)).other3 (h := D) (by omega) (.string (strOfNums VX)) (.int .i64 VA) (.int .i64 0))
      have HX := Lib.hid ((HX.out.keep hk (fun h => h)).other3 (h := D) (by omega) (.string (strOfNums VX)) (.int .i64 VA) (.int .i64 0))
      have HKp := Lib.hid ((HKp.out.trans hk).set3 (g := D) (by omega) (.string (strOfNums VX)) (.int .i64 VA) (.int .i64 0))
      have hD2 := HD.out.keep hk (fun h => h)
      have HD := Lib.hid (hD2.set3 (.string (strOfNums VX)) (.int .i64 VA) (.int .i64 0))
      clear d0 d1 d2 e0 e1 e2
      have d0 := hD2.cell 0 rfl
      have d1 := hD2.cell 1 rfl
      have d2 := hD2.cell 2 rfl
      have e0 := hD2.free 0
      have e1 := hD2.free 1
      have e2 := hD2.free 2
      simp only [List.getElem_toArray, List.getElem_cons_zero, List.getElem_cons_succ] at d0 d1 d2
      clear hk hD2
      go_upto_region 12 with (fail)
      obtain ⟨Y3, hY3⟩ : ∃ Y, Y = ((w3.setCell ⟨D, 0, none⟩ (.string (strOfNums VX))).setCell ⟨D, 1, none⟩ (.int .i64 VA)).setCell ⟨D, 2, none⟩ (.int .i64 0) := ⟨_, rfl⟩
      rw [← hY3] at HR HX HKp HD ⊢
      clear hY3 d0 d1 d2 e0 e1 e2
      have d0 := HD.out.cell 0 rfl
      have d1 := HD.out.cell 1 rfl
      have d2 := HD.out.cell 2 rfl
      have e0 := HD.out.free 0
      have e1 := HD.out.free 1
      have e2 := HD.out.free 2
      have x0 := HX.out.cell 0 rfl
      simp only [List.getElem_toArray, List.getElem_cons_zero, List.getElem_cons_succ] at d0 d1 d2 x0
      have q0 := HR.out.free 0
      have q1 := HR.out.free 1
      have q2 := HR.out.free 2
      have q3 := HR.out.free 3
      have o0 := HR.out.cell 0 rfl
      have o1 := HR.out.cell 1 rfl
      have o2 := HR.out.cell 2 rfl
      have o3 := HR.out.cell 3 rfl
      clear x0
      have x0 := HX.out.cell 0 rfl
      have x1 := HX.out.cell 1 rfl
      have x2 := HX.out.cell 2 rfl
      have x3 := HX.out.cell 3 rfl
      have y0 := HX.out.free 0
      have y1 := HX.out.free 1
      have y2 := HX.out.free 2
      have y3 := HX.out.free 3
      simp only [List.getElem_toArray, List.getElem_cons_zero, List.getElem_cons_succ] at o0 o1 o2 o3 x0 x1 x2 x3
      go_wp2_with fail
      exact bodyPost_ret (v := .tuple #[recV ⟨true, s, KT, []⟩, .int .i64 0]) (by simp [results, Try.results41, go_sem, recV, o0, o1, o2, o3]; rfl) rfl ⟨rfl, Keeps.set4 (((HKp.out.setNew (by omega) 1 _).setNew (by omega) 2 _).setNew (by omega) 3 _) (Nat.le_refl _) _ _ _ _⟩
    · rw [if_neg hz]
      simp only
      have hzb : (z != 0) = true := by simpa using hz
      have hzc : decide (z = 0) = false := decide_eq_false hz
      go_enter Try.func41, Try.ntmps41
      go_wp2_with fail
      refine (HG.out _).mono ?_
      rintro e w1 ⟨rfl, hk⟩
      have hR1 : Whole w1 w.heap.size 35 #[.bool false, .int .u64 0, .string ⟨#[]⟩, .string ⟨#[]⟩] := ((Whole.new w _ _).alloc _).keep hk (fun h => h)
      have hX1 : Whole w1 (w.heap.size + 1) 35 #[.bool true, .int .u64 0, .string ⟨#[]⟩, .string ⟨#[]⟩] := (Whole.newAt _ _ _ _ (by simp)).keep hk (fun h => h)
      have hK1 : Keeps NoBlock w w1 := (((Keeps.refl NoBlock w).alloc _).alloc _).trans hk
      obtain ⟨W, hW⟩ : ∃ W, W = w1.alloc (.cells #[.string (strOfNums Z), .int .i64 (gn : Int), .int .i64 ge] 79) := ⟨_, rfl⟩
      have hRW : Whole W w.heap.size 35 #[.bool false, .int .u64 0, .string ⟨#[]⟩, .string ⟨#[]⟩] := by rw [hW]; exact hR1.alloc _
      have hXW : Whole W (w.heap.size + 1) 35 #[.bool true, .int .u64 0, .string ⟨#[]⟩, .string ⟨#[]⟩] := by rw [hW]; exact hX1.alloc _
      have hDW : Whole W w1.heap.size 79 #[.string (strOfNums Z), .int .i64 (gn : Int), .int .i64 ge] := by rw [hW]; exact Whole.new _ _ _
      have hKW : Keeps NoBlock w W := by rw [hW]; exact hK1.alloc _
      have hlt1 := hX1.lt
      obtain ⟨D, hD⟩ : ∃ D, D = w1.heap.size := ⟨_, rfl⟩
      rw [← hD] at hDW hlt1
      have HR := Lib.hid hRW
      have HX := Lib.hid hXW
      have HD := Lib.hid hDW
      have HKp := Lib.hid hKW
      have d0 := hDW.cell 0 rfl
      have d1 := hDW.cell 1 rfl
      have d2 := hDW.cell 2 rfl
      have e0 := hDW.free 0
      have e1 := hDW.free 1
      have e2 := hDW.free 2
      simp only [List.getElem_toArray, List.getElem_cons_zero, List.getElem_cons_succ] at d0 d1 d2
      clear hk hR1 hX1 hK1 hRW hXW hDW hKW
      go_upto_region 7 with (fail)
      rw [← hW, ← hD]
      clear hW hD
      go_wp2_with fail
      refine (HK.out _).mono ?_
      rintro e w2 ⟨rfl, hk⟩
      have HR := Lib.hid ((HR.out.keep hk (fun h => h)).other3 (h := D) (by omega) (.string (strOfNums VX)) (.int .i64 VA) (.int .i64 VE))
      have HX := Lib.hid ((HX.out.keep hk (fun h => h)).other3 (h := D) (by omega) (.string (strOfNums VX)) (.int .i64 VA) (.int .i64 VE))
      have HKp := Lib.hid ((HKp.out.trans hk).set3 (g := D) (by omega) (.string (strOfNums VX)) (.int .i64 VA) (.int .i64 VE))
      have hD2 := HD.out.keep hk (fun h => h)
      have HD := Lib.hid (hD2.set3 (.string (strOfNums VX)) (.int .i64 VA) (.int .i64 VE))
      clear d0 d1 d2 e0 e1 e2
      have d0 := hD2.cell 0 rfl
      have d1 := hD2.cell 1 rfl
      have d2 := hD2.cell 2 rfl
      have e0 := hD2.free 0
      have e1 := hD2.free 1
      have e2 := hD2.free 2
      simp only [List.getElem_toArray, List.getElem_cons_zero, List.getElem_cons_succ] at d0 d1 d2
      clear hk hD2
      go_upto_region 8 with (fail)
      obtain ⟨Y2, hY2⟩ : ∃ Y, Y = ((w2.setCell ⟨D, 0, none⟩ (.string (strOfNums VX))).setCell ⟨D, 1, none⟩ (.int .i64 VA)).setCell ⟨D, 2, none⟩ (.int .i64 VE) := ⟨_, rfl⟩
      rw [← hY2] at HR HX HKp HD ⊢
      clear hY2 d0 d1 d2 e0 e1 e2
      have d0 := HD.out.cell 0 rfl
      have d1 := HD.out.cell 1 rfl
      have d2 := HD.out.cell 2 rfl
      have e0 := HD.out.free 0
      have e1 := HD.out.free 1
      have e2 := HD.out.free 2
      have x0 := HX.out.cell 0 rfl
      simp only [List.getElem_toArray, List.getElem_cons_zero, List.getElem_cons_succ] at d0 d1 d2 x0
      go_wp2_with fail
      refine (HE.out _).mono ?_
      rintro e w3 ⟨rfl, hk⟩
      have HR := Lib.hid ((HR.out.keep hk (fun h => h)).other3 (h := D) (by omega) (.string (strOfNums VX)) (.int .i64 VA) (.int .i64 z))
      have HX := Lib.hid ((HX.out.keep hk (fun h => h)).other3 (h := D) (by omega) (.string (strOfNums VX)) (.int .i64 VA) (.int .i64 z))
      have HKp := Lib.hid ((HKp.out.trans hk).set3 (g := D) (by omega) (.string (strOfNums VX)) (.int .i64 VA) (.int .i64 z))
      have hD2 := HD.out.keep hk (fun h => h)
      have HD := Lib.hid (hD2.set3 (.string (strOfNums VX)) (.int .i64 VA) (.int .i64 z))
      clear d0 d1 d2 e0 e1 e2
      have d0 := hD2.cell 0 rfl
      have d1 := hD2.cell 1 rfl
      have d2 := hD2.cell 2 rfl
      have e0 := hD2.free 0
      have e1 := hD2.free 1
      have e2 := hD2.free 2
      simp only [List.getElem_toArray, List.getElem_cons_zero, List.getElem_cons_succ] at d0 d1 d2
      clear hk hD2
      go_upto_region 12 with (fail)
      obtain ⟨Y3, hY3⟩ : ∃ Y, Y = ((w3.setCell ⟨D, 0, none⟩ (.string (strOfNums VX))).setCell ⟨D, 1, none⟩ (.int .i64 VA)).setCell ⟨D, 2, none⟩ (.int .i64 z) := ⟨_, rfl⟩
      rw [← hY3] at HR HX HKp HD ⊢
      clear hY3 d0 d1 d2 e0 e1 e2
      have d0 := HD.out.cell 0 rfl
      have d1 := HD.out.cell 1 rfl
      have d2 := HD.out.cell 2 rfl
      have e0 := HD.out.free 0
      have e1 := HD.out.free 1
      have e2 := HD.out.free 2
      have x0 := HX.out.cell 0 rfl
      simp only [List.getElem_toArray, List.getElem_cons_zero, List.getElem_cons_succ] at d0 d1 d2 x0
      have q0 := HR.out.free 0
      have q1 := HR.out.free 1
      have q2 := HR.out.free 2
      have q3 := HR.out.free 3
      have o0 := HR.out.cell 0 rfl
      have o1 := HR.out.cell 1 rfl
      have o2 := HR.out.cell 2 rfl
      have o3 := HR.out.cell 3 rfl
      clear x0
      have x0 := HX.out.cell 0 rfl
      have x1 := HX.out.cell 1 rfl
      have x2 := HX.out.cell 2 rfl
      have x3 := HX.out.cell 3 rfl
      have y0 := HX.out.free 0
      have y1 := HX.out.free 1
      have y2 := HX.out.free 2
      have y3 := HX.out.free 3
      simp only [List.getElem_toArray, List.getElem_cons_zero, List.getElem_cons_succ] at o0 o1 o2 o3 x0 x1 x2 x3
      go_wp2_with fail
      have s0 : Y3.drew.cell? ⟨D, 2, none⟩ = some (.int .i64 z) := d2
      go_region
      go_wp2_with fail
      exact bodyPost_ret (v := .tuple #[recV Rec.none, .int .i64 z]) (by simp [results, Try.results41, go_sem, recV, Rec.none, o0, o1, o2, o3]; rfl) rfl ⟨rfl, (HKp.out.set4 (Nat.le_refl _) _ _ _ _).drew⟩
  | false =>
    obtain rfl : k = 2 := hk
    clear hv2
    rw [hv1 rfl] at HV
    clear hv1
    by_cases hz : z = 0
    · subst hz
      rw [if_pos rfl]
      simp only
      go_enter Try.func41, Try.ntmps41
      go_wp2_with fail
      refine (HG.out _).mono ?_
      rintro e w1 ⟨rfl, hk⟩
      have hR1 : Whole w1 w.heap.size 35 #[.bool false, .int .u64 0, .string ⟨#[]⟩, .string ⟨#[]⟩] := ((Whole.new w _ _).alloc _).keep hk (fun h => h)
      have hX1 : Whole w1 (w.heap.size + 1) 35 #[.bool false, .int .u64 0, .string ⟨#[]⟩, .string ⟨#[]⟩] := (Whole.newAt _ _ _ _ (by simp)).keep hk (fun h => h)
      have hK1 : Keeps NoBlock w w1 := (((Keeps.refl NoBlock w).alloc _).alloc _).trans hk
      obtain ⟨W, hW⟩ : ∃ W, W = w1.alloc (.cells #[.string (strOfNums Z), .int .i64 (gn : Int), .int .i64 ge] 79) := ⟨_, rfl⟩
      have hRW : Whole W w.heap.size 35 #[.bool false, .int .u64 0, .string ⟨#[]⟩, .string ⟨#[]⟩] := by rw [hW]; exact hR1.alloc _
      have hXW : Whole W (w.heap.size + 1) 35 #[.bool false, .int .u64 0, .string ⟨#[]⟩, .string ⟨#[]⟩] := by rw [hW]; exact hX1.alloc _
      have hDW : Whole W w1.heap.size 79 #[.string (strOfNums Z), .int .i64 (gn : Int), .int .i64 ge] := by rw [hW]; exact Whole.new _ _ _
      have hKW : Keeps NoBlock w W := by rw [hW]; exact hK1.alloc _
      have hlt1 := hX1.lt
      obtain ⟨D, hD⟩ : ∃ D, D = w1.heap.size := ⟨_, rfl⟩
      rw [← hD] at hDW hlt1
      have HR := Lib.hid hRW
      have HX := Lib.hid hXW
      have HD := Lib.hid hDW
      have HKp := Lib.hid hKW
      have d0 := hDW.cell 0 rfl
      have d1 := hDW.cell 1 rfl
      have d2 := hDW.cell 2 rfl
      have e0 := hDW.free 0
      have e1 := hDW.free 1
      have e2 := hDW.free 2
      simp only [List.getElem_toArray, List.getElem_cons_zero, List.getElem_cons_succ] at d0 d1 d2
      clear hk hR1 hX1 hK1 hRW hXW hDW hKW
      go_upto_region 7 with (fail)
      rw [← hW, ← hD]
      clear hW hD
      go_wp2_with fail
      refine (HK.out _).mono ?_
      rintro e w2 ⟨rfl, hk⟩
      have HR := Lib.hid ((HR.out.keep hk (fun h => h)).other3 (h := D) (by omega) (.string (strOfNums KX)) (.int .i64 KA) (.int .i64 KE))
      have HX := Lib.hid ((HX.out.keep hk (fun h => h)).other3 (h := D) (by omega) (.string (strOfNums KX)) (.int .i64 KA) (.int .i64 KE))
      have HKp := Lib.hid ((HKp.out.trans hk).set3 (g := D) (by omega) (.string (strOfNums KX)) (.int .i64 KA) (.int .i64 KE))
      have hD2 := HD.out.keep hk (fun h => h)
      have HD := Lib.hid (hD2.set3 (.string (strOfNums KX)) (.int .i64 KA) (.int .i64 KE))
      clear d0 d1 d2 e0 e1 e2
      have d0 := hD2.cell 0 rfl
      have d1 := hD2.cell 1 rfl
      have d2 := hD2.cell 2 rfl
      have e0 := hD2.free 0
      have e1 := hD2.free 1
      have e2 := hD2.free 2
      simp only [List.getElem_toArray, List.getElem_cons_zero, List.getElem_cons_succ] at d0 d1 d2
      clear hk hD2
      go_upto_region 8 with (fail)
      obtain ⟨Y2, hY2⟩ : ∃ Y, Y = ((w2.setCell ⟨D, 0, none⟩ (.string (strOfNums KX))).setCell ⟨D, 1, none⟩ (.int .i64 KA)).setCell ⟨D, 2, none⟩ (.int .i64 KE) := ⟨_, rfl⟩
      rw [← hY2] at HR HX HKp HD ⊢
      clear hY2 d0 d1 d2 e0 e1 e2
      have d0 := HD.out.cell 0 rfl
      have d1 := HD.out.cell 1 rfl
      have d2 := HD.out.cell 2 rfl
      have e0 := HD.out.free 0
      have e1 := HD.out.free 1
      have e2 := HD.out.free 2
      have x0 := HX.out.cell 0 rfl
      simp only [List.getElem_toArray, List.getElem_cons_zero, List.getElem_cons_succ] at d0 d1 d2 x0
      go_wp2_with fail
      clear x0
      refine (HV.out _).mono ?_
      rintro e w4 ⟨rfl, hk⟩
      have HR := Lib.hid ((HR.out.keep hk (fun h => h)).other3 (h := D) (by omega) (.string (strOfNums VX)) (.int .i64 VA) (.int .i64 VE))
      have HX := Lib.hid ((HX.out.keep hk (fun h => h)).other3 (h := D) (by omega) (.string (strOfNums VX)) (.int .i64 VA) (.int .i64 VE))
      have HKp := Lib.hid ((HKp.out.trans hk).set3 (g := D) (by omega) (.string (strOfNums VX)) (.int .i64 VA) (.int .i64 VE))
      have hD2 := HD.out.keep hk (fun h => h)
      have HD := Lib.hid (hD2.set3 (.string (strOfNums VX)) (.int .i64 VA) (.int .i64 VE))
      clear d0 d1 d2 e0 e1 e2
      have d0 := hD2.cell 0 rfl
      have d1 := hD2.cell 1 rfl
      have d2 := hD2.cell 2 rfl
      have e0 := hD2.free 0
      have e1 := hD2.free 1
      have e2 := hD2.free 2
      simp only [List.getElem_toArray, List.getElem_cons_zero, List.getElem_cons_succ] at d0 d1 d2
      clear hk hD2
      go_upto_region 11 with (fail)
      obtain ⟨Y4, hY4⟩ : ∃ Y, Y = ((w4.setCell ⟨D, 0, none⟩ (.string (strOfNums VX))).setCell ⟨D, 1, none⟩ (.int .i64 VA)).setCell ⟨D, 2, none⟩ (.int .i64 VE) := ⟨_, rfl⟩
      rw [← hY4] at HR HX HKp HD ⊢
      clear hY4 d0 d1 d2 e0 e1 e2
      have d0 := HD.out.cell 0 rfl
      have d1 := HD.out.cell 1 rfl
      have d2 := HD.out.cell 2 rfl
      have e0 := HD.out.free 0
      have e1 := HD.out.free 1
      have e2 := HD.out.free 2
      have x0 := HX.out.cell 0 rfl
      simp only [List.getElem_toArray, List.getElem_cons_zero, List.getElem_cons_succ] at d0 d1 d2 x0
      go_wp2_with fail
      refine (HE.out _).mono ?_
      rintro e w3 ⟨rfl, hk⟩
      have HR := Lib.hid ((HR.out.keep hk (fun h => h)).other3 (h := D) (by omega) (.string (strOfNums VX)) (.int .i64 VA) (.int .i64 0))
      have HX := Lib.hid ((HX.out.keep hk (fun h => h)).other3 (h := D) (by omega) (.string (strOfNums VX)) (.int .i64 VA) (.int .i64 0))
      have HKp := Lib.hid ((HKp.out.trans hk).set3 (g := D) (by omega) (.string (strOfNums VX)) (.int .i64 VA) (.int .i64 0))
      have hD2 := HD.out.keep hk (fun h => h)
      have HD := Lib.hid (hD2.set3 (.string (strOfNums VX)) (.int .i64 VA) (.int .i64 0))
      clear d0 d1 d2 e0 e1 e2
      have d0 := hD2.cell 0 rfl
      have d1 := hD2.cell 1 rfl
      have d2 := hD2.cell 2 rfl
      have e0 := hD2.free 0
      have e1 := hD2.free 1
      have e2 := hD2.free 2
      simp only [List.getElem_toArray, List.getElem_cons_zero, List.getElem_cons_succ] at d0 d1 d2
      clear hk hD2
      go_upto_region 12 with (fail)
      obtain ⟨Y3, hY3⟩ : ∃ Y, Y = ((w3.setCell ⟨D, 0, none⟩ (.string (strOfNums VX))).setCell ⟨D, 1, none⟩ (.int .i64 VA)).setCell ⟨D, 2, none⟩ (.int .i64 0) := ⟨_, rfl⟩
      rw [← hY3] at HR HX HKp HD ⊢
      clear hY3 d0 d1 d2 e0 e1 e2
      have d0 := HD.out.cell 0 rfl
      have d1 := HD.out.cell 1 rfl
      have d2 := HD.out.cell 2 rfl
      have e0 := HD.out.free 0
      have e1 := HD.out.free 1
      have e2 := HD.out.free 2
      have x0 := HX.out.cell 0 rfl
      simp only [List.getElem_toArray, List.getElem_cons_zero, List.getElem_cons_succ] at d0 d1 d2 x0
      have q0 := HR.out.free 0
      have q1 := HR.out.free 1
      have q2 := HR.out.free 2
      have q3 := HR.out.free 3
      have o0 := HR.out.cell 0 rfl
      have o1 := HR.out.cell 1 rfl
      have o2 := HR.out.cell 2 rfl
      have o3 := HR.out.cell 3 rfl
      clear x0
      have x0 := HX.out.cell 0 rfl
      have x1 := HX.out.cell 1 rfl
      have x2 := HX.out.cell 2 rfl
      have x3 := HX.out.cell 3 rfl
      have y0 := HX.out.free 0
      have y1 := HX.out.free 1
      have y2 := HX.out.free 2
      have y3 := HX.out.free 3
      simp only [List.getElem_toArray, List.getElem_cons_zero, List.getElem_cons_succ] at o0 o1 o2 o3 x0 x1 x2 x3
      go_wp2_with fail
      exact bodyPost_ret (v := .tuple #[recV ⟨false, s, KT, VT⟩, .int .i64 0]) (by simp [results, Try.results41, go_sem, recV, o0, o1, o2, o3]) rfl ⟨rfl, Keeps.set4 (((HKp.out.setNew (by omega) 1 _).setNew (by omega) 2 _).setNew (by omega) 3 _) (Nat.le_refl _) _ _ _ _⟩
    · rw [if_neg hz]
      simp only
      have hzb : (z != 0) = true := by simpa using hz
      have hzc : decide (z = 0) = false := decide_eq_false hz
      go_enter Try.func41, Try.ntmps41
      go_wp2_with fail
      refine (HG.out _).mono ?_
      rintro e w1 ⟨rfl, hk⟩
      have hR1 : Whole w1 w.heap.size 35 #[.bool false, .int .u64 0, .string ⟨#[]⟩, .string ⟨#[]⟩] := ((Whole.new w _ _).alloc _).keep hk (fun h => h)
      have hX1 : Whole w1 (w.heap.size + 1) 35 #[.bool false, .int .u64 0, .string ⟨#[]⟩, .string ⟨#[]⟩] := (Whole.newAt _ _ _ _ (by simp)).keep hk (fun h => h)
      have hK1 : Keeps NoBlock w w1 := (((Keeps.refl NoBlock w).alloc _).alloc _).trans hk
      obtain ⟨W, hW⟩ : ∃ W, W = w1.alloc (.cells #[.string (strOfNums Z), .int .i64 (gn : Int), .int .i64 ge] 79) := ⟨_, rfl⟩
      have hRW : Whole W w.heap.size 35 #[.bool false, .int .u64 0, .string ⟨#[]⟩, .string ⟨#[]⟩] := by rw [hW]; exact hR1.alloc _
      have hXW : Whole W (w.heap.size + 1) 35 #[.bool false, .int .u64 0, .string ⟨#[]⟩, .string ⟨#[]⟩] := by rw [hW]; exact hX1.alloc _
      have hDW : Whole W w1.heap.size 79 #[.string (strOfNums Z), .int .i64 (gn : Int), .int .i64 ge] := by rw [hW]; exact Whole.new _ _ _
      have hKW : Keeps NoBlock w W := by rw [hW]; exact hK1.alloc _
      have hlt1 := hX1.lt
      obtain ⟨D, hD⟩ : ∃ D, D = w1.heap.size := ⟨_, rfl⟩
      rw [← hD] at hDW hlt1
      have HR := Lib.hid hRW
      have HX := Lib.hid hXW
      have HD := Lib.hid hDW
      have HKp := Lib.hid hKW
      have d0 := hDW.cell 0 rfl
      have d1 := hDW.cell 1 rfl
      have d2 := hDW.cell 2 rfl
      have e0 := hDW.free 0
      have e1 := hDW.free 1
      have e2 := hDW.free 2
      simp only [List.getElem_toArray, List.getElem_cons_zero, List.getElem_cons_succ] at d0 d1 d2
      clear hk hR1 hX1 hK1 hRW hXW hDW hKW
      go_upto_region 7 with (fail)
      rw [← hW, ← hD]
      clear hW hD
      go_wp2_with fail
      refine (HK.out _).mono ?_
      rintro e w2 ⟨rfl, hk⟩
      have HR := Lib.hid ((HR.out.keep hk (fun h => h)).other3 (h := D) (by omega) (.string (strOfNums KX)) (.int .i64 KA) (.int .i64 KE))
      have HX := Lib.hid ((HX.out.keep hk (fun h => h)).other3 (h := D) (by omega) (.string (strOfNums KX)) (.int .i64 KA) (.int .i64 KE))
      have HKp := Lib.hid ((HKp.out.trans hk).set3 (g := D) (by omega) (.string (strOfNums KX)) (.int .i64 KA) (.int .i64 KE))
      have hD2 := HD.out.keep hk (fun h => h)
      have HD := Lib.hid (hD2.set3 (.string (strOfNums KX)) (.int .i64 KA) (.int .i64 KE))
      clear d0 d1 d2 e0 e1 e2
      have d0 := hD2.cell 0 rfl
      have d1 := hD2.cell 1 rfl
      have d2 := hD2.cell 2 rfl
      have e0 := hD2.free 0
      have e1 := hD2.free 1
      have e2 := hD2.free 2
      simp only [List.getElem_toArray, List.getElem_cons_zero, List.getElem_cons_succ] at d0 d1 d2
      clear hk hD2
      go_upto_region 8 with (fail)
      obtain ⟨Y2, hY2⟩ : ∃ Y, Y = ((w2.setCell ⟨D, 0, none⟩ (.string (strOfNums KX))).setCell ⟨D, 1, none⟩ (.int .i64 KA)).setCell ⟨D, 2, none⟩ (.int .i64 KE) := ⟨_, rfl⟩
      rw [← hY2] at HR HX HKp HD ⊢
      clear hY2 d0 d1 d2 e0 e1 e2
      have d0 := HD.out.cell 0 rfl
      have d1 := HD.out.cell 1 rfl
      have d2 := HD.out.cell 2 rfl
      have e0 := HD.out.free 0
      have e1 := HD.out.free 1
      have e2 := HD.out.free 2
      have x0 := HX.out.cell 0 rfl
      simp only [List.getElem_toArray, List.getElem_cons_zero, List.getElem_cons_succ] at d0 d1 d2 x0
      go_wp2_with fail
      clear x0
      refine (HV.out _).mono ?_
      rintro e w4 ⟨rfl, hk⟩
      have HR := Lib.hid ((HR.out.keep hk (fun h => h)).other3 (h := D) (by omega) (.string (strOfNums VX)) (.int .i64 VA) (.int .i64 VE))
      have HX := Lib.hid ((HX.out.keep hk (fun h => h)).other3 (h := D) (by omega) (.string (strOfNums VX)) (.int .i64 VA) (.int .i64 VE))
      have HKp := Lib.hid ((HKp.out.trans hk).set3 (g := D) (by omega) (.string (strOfNums VX)) (.int .i64 VA) (.int .i64 VE))
      have hD2 := HD.out.keep hk (fun h => h)
      have HD := Lib.hid (hD2.set3 (.string (strOfNums VX)) (.int .i64 VA) (.int .i64 VE))
      clear d0 d1 d2 e0 e1 e2
      have d0 := hD2.cell 0 rfl
      have d1 := hD2.cell 1 rfl
      have d2 := hD2.cell 2 rfl
      have e0 := hD2.free 0
      have e1 := hD2.free 1
      have e2 := hD2.free 2
      simp only [List.getElem_toArray, List.getElem_cons_zero, List.getElem_cons_succ] at d0 d1 d2
      clear hk hD2
      go_upto_region 11 with (fail)
      obtain ⟨Y4, hY4⟩ : ∃ Y, Y = ((w4.setCell ⟨D, 0, none⟩ (.string (strOfNums VX))).setCell ⟨D, 1, none⟩ (.int .i64 VA)).setCell ⟨D, 2, none⟩ (.int .i64 VE) := ⟨_, rfl⟩
      rw [← hY4] at HR HX HKp HD ⊢
      clear hY4 d0 d1 d2 e0 e1 e2
      have d0 := HD.out.cell 0 rfl
      have d1 := HD.out.cell 1 rfl
      have d2 := HD.out.cell 2 rfl
      have e0 := HD.out.free 0
      have e1 := HD.out.free 1
      have e2 := HD.out.free 2
      have x0 := HX.out.cell 0 rfl
      simp only [List.getElem_toArray, List.getElem_cons_zero, List.getElem_cons_succ] at d0 d1 d2 x0
      go_wp2_with fail
      refine (HE.out _).mono ?_
      rintro e w3 ⟨rfl, hk⟩
      have HR := Lib.hid ((HR.out.keep hk (fun h => h)).other3 (h := D) (by omega) (.string (strOfNums VX)) (.int .i64 VA) (.int .i64 z))
      have HX := Lib.hid ((HX.out.keep hk (fun h => h)).other3 (h := D) (by omega) (.string (strOfNums VX)) (.int .i64 VA) (.int .i64 z))
      have HKp := Lib.hid ((HKp.out.trans hk).set3 (g := D) (by omega) (.string (strOfNums VX)) (.int .i64 VA) (.int .i64 z))
      have hD2 := HD.out.keep hk (fun h => h)
      have HD := Lib.hid (hD2.set3 (.string (strOfNums VX)) (.int .i64 VA) (.int .i64 z))
      clear d0 d1 d2 e0 e1 e2
      have d0 := hD2.cell 0 rfl
      have d1 := hD2.cell 1 rfl
      have d2 := hD2.cell 2 rfl
      have e0 := hD2.free 0
      have e1 := hD2.free 1
      have e2 := hD2.free 2
      simp only [List.getElem_toArray, List.getElem_cons_zero, List.getElem_cons_succ] at d0 d1 d2
      clear hk hD2
      go_upto_region 12 with (fail)
      obtain ⟨Y3, hY3⟩ : ∃ Y, Y = ((w3.setCell ⟨D, 0, none⟩ (.string (strOfNums VX))).setCell ⟨D, 1, none⟩ (.int .i64 VA)).setCell ⟨D, 2, none⟩ (.int .i64 z) := ⟨_, rfl⟩
      rw [← hY3] at HR HX HKp HD ⊢
      clear hY3 d0 d1 d2 e0 e1 e2
      have d0 := HD.out.cell 0 rfl
      have d1 := HD.out.cell 1 rfl
      have d2 := HD.out.cell 2 rfl
      have e0 := HD.out.free 0
      have e1 := HD.out.free 1
      have e2 := HD.out.free 2
      have x0 := HX.out.cell 0 rfl
      simp only [List.getElem_toArray, List.getElem_cons_zero, List.getElem_cons_succ] at d0 d1 d2 x0
      have q0 := HR.out.free 0
      have q1 := HR.out.free 1
      have q2 := HR.out.free 2
      have q3 := HR.out.free 3
      have o0 := HR.out.cell 0 rfl
      have o1 := HR.out.cell 1 rfl
      have o2 := HR.out.cell 2 rfl
      have o3 := HR.out.cell 3 rfl
      clear x0
      have x0 := HX.out.cell 0 rfl
      have x1 := HX.out.cell 1 rfl
      have x2 := HX.out.cell 2 rfl
      have x3 := HX.out.cell 3 rfl
      have y0 := HX.out.free 0
      have y1 := HX.out.free 1
      have y2 := HX.out.free 2
      have y3 := HX.out.free 3
      simp only [List.getElem_toArray, List.getElem_cons_zero, List.getElem_cons_succ] at o0 o1 o2 o3 x0 x1 x2 x3
      go_wp2_with fail
      have s0 : Y3.drew.cell? ⟨D, 2, none⟩ = some (.int .i64 z) := d2
      go_region
      go_wp2_with fail
      exact bodyPost_ret (v := .tuple #[recV Rec.none, .int .i64 z]) (by simp [results, Try.results41, go_sem, recV, Rec.none, o0, o1, o2, o3]; rfl) rfl ⟨rfl, (HKp.out.set4 (Nat.le_refl _) _ _ _ _).drew⟩

set_option maxHeartbeats 2000000 in
set_option maxRecDepth 10000 in
theorem read7_ref (xs : List Int) (ho : Octets xs) (hl : xs.length ≤ 10000000) (w : World) :
    Calls Try.prog 41 #[.string (strOfNums xs)] w fun e w' => e = .returned (readOut7 (readR xs)) ∧ Keeps NoBlock w w' := by
  cases xs with
  | nil =>
    have hem : (strOfNums []).toList.isEmpty = true := str_isnone []
    have hr : readR [] = (2, Rec.none) := rfl
    rw [hr]
    go_enter Try.func41, Try.ntmps41
    go_wp2_with fail
    exact bodyPost_ret (v := .tuple #[recV Rec.none, .int .i64 2]) (by simp [results, Try.results41, go_sem, recV, Rec.none]; rfl) rfl ⟨rfl, (Keeps.refl _ _).alloc _⟩
  | cons k xs =>
    have hox : Octets xs := fun b hb => ho b (List.mem_cons_of_mem _ hb)
    have hlx : xs.length ≤ 10000000 := by rw [List.length_cons] at hl; omega
    rw [show readR (k :: xs) = readKind k xs from rfl]
    by_cases h3 : k = 3
    · rw [h3, show (3 : Int) = if true = true then 3 else 2 from rfl, ← steps7_read]
      exact read7_kind true 3 rfl xs hox hlx w
    · by_cases h2 : k = 2
      · rw [h2, show (2 : Int) = if false = true then 3 else 2 from rfl, ← steps7_read]
        exact read7_kind false 2 rfl xs hox hlx w
      · have hr : readKind k xs = (4, Rec.none) := by unfold readKind; rw [if_pos ⟨h2, h3⟩]
        rw [hr]
        have hsz : (strOfNums (k :: xs)).size = xs.length + 1 := str_size (k :: xs)
        have hpos : 0 < (strOfNums (k :: xs)).size := by rw [hsz]; omega
        have hsg := str_get (k :: xs) ho 0 hpos
        rw [show (k :: xs).getD 0 0 = k from rfl] at hsg
        have hem : (strOfNums (k :: xs)).toList.isEmpty = false := str_isnone _
        have b2 : (k != 2) = true := by simpa using h2
        have b3 : (k != 3) = true := by simpa using h3
        clear hr ho hl hox hlx
        go_enter Try.func41, Try.ntmps41
        go_wp2_with fail
        exact bodyPost_ret (v := .tuple #[recV Rec.none, .int .i64 4]) (by simp [results, Try.results41, go_sem, recV, Rec.none]; rfl) rfl ⟨rfl, (Keeps.refl _ _).alloc _⟩
end Go.Proofs.Ytjjeaaiajgbncaa

namespace Go.Proofs.Ytjjeaaiajgbncaa
open Go.RowKit

theorem u64_zero : U64 0 := by constructor <;> decide

set_option maxHeartbeats 800000 in
set_option maxRecDepth 10000 in
theorem seal9_ref (xs : List Int) (ho : Octets xs) (hl : xs.length ≤ 10000000) (w : World) :
    Calls Try.prog 10 #[.string (strOfNums xs)] w fun e w' => e = .returned (.string (strOfNums (sealN xs))) ∧ Keeps NoBlock w w' := by
  have HS := Lib.hid (fun w => wsum_ref 0 xs u64_zero ho (by omega) w)
  have hu := wxxh_u64 0 xs
  have HN := Lib.hid (fun w => num_any (wxxh 0 xs) 8 8 rfl (by decide) hu.1 hu.2 w)
  have hol : (xs ++ sumB xs).length ≤ 140737488355328 := by rw [List.length_append, sumB_length]; omega
  have HT := Lib.hid (fun w => stuff_ref (xs ++ sumB xs) (ho.app (sumB_octets xs)) hol w)
  have a1 := str_append xs (sumB xs)
  have z1 := str_size xs
  have z2 := str_size (sumB xs)
  rw [sumB_length] at z2
  have a2 : strOfNums (chunkN xs) ++ (⟨#[0]⟩ : ByteArray) = strOfNums (sealN xs) := str_append (chunkN xs) [0]
  have z3 := str_size (chunkN xs)
  have hmost := (seal_length xs).2
  have hlen := (seal_length xs).1
  have z4 : (⟨#[0]⟩ : ByteArray).size = 1 := rfl
  have hcl : (chunkN xs).length ≤ 100000000 := by
    unfold sizeN mostOf at hmost
    rw [if_neg (by omega)] at hmost
    omega
  rw [show stuff (xs ++ sumB xs) = chunkN xs from rfl] at HT
  rw [show digits (wxxh 0 xs) 8 = sumB xs from rfl] at HN
  obtain ⟨x, hx⟩ : ∃ x, x = wxxh 0 xs := ⟨_, rfl⟩
  rw [← hx] at HS HN
  obtain ⟨B, hB⟩ : ∃ B, B = sumB xs := ⟨_, rfl⟩
  rw [← hB] at HN HT a1 z2
  obtain ⟨C, hC⟩ : ∃ C, C = chunkN xs := ⟨_, rfl⟩
  rw [← hC] at HT a2 z3 hcl
  obtain ⟨F, hF⟩ : ∃ F, F = sealN xs := ⟨_, rfl⟩
  rw [← hF] at a2 ⊢
  obtain ⟨L, hL⟩ : ∃ L, L = xs.length := ⟨_, rfl⟩
  rw [← hL] at z1 hl
  obtain ⟨M, hM⟩ : ∃ M, M = C.length := ⟨_, rfl⟩
  rw [← hM] at z3 hcl
  have r1 : ¬ 9223372036854775807 < L + 8 := by omega
  have r2 : ¬ 9223372036854775807 < M + 1 := by omega
  clear hx hB hC hF hL hM hu hol hmost hlen ho
  go_enter Try.func10, Try.ntmps10
  go_wp2_with fail
  refine (HS.out _).mono ?_
  rintro e w1 ⟨rfl, hk⟩
  have HK := Lib.hid hk
  clear hk
  go_wp2_with fail
  refine (HN.out _).mono ?_
  rintro e w2 ⟨rfl, hk⟩
  have HK := Lib.hid (HK.out.trans hk)
  clear hk
  go_wp2_with fail
  refine (HT.out _).mono ?_
  rintro e w3 ⟨rfl, hk⟩
  have HK := Lib.hid (HK.out.trans hk)
  clear hk
  go_wp2_with fail
  go_ret
  exact ⟨rfl, HK.out⟩

def openOut (t : Int × List Int) : Value := .tuple #[.string (strOfNums t.2), .int .i64 t.1]

set_option maxHeartbeats 1600000 in
set_option maxRecDepth 10000 in
theorem open9_ref (ys : List Int) (ho : Octets ys) (hl : ys.length ≤ 10000000) (w : World) :
    Calls Try.prog 13 #[.string (strOfNums ys)] w fun e w' => e = .returned (openOut (openN ys)) ∧ Keeps NoBlock w w' := by
  have HU := Lib.hid (fun w => unstuff_ref ys ho (by omega) w)
  have hu := unst_octets ho
  unfold openN
  obtain ⟨y, hy⟩ : ∃ y, y = (unst ys).1 := ⟨_, rfl⟩
  obtain ⟨T, hT⟩ : ∃ T, T = (unst ys).2 := ⟨_, rfl⟩
  rw [← hy] at HU ⊢
  rw [← hT] at HU hu ⊢
  obtain ⟨hto, htl⟩ := hu
  have hsz := str_size T
  by_cases h0 : y = 0
  · subst h0
    clear hy
    rw [if_neg (by simp)]
    unfold openEnd
    obtain ⟨L, hL⟩ : ∃ L, L = T.length := ⟨_, rfl⟩
    rw [← hL] at hsz htl ⊢
    by_cases h8 : L < 8
    · rw [if_pos h8]
      have hd : decide ((L : Int) - 8 < 0) = true := decide_eq_true (by omega)
      unfold openOut
      clear hT hL hto htl ho hl
      go_enter Try.func13, Try.ntmps13
      go_wp2_with fail
      refine (HU.out _).mono ?_
      rintro e w1 ⟨rfl, hk⟩
      have HK := Lib.hid hk
      clear hk
      go_wp2_with fail
      go_ret2
      exact ⟨rfl, HK.out⟩
    · rw [if_neg h8]
      obtain ⟨m, hm⟩ : ∃ m, m = L - 8 := ⟨_, rfl⟩
      rw [← hm]
      have hd : decide ((m : Int) < 0) = false := decide_eq_false (by omega)
      have hi : (L : Int) - 8 = (m : Int) := by omega
      have e1 : (strOfNums T).extract m L = strOfNums (T.drop m) := by
        have := str_drop T m
        rw [hsz] at this
        exact this
      have e2 := str_take T m
      have hmL : m ≤ L := by omega
      have hmb : m ≤ 10000000 := by omega
      have HV := Lib.hid (fun w => value_ref (T.drop m) (hto.drop m) (by rw [List.length_drop]; omega) w)
      have HS := Lib.hid (fun w => wsum_ref 0 (T.take m) u64_zero (hto.take m) (by rw [List.length_take]; omega) w)
      by_cases hv : le (T.drop m) = wxxh 0 (T.take m)
      · rw [if_pos hv]
        have hne : (le (T.drop m) != wxxh 0 (T.take m)) = false := by rw [hv]; simp
        obtain ⟨a, ha⟩ : ∃ a, a = le (T.drop m) := ⟨_, rfl⟩
        obtain ⟨b, hb⟩ : ∃ b, b = wxxh 0 (T.take m) := ⟨_, rfl⟩
        rw [← ha] at HV hne
        rw [← hb] at HS hne
        unfold openOut
        clear hT hL hto htl ho hl ha hb hv hm h8
        go_enter Try.func13, Try.ntmps13
        go_wp2_with fail
        refine (HU.out _).mono ?_
        rintro e w1 ⟨rfl, hk⟩
        have HK := Lib.hid hk
        clear hk
        go_wp2_with fail
        go_region_with (first
          | (go_at_call 37; refine (HV.out _).mono ?_; rintro e w2 ⟨rfl, rfl⟩)
          | (go_at_call 32; refine (HS.out _).mono ?_; rintro e w2 ⟨rfl, hk⟩; have HK2 := Lib.hid ((HK.out.drewN _).trans hk); clear hk))
        all_goals
          go_wp2_with fail
          go_ret2
          first
            | exact ⟨rfl, HK2.out⟩
            | exact ⟨rfl, HK2.out.drewN _⟩
      · rw [if_neg hv]
        have hne : (le (T.drop m) != wxxh 0 (T.take m)) = true := by rw [bne_iff_ne]; exact hv
        obtain ⟨a, ha⟩ : ∃ a, a = le (T.drop m) := ⟨_, rfl⟩
        obtain ⟨b, hb⟩ : ∃ b, b = wxxh 0 (T.take m) := ⟨_, rfl⟩
        rw [← ha] at HV hne
        rw [← hb] at HS hne
        unfold openOut
        clear hT hL hto htl ho hl ha hb hv hm h8
        go_enter Try.func13, Try.ntmps13
        go_wp2_with fail
        refine (HU.out _).mono ?_
        rintro e w1 ⟨rfl, hk⟩
        have HK := Lib.hid hk
        clear hk
        go_wp2_with fail
        go_region_with (first
          | (go_at_call 37; refine (HV.out _).mono ?_; rintro e w2 ⟨rfl, rfl⟩)
          | (go_at_call 32; refine (HS.out _).mono ?_; rintro e w2 ⟨rfl, hk⟩; have HK2 := Lib.hid ((HK.out.drewN _).trans hk); clear hk))
        all_goals
          go_wp2_with fail
          go_ret2
          first
            | exact ⟨rfl, HK2.out⟩
            | exact ⟨rfl, HK2.out.drewN _⟩
  · rw [if_pos h0]
    have hne : (y != 0) = true := by rw [bne_iff_ne]; exact h0
    unfold openOut
    clear hT hto htl ho hl hy h0
    go_enter Try.func13, Try.ntmps13
    go_wp2_with fail
    refine (HU.out _).mono ?_
    rintro e w1 ⟨rfl, hk⟩
    have HK := Lib.hid hk
    clear hk
    go_wp2_with fail
    go_ret2
    exact ⟨rfl, HK.out⟩
end Go.Proofs.Ytjjeaaiajgbncaa

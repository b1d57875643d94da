/-
  ElOwn; ElRead; ElGetOwn; ElGaOwn; BufV; ElPut; ElAll.
-/
import Derived.Test.YtdkpkpmgiglnhaaElLaws
import Derived.Test.YtdkpkpmgiglnhaaBufK
import Derived.Test.YtdkpkpmgiglnhaaBufO
import Derived.Test.YtdkpkpmgiglnhaaStrBytes
import Derived.Test.YtdkpkpmgiglnhaaThinAll
import Derived.Test.YtdkpkpmgiglnhaaCurF
import Derived.Test.YtdkpkpmgiglnhaaSwap
import Derived.Test.YtdkpkpmgiglnhaaCurE
import Derived.Test.YtdkpkpmgiglnhaaFrNum
import Derived.Test.YtdkpkpmgiglnhaaGrow
namespace Go.Proofs.Ytdkpkpmgiglnhaa
open Go.RowKit

def checkKV (k v : Nat) : Int := if k = 0 then 4 else if 4096 < k ∨ 1048576 < v then 3 else 0

set_option maxRecDepth 10000 in
theorem kv_own (k v : Nat) (w : World) : Calls Try.prog 24 #[.int .u64 (k : Int), .int .u64 (v : Int)] w fun e w' => e = .returned (.int .i64 (checkKV k v)) ∧ w' = w := by
  unfold checkKV
  by_cases c1 : k = 0
  · subst c1
    rw [if_pos rfl]
    go_enter Try.func24, Try.ntmps24
    go_wp2_with fail
    go_ret
    exact ⟨rfl, rfl⟩
  · rw [if_neg c1]
    have d1 : decide ((k : Int) < 1) = false := decide_eq_false (by omega)
    by_cases c2 : 4096 < k
    · rw [if_pos (.inl c2)]
      have d2 : decide ((4096 : Int) < (k : Int)) = true := decide_eq_true (by omega)
      go_enter Try.func24, Try.ntmps24
      go_wp2_with fail
      go_ret
      exact ⟨rfl, rfl⟩
    · have d2 : decide ((4096 : Int) < (k : Int)) = false := decide_eq_false (by omega)
      by_cases c3 : 1048576 < v
      · rw [if_pos (.inr c3)]
        have d3 : decide ((1048576 : Int) < (v : Int)) = true := decide_eq_true (by omega)
        go_enter Try.func24, Try.ntmps24
        go_wp2_with fail
        go_ret
        exact ⟨rfl, rfl⟩
      · rw [if_neg (by omega)]
        have d3 : decide ((1048576 : Int) < (v : Int)) = false := decide_eq_false (by omega)
        go_enter Try.func24, Try.ntmps24
        go_wp2_with fail
        go_ret
        exact ⟨rfl, rfl⟩

set_option maxHeartbeats 800000 in
set_option maxRecDepth 10000 in
theorem elcheck_own (p : Pr) (h1 : p.key.length ≤ 140737488355328) (h2 : p.val.length ≤ 140737488355328) (w : World) :
    Calls Try.prog 14 #[prV p] w fun e w' => e = .returned (.int .i64 (checkP p)) ∧ Keeps NoBlock w w' := by
  obtain ⟨key, val⟩ := p
  simp only at h1 h2
  have hk := str_size key
  have hv := str_size val
  have hdef : checkP ⟨key, val⟩ = checkKV key.length val.length := rfl
  rw [hdef]
  unfold prV
  simp only
  clear hdef
  obtain ⟨K, hK⟩ : ∃ K, K = key.length := ⟨_, rfl⟩
  obtain ⟨V, hV⟩ : ∃ V, V = val.length := ⟨_, rfl⟩
  rw [← hK] at h1 hk ⊢
  rw [← hV] at h2 hv ⊢
  have HC := Lib.hid (fun w => kv_own K V w)
  have w1 : IntKind.u64.wrap (K : Int) = K := by rw [IntKind.wrap_u64]; omega
  have w2 : IntKind.u64.wrap (V : Int) = V := by rw [IntKind.wrap_u64]; omega
  clear hK hV
  go_enter Try.func14, Try.ntmps14
  go_wp2_with fail
  (first | rw [w1] | skip); (first | rw [w2] | skip)
  refine (HC.out _).mono ?_
  rintro e w3 ⟨rfl, rfl⟩
  go_wp2_with fail
  go_ret
  exact ⟨rfl, (Keeps.refl _ _).alloc _⟩

/-- What a reading of a pair comes to: why it stops, where, the pair. -/
structure PR where
  y : Int
  a : Nat
  p : Pr
def prSum (k v : Nat) (xs : List Int) : PR :=
  if xs.length < 8 + k + v + 4 then ⟨2, 8 + k + v, Pr.none⟩
  else if xxh 0 (xs.take (8 + k + v)) = le ((xs.drop (8 + k + v)).take 4) then ⟨0, 8 + k + v + 4, pairAt k v xs⟩
  else ⟨5, 8 + k + v + 4, Pr.none⟩
def prVal (k v : Nat) (xs : List Int) : PR := if xs.length < 8 + k + v then ⟨2, 8 + k, Pr.none⟩ else prSum k v xs
def prKey (k v : Nat) (xs : List Int) : PR := if xs.length < 8 + k then ⟨2, 8, Pr.none⟩ else prVal k v xs
def prHead (k v : Nat) (xs : List Int) : PR := if checkKV k v ≠ 0 then ⟨checkKV k v, 8, Pr.none⟩ else prKey k v xs
def prRead (xs : List Int) : PR :=
  if xs.length < 4 then ⟨2, 0, Pr.none⟩
  else if xs.length < 8 then ⟨2, 4, Pr.none⟩
  else prHead (le (xs.take 4)).toNat (le ((xs.drop 4).take 4)).toNat xs
def prGot (t : PR) : PG := if t.y = 0 then ⟨0, t.a, t.p⟩ else ⟨t.y, 0, Pr.none⟩

theorem xxh_u32E (xs : List Int) : U32 (xxh 0 xs) := tend_bound _
theorem four_back {xs : List Int} (ho : Octets xs) (h : xs.length = 4) : digits (((le xs).toNat : Nat) : Int) 4 = xs := by
  have hb := le_bound xs ho
  rw [h] at hb
  have e : (2 : Int) ^ (8 * 4) = 4294967296 := rfl
  refine le_inj _ _ (digits_octets _ 4) ho (by rw [digits_length, h]) ?_
  rw [le_four (by omega)]
  omega
theorem head_at {k v : Nat} {xs : List Int} (ho : Octets xs) (hk : k = (le (xs.take 4)).toNat) (hv : v = (le ((xs.drop 4).take 4)).toNat) (hl : 8 + k + v ≤ xs.length) : headP (pairAt k v xs) = xs.take (8 + k + v) := by
  have e1 : ((xs.drop 8).take k).length = k := by rw [List.length_take, List.length_drop]; omega
  have e2 : ((xs.drop (8 + k)).take v).length = v := by rw [List.length_take, List.length_drop]; omega
  unfold headP pairAt
  simp only [e1, e2]
  rw [hk, four_back (ho.take 4) (by rw [List.length_take]; omega), hv, four_back ((ho.drop 4).take 4) (by rw [List.length_take, List.length_drop]; omega), ← hk, ← hv]
  rw [← List.take_add, show (4 + 4 : Nat) = 8 from rfl, ← List.take_add, ← List.take_add]
theorem prSum_out {k v : Nat} {xs : List Int} (ho : Octets xs) (hk : k = (le (xs.take 4)).toNat) (hv : v = (le ((xs.drop 4).take 4)).toNat) :
    (if xs.length < 8 + k + v + 4 then ⟨2, 0, Pr.none⟩ else if textP (pairAt k v xs) ≠ xs.take (8 + k + v + 4) then ⟨5, 0, Pr.none⟩ else ⟨0, 8 + k + v + 4, pairAt k v xs⟩ : PG) = prGot (prSum k v xs) := by
  unfold prSum
  by_cases c3 : xs.length < 8 + k + v + 4
  · rw [if_pos c3, if_pos c3]
    rfl
  · rw [if_neg c3, if_neg c3]
    have hh := head_at ho hk hv (by omega)
    have e : xs.take (8 + k + v + 4) = xs.take (8 + k + v) ++ (xs.drop (8 + k + v)).take 4 := by rw [← List.take_add]
    have ht : textP (pairAt k v xs) = xs.take (8 + k + v) ++ digits (xxh 0 (xs.take (8 + k + v))) 4 := by unfold textP; rw [hh]
    obtain ⟨u1, u2⟩ := xxh_u32E (xs.take (8 + k + v))
    obtain ⟨z, hz⟩ : ∃ z : Nat, xxh 0 (xs.take (8 + k + v)) = (z : Int) := ⟨(xxh 0 (xs.take (8 + k + v))).toNat, by omega⟩
    have hl4 : ((xs.drop (8 + k + v)).take 4).length = 4 := by rw [List.length_take, List.length_drop]; omega
    by_cases c4 : xxh 0 (xs.take (8 + k + v)) = le ((xs.drop (8 + k + v)).take 4)
    · rw [if_pos c4, if_neg ?_]
      · rfl
      · rw [ht, e, hz]
        rw [hz] at c4
        have := four_back ((ho.drop (8 + k + v)).take 4) hl4
        rw [← c4, Int.toNat_natCast] at this
        rw [this]
        simp
    · rw [if_neg c4, if_pos ?_]
      · rfl
      · rw [ht, e]
        intro h
        have h2 := List.append_cancel_left h
        refine c4 ?_
        rw [← h2, hz, le_four (by omega)]
theorem prRead_out {xs : List Int} (ho : Octets xs) : getP xs = prGot (prRead xs) := by
  unfold getP prRead
  by_cases h8 : xs.length < 8
  · rw [if_pos h8, if_pos h8]
    split <;> rfl
  · rw [if_neg h8, if_neg h8, if_neg (by omega)]
    obtain ⟨k, hk⟩ : ∃ k, k = (le (xs.take 4)).toNat := ⟨_, rfl⟩
    obtain ⟨v, hv⟩ : ∃ v, v = (le ((xs.drop 4).take 4)).toNat := ⟨_, rfl⟩
    rw [← hk, ← hv]
    have hs := prSum_out ho hk hv
    unfold getPk prHead checkKV
    by_cases c1 : k = 0
    · rw [if_pos c1, if_pos c1]
      rfl
    · rw [if_neg c1, if_neg c1]
      by_cases c2 : 4096 < k ∨ 1048576 < v
      · rw [if_pos c2, if_pos c2]
        rfl
      · rw [if_neg c2, if_neg c2, hs, if_neg (by decide)]
        unfold prKey
        by_cases c5 : xs.length < 8 + k
        · rw [if_pos c5, prSum, if_pos (by omega)]
          rfl
        · rw [if_neg c5]
          unfold prVal
          by_cases c6 : xs.length < 8 + k + v
          · rw [if_pos c6, prSum, if_pos (by omega)]
            rfl
          · rw [if_neg c6]
end Go.Proofs.Ytdkpkpmgiglnhaa

namespace Go.Proofs.Ytdkpkpmgiglnhaa
open Go.RowKit

theorem at_at (k : Nat) (p : Option Addr) (N c a : Nat) (y : Int) (w : World) (h : CurB w k p N c a true y) :
    Calls Try.prog 41 #[.pointer (some ⟨k, 0, none⟩)] w fun e w' => e = .returned (.int .i64 (a : Int)) ∧ w' = w := by
  have h1 := Whole.cell h 1 rfl
  have h2 := Whole.cell h 2 rfl
  clear h
  go_enter Try.func41, Try.ntmps41
  go_wp2_with fail
  refine (within_at _ true _ h2).mono ?_
  rintro e w' ⟨rfl, rfl⟩
  go_wp2_with fail
  go_ret
  exact ⟨rfl, rfl⟩
theorem fail_ok (k : Nat) (p : Option Addr) (N c a : Nat) (y : Int) (w : World) (h : CurB w k p N c a true y) :
    Calls Try.prog 39 #[.pointer (some ⟨k, 0, none⟩), .int .i64 0] w fun e w' => e = .returned (.tuple #[]) ∧ w' = w := by
  have h2 := Whole.cell h 2 rfl
  clear h
  go_enter Try.func39, Try.ntmps39
  go_wp2_with fail
  refine (within_at _ true _ h2).mono ?_
  rintro e w' ⟨rfl, rfl⟩
  go_wp2_with fail
  go_returns
  exact ⟨rfl, rfl⟩

/-- How read ends: with the pair, or given up. -/
def ReadP (k : Nat) (p : Option Addr) (N c : Nat) (t : PR) (w : World) (e : Ending) (w' : World) : Prop :=
  Keeps (Just k) w w' ∧ CurB w' k p N c t.a true t.y ∧ ((t.y = 0 ∧ e = .returned (prV t.p)) ∨ (t.y ≠ 0 ∧ e = .panicked (given k)))
theorem ReadP.gave {k : Nat} {p : Option Addr} {N c : Nat} {U t : PR} {w w' : World} (hU : U = t) (hy : t.y ≠ 0) (hk : Keeps (Just k) w w') (hc : CurB w' k p N c t.a true t.y) : ReadP k p N c U w (.panicked (given k)) w' := by
  subst hU
  exact ⟨hk, hc, .inr ⟨hy, rfl⟩⟩
theorem ReadP.done {k : Nat} {p : Option Addr} {N c : Nat} {U t : PR} {w w' : World} (hU : U = t) (hy : t.y = 0) (hk : Keeps (Just k) w w') (hc : CurB w' k p N c t.a true t.y) : ReadP k p N c U w (.returned (prV t.p)) w' := by
  subst hU
  exact ⟨hk, hc, .inl ⟨hy, rfl⟩⟩

/-- Within the reading, at a. -/
structure AtE (w : World) (k : Nat) (p : Option Addr) (xs : List Int) (N c a : Nat) (W : World) : Prop where
  cur : CurB W k p N c a true 0
  by8 : Bytes8 W p xs
  kp : Keeps (Just k) w W
  res : Whole W w.heap.size 30 (prCells Pr.none)
  lt : k < w.heap.size
  far : 0 < xs.length → ∀ q, p = some q → q.block < w.heap.size ∧ q.block ≠ k
/-- Bytes in a block that isn't the cursor's. -/
def Txt (W : World) (k : Nat) (q : Option Addr) (ys : List Int) : Prop := Bytes8 W q ys ∧ ∀ a, q = some a → a.block ≠ k ∧ a.block < W.heap.size
/-- A pair in a block of its own. -/
def NewP (w : World) (D : Nat) (cs : Array Value) (W : World) : Prop := Whole W D 30 cs ∧ w.heap.size < D
section
variable {w W W' : World} {k : Nat} {p q : Option Addr} {xs ys : List Int} {N c a b D : Nat} {cs : Array Value}
theorem AtE.pos (h : AtE w k p xs N c a W) : w.heap.size < W.heap.size := h.res.lt
theorem AtE.call (h : AtE w k p xs N c a W) (hk : Keeps (Just k) W W') (hc : CurB W' k p N c b true 0) : AtE w k p xs N c b W' :=
  ⟨hc, h.by8.keepPos hk (fun h0 q hq => (h.far h0 q hq).2), h.kp.trans hk, h.res.keep hk (by have := h.lt; unfold Just; omega), h.lt, h.far⟩
theorem AtE.quiet (h : AtE w k p xs N c a W) (hk : Keeps NoBlock W W') : AtE w k p xs N c a W' :=
  h.call (hk.wider (fun _ _ h => h.elim)) (Whole.keep h.cur hk (fun h => h))
theorem AtE.alloc (h : AtE w k p xs N c a W) (o : Obj) : AtE w k p xs N c a (W.alloc o) := h.quiet ((Keeps.refl _ _).alloc o)
theorem AtE.fill (h : AtE w k p xs N c a W) (hD : w.heap.size < D) {u v : Value} : AtE w k p xs N c a ((W.setCell ⟨D, 0, none⟩ u).setCell ⟨D, 1, none⟩ v) :=
  ⟨Whole.setOther (Whole.setOther h.cur (by have := h.lt; simp; omega) _) (by have := h.lt; simp; omega) _,
   (h.by8.keepPos ((Keeps.refl (Just D) W).setIn (Just.self D) 0 u) (fun h0 q hq => by have := (h.far h0 q hq).1; unfold Just; omega)).keepPos ((Keeps.refl (Just D) _).setIn (Just.self D) 1 v) (fun h0 q hq => by have := (h.far h0 q hq).1; unfold Just; omega),
   (h.kp.setNew (Nat.le_of_lt hD) 0 u).setNew (Nat.le_of_lt hD) 1 v, (h.res.setOther (by simp; omega) _).setOther (by simp; omega) _, h.lt, h.far⟩
theorem AtE.fill2 (h : AtE w k p xs N c a W) {u v : Value} : CurB ((W.setCell ⟨w.heap.size, 0, none⟩ u).setCell ⟨w.heap.size, 1, none⟩ v) k p N c a true 0 ∧ Keeps (Just k) w ((W.setCell ⟨w.heap.size, 0, none⟩ u).setCell ⟨w.heap.size, 1, none⟩ v) :=
  ⟨Whole.setOther (Whole.setOther h.cur (by have := h.lt; simp; omega) _) (by have := h.lt; simp; omega) _, (h.kp.setNew (Nat.le_refl _) 0 u).setNew (Nat.le_refl _) 1 v⟩
theorem Txt.keep (h : Txt W k q ys) (hk : Keeps (Just k) W W') : Txt W' k q ys := ⟨h.1.keep hk (fun a ha hj => (h.2 a ha).1 hj), fun a ha => ⟨(h.2 a ha).1, Nat.lt_of_lt_of_le (h.2 a ha).2 hk.size⟩⟩
theorem Txt.put (h : Txt W k q ys) (hD : ∀ a, q = some a → a.block ≠ D) (i : Nat) (v : Value) : Txt (W.setCell ⟨D, i, none⟩ v) k q ys :=
  ⟨h.1.keep ((Keeps.refl (Just D) W).setIn (Just.self D) i v) hD, fun a ha => ⟨(h.2 a ha).1, Nat.lt_of_lt_of_le (h.2 a ha).2 ((Keeps.refl (Just D) W).setIn (Just.self D) i v).size⟩⟩
theorem Txt.alloc (h : Txt W k q ys) (o : Obj) : Txt (W.alloc o) k q ys := h.keep ((Keeps.refl _ _).alloc o)
theorem NewP.keep (h : NewP w D cs W) (hk : Keeps (Just k) W W') (hl : k < w.heap.size) : NewP w D cs W' := ⟨h.1.keep hk (by have := h.2; unfold Just; omega), h.2⟩
theorem NewP.fill {r s : Pr} (h : NewP w D (prCells r) W) : NewP w D (prCells s) ((W.setCell ⟨D, 0, none⟩ (.string (strOfNums s.key))).setCell ⟨D, 1, none⟩ (.string (strOfNums s.val))) :=
  ⟨(h.1.set 0 _).set 1 _, h.2⟩
end

theorem kv_small {k v : Nat} (h : checkKV k v = 0) : 1 ≤ k ∧ k ≤ 4096 ∧ v ≤ 1048576 := by
  unfold checkKV at h
  split at h
  · exact absurd h (by decide)
  · split at h
    · exact absurd h (by decide)
    · omega

set_option maxHeartbeats 16000000 in
set_option maxRecDepth 10000 in
theorem elread_own (k : Nat) (p : Option Addr) (xs : List Int) (N c : Nat) (w : World) (h : CurB w k p N c 0 true 0) (hin : In8 w p N c xs) (hN : N ≤ 500000) (hp : 0 < xs.length → ∀ q, p = some q → q.block ≠ k) :
    Calls Try.prog 27 #[.pointer (some ⟨k, 0, none⟩), .slice p N c] w (ReadP k p N c (prRead xs) w) := by
  obtain ⟨hx, hcap, hroom, hbare, ho, hb⟩ := hin
  have hfar : 0 < xs.length → ∀ q, p = some q → q.block < w.heap.size ∧ q.block ≠ k := fun h0 q hq => by
    refine ⟨?_, hp h0 q hq⟩
    obtain ⟨a, ha, hcell⟩ := hb h0
    obtain rfl := Option.some.inj (hq.symm.trans ha)
    have := ltOfCell (hcell 0 h0)
    rwa [addBlock] at this
  obtain ⟨U, hU⟩ : ∃ U, U = prRead xs := ⟨_, rfl⟩
  rw [← hU]
  have HA : Hid (AtE w k p xs N c 0 (w.alloc (.cells (prCells Pr.none) 30))) := Lib.hid ⟨Whole.alloc h _, hb.keep ((Keeps.refl NoBlock w).alloc _) (fun _ _ h => h), (Keeps.refl _ _).alloc _, Whole.new _ _ _, Whole.lt h, hfar⟩
  have HF := Lib.hid (fun a W (h : CurB W k p N c a true 0) (h8 : Bytes8 W p xs) (ha : a + 4 ≤ N) => four_at k p xs N c a W hx h h8 ho hp ha hcap hroom)
  have HG := Lib.hid (fun a W (h : CurB W k p N c a true 0) (ha : a ≤ N) (hl : N < a + 4) => four_short k p N c a W h ha hl (by omega))
  have HTk := Lib.hid (fun (a n : Nat) (z : Int) W (hz : (n : Int) = max z 0) (h : CurB W k p N c a true 0) (h8 : Bytes8 W p xs) (ha : a + n ≤ N) => take_at k p xs N c a n z W hx hz h h8 hp ha hcap (by omega) hroom)
  have HTs := Lib.hid (fun (a : Nat) (z : Int) W (h : CurB W k p N c a true 0) (ha : a ≤ N) (hs : (N : Int) < a + z) => take_short k p N c a z W h ha hs (by omega))
  have HCk := Lib.hid (fun n z W (hn : n ≤ N) (h8 : Bytes8 W p (xs.take n)) => check_thin 0 (by constructor <;> decide) p n c (xs.take n) z (by rw [List.length_take]; omega) (by omega) hroom (ho.take n) W h8)
  have HX := Lib.hid hx
  have HO := Lib.hid ho
  have HUh := Lib.hid (show (N < 4 → U = ⟨2, 0, Pr.none⟩) ∧ (¬ N < 4 → N < 8 → U = ⟨2, 4, Pr.none⟩) ∧ (¬ N < 8 → ∀ Kn V : Nat, le (xs.take 4) = Kn → le ((xs.drop 4).take 4) = V → U = prHead Kn V xs) by
    rw [hU, hx]
    unfold prRead
    refine ⟨fun h => if_pos h, fun h h' => by rw [if_neg h, if_pos h'], fun h Kn V h1 h2 => ?_⟩
    rw [if_neg (by omega), if_neg h, h1, h2, Int.toNat_natCast, Int.toNat_natCast])
  clear hU
  have hb1 := le_bound (xs.take 4) (ho.take 4)
  have hb2 := le_bound ((xs.drop 4).take 4) ((ho.drop 4).take 4)
  clear h hb hfar hx ho hp hbare
  go_enter Try.func27, Try.ntmps27
  go_wp2_with fail
  by_cases h4 : N < 4
  · have HU := Lib.hid (HUh.out.1 h4)
    refine (HG.out 0 _ HA.out.cur (Nat.zero_le _) (by omega)).mono ?_
    rintro e w1 ⟨rfl, hcur, hk⟩
    exact ⟨rfl, ReadP.gave HU.out (by decide) (HA.out.kp.trans hk) hcur⟩
  refine (HF.out 0 _ HA.out.cur HA.out.by8 (by omega)).mono ?_
  rintro e w1 ⟨rfl, hcur, hk⟩
  have HA := Lib.hid (HA.out.call hk hcur)
  clear hk hcur
  rw [List.drop_zero]
  have e4 : (xs.take 4).length = 4 := by rw [List.length_take]; have := HX.out; omega
  rw [e4] at hb1
  obtain ⟨Kn, hK1⟩ := Int.eq_ofNat_of_zero_le hb1.1
  have hK32 : Kn < 4294967296 := by have := hb1.2; rw [hK1] at this; have e : (2 : Int) ^ (8 * 4) = 4294967296 := rfl; omega
  rw [hK1]
  have HK1 := Lib.hid hK1
  clear hb1 e4 hK1
  go_wp2_with fail
  by_cases h8 : N < 8
  · have HU := Lib.hid (HUh.out.2.1 h4 h8)
    refine (HG.out (0 + 4) _ HA.out.cur (by omega) (by omega)).mono ?_
    rintro e w2 ⟨rfl, hcur, hk⟩
    exact ⟨rfl, ReadP.gave HU.out (by decide) (HA.out.kp.trans hk) hcur⟩
  refine (HF.out (0 + 4) _ HA.out.cur HA.out.by8 (by omega)).mono ?_
  rintro e w2 ⟨rfl, hcur, hk⟩
  have HA := Lib.hid (HA.out.call hk hcur)
  clear hk hcur
  rw [show (0 + 4 : Nat) = 4 from rfl]
  have e4 : ((xs.drop 4).take 4).length = 4 := by rw [List.length_take, List.length_drop]; have := HX.out; omega
  rw [e4] at hb2
  obtain ⟨V, hV1⟩ := Int.eq_ofNat_of_zero_le hb2.1
  have hV32 : V < 4294967296 := by have := hb2.2; rw [hV1] at this; have e : (2 : Int) ^ (8 * 4) = 4294967296 := rfl; omega
  rw [hV1]
  have HU := Lib.hid (HUh.out.2.2 h8 Kn V HK1.out hV1)
  clear hb2 e4 hV1 HUh
  have hKw : IntKind.u64.wrap (Kn : Int) = (Kn : Int) := by rw [IntKind.wrap_u64]; omega
  have hVw : IntKind.u64.wrap (V : Int) = (V : Int) := by rw [IntKind.wrap_u64]; omega
  have HA : Hid (AtE w k p xs N c 8 w2) := HA
  go_wp2_with fail
  refine (kv_own Kn V _).mono ?_
  rintro e w3 ⟨rfl, rfl⟩
  by_cases hkv : checkKV Kn V = 0
  rotate_left
  · have HU := Lib.hid (HU.out.trans (if_pos hkv))
    obtain ⟨y, hy⟩ : ∃ y, y = checkKV Kn V := ⟨_, rfl⟩
    rw [← hy] at hkv HU ⊢
    clear hy
    go_wp2_with fail
    refine (fail_at k p N c 8 y _ HA.out.cur hkv).mono ?_
    rintro e w4 ⟨rfl, hcur, hk⟩
    exact ⟨rfl, ReadP.gave HU.out hkv (HA.out.kp.trans hk) hcur⟩
  obtain ⟨hk1, hk2, hv2⟩ := kv_small hkv
  have HU := Lib.hid (HU.out.trans (if_neg (by simpa using hkv)))
  rw [hkv]
  go_wp2_with fail
  refine (fail_ok k p N c 8 0 _ HA.out.cur).mono ?_
  rintro e w4 ⟨rfl, rfl⟩
  have HUa := Lib.hid (show (N < 8 + Kn → prKey Kn V xs = ⟨2, 8, Pr.none⟩) ∧ (¬ N < 8 + Kn → prKey Kn V xs = prVal Kn V xs) by rw [HX.out]; exact ⟨fun h => if_pos h, fun h => if_neg h⟩)
  have HUb := Lib.hid (show (N < 8 + Kn + V → prVal Kn V xs = ⟨2, 8 + Kn, Pr.none⟩) ∧ (¬ N < 8 + Kn + V → prVal Kn V xs = prSum Kn V xs) by rw [HX.out]; exact ⟨fun h => if_pos h, fun h => if_neg h⟩)
  have HUc := Lib.hid (show (N < 8 + Kn + V + 4 → prSum Kn V xs = ⟨2, 8 + Kn + V, Pr.none⟩) ∧ (¬ N < 8 + Kn + V + 4 → prSum Kn V xs = if xxh 0 (xs.take (8 + Kn + V)) = le ((xs.drop (8 + Kn + V)).take 4) then ⟨0, 8 + Kn + V + 4, pairAt Kn V xs⟩ else ⟨5, 8 + Kn + V + 4, Pr.none⟩) by rw [HX.out]; exact ⟨fun h => if_pos h, fun h => if_neg h⟩)
  have hN8 : 8 ≤ N := by omega
  clear hkv hKw hVw h4 h8
  have hKi : IntKind.i64.wrap (Kn : Int) = (Kn : Int) := by rw [IntKind.wrap_i64]; omega
  have hVi : IntKind.i64.wrap (V : Int) = (V : Int) := by rw [IntKind.wrap_i64]; omega
  have HT1 := Lib.hid (fun W h h8 ha => HTk.out 8 Kn (Kn : Int) W (by omega) h h8 ha)
  have HS1 := Lib.hid (fun W h (ha : N < 8 + Kn) => HTs.out 8 (Kn : Int) W h (by omega) (by omega))
  have HT2 := Lib.hid (fun W h h8 ha => HTk.out (8 + Kn) V (V : Int) W (by omega) h h8 ha)
  have HS2 := Lib.hid (fun W h (hn : ¬ N < 8 + Kn) (ha : N < 8 + Kn + V) => HTs.out (8 + Kn) (V : Int) W h (by omega) (by omega))
  go_upto_region 3 with (fail)
  obtain ⟨W, hW⟩ : ∃ W, W = w4 := ⟨_, rfl⟩
  rw [← hW] at HA ⊢
  clear hW
  have HA := Lib.hid (HA.out.quiet ((Keeps.refl NoBlock W).drew))
  obtain ⟨Y1, hY1⟩ : ∃ Y1, Y1 = (xs.drop 8).take Kn := ⟨_, rfl⟩
  obtain ⟨Y2, hY2⟩ : ∃ Y2, Y2 = (xs.drop (8 + Kn)).take V := ⟨_, rfl⟩
  have hpa : pairAt Kn V xs = ⟨Y1, Y2⟩ := by rw [hY1, hY2]; rfl
  rw [hpa] at HUc
  have HY1l := Lib.hid (show N < 8 + Kn ∨ Kn = Y1.length by rw [hY1, List.length_take, List.length_drop]; have := HX.out; omega)
  have HY2l := Lib.hid (show N < 8 + Kn + V ∨ V = Y2.length by rw [hY2, List.length_take, List.length_drop]; have := HX.out; omega)
  unfold TakeOk at HT1 HT2
  rw [← hY1] at HT1
  rw [← hY2] at HT2
  clear hY1 hY2 hpa
  refine wp_region_held_drew (S := fun _ => True) (by kernel_rfl) trivial (fun hHeld => ?_)
  refine wpAnyH_take (i := 0) (v := ?vT1) rfl ?aT1 ?bT1 ?cT1 ?dT1 (Or.inl ⟨?eT1, ?fT1⟩) hHeld ?gT1
  case fT1 => intro w hSw; (try dsimp only at hSw); go_simp; (try with_reducible rfl)
  case aT1 => kernel_rfl
  case bT1 => kernel_rfl
  case cT1 => kernel_rfl
  case dT1 => exact fun _ _ _ h => h
  case eT1 => rfl
  simp only [Act.put, List.getElem_toArray, List.getElem_cons_zero, List.setIfInBounds_toArray, List.set_cons_zero, List.set_cons_succ]
  refine wpAnyH_take (i := 1) (v := ?vT2) rfl ?aT2 ?bT2 ?cT2 ?dT2 (Or.inl ⟨?eT2, ?fT2⟩) hHeld ?gT2
  case fT2 => intro w hSw; (try dsimp only at hSw); go_simp; (try with_reducible rfl)
  case aT2 => kernel_rfl
  case bT2 => kernel_rfl
  case cT2 => kernel_rfl
  case dT2 => exact fun _ _ _ h => h
  case eT2 => rfl
  simp only [Act.put, List.getElem_toArray, List.getElem_cons_zero, List.getElem_cons_succ, List.setIfInBounds_toArray, List.set_cons_zero, List.set_cons_succ]
  refine wpAnyH_take (i := 2) (v := ?vT3) rfl ?aT3 ?bT3 ?cT3 ?dT3 (Or.inl ⟨?eT3, ?fT3⟩) hHeld ?gT3
  case fT3 => intro w hSw; (try dsimp only at hSw); go_simp; (try with_reducible rfl)
  case aT3 => kernel_rfl
  case bT3 => kernel_rfl
  case cT3 => kernel_rfl
  case dT3 => exact fun _ _ _ h => h
  case eT3 => rfl
  simp only [Act.put, List.getElem_toArray, List.getElem_cons_zero, List.getElem_cons_succ, List.setIfInBounds_toArray, List.set_cons_zero, List.set_cons_succ]
  refine wpAnyH_take (i := 5) (v := ?vT4) rfl ?aT4 ?bT4 ?cT4 ?dT4 (Or.inl ⟨?eT4, ?fT4⟩) hHeld ?gT4
  case fT4 => intro w hSw; (try dsimp only at hSw); go_simp; (try with_reducible rfl)
  case aT4 => kernel_rfl
  case bT4 => kernel_rfl
  case cT4 => kernel_rfl
  case dT4 => exact fun _ _ _ h => h
  case eT4 => rfl
  simp only [Act.put, List.getElem_toArray, List.getElem_cons_zero, List.getElem_cons_succ, List.setIfInBounds_toArray, List.set_cons_zero, List.set_cons_succ]
  refine wpAnyH_take (i := 6) (v := ?vT5) rfl ?aT5 ?bT5 ?cT5 ?dT5 (Or.inl ⟨?eT5, ?fT5⟩) hHeld ?gT5
  case fT5 => intro w hSw; (try dsimp only at hSw); go_simp; (try with_reducible rfl)
  case aT5 => kernel_rfl
  case bT5 => kernel_rfl
  case cT5 => kernel_rfl
  case dT5 => exact fun _ _ _ h => h
  case eT5 => rfl
  simp only [Act.put, List.getElem_toArray, List.getElem_cons_zero, List.getElem_cons_succ, List.setIfInBounds_toArray, List.set_cons_zero, List.set_cons_succ]
  refine wpAnyH_take (i := 7) (v := ?vT6) rfl ?aT6 ?bT6 ?cT6 ?dT6 (Or.inl ⟨?eT6, ?fT6⟩) hHeld ?gT6
  case fT6 => intro w hSw; (try dsimp only at hSw); go_simp; (try with_reducible rfl)
  case aT6 => kernel_rfl
  case bT6 => kernel_rfl
  case cT6 => kernel_rfl
  case dT6 => exact fun _ _ _ h => h
  case eT6 => rfl
  simp only [Act.put, List.getElem_toArray, List.getElem_cons_zero, List.getElem_cons_succ, List.setIfInBounds_toArray, List.set_cons_zero, List.set_cons_succ]
  refine wpAnyH_ready (rs := [3, 11]) (by kernel_rfl) (by simp) ?_
  refine (AllReadyH.cons (o := _) rfl (fun K hK => ?_) (AllReadyH.cons (o := _) rfl (fun K hK => ?_) AllReadyH.nil))
  · go_simp
    by_cases h8 : N < 8 + Kn
    · refine (HS1.out _ HA.out.cur h8).mono ?_
      rintro e w9 ⟨rfl, hcur, hk⟩
      have hk' : Keeps (Just k) W.drew w9 := by first | exact hk | exact hk.ofDrew | exact hk.ofDrewN
      have HU := Lib.hid (HU.out.trans (HUa.out.1 h8))
      clear hk
      exact ⟨rfl, ReadP.gave HU.out (show (2 : Int) ≠ 0 by decide) (HA.out.kp.trans hk') hcur⟩
    have HU := Lib.hid (HU.out.trans (HUa.out.2 h8))
    have HY1l := Lib.hid (HY1l.out.resolve_left h8)
    refine (HT1.out _ HA.out.cur HA.out.by8 (by omega)).mono ?_
    rintro e w31 ⟨v, rfl, ⟨q31, d31, rfl, hd, hd', hbv, hq, hk⟩, hcur⟩
    have hk' : Keeps (Just k) W.drew w31 := by first | exact hk | exact hk.ofDrew | exact hk.ofDrewN
    have HY1 := Lib.hid (show Txt w31 k q31 Y1 from ⟨hbv, fun a ha => by have h1 : W.heap.size ≤ a.block := (hq a ha).1; have h2 := HA.out.lt; have h3 : w.heap.size < W.heap.size := HA.out.pos; exact ⟨by omega, (hq a ha).2⟩⟩)
    have HA := Lib.hid (HA.out.call hk' hcur)
    have hS : (fun w' => (True) ∧ ((convert 25 9 (.slice q31 Kn d31)).run Try.prog w' = .ok (.string (strOfNums Y1)) w')) w31 := (And.intro trivial (textOf q31 Kn d31 Y1 _ HY1l.out HY1.out.1))
    clear hk hk' hcur hbv hq hd hd'
    go_wp2_with fail
    refine hK.out _ _ hS.1 (fun _ => ?_)
    clear hK K
    refine wpAnyH_swap (S' := fun w' => (True) ∧ ((convert 25 9 (.slice q31 Kn d31)).run Try.prog w' = .ok (.string (strOfNums Y1)) w')) (fun _ h => h.1) _ _ _ _ ?_
    refine wpAnyH_take (i := 4) (v := ?vT7) rfl ?aT7 ?bT7 ?cT7 ?dT7 (Or.inl ⟨?eT7, ?fT7⟩) hS ?gT7
    case fT7 => intro w hSw; (try dsimp only at hSw); go_simp; (try with_reducible rfl)
    case aT7 => kernel_rfl
    case bT7 => kernel_rfl
    case cT7 => kernel_rfl
    case dT7 => exact fun _ _ _ h => h
    case eT7 => rfl
    simp only [Act.put, List.getElem_toArray, List.getElem_cons_zero, List.getElem_cons_succ, List.setIfInBounds_toArray, List.set_cons_zero, List.set_cons_succ]
    refine wpAnyH_ready (rs := [8, 11]) (by kernel_rfl) (by simp) ?_
    refine (AllReadyH.cons (o := _) rfl (fun K hK => ?_) (AllReadyH.cons (o := _) rfl (fun K hK => ?_) AllReadyH.nil))
    · go_simp
      by_cases h9 : N < 8 + Kn + V
      · refine (HS2.out _ HA.out.cur h8 h9).mono ?_
        rintro e w9 ⟨rfl, hcur, hk⟩
        have hk' : Keeps (Just k) w31 w9 := by first | exact hk | exact hk.ofDrew | exact hk.ofDrewN
        have HU := Lib.hid (HU.out.trans (HUb.out.1 h9))
        clear hk
        exact ⟨rfl, ReadP.gave HU.out (show (2 : Int) ≠ 0 by decide) (HA.out.kp.trans hk') hcur⟩
      have HU := Lib.hid (HU.out.trans (HUb.out.2 h9))
      have HY2l := Lib.hid (HY2l.out.resolve_left h9)
      refine (HT2.out _ HA.out.cur HA.out.by8 (by omega)).mono ?_
      rintro e w32 ⟨v, rfl, ⟨q32, d32, rfl, hd, hd', hbv, hq, hk⟩, hcur⟩
      have hk' : Keeps (Just k) w31 w32 := by first | exact hk | exact hk.ofDrew | exact hk.ofDrewN
      have HY2 := Lib.hid (show Txt w32 k q32 Y2 from ⟨hbv, fun a ha => by have h1 : w31.heap.size ≤ a.block := (hq a ha).1; have h2 := HA.out.lt; have h3 : w.heap.size < w31.heap.size := HA.out.pos; exact ⟨by omega, (hq a ha).2⟩⟩)
      have HY1 := Lib.hid (HY1.out.keep hk')
      have HA := Lib.hid (HA.out.call hk' hcur)
      have hS : (fun w' => ((True) ∧ ((convert 25 9 (.slice q31 Kn d31)).run Try.prog w' = .ok (.string (strOfNums Y1)) w')) ∧ ((convert 25 9 (.slice q32 V d32)).run Try.prog w' = .ok (.string (strOfNums Y2)) w')) w32 := (And.intro (And.intro trivial (textOf q31 Kn d31 Y1 _ HY1l.out HY1.out.1)) (textOf q32 V d32 Y2 _ HY2l.out HY2.out.1))
      clear hk hk' hcur hbv hq hd hd'
      go_wp2_with fail
      refine hK.out _ _ hS.1 (fun _ => ?_)
      clear hK K
      refine wpAnyH_swap (S' := fun w' => ((True) ∧ ((convert 25 9 (.slice q31 Kn d31)).run Try.prog w' = .ok (.string (strOfNums Y1)) w')) ∧ ((convert 25 9 (.slice q32 V d32)).run Try.prog w' = .ok (.string (strOfNums Y2)) w')) (fun _ h => h.1) _ _ _ _ ?_
      refine wpAnyH_take (i := 9) (v := ?vT8) rfl ?aT8 ?bT8 ?cT8 ?dT8 (Or.inl ⟨?eT8, ?fT8⟩) hS ?gT8
      case fT8 => intro w hSw; (try dsimp only at hSw); go_simp; (try with_reducible rfl)
      case aT8 => kernel_rfl
      case bT8 => kernel_rfl
      case cT8 => kernel_rfl
      case dT8 => exact fun _ _ _ h => h
      case eT8 => rfl
      simp only [Act.put, List.getElem_toArray, List.getElem_cons_zero, List.getElem_cons_succ, List.setIfInBounds_toArray, List.set_cons_zero, List.set_cons_succ]
      refine wpAnyH_take (i := 10) (v := ?vT9) rfl ?aT9 ?bT9 ?cT9 ?dT9 (Or.inl ⟨?eT9, ?fT9⟩) hS ?gT9
      case fT9 => intro w hSw; (try dsimp only at hSw); go_simp; (try with_reducible rfl)
      case aT9 => kernel_rfl
      case bT9 => kernel_rfl
      case cT9 => kernel_rfl
      case dT9 => exact fun _ _ _ h => h
      case eT9 => rfl
      simp only [Act.put, List.getElem_toArray, List.getElem_cons_zero, List.getElem_cons_succ, List.setIfInBounds_toArray, List.set_cons_zero, List.set_cons_succ]
      refine wpAnyH_ready (rs := [11]) (by kernel_rfl) (by simp) ?_
      refine (AllReadyH.cons (o := _) rfl (fun K hK => ?_) AllReadyH.nil)
      go_simp
      have HA0 := HA
      have HY1p := HY1
      have HY2p := HY2
      have HD := Lib.hid (show NewP w w32.heap.size (prCells Pr.none) (w32.alloc (.cells #[.string ⟨#[]⟩, .string ⟨#[]⟩] 30)) from ⟨Whole.newAt w32 _ _ _ rfl, HA.out.pos⟩)
      have HA := Lib.hid (HA.out.alloc (.cells #[.string ⟨#[]⟩, .string ⟨#[]⟩] 30))
      have HY1d : Hid (∀ a, q31 = some a → a.block ≠ w32.heap.size) := Lib.hid (fun a ha => Nat.ne_of_lt (HY1.out.2 a ha).2)
      have HY1 := Lib.hid (HY1.out.alloc (.cells #[.string ⟨#[]⟩, .string ⟨#[]⟩] 30))
      have HY2d : Hid (∀ a, q32 = some a → a.block ≠ w32.heap.size) := Lib.hid (fun a ha => Nat.ne_of_lt (HY2.out.2 a ha).2)
      have HY2 := Lib.hid (HY2.out.alloc (.cells #[.string ⟨#[]⟩, .string ⟨#[]⟩] 30))
      have hS : (fun w' => ((True) ∧ ((convert 25 9 (.slice q31 Kn d31)).run Try.prog w' = .ok (.string (strOfNums Y1)) w')) ∧ ((convert 25 9 (.slice q32 V d32)).run Try.prog w' = .ok (.string (strOfNums Y2)) w')) (w32.alloc (.cells #[.string ⟨#[]⟩, .string ⟨#[]⟩] 30)) := (And.intro (And.intro trivial (textOf q31 Kn d31 Y1 _ HY1l.out HY1.out.1)) (textOf q32 V d32 Y2 _ HY2l.out HY2.out.1))
      refine hK.out _ _ hS (fun _ => ?_)
      clear hK K
      refine wpAnyH_ready (rs := [12]) (by kernel_rfl) (by simp) ?_
      refine (AllReadyH.cons (o := _) rfl (fun K hK => ?_) AllReadyH.nil)
      have d0 := HD.out.1.free 0
      have d1 := HD.out.1.free 1
      have D0 := HD.out.1.cell 0 rfl
      have D1 := HD.out.1.cell 1 rfl
      simp only [prCells, List.getElem_toArray, List.getElem_cons_zero, List.getElem_cons_succ] at D0 D1
      go_simp
      have HD := Lib.hid (show NewP w w32.heap.size (prCells ⟨Y1, Y2⟩) (w32.alloc (.cells #[.string (strOfNums Y1), .string (strOfNums Y2)] 30)) from ⟨Whole.newAt w32 _ _ _ rfl, HA0.out.pos⟩)
      have HA := Lib.hid (HA0.out.alloc (.cells #[.string (strOfNums Y1), .string (strOfNums Y2)] 30))
      have HY1 := Lib.hid (HY1p.out.alloc (.cells #[.string (strOfNums Y1), .string (strOfNums Y2)] 30))
      have HY2 := Lib.hid (HY2p.out.alloc (.cells #[.string (strOfNums Y1), .string (strOfNums Y2)] 30))
      have hS : (fun w' => ((True) ∧ ((convert 25 9 (.slice q31 Kn d31)).run Try.prog w' = .ok (.string (strOfNums Y1)) w')) ∧ ((convert 25 9 (.slice q32 V d32)).run Try.prog w' = .ok (.string (strOfNums Y2)) w')) (w32.alloc (.cells #[.string (strOfNums Y1), .string (strOfNums Y2)] 30)) := (And.intro (And.intro trivial (textOf q31 Kn d31 Y1 _ HY1l.out HY1.out.1)) (textOf q32 V d32 Y2 _ HY2l.out HY2.out.1))
      refine hK.out _ _ hS (fun _ => ?_)
      clear hK K
      refine wpAnyH_done (by kernel_rfl) ?_ _
      obtain ⟨W4, hW4⟩ : ∃ W4, W4 = (w32.alloc (.cells #[.string (strOfNums Y1), .string (strOfNums Y2)] 30)) := ⟨_, rfl⟩
      rw [← hW4] at HD HA ⊢
      clear hW4 HY1 HY2 D0 D1 d0 d1
      obtain ⟨A, hAd⟩ : ∃ A, A = 8 + Kn + V := ⟨_, rfl⟩
      have HA : Hid (AtE w k p xs N c A W4) := by rw [hAd]; exact HA
      rw [← hAd] at HUc
      have hAN : A ≤ N := by omega
      have hAc : (A : Int) ≤ (c : Int) := by omega
      have hA0 : (0 : Int) ≤ (A : Int) := by omega
      clear hAd
      go_wp2_with fail
      refine (at_at k p N c A 0 _ HA.out.cur).mono ?_
      rintro e w5 ⟨rfl, rfl⟩
      go_wp2_with fail
      by_cases hf : N < A + 4
      · have HU := Lib.hid (HU.out.trans (HUc.out.1 hf))
        refine (HG.out A _ HA.out.cur hAN hf).mono ?_
        rintro e w6 ⟨rfl, hcur, hk⟩
        exact ⟨rfl, ReadP.gave HU.out (show (2 : Int) ≠ 0 by decide) (HA.out.kp.trans hk) hcur⟩
      have HU := Lib.hid (HU.out.trans (HUc.out.2 hf))
      refine (HF.out A _ HA.out.cur HA.out.by8 (by omega)).mono ?_
      rintro e w6 ⟨rfl, hcur, hk⟩
      have HD := Lib.hid (HD.out.keep hk HA.out.lt)
      have HA := Lib.hid (HA.out.call hk hcur)
      obtain ⟨z, hz⟩ : ∃ z, z = le ((xs.drop A).take 4) := ⟨_, rfl⟩
      rw [← hz] at HU ⊢
      clear hk hcur hz HUc HF HG
      go_wp2_with fail
      refine (HCk.out A z _ hAN (Bytes8.left (ys := xs.drop A) (by rw [List.take_append_drop]; exact HA.out.by8))).mono ?_
      rintro e w7 ⟨rfl, hk⟩
      have HD := Lib.hid (HD.out.keep (hk.wider (S' := Just k) (fun _ _ h => h.elim)) HA.out.lt)
      have HA := Lib.hid (HA.out.quiet hk)
      clear hk HCk
      by_cases hz : xxh 0 (xs.take A) = z
      · have HU := Lib.hid (HU.out.trans (if_pos hz))
        have hb : (xxh 0 (xs.take A) == z) = true := by rw [beq_iff_eq]; exact hz
        rw [hb]
        clear hz hb
        obtain ⟨y0, y1⟩ := PrAt.ofWhole HD.out.1
        have r0 := HA.out.res.cell 0 rfl
        have r1 := HA.out.res.cell 1 rfl
        have f0 := HA.out.res.free 0
        have f1 := HA.out.res.free 1
        simp only [prCells, List.getElem_toArray, List.getElem_cons_zero, List.getElem_cons_succ] at r0 r1
        simp only at y0 y1
        go_wp2_with fail
        have hcu := (HA.out.fill2 (u := .string (strOfNums Y1)) (v := .string (strOfNums Y2)))
        exact bodyPost_ret (v := prV ⟨Y1, Y2⟩) (by simp [results, Try.results27, go_sem, prV, r0, r1]) rfl (ReadP.done HU.out rfl hcu.2 hcu.1)
      · have HU := Lib.hid (HU.out.trans (if_neg hz))
        have hb : (xxh 0 (xs.take A) == z) = false := by rw [beq_eq_false_iff_ne]; exact hz
        rw [hb]
        clear hz hb
        go_wp2_with fail
        refine (fail_at k p N c (A + 4) 5 _ HA.out.cur (by decide)).mono ?_
        rintro e w8 ⟨rfl, hcur, hk⟩
        exact ⟨rfl, ReadP.gave HU.out (show (5 : Int) ≠ 0 by decide) (HA.out.kp.trans hk) hcur⟩
    · go_simp
      have HA0 := HA
      have HY1p := HY1
      have HD := Lib.hid (show NewP w w31.heap.size (prCells Pr.none) (w31.alloc (.cells #[.string ⟨#[]⟩, .string ⟨#[]⟩] 30)) from ⟨Whole.newAt w31 _ _ _ rfl, HA.out.pos⟩)
      have HA := Lib.hid (HA.out.alloc (.cells #[.string ⟨#[]⟩, .string ⟨#[]⟩] 30))
      have HY1d : Hid (∀ a, q31 = some a → a.block ≠ w31.heap.size) := Lib.hid (fun a ha => Nat.ne_of_lt (HY1.out.2 a ha).2)
      have HY1 := Lib.hid (HY1.out.alloc (.cells #[.string ⟨#[]⟩, .string ⟨#[]⟩] 30))
      have hS : (fun w' => (True) ∧ ((convert 25 9 (.slice q31 Kn d31)).run Try.prog w' = .ok (.string (strOfNums Y1)) w')) (w31.alloc (.cells #[.string ⟨#[]⟩, .string ⟨#[]⟩] 30)) := (And.intro trivial (textOf q31 Kn d31 Y1 _ HY1l.out HY1.out.1))
      refine hK.out _ _ hS (fun _ => ?_)
      clear hK K
      refine wpAnyH_ready (rs := [8]) (by kernel_rfl) (by simp) ?_
      refine (AllReadyH.cons (o := _) rfl (fun K hK => ?_) AllReadyH.nil)
      go_simp
      by_cases h9 : N < 8 + Kn + V
      · refine (HS2.out _ HA.out.cur h8 h9).mono ?_
        rintro e w9 ⟨rfl, hcur, hk⟩
        have hk' : Keeps (Just k) (w31.alloc (.cells #[.string ⟨#[]⟩, .string ⟨#[]⟩] 30)) w9 := by first | exact hk | exact hk.ofDrew | exact hk.ofDrewN
        have HU := Lib.hid (HU.out.trans (HUb.out.1 h9))
        clear hk
        exact ⟨rfl, ReadP.gave HU.out (show (2 : Int) ≠ 0 by decide) (HA.out.kp.trans hk') hcur⟩
      have HU := Lib.hid (HU.out.trans (HUb.out.2 h9))
      have HY2l := Lib.hid (HY2l.out.resolve_left h9)
      refine (HT2.out _ HA.out.cur HA.out.by8 (by omega)).mono ?_
      rintro e w33 ⟨v, rfl, ⟨q33, d33, rfl, hd, hd', hbv, hq, hk⟩, hcur⟩
      have hk' : Keeps (Just k) (w31.alloc (.cells #[.string ⟨#[]⟩, .string ⟨#[]⟩] 30)) w33 := by first | exact hk | exact hk.ofDrew | exact hk.ofDrewN
      have HY2 := Lib.hid (show Txt w33 k q33 Y2 from ⟨hbv, fun a ha => by have h1 : (w31.alloc (.cells #[.string ⟨#[]⟩, .string ⟨#[]⟩] 30)).heap.size ≤ a.block := (hq a ha).1; have h2 := HA.out.lt; have h3 : w.heap.size < (w31.alloc (.cells #[.string ⟨#[]⟩, .string ⟨#[]⟩] 30)).heap.size := HA.out.pos; exact ⟨by omega, (hq a ha).2⟩⟩)
      have HY2d : Hid (∀ a, q33 = some a → a.block ≠ w31.heap.size) := Lib.hid (fun a ha => by have h1 : (w31.alloc (.cells #[.string ⟨#[]⟩, .string ⟨#[]⟩] 30)).heap.size ≤ a.block := (hq a ha).1; have h2 : w31.heap.size < (w31.alloc (.cells #[.string ⟨#[]⟩, .string ⟨#[]⟩] 30)).heap.size := HD.out.1.lt; omega)
      have HY1 := Lib.hid (HY1.out.keep hk')
      have HD := Lib.hid (HD.out.keep hk' HA.out.lt)
      have HA := Lib.hid (HA.out.call hk' hcur)
      have hS : (fun w' => ((True) ∧ ((convert 25 9 (.slice q31 Kn d31)).run Try.prog w' = .ok (.string (strOfNums Y1)) w')) ∧ ((convert 25 9 (.slice q33 V d33)).run Try.prog w' = .ok (.string (strOfNums Y2)) w')) w33 := (And.intro (And.intro trivial (textOf q31 Kn d31 Y1 _ HY1l.out HY1.out.1)) (textOf q33 V d33 Y2 _ HY2l.out HY2.out.1))
      clear hk hk' hcur hbv hq hd hd'
      go_wp2_with fail
      refine hK.out _ _ hS.1 (fun _ => ?_)
      clear hK K
      refine wpAnyH_swap (S' := fun w' => ((True) ∧ ((convert 25 9 (.slice q31 Kn d31)).run Try.prog w' = .ok (.string (strOfNums Y1)) w')) ∧ ((convert 25 9 (.slice q33 V d33)).run Try.prog w' = .ok (.string (strOfNums Y2)) w')) (fun _ h => h.1) _ _ _ _ ?_
      refine wpAnyH_take (i := 9) (v := ?vT10) rfl ?aT10 ?bT10 ?cT10 ?dT10 (Or.inl ⟨?eT10, ?fT10⟩) hS ?gT10
      case fT10 => intro w hSw; (try dsimp only at hSw); go_simp; (try with_reducible rfl)
      case aT10 => kernel_rfl
      case bT10 => kernel_rfl
      case cT10 => kernel_rfl
      case dT10 => exact fun _ _ _ h => h
      case eT10 => rfl
      simp only [Act.put, List.getElem_toArray, List.getElem_cons_zero, List.getElem_cons_succ, List.setIfInBounds_toArray, List.set_cons_zero, List.set_cons_succ]
      refine wpAnyH_take (i := 10) (v := ?vT11) rfl ?aT11 ?bT11 ?cT11 ?dT11 (Or.inl ⟨?eT11, ?fT11⟩) hS ?gT11
      case fT11 => intro w hSw; (try dsimp only at hSw); go_simp; (try with_reducible rfl)
      case aT11 => kernel_rfl
      case bT11 => kernel_rfl
      case cT11 => kernel_rfl
      case dT11 => exact fun _ _ _ h => h
      case eT11 => rfl
      simp only [Act.put, List.getElem_toArray, List.getElem_cons_zero, List.getElem_cons_succ, List.setIfInBounds_toArray, List.set_cons_zero, List.set_cons_succ]
      refine wpAnyH_ready (rs := [12]) (by kernel_rfl) (by simp) ?_
      refine (AllReadyH.cons (o := _) rfl (fun K hK => ?_) AllReadyH.nil)
      have d0 := HD.out.1.free 0
      have d1 := HD.out.1.free 1
      have D0 := HD.out.1.cell 0 rfl
      have D1 := HD.out.1.cell 1 rfl
      simp only [prCells, List.getElem_toArray, List.getElem_cons_zero, List.getElem_cons_succ] at D0 D1
      go_simp
      have HA := Lib.hid (HA.out.fill HD.out.2 (u := .string (strOfNums Y1)) (v := .string (strOfNums Y2)))
      have HD := Lib.hid (HD.out.fill (s := ⟨Y1, Y2⟩))
      have HY1 := Lib.hid ((HY1.out.put HY1d.out 0 (.string (strOfNums Y1))).put HY1d.out 1 (.string (strOfNums Y2)))
      have HY2 := Lib.hid ((HY2.out.put HY2d.out 0 (.string (strOfNums Y1))).put HY2d.out 1 (.string (strOfNums Y2)))
      have hS : (fun w' => ((True) ∧ ((convert 25 9 (.slice q31 Kn d31)).run Try.prog w' = .ok (.string (strOfNums Y1)) w')) ∧ ((convert 25 9 (.slice q33 V d33)).run Try.prog w' = .ok (.string (strOfNums Y2)) w')) ((w33.setCell ⟨w31.heap.size, 0, none⟩ (.string (strOfNums Y1))).setCell ⟨w31.heap.size, 1, none⟩ (.string (strOfNums Y2))) := (And.intro (And.intro trivial (textOf q31 Kn d31 Y1 _ HY1l.out HY1.out.1)) (textOf q33 V d33 Y2 _ HY2l.out HY2.out.1))
      refine hK.out _ _ hS (fun _ => ?_)
      clear hK K
      refine wpAnyH_done (by kernel_rfl) ?_ _
      obtain ⟨W4, hW4⟩ : ∃ W4, W4 = ((w33.setCell ⟨w31.heap.size, 0, none⟩ (.string (strOfNums Y1))).setCell ⟨w31.heap.size, 1, none⟩ (.string (strOfNums Y2))) := ⟨_, rfl⟩
      rw [← hW4] at HD HA ⊢
      clear hW4 HY1 HY2 D0 D1 d0 d1
      obtain ⟨A, hAd⟩ : ∃ A, A = 8 + Kn + V := ⟨_, rfl⟩
      have HA : Hid (AtE w k p xs N c A W4) := by rw [hAd]; exact HA
      rw [← hAd] at HUc
      have hAN : A ≤ N := by omega
      have hAc : (A : Int) ≤ (c : Int) := by omega
      have hA0 : (0 : Int) ≤ (A : Int) := by omega
      clear hAd
      go_wp2_with fail
      refine (at_at k p N c A 0 _ HA.out.cur).mono ?_
      rintro e w5 ⟨rfl, rfl⟩
      go_wp2_with fail
      by_cases hf : N < A + 4
      · have HU := Lib.hid (HU.out.trans (HUc.out.1 hf))
        refine (HG.out A _ HA.out.cur hAN hf).mono ?_
        rintro e w6 ⟨rfl, hcur, hk⟩
        exact ⟨rfl, ReadP.gave HU.out (show (2 : Int) ≠ 0 by decide) (HA.out.kp.trans hk) hcur⟩
      have HU := Lib.hid (HU.out.trans (HUc.out.2 hf))
      refine (HF.out A _ HA.out.cur HA.out.by8 (by omega)).mono ?_
      rintro e w6 ⟨rfl, hcur, hk⟩
      have HD := Lib.hid (HD.out.keep hk HA.out.lt)
      have HA := Lib.hid (HA.out.call hk hcur)
      obtain ⟨z, hz⟩ : ∃ z, z = le ((xs.drop A).take 4) := ⟨_, rfl⟩
      rw [← hz] at HU ⊢
      clear hk hcur hz HUc HF HG
      go_wp2_with fail
      refine (HCk.out A z _ hAN (Bytes8.left (ys := xs.drop A) (by rw [List.take_append_drop]; exact HA.out.by8))).mono ?_
      rintro e w7 ⟨rfl, hk⟩
      have HD := Lib.hid (HD.out.keep (hk.wider (S' := Just k) (fun _ _ h => h.elim)) HA.out.lt)
      have HA := Lib.hid (HA.out.quiet hk)
      clear hk HCk
      by_cases hz : xxh 0 (xs.take A) = z
      · have HU := Lib.hid (HU.out.trans (if_pos hz))
        have hb : (xxh 0 (xs.take A) == z) = true := by rw [beq_iff_eq]; exact hz
        rw [hb]
        clear hz hb
        obtain ⟨y0, y1⟩ := PrAt.ofWhole HD.out.1
        have r0 := HA.out.res.cell 0 rfl
        have r1 := HA.out.res.cell 1 rfl
        have f0 := HA.out.res.free 0
        have f1 := HA.out.res.free 1
        simp only [prCells, List.getElem_toArray, List.getElem_cons_zero, List.getElem_cons_succ] at r0 r1
        simp only at y0 y1
        go_wp2_with fail
        have hcu := (HA.out.fill2 (u := .string (strOfNums Y1)) (v := .string (strOfNums Y2)))
        exact bodyPost_ret (v := prV ⟨Y1, Y2⟩) (by simp [results, Try.results27, go_sem, prV, r0, r1]) rfl (ReadP.done HU.out rfl hcu.2 hcu.1)
      · have HU := Lib.hid (HU.out.trans (if_neg hz))
        have hb : (xxh 0 (xs.take A) == z) = false := by rw [beq_eq_false_iff_ne]; exact hz
        rw [hb]
        clear hz hb
        go_wp2_with fail
        refine (fail_at k p N c (A + 4) 5 _ HA.out.cur (by decide)).mono ?_
        rintro e w8 ⟨rfl, hcur, hk⟩
        exact ⟨rfl, ReadP.gave HU.out (show (5 : Int) ≠ 0 by decide) (HA.out.kp.trans hk) hcur⟩
  · go_simp
    have HA0 := HA
    have HD := Lib.hid (show NewP w W.heap.size (prCells Pr.none) (W.drew.alloc (.cells #[.string ⟨#[]⟩, .string ⟨#[]⟩] 30)) from ⟨Whole.newAt W.drew _ _ _ rfl, HA.out.pos⟩)
    have HA := Lib.hid (HA.out.alloc (.cells #[.string ⟨#[]⟩, .string ⟨#[]⟩] 30))
    have hS : (fun w' => True) (W.drew.alloc (.cells #[.string ⟨#[]⟩, .string ⟨#[]⟩] 30)) := trivial
    refine hK.out _ _ hS (fun _ => ?_)
    clear hK K
    refine wpAnyH_ready (rs := [3]) (by kernel_rfl) (by simp) ?_
    refine (AllReadyH.cons (o := _) rfl (fun K hK => ?_) AllReadyH.nil)
    go_simp
    by_cases h8 : N < 8 + Kn
    · refine (HS1.out _ HA.out.cur h8).mono ?_
      rintro e w9 ⟨rfl, hcur, hk⟩
      have hk' : Keeps (Just k) (W.drew.alloc (.cells #[.string ⟨#[]⟩, .string ⟨#[]⟩] 30)) w9 := by first | exact hk | exact hk.ofDrew | exact hk.ofDrewN
      have HU := Lib.hid (HU.out.trans (HUa.out.1 h8))
      clear hk
      exact ⟨rfl, ReadP.gave HU.out (show (2 : Int) ≠ 0 by decide) (HA.out.kp.trans hk') hcur⟩
    have HU := Lib.hid (HU.out.trans (HUa.out.2 h8))
    have HY1l := Lib.hid (HY1l.out.resolve_left h8)
    refine (HT1.out _ HA.out.cur HA.out.by8 (by omega)).mono ?_
    rintro e w34 ⟨v, rfl, ⟨q34, d34, rfl, hd, hd', hbv, hq, hk⟩, hcur⟩
    have hk' : Keeps (Just k) (W.drew.alloc (.cells #[.string ⟨#[]⟩, .string ⟨#[]⟩] 30)) w34 := by first | exact hk | exact hk.ofDrew | exact hk.ofDrewN
    have HY1 := Lib.hid (show Txt w34 k q34 Y1 from ⟨hbv, fun a ha => by have h1 : (W.drew.alloc (.cells #[.string ⟨#[]⟩, .string ⟨#[]⟩] 30)).heap.size ≤ a.block := (hq a ha).1; have h2 := HA.out.lt; have h3 : w.heap.size < (W.drew.alloc (.cells #[.string ⟨#[]⟩, .string ⟨#[]⟩] 30)).heap.size := HA.out.pos; exact ⟨by omega, (hq a ha).2⟩⟩)
    have HY1d : Hid (∀ a, q34 = some a → a.block ≠ W.heap.size) := Lib.hid (fun a ha => by have h1 : (W.drew.alloc (.cells #[.string ⟨#[]⟩, .string ⟨#[]⟩] 30)).heap.size ≤ a.block := (hq a ha).1; have h2 : W.heap.size < (W.drew.alloc (.cells #[.string ⟨#[]⟩, .string ⟨#[]⟩] 30)).heap.size := HD.out.1.lt; omega)
    have HD := Lib.hid (HD.out.keep hk' HA.out.lt)
    have HA := Lib.hid (HA.out.call hk' hcur)
    have hS : (fun w' => (True) ∧ ((convert 25 9 (.slice q34 Kn d34)).run Try.prog w' = .ok (.string (strOfNums Y1)) w')) w34 := (And.intro trivial (textOf q34 Kn d34 Y1 _ HY1l.out HY1.out.1))
    clear hk hk' hcur hbv hq hd hd'
    go_wp2_with fail
    refine hK.out _ _ hS.1 (fun _ => ?_)
    clear hK K
    refine wpAnyH_swap (S' := fun w' => (True) ∧ ((convert 25 9 (.slice q34 Kn d34)).run Try.prog w' = .ok (.string (strOfNums Y1)) w')) (fun _ h => h.1) _ _ _ _ ?_
    refine wpAnyH_take (i := 4) (v := ?vT12) rfl ?aT12 ?bT12 ?cT12 ?dT12 (Or.inl ⟨?eT12, ?fT12⟩) hS ?gT12
    case fT12 => intro w hSw; (try dsimp only at hSw); go_simp; (try with_reducible rfl)
    case aT12 => kernel_rfl
    case bT12 => kernel_rfl
    case cT12 => kernel_rfl
    case dT12 => exact fun _ _ _ h => h
    case eT12 => rfl
    simp only [Act.put, List.getElem_toArray, List.getElem_cons_zero, List.getElem_cons_succ, List.setIfInBounds_toArray, List.set_cons_zero, List.set_cons_succ]
    refine wpAnyH_ready (rs := [8]) (by kernel_rfl) (by simp) ?_
    refine (AllReadyH.cons (o := _) rfl (fun K hK => ?_) AllReadyH.nil)
    go_simp
    by_cases h9 : N < 8 + Kn + V
    · refine (HS2.out _ HA.out.cur h8 h9).mono ?_
      rintro e w9 ⟨rfl, hcur, hk⟩
      have hk' : Keeps (Just k) w34 w9 := by first | exact hk | exact hk.ofDrew | exact hk.ofDrewN
      have HU := Lib.hid (HU.out.trans (HUb.out.1 h9))
      clear hk
      exact ⟨rfl, ReadP.gave HU.out (show (2 : Int) ≠ 0 by decide) (HA.out.kp.trans hk') hcur⟩
    have HU := Lib.hid (HU.out.trans (HUb.out.2 h9))
    have HY2l := Lib.hid (HY2l.out.resolve_left h9)
    refine (HT2.out _ HA.out.cur HA.out.by8 (by omega)).mono ?_
    rintro e w35 ⟨v, rfl, ⟨q35, d35, rfl, hd, hd', hbv, hq, hk⟩, hcur⟩
    have hk' : Keeps (Just k) w34 w35 := by first | exact hk | exact hk.ofDrew | exact hk.ofDrewN
    have HY2 := Lib.hid (show Txt w35 k q35 Y2 from ⟨hbv, fun a ha => by have h1 : w34.heap.size ≤ a.block := (hq a ha).1; have h2 := HA.out.lt; have h3 : w.heap.size < w34.heap.size := HA.out.pos; exact ⟨by omega, (hq a ha).2⟩⟩)
    have HY2d : Hid (∀ a, q35 = some a → a.block ≠ W.heap.size) := Lib.hid (fun a ha => by have h1 : w34.heap.size ≤ a.block := (hq a ha).1; have h2 : W.heap.size < w34.heap.size := HD.out.1.lt; omega)
    have HY1 := Lib.hid (HY1.out.keep hk')
    have HD := Lib.hid (HD.out.keep hk' HA.out.lt)
    have HA := Lib.hid (HA.out.call hk' hcur)
    have hS : (fun w' => ((True) ∧ ((convert 25 9 (.slice q34 Kn d34)).run Try.prog w' = .ok (.string (strOfNums Y1)) w')) ∧ ((convert 25 9 (.slice q35 V d35)).run Try.prog w' = .ok (.string (strOfNums Y2)) w')) w35 := (And.intro (And.intro trivial (textOf q34 Kn d34 Y1 _ HY1l.out HY1.out.1)) (textOf q35 V d35 Y2 _ HY2l.out HY2.out.1))
    clear hk hk' hcur hbv hq hd hd'
    go_wp2_with fail
    refine hK.out _ _ hS.1 (fun _ => ?_)
    clear hK K
    refine wpAnyH_swap (S' := fun w' => ((True) ∧ ((convert 25 9 (.slice q34 Kn d34)).run Try.prog w' = .ok (.string (strOfNums Y1)) w')) ∧ ((convert 25 9 (.slice q35 V d35)).run Try.prog w' = .ok (.string (strOfNums Y2)) w')) (fun _ h => h.1) _ _ _ _ ?_
    refine wpAnyH_take (i := 9) (v := ?vT13) rfl ?aT13 ?bT13 ?cT13 ?dT13 (Or.inl ⟨?eT13, ?fT13⟩) hS ?gT13
    case fT13 => intro w hSw; (try dsimp only at hSw); go_simp; (try with_reducible rfl)
    case aT13 => kernel_rfl
    case bT13 => kernel_rfl
    case cT13 => kernel_rfl
    case dT13 => exact fun _ _ _ h => h
    case eT13 => rfl
    simp only [Act.put, List.getElem_toArray, List.getElem_cons_zero, List.getElem_cons_succ, List.setIfInBounds_toArray, List.set_cons_zero, List.set_cons_succ]
    refine wpAnyH_take (i := 10) (v := ?vT14) rfl ?aT14 ?bT14 ?cT14 ?dT14 (Or.inl ⟨?eT14, ?fT14⟩) hS ?gT14
    case fT14 => intro w hSw; (try dsimp only at hSw); go_simp; (try with_reducible rfl)
    case aT14 => kernel_rfl
    case bT14 => kernel_rfl
    case cT14 => kernel_rfl
    case dT14 => exact fun _ _ _ h => h
    case eT14 => rfl
    simp only [Act.put, List.getElem_toArray, List.getElem_cons_zero, List.getElem_cons_succ, List.setIfInBounds_toArray, List.set_cons_zero, List.set_cons_succ]
    refine wpAnyH_ready (rs := [12]) (by kernel_rfl) (by simp) ?_
    refine (AllReadyH.cons (o := _) rfl (fun K hK => ?_) AllReadyH.nil)
    have d0 := HD.out.1.free 0
    have d1 := HD.out.1.free 1
    have D0 := HD.out.1.cell 0 rfl
    have D1 := HD.out.1.cell 1 rfl
    simp only [prCells, List.getElem_toArray, List.getElem_cons_zero, List.getElem_cons_succ] at D0 D1
    go_simp
    have HA := Lib.hid (HA.out.fill HD.out.2 (u := .string (strOfNums Y1)) (v := .string (strOfNums Y2)))
    have HD := Lib.hid (HD.out.fill (s := ⟨Y1, Y2⟩))
    have HY1 := Lib.hid ((HY1.out.put HY1d.out 0 (.string (strOfNums Y1))).put HY1d.out 1 (.string (strOfNums Y2)))
    have HY2 := Lib.hid ((HY2.out.put HY2d.out 0 (.string (strOfNums Y1))).put HY2d.out 1 (.string (strOfNums Y2)))
    have hS : (fun w' => ((True) ∧ ((convert 25 9 (.slice q34 Kn d34)).run Try.prog w' = .ok (.string (strOfNums Y1)) w')) ∧ ((convert 25 9 (.slice q35 V d35)).run Try.prog w' = .ok (.string (strOfNums Y2)) w')) ((w35.setCell ⟨W.heap.size, 0, none⟩ (.string (strOfNums Y1))).setCell ⟨W.heap.size, 1, none⟩ (.string (strOfNums Y2))) := (And.intro (And.intro trivial (textOf q34 Kn d34 Y1 _ HY1l.out HY1.out.1)) (textOf q35 V d35 Y2 _ HY2l.out HY2.out.1))
    refine hK.out _ _ hS (fun _ => ?_)
    clear hK K
    refine wpAnyH_done (by kernel_rfl) ?_ _
    obtain ⟨W4, hW4⟩ : ∃ W4, W4 = ((w35.setCell ⟨W.heap.size, 0, none⟩ (.string (strOfNums Y1))).setCell ⟨W.heap.size, 1, none⟩ (.string (strOfNums Y2))) := ⟨_, rfl⟩
    rw [← hW4] at HD HA ⊢
    clear hW4 HY1 HY2 D0 D1 d0 d1
    obtain ⟨A, hAd⟩ : ∃ A, A = 8 + Kn + V := ⟨_, rfl⟩
    have HA : Hid (AtE w k p xs N c A W4) := by rw [hAd]; exact HA
    rw [← hAd] at HUc
    have hAN : A ≤ N := by omega
    have hAc : (A : Int) ≤ (c : Int) := by omega
    have hA0 : (0 : Int) ≤ (A : Int) := by omega
    clear hAd
    go_wp2_with fail
    refine (at_at k p N c A 0 _ HA.out.cur).mono ?_
    rintro e w5 ⟨rfl, rfl⟩
    go_wp2_with fail
    by_cases hf : N < A + 4
    · have HU := Lib.hid (HU.out.trans (HUc.out.1 hf))
      refine (HG.out A _ HA.out.cur hAN hf).mono ?_
      rintro e w6 ⟨rfl, hcur, hk⟩
      exact ⟨rfl, ReadP.gave HU.out (show (2 : Int) ≠ 0 by decide) (HA.out.kp.trans hk) hcur⟩
    have HU := Lib.hid (HU.out.trans (HUc.out.2 hf))
    refine (HF.out A _ HA.out.cur HA.out.by8 (by omega)).mono ?_
    rintro e w6 ⟨rfl, hcur, hk⟩
    have HD := Lib.hid (HD.out.keep hk HA.out.lt)
    have HA := Lib.hid (HA.out.call hk hcur)
    obtain ⟨z, hz⟩ : ∃ z, z = le ((xs.drop A).take 4) := ⟨_, rfl⟩
    rw [← hz] at HU ⊢
    clear hk hcur hz HUc HF HG
    go_wp2_with fail
    refine (HCk.out A z _ hAN (Bytes8.left (ys := xs.drop A) (by rw [List.take_append_drop]; exact HA.out.by8))).mono ?_
    rintro e w7 ⟨rfl, hk⟩
    have HD := Lib.hid (HD.out.keep (hk.wider (S' := Just k) (fun _ _ h => h.elim)) HA.out.lt)
    have HA := Lib.hid (HA.out.quiet hk)
    clear hk HCk
    by_cases hz : xxh 0 (xs.take A) = z
    · have HU := Lib.hid (HU.out.trans (if_pos hz))
      have hb : (xxh 0 (xs.take A) == z) = true := by rw [beq_iff_eq]; exact hz
      rw [hb]
      clear hz hb
      obtain ⟨y0, y1⟩ := PrAt.ofWhole HD.out.1
      have r0 := HA.out.res.cell 0 rfl
      have r1 := HA.out.res.cell 1 rfl
      have f0 := HA.out.res.free 0
      have f1 := HA.out.res.free 1
      simp only [prCells, List.getElem_toArray, List.getElem_cons_zero, List.getElem_cons_succ] at r0 r1
      simp only at y0 y1
      go_wp2_with fail
      have hcu := (HA.out.fill2 (u := .string (strOfNums Y1)) (v := .string (strOfNums Y2)))
      exact bodyPost_ret (v := prV ⟨Y1, Y2⟩) (by simp [results, Try.results27, go_sem, prV, r0, r1]) rfl (ReadP.done HU.out rfl hcu.2 hcu.1)
    · have HU := Lib.hid (HU.out.trans (if_neg hz))
      have hb : (xxh 0 (xs.take A) == z) = false := by rw [beq_eq_false_iff_ne]; exact hz
      rw [hb]
      clear hz hb
      go_wp2_with fail
      refine (fail_at k p N c (A + 4) 5 _ HA.out.cur (by decide)).mono ?_
      rintro e w8 ⟨rfl, hcur, hk⟩
      exact ⟨rfl, ReadP.gave HU.out (show (5 : Int) ≠ 0 by decide) (HA.out.kp.trans hk) hcur⟩
end Go.Proofs.Ytdkpkpmgiglnhaa

namespace Go.Proofs.Ytdkpkpmgiglnhaa
open Go.RowKit

/-- What the reading leaves in block D. -/
def LeftE (w0 : World) (D : Nat) (t : PR) (w2 : World) : Prop := Keeps (Just D) w0 w2 ∧ ∃ r, Whole w2 D 30 (prCells r) ∧ (t.y = 0 → r = t.p)

theorem enter_elIn (args : Array Value) (w : World) : (callFunc 26 args).run Try.prog w = .ok (.enter 26 args) w := by kernel_rfl

set_option maxHeartbeats 2000000 in
set_option maxRecDepth 10000 in
theorem elIn (w0 W : World) (B D : Nat) (p : Option Addr) (xs : List Int) (N c : Nat) (hin : In8 W p N c xs) (hN : N ≤ 500000) (hB : Begun w0 p N c 0 0 W) (hK : Keeps NoBlock w0 W) (hbox : Whole W B 25 #[.slice p N c]) (hD : Whole W D 30 (prCells Pr.none)) (hDl : D < w0.heap.size)
    (hp : 0 < xs.length → ∀ q, p = some q → q.block < w0.heap.size) :
    Calls Try.prog 26 (#[.pointer (some ⟨w0.heap.size + 1 + 1, 0, none⟩)] ++ #[.pointer (some ⟨B, 0, none⟩), .pointer (some ⟨D, 0, none⟩)]) W (ReadEnds w0 p N c (prRead xs).a (prRead xs).y (LeftE w0 D (prRead xs))) := by
  have HR := Lib.hid (elread_own (w0.heap.size + 1 + 1) p xs N c W hB.cur hin hN (fun h0 q hq => by have := hp h0 q hq; omega))
  obtain ⟨t, ht⟩ : ∃ t, t = prRead xs := ⟨_, rfl⟩
  rw [← ht] at HR ⊢
  have b0 := hbox.cell 0 rfl
  simp only [List.getElem_toArray, List.getElem_cons_zero] at b0
  have HB := Lib.hid hB
  have HK := Lib.hid hK
  have HD := Lib.hid hD
  clear ht hin hbox hB hK hD hp
  simp only [List.append_toArray, List.nil_append, List.cons_append]
  go_enter Try.func26, Try.ntmps26
  go_wp2_with fail
  refine HR.out.mono ?_
  rintro e w1 ⟨hk, hcur, ⟨hy, rfl⟩ | ⟨hy, rfl⟩⟩
  · have hD1 := HD.out.keep hk (by unfold Just; omega)
    have d0 := hD1.cell 0 rfl
    have d1 := hD1.cell 1 rfl
    have f0 := hD1.free 0
    have f1 := hD1.free 1
    simp only [prCells, List.getElem_toArray, List.getElem_cons_zero, List.getElem_cons_succ] at d0 d1
    have HB1 := Lib.hid (HB.out.keep hk hcur)
    have HK1 := Lib.hid ((HK.out.wider (S' := Just D) (fun _ _ h => h.elim)).then hk (fun i hi h => by unfold Just at h; omega))
    have HD1 := Lib.hid hD1
    have HY := Lib.hid hy
    clear hk hcur hD1 HR hy
    obtain ⟨y, a, key, val⟩ := t
    unfold prV
    simp only at HY HB1 ⊢
    go_wp2_with fail
    go_returns
    refine ⟨.inl rfl, ⟨(HB1.out.at_.setOther (by simp; omega) _).setOther (by simp; omega) _, (HB1.out.why.setOther (by simp; omega) _).setOther (by simp; omega) _, Whole.setOther (Whole.setOther HB1.out.cur (by simp; omega) _) (by simp; omega) _, (HB1.out.var.setOther (by simp; omega) _).setOther (by simp; omega) _⟩, (HK1.out.setIn (Just.self D) 0 _).setIn (Just.self D) 1 _, ⟨key, val⟩, (HD1.out.set 0 _).set 1 _, fun _ => rfl⟩
  · exact ⟨rfl, .inr (gave_given _), HB.out.keep hk hcur, (HK.out.wider (S' := Just D) (fun _ _ h => h.elim)).then hk (fun i hi h => by unfold Just at h; omega), Pr.none, HD.out.keep hk (by unfold Just; omega), fun h0 => absurd h0 hy⟩

/-- Run, with the reading of a pair. -/
theorem run_elIn (w0 : World) (B D : Nat) (p : Option Addr) (xs : List Int) (N c : Nat) (hin : In8 w0 p N c xs) (hN : N ≤ 500000) (hbox : Whole w0 B 25 #[.slice p N c]) (hD : Whole w0 D 30 (prCells Pr.none)) :
    Calls Try.prog 25 #[.slice p N c, .func (.func 26) #[] #[.pointer (some ⟨B, 0, none⟩), .pointer (some ⟨D, 0, none⟩)]] w0 fun e w' => e = .returned (.tuple #[.int .i64 ((prRead xs).a : Int), .int .i64 (prRead xs).y]) ∧ LeftE w0 D (prRead xs) w' := by
  have hlt := hD.lt
  refine (run_any _ _ p N c (prRead xs).a (prRead xs).y _ w0 enter_elIn (fun W hB hK _ => elIn w0 W B D p xs N c ⟨hin.len, hin.cap, hin.room, hin.bare, hin.oct, hin.at_.keep hK (fun _ _ h => h)⟩ hN hB hK (hbox.keep hK (fun h => h)) (hD.keep hK (fun h => h)) hlt (fun h0 q hq => by
    obtain ⟨a, ha, hcell⟩ := hin.at_ h0
    obtain rfl := Option.some.inj (hq.symm.trans ha)
    have := ltOfCell (hcell 0 h0)
    rwa [addBlock] at this))).mono ?_
  rintro e w' ⟨rfl, w2, ⟨hR, r, h1, h2⟩, hT⟩
  exact ⟨rfl, hR.then hT.2.2.2.2 (fun i hi h => by omega), r, h1.keep hT.2.2.2.2 (by omega), h2⟩

set_option maxHeartbeats 2000000 in
set_option maxRecDepth 10000 in
theorem elget_own (p : Option Addr) (N c : Nat) (xs : List Int) (w : World) (h : In8 w p N c xs) (hN : N ≤ 500000) :
    Calls Try.prog 15 #[.slice p N c] w fun e w' => e = .returned (.tuple #[prV (getP xs).p, .int .i64 ((getP xs).n : Int), .int .i64 (getP xs).e]) ∧ Keeps NoBlock w w' := by
  have hmf : ∀ (fn : Fn) (first cap : Array Value) (w : World), (Instr.makeFunc fn first cap).run Try.prog w = .ok (.func fn first cap) w := fun _ _ _ _ => rfl
  have hk0 : Keeps NoBlock w ((w.alloc (.cells #[.slice p N c] 25)).alloc (.cells (prCells Pr.none) 30)) := ((Keeps.refl NoBlock w).alloc _).alloc _
  have hB : Whole ((w.alloc (.cells #[.slice p N c] 25)).alloc (.cells (prCells Pr.none) 30)) w.heap.size 25 #[.slice p N c] := (Whole.new w _ _).alloc _
  have hD : Whole ((w.alloc (.cells #[.slice p N c] 25)).alloc (.cells (prCells Pr.none) 30)) (w.heap.size + 1) 30 (prCells Pr.none) := Whole.newAt (w.alloc _) _ _ _ (by simp)
  have hrun := run_elIn _ w.heap.size (w.heap.size + 1) p xs N c ⟨h.len, h.cap, h.room, h.bare, h.oct, h.at_.keep hk0 (fun _ _ h => h)⟩ hN hB hD
  rw [prRead_out h.oct]
  obtain ⟨t, ht⟩ : ∃ t, t = prRead xs := ⟨_, rfl⟩
  rw [← ht] at hrun ⊢
  have HRn := Lib.hid hrun
  have HK0 := Lib.hid hk0
  clear hrun hk0 hB hD ht h
  obtain ⟨y, a, q⟩ := t
  unfold prGot
  simp only at HRn ⊢
  by_cases hy : y = 0
  · subst hy
    rw [if_pos rfl]
    go_enter Try.func15, Try.ntmps15
    go_wp2_with fail
    refine HRn.out.mono ?_
    rintro e w1 ⟨rfl, hk, r, hD, hr⟩
    obtain rfl : r = q := hr rfl
    have HK := Lib.hid (HK0.out.then hk (fun i hi h => by unfold Just at h; omega))
    have d0 := hD.cell 0 rfl
    have d1 := hD.cell 1 rfl
    have f0 := hD.free 0
    have f1 := hD.free 1
    simp only [prCells, List.getElem_toArray, List.getElem_cons_zero, List.getElem_cons_succ] at d0 d1
    have HD := Lib.hid hD
    clear hk hD HRn hr
    go_wp2_with fail
    have g := (HD.out.set 0 (.string (strOfNums r.key))).set 1 (.string (strOfNums r.val))
    exact bodyPost_ret (v := .tuple #[prV r, .int .i64 (a : Int), .int .i64 0]) (by simp [results, Try.results15, go_sem, prV, d0, d1]) rfl ⟨rfl, (HK.out.setNew (by omega) 0 _).setNew (by omega) 1 _⟩
  · rw [if_neg hy]
    have hne : (y != 0) = true := by rw [bne_iff_ne]; exact hy
    go_enter Try.func15, Try.ntmps15
    go_wp2_with fail
    refine HRn.out.mono ?_
    rintro e w1 ⟨rfl, hk, r, hD, hr⟩
    have HK := Lib.hid (HK0.out.then hk (fun i hi h => by unfold Just at h; omega))
    have d0 := hD.cell 0 rfl
    have d1 := hD.cell 1 rfl
    have f0 := hD.free 0
    have f1 := hD.free 1
    simp only [prCells, List.getElem_toArray, List.getElem_cons_zero, List.getElem_cons_succ] at d0 d1
    have HD := Lib.hid hD
    clear hk hD HRn hr
    go_wp2_with fail
    exact bodyPost_ret (v := .tuple #[prV Pr.none, .int .i64 0, .int .i64 y]) (by simp [results, Try.results15, go_sem, prV, Pr.none, d0, d1]; try rfl) rfl ⟨rfl, (HK.out.setNew (by omega) 0 _).setNew (by omega) 1 _⟩
end Go.Proofs.Ytdkpkpmgiglnhaa

namespace Go.Proofs.Ytdkpkpmgiglnhaa
open Go.RowKit

theorem infoPrOwn : (Try.prog.info? 30).map (fun i => (i.zero, i.size, i.bytes)) = some (some (.agg #[.string ⟨#[]⟩, .string ⟨#[]⟩]), 2, 32) := by kernel_rfl

/-- What stands behind the pairs so far. -/
structure AllMine (xs : List Int) (w0 : World) (l : List Pr) (a : Nat) (v : Value) (wr : World) : Prop where
  row : PrsSoFar 30 w0 l v wr
  le : a ≤ xs.length
  few : l.length ≤ a
  all : allP xs = ⟨l ++ (allP (xs.drop a)).l, a + (allP (xs.drop a)).n, (allP (xs.drop a)).e⟩
theorem AllMine.next {xs : List Int} {w0 wr w2 : World} {l : List Pr} {a : Nat} {v v2 : Value} (h : AllMine xs w0 l a v wr) (ho : Octets xs) (hlt : a < xs.length) (he : (getP (xs.drop a)).e = 0) (hr : PrsSoFar 30 w0 (l ++ [(getP (xs.drop a)).p]) v2 w2) : AllMine xs w0 (l ++ [(getP (xs.drop a)).p]) (a + (getP (xs.drop a)).n) v2 w2 ∧ 0 < (getP (xs.drop a)).n ∧ a + (getP (xs.drop a)).n ≤ xs.length := by
  obtain ⟨h1, h2, h3, _, _⟩ := getP_only (ho.drop a) he
  rw [List.length_drop] at h2
  have hne : ¬ xs.drop a = [] := fun e => by
    have := congrArg List.length e
    rw [List.length_drop, List.length_nil] at this
    omega
  have hall : allP (xs.drop a) = ⟨(getP (xs.drop a)).p :: (allP (xs.drop (a + (getP (xs.drop a)).n))).l, (getP (xs.drop a)).n + (allP (xs.drop (a + (getP (xs.drop a)).n))).n, (allP (xs.drop (a + (getP (xs.drop a)).n))).e⟩ := by
    conv => lhs; unfold allP
    rw [if_neg hne, dif_pos ⟨he, by omega, by rw [List.length_drop]; omega⟩, List.drop_drop]
  have := h.few
  refine ⟨⟨hr, by omega, by rw [List.length_append]; simp; omega, ?_⟩, by omega, by omega⟩
  rw [h.all, hall]
  simp only [List.append_assoc, List.singleton_append, Nat.add_assoc]
theorem AllMine.stop {xs : List Int} {w0 wr : World} {l : List Pr} {a : Nat} {v : Value} (h : AllMine xs w0 l a v wr) (hlt : a < xs.length) (he : (getP (xs.drop a)).e ≠ 0) : allP xs = ⟨l, a, (getP (xs.drop a)).e⟩ := by
  have hne : ¬ xs.drop a = [] := fun e => by
    have := congrArg List.length e
    rw [List.length_drop, List.length_nil] at this
    omega
  have hall : allP (xs.drop a) = ⟨[], 0, (getP (xs.drop a)).e⟩ := by
    conv => lhs; unfold allP
    rw [if_neg hne, dif_neg (fun hh => he hh.1)]
  rw [h.all, hall, List.append_nil, Nat.add_zero]
theorem AllMine.done {xs : List Int} {w0 wr : World} {l : List Pr} {a : Nat} {v : Value} (h : AllMine xs w0 l a v wr) (hlt : ¬ a < xs.length) : allP xs = ⟨l, a, 0⟩ := by
  have hd : xs.drop a = [] := List.drop_eq_nil_of_le (by omega)
  rw [h.all, hd, allP_nil, List.append_nil, Nat.add_zero]

set_option maxHeartbeats 8000000 in
set_option maxRecDepth 10000 in
theorem elgetall_own (p : Option Addr) (N c : Nat) (xs : List Int) (w : World) (h : In8 w p N c xs) (hN : N ≤ 500000) :
    Calls Try.prog 11 #[.slice p N c] w (AllOk (allP xs) w) := by
  obtain ⟨i0, hi, hz0, hz1, hz2⟩ := info_parts infoPrOwn
  obtain ⟨hl, hcap, hroom, hbare, ho, hb⟩ := h
  have HL := Lib.hid hl
  have HO := Lib.hid ho
  have HB := Lib.hid hb
  clear hl ho hb hbare
  go_enter Try.func11, Try.ntmps11
  go_wp2_with fail
  go_loopw [2, 3] (fun v i wr => ∃ (l : List Pr) (a : Nat), a ≤ N ∧ i = .int .i64 (a : Int) ∧ Hid (AllMine xs w l a v wr)) (fun _ i _ => N - (intOf i).toNat)
  case atStart => exact ⟨[], 0, Nat.zero_le _, rfl, Lib.hid ⟨⟨World.ownsRow_nil _ _ _ _, Below.refl _ _⟩, Nat.zero_le _, Nat.zero_le _, by simp⟩⟩
  case round =>
    obtain ⟨l, a, haL, rfl, HS⟩ := hrel
    by_cases hlt : a < N
    · have hd1 : decide (a < N) = true := decide_eq_true hlt
      have hca : ¬ c = a := by omega
      have hlx : a < xs.length := by rw [← HL.out]; exact hlt
      obtain ⟨ad, rfl, hcell⟩ := HB.out (by omega)
      have HG := Lib.hid (fun W m d (h8 : Bytes8 W (some ad) xs) (hm : m = N - a) (hd : m ≤ d) (hd' : d ≤ 9223372036854775807) => elget_own (some (ad.add a)) m d (xs.drop a) W ⟨by rw [List.length_drop, ← HL.out]; exact hm, hd, hd', fun h => by simp at h, HO.out.drop a, by
        have := h8.piece (q := some (ad.add a)) a (xs.length - a) (by omega) (fun _ => rfl)
        rwa [List.take_of_length_le (by rw [List.length_drop]; omega)] at this⟩ (by omega))
      have HNx := Lib.hid (fun (he : (getP (xs.drop a)).e = 0) v2 w2 hr => HS.out.next (v2 := v2) (w2 := w2) HO.out hlx he hr)
      have HSt := Lib.hid (fun (he : (getP (xs.drop a)).e ≠ 0) => HS.out.stop hlx he)
      have hfew : l.length ≤ 10000000 := by have := HS.out.few; omega
      obtain ⟨g, hg⟩ : ∃ g, g = getP (xs.drop a) := ⟨_, rfl⟩
      rw [← hg] at HG HNx HSt
      clear hg hlx hcell
      unfold prV at HG
      go_wp2_with fail
      refine (HG.out _ _ _ (HB.out.keep (Keeps.ofBelow (S := NoBlock) HS.out.row.2) (fun _ _ h => h)) (by first | rfl | omega) (by omega) (by omega)).mono ?_
      rintro e w2 ⟨rfl, hk⟩
      have HOw := Lib.hid (own_keep HS.out.row.1 hk (fun _ _ h => h))
      have HBw := Lib.hid (HS.out.row.2.trans (hk.below HS.out.row.2.size (fun _ _ h => h)))
      clear hk
      by_cases he : g.e = 0
      · have hgb : (g.e != 0) = false := by rw [he]; rfl
        have HNx2 := Lib.hid (HNx.out he)
        clear HNx HSt
        have HW : Hid (Whole ((w2.alloc (.cells #[.string (strOfNums g.p.key), .string (strOfNums g.p.val)] 30)).alloc (.cells #[.string (strOfNums g.p.key), .string (strOfNums g.p.val)] 30)) (w2.heap.size + 1) 30 (prCells g.p)) := Lib.hid (Whole.newAt _ _ (prCells g.p) _ (by simp))
        have HO2 := Lib.hid ((HOw.out.alloc (.cells #[.string (strOfNums g.p.key), .string (strOfNums g.p.val)] 30)).alloc (.cells #[.string (strOfNums g.p.key), .string (strOfNums g.p.val)] 30))
        have HB2 := Lib.hid ((HBw.out.alloc HBw.out.size (.cells #[.string (strOfNums g.p.key), .string (strOfNums g.p.val)] 30)).alloc (by have := HBw.out.size; simp; omega) (.cells #[.string (strOfNums g.p.key), .string (strOfNums g.p.val)] 30))
        clear he
        go_wp2_with (at_builtin; refine wpList_append_own _ rfl _ _ 22 rfl w.heap.size 30 i0 (.agg #[.string ⟨#[]⟩, .string ⟨#[]⟩]) 2 32 Try.underlying22 hi hz0 hz1 hz2 rfl (by decide) _ _ _ rfl HO2.out ⟨w2.heap.size + 1, 0, none⟩ 1 1 (prTwo g.p) rfl ?qc1 ?qc2 ?qc3 ?qc4 ?qc5 ?qc6 ?_)
        case qc1 => rfl
        case qc2 =>
          intro j' u hu
          obtain ⟨d0, d1⟩ := PrAt.ofWhole HW.out
          rw [Addr.add_lit, Nat.zero_add]
          match j', hu with
          | 0, hu => obtain rfl := Option.some.inj hu; exact d0
          | 1, hu => obtain rfl := Option.some.inj hu; exact d1
          | k + 2, hu => simp [prTwo] at hu
        case qc3 =>
          intro u hu
          simp only [prTwo, List.mem_cons, List.not_mem_nil, or_false] at hu
          rcases hu with rfl | rfl <;> rfl
        case qc4 =>
          unfold maxLen
          omega
        case qc5 => omega
        case qc6 => exact HB2.out.size
        intro v' w5 hown hgrow _
        obtain ⟨h1, h2, h3⟩ := HNx2.out v' w5 ⟨by rw [prFlat_append, List.length_append]; simpa [prFlat] using hown, HB2.out.grown hgrow HB2.out.size (fun k hk => (HO2.out.lt k hk).1)⟩
        have HS2 := Lib.hid h1
        rw [← HL.out] at h3
        clear hown hgrow h1
        go_wp2_with fail
        exact ⟨⟨_, a + g.n, h3, by go_num, HS2⟩, by simp [intOf]; omega⟩
      · have hgb : (g.e != 0) = true := by rw [bne_iff_ne]; exact he
        have HSt2 := Lib.hid (HSt.out he)
        have HRow : Hid (NewPrs w l _ _) := Lib.hid (PrsSoFar.new (t := 30) ⟨HOw.out.alloc (.cells #[.string (strOfNums g.p.key), .string (strOfNums g.p.val)] 30), HBw.out.alloc HBw.out.size (.cells #[.string (strOfNums g.p.key), .string (strOfNums g.p.val)] 30)⟩)
        clear HNx HSt he
        go_wp2_with fail
        exact bodyPost_ret (v := .tuple #[_, .int .i64 (a : Int), .int .i64 g.e]) (by simp [results, Try.results11, go_sem]; rfl) rfl (by unfold AllOk; rw [HSt2.out]; exact ⟨_, rfl, HRow.out⟩)
    · have hd1 : decide (a < N) = false := decide_eq_false hlt
      have HD := Lib.hid (HS.out.done (by rw [← HL.out]; exact hlt))
      have HRow := Lib.hid (PrsSoFar.new HS.out.row)
      clear hlt
      go_wp2_with fail
      exact bodyPost_ret (v := .tuple #[_, .int .i64 (a : Int), .int .i64 0]) (by simp [results, Try.results11, go_sem]; rfl) rfl (by unfold AllOk; rw [HD.out]; exact ⟨_, rfl, HRow.out⟩)
end Go.Proofs.Ytdkpkpmgiglnhaa

namespace Go.Proofs.Ytdkpkpmgiglnhaa
open Go.RowKit

/-- A Buffer in block g, whose bytes lie in a block from base on, ahead of top. -/
def BufU (w : World) (base g top : Nat) (xs : List Int) : Prop :=
  ∃ v, Whole w g 52 #[v] ∧ w.ownsRow base 5 1 v xs.length (xs.map (Value.int .u8)) ∧ (∀ k, v.ownBlock = some k → k < top) ∧ g < top
theorem BufU.at_ {w : World} {base g top : Nat} {xs : List Int} (h : BufU w base g top xs) : BufAt w base g xs := by
  obtain ⟨v, h1, h2, _⟩ := h
  exact ⟨v, h1, h2⟩
theorem BufAt.top {w : World} {base g : Nat} {xs : List Int} (h : BufAt w base g xs) : BufU w base g w.heap.size xs := by
  obtain ⟨v, h1, h2⟩ := h
  refine ⟨v, h1, h2, fun k hk => ?_, h1.lt⟩
  rcases h2 with ⟨_, ⟨rfl, _⟩ | ⟨j, cap, cur, rfl, _, hh, _⟩⟩
  · simp [Value.ownBlock] at hk
  · obtain rfl : j = k := by simpa [Value.ownBlock] using hk
    exact Whole.lt (show Whole w j 5 cur from hh)
theorem BufU.keep {w w' : World} {base g top : Nat} {xs : List Int} (h : BufU w base g top xs) (hk : Keeps NoBlock w w') : BufU w' base g top xs := by
  obtain ⟨v, h1, h2, h3⟩ := h
  refine ⟨v, h1.keep hk (fun h => h), ⟨h2.1, ?_⟩, h3⟩
  rcases h2.2 with hn | ⟨j, cap, cur, rfl, hb, hh, r⟩
  · exact .inl hn
  · exact .inr ⟨j, cap, cur, rfl, hb, Whole.keep (show Whole w j 5 cur from hh) hk (fun h => h), r⟩

set_option maxHeartbeats 800000 in
theorem bufRawU (base g top : Nat) (xs ys : List Int) (a : Addr) (N c : Nat) (w : World) (h : BufU w base g top xs) (hN : N = ys.length) (hy : Bytes8 w (some a) ys) (hs : base ≤ w.heap.size) (hb : base ≤ g) (hx : xs.length + ys.length ≤ 140737488355328) :
    Calls Try.prog 21 #[.pointer (some ⟨g, 0, none⟩), .slice (some a) N c] w fun e w' => e = .returned (.pointer (some ⟨g, 0, none⟩)) ∧ BufAt w' base g (xs ++ ys) ∧ Keeps (fun k => base ≤ k ∧ k < top) w w' := by
  obtain ⟨v, hg, hown, htop, hgt⟩ := h
  obtain ⟨i0, hi, hz0, hz1, hz2⟩ := info_parts infoByte
  have hgw := hg.lt
  have c0 := hg.cell 0 rfl
  simp only [List.getElem_toArray, List.getElem_cons_zero] at c0
  have hne := ownBlock_ne hown hg
  have HG := Lib.hid hg; have HO := Lib.hid hown; have HN := Lib.hid hne; have HX := Lib.hid hx; have HY := Lib.hid hy; have HL := Lib.hid hN; have HT := Lib.hid htop
  clear hg hown hne hx hy hN htop
  go_enter Try.func21, Try.ntmps21
  go_wp2_with (at_builtin; refine wpList_append_own _ rfl _ _ 25 rfl base 5 i0 (.int .u8 0) 1 1 Try.underlying25 hi hz0 hz1 hz2 rfl (by decide) _ _ _ rfl HO.out a N c (ys.map (Value.int .u8)) rfl ?qc1 ?qc2 ?qc3 ?qc4 ?qc5 ?qc6 ?_)
  case qc1 => have := HL.out; simp; omega
  case qc2 =>
    intro j u hj
    have hjn : j < ys.length := by
      have := (List.getElem?_eq_some_iff.1 hj).1
      simpa using this
    obtain ⟨a', ha', hcell⟩ := HY.out (by omega)
    obtain rfl := Option.some.inj ha'
    rw [hcell j hjn]
    have e : (ys.map (Value.int .u8))[j]? = some (Value.int .u8 (ys.getD j 0)) := by simp [List.getElem?_eq_getElem hjn]
    rw [e] at hj
    exact hj
  case qc3 => intro u hu; obtain ⟨x, _, rfl⟩ := List.mem_map.1 hu; rfl
  case qc4 => have := HX.out; have := HL.out; unfold maxLen; omega
  case qc5 => have := HX.out; have := HL.out; omega
  case qc6 => exact hs
  intro v' w1 hown hgrow _
  obtain ⟨p', c', hv'⟩ := own_slice hown
  have hg1 := Whole.grown HG.out hgrow HN.out
  have d0 := hg1.cell 0 rfl
  simp only [List.getElem_toArray, List.getElem_cons_zero] at d0
  have f0 := hg1.free 0
  have hne' := ownBlock_ne hown hg1
  have HB := Lib.hid (show BufAt (w1.setCell ⟨g, 0, none⟩ v') base g (xs ++ ys) from ⟨v', hg1.set 0 v', by have e : xs.length + N = (xs ++ ys).length := by simp [HL.out]
                                                                                                           have := ownsRow_setCell_other hown (a := ⟨g, 0, none⟩) hne' v'
                                                                                                           rw [e] at this
                                                                                                           simpa using this⟩)
  have HL := Lib.hid (((Keeps.refl (fun k => base ≤ k ∧ k < top) w).grown hgrow (fun k hk => .inl ⟨own_base HO.out hk, HT.out k hk⟩)).setIn (g := g) ⟨hb, hgt⟩ 0 v')
  clear hown hgrow hg1 hne' c0
  subst hv'
  go_wp2_with fail
  go_ret
  exact ⟨rfl, HB.out, HL.out⟩
end Go.Proofs.Ytdkpkpmgiglnhaa

namespace Go.Proofs.Ytdkpkpmgiglnhaa
open Go.RowKit

theorem Keeps.onBufE {B g : Nat} {a b : World} (h : Keeps (OnBuf B g) a b) (hB : B ≤ g) : Keeps (fun k => B ≤ k) a b := h.wider (fun k _ hk => by rcases hk with rfl | hk <;> omega)

set_option maxHeartbeats 8000000 in
set_option maxRecDepth 10000 in
theorem elput_own (p : Pr) (w : World) (hp : p.Small) : Calls Try.prog 12 #[prV p] w fun e w' => ∃ v, e = .returned (.tuple #[v, .int .i64 (checkP p)]) ∧ NewBytes w (putP p) v w' := by
  obtain ⟨⟨fk, fv⟩, lk, lv⟩ := hp
  have HCk := Lib.hid (fun w => elcheck_own p (by omega) (by omega) w)
  unfold putP
  by_cases hc : checkP p = 0
  · rw [hc] at HCk ⊢
    rw [if_pos rfl]
    have htl := textP_length p
    have HR0 := Lib.hid (Whole.new w 30 (prCells p))
    have HK0 := Lib.hid ((Keeps.refl NoBlock w).alloc (.cells (prCells p) 30))
    obtain ⟨key, val⟩ := p
    simp only at fk fv lk lv htl
    have hho := headP_octets (p := ⟨key, val⟩) ⟨fk, fv⟩
    have hgd : headP ⟨key, val⟩ = ([] ++ digits (key.length : Int) 4 ++ digits (val.length : Int) 4) ++ key ++ val := by simp [headP]
    have htd : textP ⟨key, val⟩ = headP ⟨key, val⟩ ++ digits (xxh 0 (headP ⟨key, val⟩)) 4 := rfl
    have hhl := headP_length ⟨key, val⟩
    simp only at hhl
    obtain ⟨u0, u1⟩ := xxh_u32E (headP ⟨key, val⟩)
    have hzk := str_size key
    have hzv := str_size val
    have hcvk := run_str_bytes key
    have hcvv := run_str_bytes val
    have HOk := Lib.hid fk
    have HOv := Lib.hid fv
    obtain ⟨G, hG⟩ : ∃ G, G = headP ⟨key, val⟩ := ⟨_, rfl⟩
    rw [← hG] at hho hgd htd u0 u1 hhl
    obtain ⟨T, hT⟩ : ∃ T, T = textP ⟨key, val⟩ := ⟨_, rfl⟩
    rw [← hT] at htd htl ⊢
    obtain ⟨z, hz⟩ : ∃ z, z = xxh 0 G := ⟨_, rfl⟩
    have HSm := Lib.hid (fun q d W (hd : G.length ≤ d) (hd' : d ≤ 9223372036854775807) (h8 : Bytes8 W q G) => sum_thin 0 (by constructor <;> decide) q G.length d G rfl hd hd' hho W h8)
    rw [← hz] at htd u0 u1 HSm
    obtain ⟨X, hX⟩ : ∃ X, X = [] ++ digits (key.length : Int) 4 ++ digits (val.length : Int) 4 := ⟨_, rfl⟩
    have hxl : X.length = 8 := by rw [hX]; simp [digits_length]
    have HF1 := Lib.hid (fun g W hb hs => bufFourK g g [] (key.length : Int) W hb hs (by simp) (by omega) (by omega))
    have HF2 := Lib.hid (fun g W hb hs => bufFourK g g ([] ++ digits (key.length : Int) 4) (val.length : Int) W hb hs (by simp [digits_length]) (by omega) (by omega))
    rw [← hX] at hgd HF2
    have HRk := Lib.hid (fun g top a c W hb hy hs => bufRawU g g top X key a key.length c W hb rfl hy hs (Nat.le_refl _) (by omega))
    have HRv := Lib.hid (fun g top a c W hb hy hs => bufRawU g g top (X ++ key) val a val.length c W hb rfl hy hs (Nat.le_refl _) (by rw [List.length_append]; omega))
    have HF3 := Lib.hid (fun g W hb hs => bufFourK g g G z W hb hs (by omega) u0 u1)
    have HBy := Lib.hid (fun g top W (hb : BufU W g g top G) => bufBytes g g G W hb.at_ (by omega))
    have HBt := Lib.hid (fun g W hb => bufBytes g g T W hb (by omega))
    rw [← htd] at HF3
    have HG := Lib.hid hgd
    have HT := Lib.hid htd
    have HT0 := Lib.hid (show 0 < T.length by omega)
    obtain ⟨L, hL⟩ : ∃ L, L = T.length := ⟨_, rfl⟩
    rw [← hL] at HBt
    have HL := Lib.hid hL
    obtain ⟨M, hM⟩ : ∃ M, M = G.length := ⟨_, rfl⟩
    rw [← hM] at HBy HSm
    obtain ⟨Lk, hLk⟩ : ∃ Lk, Lk = key.length := ⟨_, rfl⟩
    rw [← hLk] at hzk hcvk HF1 HF2 HRk lk
    obtain ⟨Lv, hLv⟩ : ∃ Lv, Lv = val.length := ⟨_, rfl⟩
    rw [← hLv] at hzv hcvv HF2 HRv lv
    have w1 : IntKind.u32.wrap (Lk : Int) = (Lk : Int) := by rw [IntKind.wrap_u32]; omega
    have w2 : IntKind.u32.wrap (Lv : Int) = (Lv : Int) := by rw [IntKind.wrap_u32]; omega
    have HX : Hid (X = [] ++ digits (Lk : Int) 4 ++ digits (Lv : Int) 4) := Lib.hid (by rw [hLk, hLv]; exact hX)
    clear hX hxl hc htl hho hgd htd hhl u0 u1 fk fv hG hT hz hL hM hLk hLv
    unfold prV prCells at *
    simp only at HR0 HK0 HCk ⊢
    go_enter Try.func12, Try.ntmps12
    go_wp2_with fail
    refine (HCk.out _).mono ?_
    rintro e w1 ⟨rfl, hk⟩
    have hN := HR0.out.keep hk (fun h => h)
    have HK := Lib.hid (HK0.out.trans hk)
    have HSz := Lib.hid (show w.heap.size + 1 ≤ w1.heap.size by have := hk.size; simpa using this)
    obtain ⟨W, hW⟩ : ∃ W, W = w1.alloc (.cells #[.slice none 0 0] 52) := ⟨_, rfl⟩
    have HB : Hid (BufAt W w1.heap.size w1.heap.size []) := Lib.hid (by rw [hW]; exact bufNewB w1 w1.heap.size)
    have HR : Hid (Whole W w.heap.size 30 #[.string (strOfNums key), .string (strOfNums val)]) := Lib.hid (by rw [hW]; exact hN.alloc _)
    have HQ : Hid (Keeps (fun i => w1.heap.size ≤ i) w1 W) := Lib.hid (by rw [hW]; exact (Keeps.refl _ w1).alloc _)
    have HF1 := Lib.hid (HF1.out w1.heap.size)
    have HF2 := Lib.hid (HF2.out w1.heap.size)
    have HF3 := Lib.hid (HF3.out w1.heap.size)
    have HRk := Lib.hid (HRk.out w1.heap.size)
    have HRv := Lib.hid (HRv.out w1.heap.size)
    have HBy := Lib.hid (HBy.out w1.heap.size)
    have HBt := Lib.hid (HBt.out w1.heap.size)
    clear hk hN HCk HR0 HK0
    go_upto_region 5 with (fail)
    rw [← hW]
    clear hW
    go_wp2_with fail
    have HT5 : Hid (W.drew.heap.size = W.heap.size) := Lib.hid rfl
    have s0 := And.intro (HR.out.drewN 1 |>.cell 0 rfl) (HR.out.drewN 1 |>.cell 1 rfl)
    have sN := And.intro (HR.out.cell 0 rfl) (HR.out.cell 1 rfl)
    simp only [List.getElem_toArray, List.getElem_cons_zero, List.getElem_cons_succ] at s0 sN
    go_region_held3 (fun w' => w'.cell? ⟨w.heap.size, 0, none⟩ = some (.string (strOfNums key)) ∧ w'.cell? ⟨w.heap.size, 1, none⟩ = some (.string (strOfNums val)))
      (first | exact s5 | exact s0 | exact sN)
      (first | (go_at_call 20; (first | (refine (HF1.out _ (by exact HB.out) (by have := HQ.out.size; first | exact this | omega)).mono ?_) | (refine (HF2.out _ (by exact HB.out) (by have := HQ.out.size; first | exact this | omega)).mono ?_)); rintro e w5 ⟨rfl, hb, hk⟩; have hk' : Keeps (fun i => w1.heap.size ≤ i) W w5 := (by first | exact hk.onBufE (Nat.le_refl _) | exact (hk.onBufE (Nat.le_refl _)).ofDrew | exact (hk.onBufE (Nat.le_refl _)).ofDrewN); have HB := Lib.hid hb; have HQ := Lib.hid (HQ.out.trans hk'); have HR := Lib.hid (HR.out.keep hk' (by have := HSz.out; omega)); have s5 := And.intro (HR.out.cell 0 rfl) (HR.out.cell 1 rfl); simp only [List.getElem_toArray, List.getElem_cons_zero, List.getElem_cons_succ] at s5; clear hb hk hk'; obtain ⟨W, rfl⟩ : ∃ x, x = w5 := ⟨_, rfl⟩))
    have HB0 : Hid (BufAt W w1.heap.size w1.heap.size X) := HB
    have HQ0 := HQ
    have HR0 := HR
    clear HB HQ HR s0 sN s5 HF1 HF2 HT5
    go_wp2_with fail
    have HB : Hid (BufU W.drew w1.heap.size w1.heap.size W.heap.size X) := Lib.hid (BufAt.top HB0.out)
    have HQ : Hid (Keeps (fun i => w1.heap.size ≤ i) w1 W.drew) := Lib.hid HQ0.out.drew
    have HR : Hid (Whole W.drew w.heap.size 30 #[.string (strOfNums key), .string (strOfNums val)]) := Lib.hid (HR0.out.drewN 1)
    clear HB0 HQ0 HR0
    have HQ0 : Hid (W.heap.size ≤ W.heap.size) := Lib.hid (Nat.le_refl _)
    have s0 := And.intro (HR.out.cell 0 rfl) (HR.out.cell 1 rfl)
    simp only [List.getElem_toArray, List.getElem_cons_zero, List.getElem_cons_succ] at s0
    refine wp_region_held_drew (S := fun w' => w'.cell? ⟨w.heap.size, 0, none⟩ = some (.string (strOfNums key)) ∧ w'.cell? ⟨w.heap.size, 1, none⟩ = some (.string (strOfNums val))) (by kernel_rfl) s0 (fun hHeld => ?_)
    refine wpAnyH_take (i := 0) (v := ?vT1) rfl ?aT1 ?bT1 ?cT1 ?dT1 (Or.inl ⟨?eT1, ?fT1⟩) hHeld ?gT1
    case fT1 => intro w hSw; (try dsimp only at hSw); go_simp; (try with_reducible rfl)
    case aT1 => kernel_rfl
    case bT1 => kernel_rfl
    case cT1 => kernel_rfl
    case dT1 => exact fun _ _ _ h => h
    case eT1 => rfl
    simp only [Act.put, List.getElem_toArray, List.getElem_cons_zero, List.setIfInBounds_toArray, List.set_cons_zero, List.set_cons_succ]
    refine wpAnyH_take (i := 1) (v := ?vT2) rfl ?aT2 ?bT2 ?cT2 ?dT2 (Or.inl ⟨?eT2, ?fT2⟩) hHeld ?gT2
    case fT2 => intro w hSw; (try dsimp only at hSw); go_simp; (try with_reducible rfl)
    case aT2 => kernel_rfl
    case bT2 => kernel_rfl
    case cT2 => kernel_rfl
    case dT2 => exact fun _ _ _ h => h
    case eT2 => rfl
    simp only [Act.put, List.getElem_toArray, List.getElem_cons_zero, List.getElem_cons_succ, List.setIfInBounds_toArray, List.set_cons_zero, List.set_cons_succ]
    refine wpAnyH_take (i := 4) (v := ?vT3) rfl ?aT3 ?bT3 ?cT3 ?dT3 (Or.inl ⟨?eT3, ?fT3⟩) hHeld ?gT3
    case fT3 => intro w hSw; (try dsimp only at hSw); go_simp; (try with_reducible rfl)
    case aT3 => kernel_rfl
    case bT3 => kernel_rfl
    case cT3 => kernel_rfl
    case dT3 => exact fun _ _ _ h => h
    case eT3 => rfl
    simp only [Act.put, List.getElem_toArray, List.getElem_cons_zero, List.getElem_cons_succ, List.setIfInBounds_toArray, List.set_cons_zero, List.set_cons_succ]
    refine wpAnyH_take (i := 5) (v := ?vT4) rfl ?aT4 ?bT4 ?cT4 ?dT4 (Or.inl ⟨?eT4, ?fT4⟩) hHeld ?gT4
    case fT4 => intro w hSw; (try dsimp only at hSw); go_simp; (try with_reducible rfl)
    case aT4 => kernel_rfl
    case bT4 => kernel_rfl
    case cT4 => kernel_rfl
    case dT4 => exact fun _ _ _ h => h
    case eT4 => rfl
    simp only [Act.put, List.getElem_toArray, List.getElem_cons_zero, List.getElem_cons_succ, List.setIfInBounds_toArray, List.set_cons_zero, List.set_cons_succ]
    refine wpAnyH_ready (rs := [2, 6]) (by kernel_rfl) (by simp) ?_
    refine (AllReadyH.cons (o := _) rfl (fun K hK => ?_) (AllReadyH.cons (o := _) rfl (fun K hK => ?_) AllReadyH.nil))
    · go_simp
      have hkb : Keeps NoBlock W.drew (Lib.bytesWorld W.drew 5 (strOfNums key)) := bytesWorld_keeps NoBlock _ _ _
      have HB := Lib.hid (HB.out.keep hkb)
      have HQ := Lib.hid (HQ.out.trans (hkb.wider (fun _ _ h => h.elim)))
      have HR := Lib.hid (HR.out.keep hkb (fun h => h))
      have HYk : Hid (Bytes8 (Lib.bytesWorld W.drew 5 (strOfNums key)) (some ⟨W.heap.size, 0, none⟩) key) := Lib.hid (bytesWorld_bytes W.drew _ key HOk.out)
      have HYkg : Hid (W.heap.size ≤ W.heap.size) := Lib.hid (by have := HQ0.out; have := hkb.size; simp only [Lib.bytesWorld_size, World.drew] at *; omega)
      have hS : (fun w' => w'.cell? ⟨w.heap.size, 0, none⟩ = some (.string (strOfNums key)) ∧ w'.cell? ⟨w.heap.size, 1, none⟩ = some (.string (strOfNums val))) (Lib.bytesWorld W.drew 5 (strOfNums key)) := And.intro (HR.out.cell 0 rfl) (HR.out.cell 1 rfl)
      clear hkb
      refine hK.out _ _ hS (fun _ => ?_)
      clear hK K
      refine wpAnyH_ready (rs := [3, 6]) (by kernel_rfl) (by simp) ?_
      refine (AllReadyH.cons (o := _) rfl (fun K hK => ?_) (AllReadyH.cons (o := _) rfl (fun K hK => ?_) AllReadyH.nil))
      · go_simp
        refine (HRk.out _ _ _ _ (by exact HB.out) (by exact HYk.out) (by exact HQ.out.size)).mono ?_
        rintro e w21 ⟨rfl, hb, hk⟩
        have hk' : Keeps (fun k => w1.heap.size ≤ k ∧ k < W.heap.size) (Lib.bytesWorld W.drew 5 (strOfNums key)) w21 := by first | exact hk | exact hk.ofDrew | exact hk.ofDrewN
        have HB := Lib.hid (BufAt.top hb)
        have HR := Lib.hid (HR.out.keep hk' (by have := HSz.out; omega))
        have HQ := Lib.hid (HQ.out.trans (hk'.wider (fun _ _ h => h.1)))
        have hS : (fun w' => w'.cell? ⟨w.heap.size, 0, none⟩ = some (.string (strOfNums key)) ∧ w'.cell? ⟨w.heap.size, 1, none⟩ = some (.string (strOfNums val))) w21 := And.intro (HR.out.cell 0 rfl) (HR.out.cell 1 rfl)
        clear hb hk hk'
        go_wp2_with fail
        refine hK.out _ _ hS (fun _ => ?_)
        clear hK K
        refine wpAnyH_ready (rs := [6]) (by kernel_rfl) (by simp) ?_
        refine (AllReadyH.cons (o := _) rfl (fun K hK => ?_) AllReadyH.nil)
        go_simp
        have hkb : Keeps NoBlock w21 (Lib.bytesWorld w21 5 (strOfNums val)) := bytesWorld_keeps NoBlock _ _ _
        have HB := Lib.hid (HB.out.keep hkb)
        have HQ := Lib.hid (HQ.out.trans (hkb.wider (fun _ _ h => h.elim)))
        have HR := Lib.hid (HR.out.keep hkb (fun h => h))
        have HYv : Hid (Bytes8 (Lib.bytesWorld w21 5 (strOfNums val)) (some ⟨w21.heap.size, 0, none⟩) val) := Lib.hid (bytesWorld_bytes w21 _ val HOv.out)
        have HYvg : Hid (w21.heap.size ≤ w21.heap.size) := Lib.hid (by have := HQ0.out; have := hkb.size; simp only [Lib.bytesWorld_size, World.drew] at *; omega)
        have hS : (fun w' => w'.cell? ⟨w.heap.size, 0, none⟩ = some (.string (strOfNums key)) ∧ w'.cell? ⟨w.heap.size, 1, none⟩ = some (.string (strOfNums val))) (Lib.bytesWorld w21 5 (strOfNums val)) := And.intro (HR.out.cell 0 rfl) (HR.out.cell 1 rfl)
        clear hkb
        refine hK.out _ _ hS (fun _ => ?_)
        clear hK K
        refine wpAnyH_ready (rs := [7]) (by kernel_rfl) (by simp) ?_
        refine (AllReadyH.cons (o := _) rfl (fun K hK => ?_) AllReadyH.nil)
        go_simp
        refine (HRv.out _ _ _ _ (by exact HB.out) (by exact HYv.out) (by exact HQ.out.size)).mono ?_
        rintro e w22 ⟨rfl, hb, hk⟩
        have hk' : Keeps (fun k => w1.heap.size ≤ k ∧ k < w21.heap.size) (Lib.bytesWorld w21 5 (strOfNums val)) w22 := by first | exact hk | exact hk.ofDrew | exact hk.ofDrewN
        have HB := Lib.hid (BufAt.top hb)
        have HR := Lib.hid (HR.out.keep hk' (by have := HSz.out; omega))
        have HQ := Lib.hid (HQ.out.trans (hk'.wider (fun _ _ h => h.1)))
        have hS : (fun w' => w'.cell? ⟨w.heap.size, 0, none⟩ = some (.string (strOfNums key)) ∧ w'.cell? ⟨w.heap.size, 1, none⟩ = some (.string (strOfNums val))) w22 := And.intro (HR.out.cell 0 rfl) (HR.out.cell 1 rfl)
        clear hb hk hk'
        go_wp2_with fail
        refine hK.out _ _ hS (fun _ => ?_)
        clear hK K
        refine wpAnyH_done (by kernel_rfl) ?_ _
        rw [← HG.out] at HB
        clear HR
        go_wp2_with fail
        refine (HBy.out _ _ HB.out).mono ?_
        rintro e w31 ⟨v, rfl, q, d, rfl, hd, hd', hby, hq, hk⟩
        have HQ := Lib.hid (HQ.out.trans (hk.wider (fun _ _ h => h.elim)))
        have HB := Lib.hid (HB.out.keep hk)
        have HY := Lib.hid hby
        have hd9 : d ≤ 9223372036854775807 := by first | omega | (unfold maxLen at hd'; omega) | exact hd'
        clear hby hq hk hd'
        go_wp2_with fail
        refine (HSm.out q d _ hd hd9 HY.out).mono ?_
        rintro e w32 ⟨rfl, hk⟩
        have HQ := Lib.hid (HQ.out.trans (hk.wider (fun _ _ h => h.elim)))
        have HB := Lib.hid (HB.out.keep hk)
        clear hk HY
        go_wp2_with fail
        refine (HF3.out _ HB.out.at_ HQ.out.size).mono ?_
        rintro e w33 ⟨rfl, hb, hk⟩
        have HQ := Lib.hid (HQ.out.trans (hk.onBufE (Nat.le_refl _)))
        have HB := Lib.hid hb
        clear hb hk
        go_wp2_with fail
        refine (HBt.out _ HB.out).mono ?_
        rintro e w34 ⟨v, rfl, q, d, rfl, hd, hd', hby, hq, hk⟩
        have HQ := Lib.hid (HQ.out.trans (hk.wider (fun _ _ h => h.elim)))
        have HY := Lib.hid hby
        have hd9 : d ≤ 9223372036854775807 := by first | omega | (unfold maxLen at hd'; omega) | exact hd'
        clear hby hq hk hd'
        go_wp2_with fail
        refine bodyPost_ret (results_tmp2 rfl _ _ _) rfl ?_
        exact ⟨_, rfl, q, _, d, rfl, HL.out, hd, hd9, fun h0 => (by obtain ⟨a, ha, _⟩ := HY.out HT0.out; rw [h0] at ha; simp at ha), HY.out, HK.out.then HQ.out (fun i hi h => by have := HSz.out; omega)⟩
      · go_simp
        have hkb : Keeps NoBlock (Lib.bytesWorld W.drew 5 (strOfNums key)) (Lib.bytesWorld (Lib.bytesWorld W.drew 5 (strOfNums key)) 5 (strOfNums val)) := bytesWorld_keeps NoBlock _ _ _
        have HB := Lib.hid (HB.out.keep hkb)
        have HQ := Lib.hid (HQ.out.trans (hkb.wider (fun _ _ h => h.elim)))
        have HR := Lib.hid (HR.out.keep hkb (fun h => h))
        have HYk := Lib.hid (HYk.out.keep hkb (fun _ _ h => h))
        have HYv : Hid (Bytes8 (Lib.bytesWorld (Lib.bytesWorld W.drew 5 (strOfNums key)) 5 (strOfNums val)) (some ⟨(Lib.bytesWorld W.drew 5 (strOfNums key)).heap.size, 0, none⟩) val) := Lib.hid (bytesWorld_bytes (Lib.bytesWorld W.drew 5 (strOfNums key)) _ val HOv.out)
        have HYvg : Hid (W.heap.size ≤ (Lib.bytesWorld W.drew 5 (strOfNums key)).heap.size) := Lib.hid (by have := HQ0.out; have := hkb.size; simp only [Lib.bytesWorld_size, World.drew] at *; omega)
        have hS : (fun w' => w'.cell? ⟨w.heap.size, 0, none⟩ = some (.string (strOfNums key)) ∧ w'.cell? ⟨w.heap.size, 1, none⟩ = some (.string (strOfNums val))) (Lib.bytesWorld (Lib.bytesWorld W.drew 5 (strOfNums key)) 5 (strOfNums val)) := And.intro (HR.out.cell 0 rfl) (HR.out.cell 1 rfl)
        clear hkb
        refine hK.out _ _ hS (fun _ => ?_)
        clear hK K
        refine wpAnyH_ready (rs := [3]) (by kernel_rfl) (by simp) ?_
        refine (AllReadyH.cons (o := _) rfl (fun K hK => ?_) AllReadyH.nil)
        go_simp
        refine (HRk.out _ _ _ _ (by exact HB.out) (by exact HYk.out) (by exact HQ.out.size)).mono ?_
        rintro e w23 ⟨rfl, hb, hk⟩
        have hk' : Keeps (fun k => w1.heap.size ≤ k ∧ k < W.heap.size) (Lib.bytesWorld (Lib.bytesWorld W.drew 5 (strOfNums key)) 5 (strOfNums val)) w23 := by first | exact hk | exact hk.ofDrew | exact hk.ofDrewN
        have HB := Lib.hid (BufAt.top hb)
        have HR := Lib.hid (HR.out.keep hk' (by have := HSz.out; omega))
        have HQ := Lib.hid (HQ.out.trans (hk'.wider (fun _ _ h => h.1)))
        have HYv := Lib.hid (HYv.out.keep hk' (fun a ha => by have := HYvg.out; obtain rfl := Option.some.inj ha; simp only; omega))
        have hS : (fun w' => w'.cell? ⟨w.heap.size, 0, none⟩ = some (.string (strOfNums key)) ∧ w'.cell? ⟨w.heap.size, 1, none⟩ = some (.string (strOfNums val))) w23 := And.intro (HR.out.cell 0 rfl) (HR.out.cell 1 rfl)
        clear hb hk hk'
        go_wp2_with fail
        refine hK.out _ _ hS (fun _ => ?_)
        clear hK K
        refine wpAnyH_ready (rs := [7]) (by kernel_rfl) (by simp) ?_
        refine (AllReadyH.cons (o := _) rfl (fun K hK => ?_) AllReadyH.nil)
        go_simp
        refine (HRv.out _ _ _ _ (by exact HB.out) (by exact HYv.out) (by exact HQ.out.size)).mono ?_
        rintro e w24 ⟨rfl, hb, hk⟩
        have hk' : Keeps (fun k => w1.heap.size ≤ k ∧ k < w23.heap.size) w23 w24 := by first | exact hk | exact hk.ofDrew | exact hk.ofDrewN
        have HB := Lib.hid (BufAt.top hb)
        have HR := Lib.hid (HR.out.keep hk' (by have := HSz.out; omega))
        have HQ := Lib.hid (HQ.out.trans (hk'.wider (fun _ _ h => h.1)))
        have hS : (fun w' => w'.cell? ⟨w.heap.size, 0, none⟩ = some (.string (strOfNums key)) ∧ w'.cell? ⟨w.heap.size, 1, none⟩ = some (.string (strOfNums val))) w24 := And.intro (HR.out.cell 0 rfl) (HR.out.cell 1 rfl)
        clear hb hk hk'
        go_wp2_with fail
        refine hK.out _ _ hS (fun _ => ?_)
        clear hK K
        refine wpAnyH_done (by kernel_rfl) ?_ _
        rw [← HG.out] at HB
        clear HR
        go_wp2_with fail
        refine (HBy.out _ _ HB.out).mono ?_
        rintro e w31 ⟨v, rfl, q, d, rfl, hd, hd', hby, hq, hk⟩
        have HQ := Lib.hid (HQ.out.trans (hk.wider (fun _ _ h => h.elim)))
        have HB := Lib.hid (HB.out.keep hk)
        have HY := Lib.hid hby
        have hd9 : d ≤ 9223372036854775807 := by first | omega | (unfold maxLen at hd'; omega) | exact hd'
        clear hby hq hk hd'
        go_wp2_with fail
        refine (HSm.out q d _ hd hd9 HY.out).mono ?_
        rintro e w32 ⟨rfl, hk⟩
        have HQ := Lib.hid (HQ.out.trans (hk.wider (fun _ _ h => h.elim)))
        have HB := Lib.hid (HB.out.keep hk)
        clear hk HY
        go_wp2_with fail
        refine (HF3.out _ HB.out.at_ HQ.out.size).mono ?_
        rintro e w33 ⟨rfl, hb, hk⟩
        have HQ := Lib.hid (HQ.out.trans (hk.onBufE (Nat.le_refl _)))
        have HB := Lib.hid hb
        clear hb hk
        go_wp2_with fail
        refine (HBt.out _ HB.out).mono ?_
        rintro e w34 ⟨v, rfl, q, d, rfl, hd, hd', hby, hq, hk⟩
        have HQ := Lib.hid (HQ.out.trans (hk.wider (fun _ _ h => h.elim)))
        have HY := Lib.hid hby
        have hd9 : d ≤ 9223372036854775807 := by first | omega | (unfold maxLen at hd'; omega) | exact hd'
        clear hby hq hk hd'
        go_wp2_with fail
        refine bodyPost_ret (results_tmp2 rfl _ _ _) rfl ?_
        exact ⟨_, rfl, q, _, d, rfl, HL.out, hd, hd9, fun h0 => (by obtain ⟨a, ha, _⟩ := HY.out HT0.out; rw [h0] at ha; simp at ha), HY.out, HK.out.then HQ.out (fun i hi h => by have := HSz.out; omega)⟩
    · go_simp
      have hkb : Keeps NoBlock W.drew (Lib.bytesWorld W.drew 5 (strOfNums val)) := bytesWorld_keeps NoBlock _ _ _
      have HB := Lib.hid (HB.out.keep hkb)
      have HQ := Lib.hid (HQ.out.trans (hkb.wider (fun _ _ h => h.elim)))
      have HR := Lib.hid (HR.out.keep hkb (fun h => h))
      have HYv : Hid (Bytes8 (Lib.bytesWorld W.drew 5 (strOfNums val)) (some ⟨W.heap.size, 0, none⟩) val) := Lib.hid (bytesWorld_bytes W.drew _ val HOv.out)
      have HYvg : Hid (W.heap.size ≤ W.heap.size) := Lib.hid (by have := HQ0.out; have := hkb.size; simp only [Lib.bytesWorld_size, World.drew] at *; omega)
      have hS : (fun w' => w'.cell? ⟨w.heap.size, 0, none⟩ = some (.string (strOfNums key)) ∧ w'.cell? ⟨w.heap.size, 1, none⟩ = some (.string (strOfNums val))) (Lib.bytesWorld W.drew 5 (strOfNums val)) := And.intro (HR.out.cell 0 rfl) (HR.out.cell 1 rfl)
      clear hkb
      refine hK.out _ _ hS (fun _ => ?_)
      clear hK K
      refine wpAnyH_ready (rs := [2]) (by kernel_rfl) (by simp) ?_
      refine (AllReadyH.cons (o := _) rfl (fun K hK => ?_) AllReadyH.nil)
      go_simp
      have hkb : Keeps NoBlock (Lib.bytesWorld W.drew 5 (strOfNums val)) (Lib.bytesWorld (Lib.bytesWorld W.drew 5 (strOfNums val)) 5 (strOfNums key)) := bytesWorld_keeps NoBlock _ _ _
      have HB := Lib.hid (HB.out.keep hkb)
      have HQ := Lib.hid (HQ.out.trans (hkb.wider (fun _ _ h => h.elim)))
      have HR := Lib.hid (HR.out.keep hkb (fun h => h))
      have HYv := Lib.hid (HYv.out.keep hkb (fun _ _ h => h))
      have HYk : Hid (Bytes8 (Lib.bytesWorld (Lib.bytesWorld W.drew 5 (strOfNums val)) 5 (strOfNums key)) (some ⟨(Lib.bytesWorld W.drew 5 (strOfNums val)).heap.size, 0, none⟩) key) := Lib.hid (bytesWorld_bytes (Lib.bytesWorld W.drew 5 (strOfNums val)) _ key HOk.out)
      have HYkg : Hid (W.heap.size ≤ (Lib.bytesWorld W.drew 5 (strOfNums val)).heap.size) := Lib.hid (by have := HQ0.out; have := hkb.size; simp only [Lib.bytesWorld_size, World.drew] at *; omega)
      have hS : (fun w' => w'.cell? ⟨w.heap.size, 0, none⟩ = some (.string (strOfNums key)) ∧ w'.cell? ⟨w.heap.size, 1, none⟩ = some (.string (strOfNums val))) (Lib.bytesWorld (Lib.bytesWorld W.drew 5 (strOfNums val)) 5 (strOfNums key)) := And.intro (HR.out.cell 0 rfl) (HR.out.cell 1 rfl)
      clear hkb
      refine hK.out _ _ hS (fun _ => ?_)
      clear hK K
      refine wpAnyH_ready (rs := [3]) (by kernel_rfl) (by simp) ?_
      refine (AllReadyH.cons (o := _) rfl (fun K hK => ?_) AllReadyH.nil)
      go_simp
      refine (HRk.out _ _ _ _ (by exact HB.out) (by exact HYk.out) (by exact HQ.out.size)).mono ?_
      rintro e w25 ⟨rfl, hb, hk⟩
      have hk' : Keeps (fun k => w1.heap.size ≤ k ∧ k < W.heap.size) (Lib.bytesWorld (Lib.bytesWorld W.drew 5 (strOfNums val)) 5 (strOfNums key)) w25 := by first | exact hk | exact hk.ofDrew | exact hk.ofDrewN
      have HB := Lib.hid (BufAt.top hb)
      have HR := Lib.hid (HR.out.keep hk' (by have := HSz.out; omega))
      have HQ := Lib.hid (HQ.out.trans (hk'.wider (fun _ _ h => h.1)))
      have HYv := Lib.hid (HYv.out.keep hk' (fun a ha => by have := HYvg.out; obtain rfl := Option.some.inj ha; simp only; omega))
      have hS : (fun w' => w'.cell? ⟨w.heap.size, 0, none⟩ = some (.string (strOfNums key)) ∧ w'.cell? ⟨w.heap.size, 1, none⟩ = some (.string (strOfNums val))) w25 := And.intro (HR.out.cell 0 rfl) (HR.out.cell 1 rfl)
      clear hb hk hk'
      go_wp2_with fail
      refine hK.out _ _ hS (fun _ => ?_)
      clear hK K
      refine wpAnyH_ready (rs := [7]) (by kernel_rfl) (by simp) ?_
      refine (AllReadyH.cons (o := _) rfl (fun K hK => ?_) AllReadyH.nil)
      go_simp
      refine (HRv.out _ _ _ _ (by exact HB.out) (by exact HYv.out) (by exact HQ.out.size)).mono ?_
      rintro e w26 ⟨rfl, hb, hk⟩
      have hk' : Keeps (fun k => w1.heap.size ≤ k ∧ k < w25.heap.size) w25 w26 := by first | exact hk | exact hk.ofDrew | exact hk.ofDrewN
      have HB := Lib.hid (BufAt.top hb)
      have HR := Lib.hid (HR.out.keep hk' (by have := HSz.out; omega))
      have HQ := Lib.hid (HQ.out.trans (hk'.wider (fun _ _ h => h.1)))
      have hS : (fun w' => w'.cell? ⟨w.heap.size, 0, none⟩ = some (.string (strOfNums key)) ∧ w'.cell? ⟨w.heap.size, 1, none⟩ = some (.string (strOfNums val))) w26 := And.intro (HR.out.cell 0 rfl) (HR.out.cell 1 rfl)
      clear hb hk hk'
      go_wp2_with fail
      refine hK.out _ _ hS (fun _ => ?_)
      clear hK K
      refine wpAnyH_done (by kernel_rfl) ?_ _
      rw [← HG.out] at HB
      clear HR
      go_wp2_with fail
      refine (HBy.out _ _ HB.out).mono ?_
      rintro e w31 ⟨v, rfl, q, d, rfl, hd, hd', hby, hq, hk⟩
      have HQ := Lib.hid (HQ.out.trans (hk.wider (fun _ _ h => h.elim)))
      have HB := Lib.hid (HB.out.keep hk)
      have HY := Lib.hid hby
      have hd9 : d ≤ 9223372036854775807 := by first | omega | (unfold maxLen at hd'; omega) | exact hd'
      clear hby hq hk hd'
      go_wp2_with fail
      refine (HSm.out q d _ hd hd9 HY.out).mono ?_
      rintro e w32 ⟨rfl, hk⟩
      have HQ := Lib.hid (HQ.out.trans (hk.wider (fun _ _ h => h.elim)))
      have HB := Lib.hid (HB.out.keep hk)
      clear hk HY
      go_wp2_with fail
      refine (HF3.out _ HB.out.at_ HQ.out.size).mono ?_
      rintro e w33 ⟨rfl, hb, hk⟩
      have HQ := Lib.hid (HQ.out.trans (hk.onBufE (Nat.le_refl _)))
      have HB := Lib.hid hb
      clear hb hk
      go_wp2_with fail
      refine (HBt.out _ HB.out).mono ?_
      rintro e w34 ⟨v, rfl, q, d, rfl, hd, hd', hby, hq, hk⟩
      have HQ := Lib.hid (HQ.out.trans (hk.wider (fun _ _ h => h.elim)))
      have HY := Lib.hid hby
      have hd9 : d ≤ 9223372036854775807 := by first | omega | (unfold maxLen at hd'; omega) | exact hd'
      clear hby hq hk hd'
      go_wp2_with fail
      refine bodyPost_ret (results_tmp2 rfl _ _ _) rfl ?_
      exact ⟨_, rfl, q, _, d, rfl, HL.out, hd, hd9, fun h0 => (by obtain ⟨a, ha, _⟩ := HY.out HT0.out; rw [h0] at ha; simp at ha), HY.out, HK.out.then HQ.out (fun i hi h => by have := HSz.out; omega)⟩
  · rw [if_neg hc]
    obtain ⟨y, hy⟩ : ∃ y, y = checkP p := ⟨_, rfl⟩
    rw [← hy] at HCk hc ⊢
    have hne : (y != 0) = true := by rw [bne_iff_ne]; exact hc
    have HK0 := Lib.hid ((Keeps.refl NoBlock w).alloc (.cells (prCells p) 30))
    clear hc hy fk fv
    obtain ⟨key, val⟩ := p
    unfold prV prCells at *
    simp only at HCk HK0 ⊢
    go_enter Try.func12, Try.ntmps12
    go_wp2_with fail
    refine (HCk.out _).mono ?_
    rintro e w1 ⟨rfl, hk⟩
    have HK := Lib.hid (HK0.out.trans hk)
    clear hk
    go_wp2_with fail
    refine bodyPost_ret (results_tmp2 rfl _ _ _) rfl ?_
    exact ⟨_, rfl, .ofNil _ _ HK.out⟩
end Go.Proofs.Ytdkpkpmgiglnhaa

namespace Go.Proofs.Ytdkpkpmgiglnhaa
open Go.RowKit

theorem textAll_snocE : ∀ (l : List Pr) (p : Pr), textAll (l ++ [p]) = textAll l ++ textP p
  | [], p => by
    show textP p ++ [] = [] ++ textP p
    rw [List.append_nil, List.nil_append]
  | q :: l, p => by
    show textP q ++ textAll (l ++ [p]) = textP q ++ textAll l ++ textP p
    rw [textAll_snocE l p, List.append_assoc]
theorem take_nextE {l : List Pr} {k : Nat} (h : k < l.length) : l.take (k + 1) = l.take k ++ [l.getD k Pr.none] := by
  rw [List.take_add_one, List.getD_eq_getElem?_getD, List.getElem?_eq_getElem h]
  rfl
theorem checkAll_firstE : ∀ (l : List Pr) (k : Nat), k < l.length → checkAll (l.take k) = 0 → checkP (l.getD k Pr.none) ≠ 0 → checkAll l = checkP (l.getD k Pr.none)
  | [], k, h, _, _ => by simp at h
  | p :: l, 0, _, _, h2 => by
    have h3 : ¬ checkP p = 0 := h2
    show (if checkP p = 0 then checkAll l else checkP p) = checkP p
    rw [if_neg h3]
  | p :: l, k + 1, h, h1, h2 => by
    have hp : checkP p = 0 := by
      by_cases hp : checkP p = 0
      · exact hp
      · exfalso
        have e : checkAll ((p :: l).take (k + 1)) = checkP p := by
          show (if checkP p = 0 then checkAll (l.take k) else checkP p) = checkP p
          rw [if_neg hp]
        rw [e] at h1
        exact hp h1
    have e : checkAll ((p :: l).take (k + 1)) = checkAll (l.take k) := by
      show (if checkP p = 0 then checkAll (l.take k) else checkP p) = _
      rw [if_pos hp]
    rw [e] at h1
    show (if checkP p = 0 then checkAll l else checkP p) = _
    rw [if_pos hp]
    exact checkAll_firstE l k (by simpa using h) h1 h2
theorem textAll_partE (l : List Pr) (k : Nat) : (textAll (l.take k)).length ≤ (textAll l).length := by
  have e : textAll l = textAll (l.take k) ++ textAll (l.drop k) := by
    have : ∀ a b : List Pr, textAll (a ++ b) = textAll a ++ textAll b := fun a b => by
      induction a with
      | nil => rfl
      | cons q a ih =>
        show textP q ++ textAll (a ++ b) = textP q ++ textAll a ++ textAll b
        rw [ih, List.append_assoc]
    rw [← this, List.take_append_drop]
  rw [e, List.length_append]
  omega

/-- The bytes of the pairs so far. -/
structure PutSo (w0 : World) (l : List Pr) (v : Value) (wr : World) : Prop where
  ok : checkAll l = 0
  row : wr.ownsRow w0.heap.size 5 1 v (textAll l).length ((textAll l).map (Value.int .u8))
  bel : Below w0.heap.size w0 wr

set_option maxHeartbeats 4000000 in
set_option maxRecDepth 10000 in
theorem elputall_own (p : Option Addr) (n c : Nat) (l : List Pr) (w : World) (hn : n = l.length) (hn1 : n ≤ 100000) (hs : ∀ p ∈ l, p.Small) (ht : (textAll l).length ≤ 500000) (hl : PrsAt w p l) :
    Calls Try.prog 10 #[.slice p n c] w fun e w' => ∃ v, e = .returned (.tuple #[v, .int .i64 (checkAll l)]) ∧ NewBytes w (putsP l) v w' := by
  have HPut := Lib.hid (fun r (hr : r ∈ l) w => elput_own r w (hs r hr))
  have HFi := Lib.hid (checkAll_firstE l)
  have HTn := Lib.hid (fun k (h : k < l.length) => take_nextE h)
  have HTp := Lib.hid (fun k => Nat.le_trans (textAll_partE l k) ht)
  have HN := Lib.hid hn
  have HL := Lib.hid hl
  clear hn hl hs ht
  go_enter Try.func10, Try.ntmps10
  go_wp2_with fail
  go_loopw [4, 11] (fun v i wr => ∃ j : Nat, j ≤ n ∧ i = .int .i64 (j : Int) ∧ Hid (PutSo w (l.take j) v wr)) (fun _ i _ => n - (intOf i).toNat)
  case atStart => exact ⟨0, Nat.zero_le _, rfl, Lib.hid ⟨rfl, World.ownsRow_nil _ _ _ _, Below.refl _ _⟩⟩
  case round =>
    obtain ⟨j, hj, rfl, HS⟩ := hrel
    by_cases hlt : j < n
    · have hdj : decide (j < n) = true := decide_eq_true hlt
      have hjl : j < l.length := by rw [← HN.out]; exact hlt
      have hk0 := Keeps.ofBelow (S := NoBlock) HS.out.bel
      obtain ⟨a, rfl, c0, c1⟩ := (HL.out.keep hk0 (fun _ _ h => h)) j hjl
      have hmem : l.getD j Pr.none ∈ l := by simp [hjl]
      have HPj := Lib.hid (fun w => HPut.out _ hmem w)
      have hfi := HFi.out j hjl HS.out.ok
      have hok1 : checkP (l.getD j Pr.none) = 0 → checkAll (l.take (j + 1)) = 0 := fun h => by
        rw [HTn.out j hjl]
        refine checkAll_ok.2 (fun q hq => ?_)
        rcases List.mem_append.1 hq with hq | hq
        · exact checkAll_ok.1 HS.out.ok q hq
        · rw [List.mem_singleton.1 hq]
          exact h
      have htn : textAll (l.take (j + 1)) = textAll (l.take j) ++ textP (l.getD j Pr.none) := by rw [HTn.out j hjl, textAll_snocE]
      have hput : checkP (l.getD j Pr.none) = 0 → putP (l.getD j Pr.none) = textP (l.getD j Pr.none) := fun h => by unfold putP; rw [if_pos h]
      have htl := HTp.out (j + 1)
      obtain ⟨r, hr⟩ : ∃ r, r = l.getD j Pr.none := ⟨_, rfl⟩
      rw [← hr] at c0 c1 HPj hfi hok1 htn hput
      unfold prV at HPj
      obtain ⟨y, hy⟩ : ∃ y, y = checkP r := ⟨_, rfl⟩
      rw [← hy] at HPj hfi hok1 hput
      have HK := Lib.hid hk0
      have HFi2 := Lib.hid hfi
      have HOk := Lib.hid hok1
      have HTn2 := Lib.hid htn
      have HTl := Lib.hid htl
      have HPt := Lib.hid hput
      clear hr hmem hjl hk0 hfi hok1 htn hput htl hy
      by_cases hu : y = 0
      · subst hu
        go_wp2_with fail
        refine (HPj.out _).mono ?_
        rintro e w3 ⟨v3, rfl, q, m, d, rfl, hm, hmd, hd, hq, hb, hk⟩
        have hPt := HPt.out (by first | rfl | trivial)
        rw [hPt] at hm hb
        have HM := Lib.hid hm
        have HB := Lib.hid hb
        have HQ := Lib.hid hq
        have hk3 := ((Keeps.refl NoBlock wr).alloc (.cells #[.string (strOfNums r.key), .string (strOfNums r.val)] 30)).trans hk
        have HO3 := Lib.hid (own_keep HS.out.row hk3 (fun _ _ h => h))
        have HB3 := Lib.hid (HS.out.bel.trans (hk3.below HS.out.bel.size (fun _ _ h => h)))
        clear hk hk3 hm hb hq hPt
        go_wp2_with (at_builtin; refine wpList_append_bytes rfl _ _ rfl w.heap.size _ _ (textAll (l.take j)) rfl HO3.out q m d (textP r) rfl HQ.out HM.out HB.out (by have := HTl.out; rw [HTn2.out, List.length_append] at this; have := HM.out; omega) HB3.out.size ?_)
        intro v5 w5 h5 hb5
        have HS5 : Hid (PutSo w (l.take (j + 1)) v5 w5) := Lib.hid ⟨HOk.out (by first | rfl | trivial), by rw [HTn2.out, List.length_append, ← HM.out, List.map_append]; exact (by first | exact h5 | (rw [List.map_append] at h5; exact h5)), HB3.out.trans hb5⟩
        clear h5 hb5
        go_wp2_with fail
        go_roundw
        case rel => exact ⟨j + 1, by omega, by go_num, HS5⟩
        case measure => simp [intOf]; omega
      · have hne : (y != 0) = true := by rw [bne_iff_ne]; exact hu
        have hca := HFi2.out hu
        have hpp : putsP l = [] := by unfold putsP; rw [if_neg (by rw [hca]; exact hu)]
        have HCa := Lib.hid hca
        have HPp := Lib.hid hpp
        clear hca hpp hu
        go_wp2_with fail
        refine (HPj.out _).mono ?_
        rintro e w3 ⟨v3, rfl, q, m, d, rfl, hm, hmd, hd, hq, hb, hk⟩
        have HK3 := Lib.hid ((HK.out.alloc (.cells #[.string (strOfNums r.key), .string (strOfNums r.val)] 30)).trans hk)
        clear hk hm hmd hd hq hb
        go_wp2_with fail
        refine bodyPost_ret (results_tmp2 rfl _ _ _) rfl ?_
        rw [HCa.out, HPp.out]
        exact ⟨_, rfl, .ofNil _ _ HK3.out⟩
    · have hd1 : decide (j < n) = false := decide_eq_false hlt
      have hjl : l.take j = l := List.take_of_length_le (by have := HN.out; omega)
      have hS := HS.out
      rw [hjl] at hS
      obtain ⟨q, d, rfl, h1, h2, h3, h4⟩ := Copied.read2 (w0 := w) (xs := textAll l) ⟨hS.row, hS.bel⟩ rfl
      have hpp : putsP l = textAll l := by unfold putsP; rw [if_pos hS.ok]
      have HOk := Lib.hid hS.ok
      have HPp := Lib.hid hpp
      have HNb := Lib.hid (show NewBytes w (textAll l) (.slice q (textAll l).length d) wr from ⟨q, _, d, rfl, rfl, h1, h2, h4, h3, Keeps.ofBelow hS.bel⟩)
      clear hlt hS h1 h2 h3 h4 hpp hjl
      go_wp2_with fail
      refine bodyPost_ret (results_tmp2 rfl _ _ _) rfl ?_
      rw [HOk.out, HPp.out]
      exact ⟨_, rfl, HNb.out⟩

theorem elder_ok : ElderOk where
  check := fun p w h => elcheck_own p (by have := h.key; omega) (by have := h.val; omega) w
  put_ := fun p w h => elput_own p w h
  get := fun p N c xs w h hN => elget_own p N c xs w h hN
  putall := fun p n c l w hn _ _ hn1 hs ht hl => elputall_own p n c l w hn hn1 hs ht hl
  getall := fun p N c xs w h hN => elgetall_own p N c xs w h hN
end Go.Proofs.Ytdkpkpmgiglnhaa

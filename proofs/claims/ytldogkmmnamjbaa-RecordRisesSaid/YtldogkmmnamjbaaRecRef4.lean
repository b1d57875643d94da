/-
  The document's Read of a record.
-/
import Derived.Test.YtldogkmmnamjbaaRecRef3
namespace Go.Proofs.Ytldogkmmnamjbaa
open Go.RowKit

/-- What GetText leaves, wherever the Reader stood. -/
structure GS where
  X : List Int
  A : Int
  E : Int
  T : List Int
def gtS (X : List Int) (A E : Int) (l m : Nat) : GS :=
  if E = 0 then ⟨X.drop (vtext X l m).n, A + (vtext X l m).n, (vtext X l m).e, (vtext X l m).t⟩ else ⟨X, A, E, []⟩

theorem vtext_n (X : List Int) (l m : Nat) : (vtext X l m).n ≤ X.length := by
  have hn : (vget X).n ≤ X.length := vread_n 10 true X
  unfold vtext
  split
  · exact hn
  · split
    · exact hn
    · split
      · exact hn
      · split
        · exact hn
        · rename_i h
          rw [List.length_drop] at h
          show (vget X).n + (vget X).x.toNat ≤ X.length
          omega
theorem gtS_octets {X : List Int} {A E : Int} {l m : Nat} (h : Octets X) : Octets (gtS X A E l m).X := by
  unfold gtS
  split
  · exact h.drop _
  · exact h
theorem gtS_room {X : List Int} {A E : Int} {l m : Nat} {B : Int} (h0 : 0 ≤ A) (h : A + X.length ≤ B) : 0 ≤ (gtS X A E l m).A ∧ (gtS X A E l m).A + (gtS X A E l m).X.length ≤ B ∧ (gtS X A E l m).X.length ≤ X.length := by
  have hn := vtext_n X l m
  unfold gtS
  split
  · simp only [List.length_drop]
    omega
  · exact ⟨h0, h, Nat.le_refl _⟩

/-- What the document's Read answers. -/
def readOut7 (t : Int × Rec) : Value := .tuple #[recV t.2, .int .i64 t.1]

/-- What End makes of what was read. -/
def fin7 (del : Bool) (s : Nat) (k v X : List Int) (E : Int) : Int × Rec := if endE X E = 0 then (0, ⟨del, s, k, v⟩) else (endE X E, Rec.none)
theorem fin7_bad {del : Bool} {s : Nat} {k v X : List Int} {E : Int} (h : E ≠ 0) : fin7 del s k v X E = (E, Rec.none) := by
  have e : endE X E = E := by unfold endE; rw [if_neg h]
  unfold fin7
  rw [e, if_neg h]
theorem fin7_end {del : Bool} {s : Nat} {k v X : List Int} : fin7 del s k v X 0 = readEnd del s k v X := by
  unfold fin7 readEnd endE
  rw [if_pos rfl]
  by_cases h : X = []
  · rw [if_pos h, if_pos rfl, if_pos h]
  · rw [if_neg h, if_neg (by decide), if_neg h]
/-- The reading of what follows the kind, step by step. -/
def gone7 (k : GS) : GS := ⟨k.X, k.A, k.E, []⟩
def key7 (xs : List Int) : GS := gtS (xs.drop (vget xs).n) ((vget xs).n : Int) (vget xs).e 1 4096
def val7 (del : Bool) (k : GS) : GS := if del then gone7 k else gtS k.X k.A k.E 0 1048576
def seq7 (xs : List Int) : Nat := (if (vget xs).e = 0 then (vget xs).x else 0).toNat
def steps7 (del : Bool) (xs : List Int) : Int × Rec :=
  fin7 del (seq7 xs) (key7 xs).T (val7 del (key7 xs)).T (val7 del (key7 xs)).X (val7 del (key7 xs)).E
theorem gtS_bad {X : List Int} {A E : Int} {l m : Nat} (h : E ≠ 0) : gtS X A E l m = ⟨X, A, E, []⟩ := by unfold gtS; rw [if_neg h]
theorem gtS_good {X : List Int} {A : Int} {l m : Nat} : gtS X A 0 l m = ⟨X.drop (vtext X l m).n, A + (vtext X l m).n, (vtext X l m).e, (vtext X l m).t⟩ := by unfold gtS; rw [if_pos rfl]
theorem val7_bad {del : Bool} {k : GS} (h : k.E ≠ 0) : (val7 del k).E = k.E := by
  unfold val7
  cases del with
  | true => rfl
  | false => rw [if_neg (by decide), gtS_bad h]
theorem steps7_read (del : Bool) (xs : List Int) : steps7 del xs = readKind (if del then 3 else 2) xs := by
  unfold steps7 readKind
  have h1 : ¬ ((if del = true then (3 : Int) else 2) ≠ 2 ∧ (if del = true then (3 : Int) else 2) ≠ 3) := by cases del <;> simp
  rw [if_neg h1]
  by_cases he : (vget xs).e = 0
  · rw [if_neg (by simpa using he)]
    have hs : seq7 xs = (vget xs).x.toNat := by unfold seq7; rw [if_pos he]
    have hk : key7 xs = ⟨(xs.drop (vget xs).n).drop (vtext (xs.drop (vget xs).n) 1 4096).n, ((vget xs).n : Int) + (vtext (xs.drop (vget xs).n) 1 4096).n, (vtext (xs.drop (vget xs).n) 1 4096).e, (vtext (xs.drop (vget xs).n) 1 4096).t⟩ := by
      unfold key7
      rw [he, gtS_good]
    rw [hs]
    unfold readKey
    by_cases hte : (vtext (xs.drop (vget xs).n) 1 4096).e = 0
    · rw [if_neg (by simpa using hte)]
      cases del with
      | true =>
        have hv : val7 true (key7 xs) = gone7 (key7 xs) := rfl
        rw [hv, hk]
        unfold gone7
        simp only [if_true]
        rw [hte, fin7_end]
      | false =>
        have hv : val7 false (key7 xs) = gtS (key7 xs).X (key7 xs).A (key7 xs).E 0 1048576 := rfl
        rw [hv, hk]
        simp only
        rw [hte, gtS_good]
        simp only
        have h32 : ¬ ((if false = true then (3 : Int) else 2) = 3) := by decide
        rw [if_neg h32]
        by_cases hue : (vtext (List.drop (vtext (xs.drop (vget xs).n) 1 4096).n (xs.drop (vget xs).n)) 0 1048576).e = 0
        · rw [if_neg (by simpa using hue), hue, fin7_end]
        · rw [if_pos (by simpa using hue), fin7_bad hue]
    · have hkE : (key7 xs).E ≠ 0 := by rw [hk]; exact hte
      rw [if_pos (by simpa using hte), fin7_bad (by rw [val7_bad hkE]; exact hkE), val7_bad hkE, hk]
  · rw [if_pos (by simpa using he)]
    have hkE : (key7 xs).E = (vget xs).e := by unfold key7; rw [gtS_bad he]
    have hk0 : (key7 xs).E ≠ 0 := by rw [hkE]; exact he
    rw [fin7_bad (by rw [val7_bad hk0]; exact hk0), val7_bad hk0, hkE]
end Go.Proofs.Ytldogkmmnamjbaa

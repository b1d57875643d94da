/-
  CobsRef2; RecRef2; In8; ThinSum; ThinAll; ThinLives.
-/
import Derived.BigQuiet
import Derived.Lib.SlBytesConst
import Derived.Test.YtmifbohdepejaaaM01
import Derived.Test.YtmifbohdepejaaaM02
import Derived.Test.YtmifbohdepejaaaM06
import Derived.Test.YtmifbohdepejaaaM08
import Derived.Test.YtmifbohdepejaaaM10
namespace Go.Proofs.Ytmifbohdepejaaa
open Go.RowKit

/-- Where the second loop stands: what is out, what is left. -/
def UnAt (xs O R : List Int) : Prop := (dec R).map (O ++ ·) = dec xs ∧ O.length + R.length ≤ xs.length ∧ Octets O ∧ Solid R

theorem UnAt.start {xs : List Int} (h : Solid xs) : UnAt xs [] xs := ⟨by simp, by simp, fun b hb => by simp at hb, h⟩
theorem UnAt.short {xs O R : List Int} {n : Int} {r : List Int} (h : UnAt xs O R) (hR : R = n :: r) (hs : r.length + 1 < n.toNat) : dec xs = none := by
  subst hR
  rw [← h.1, dec, if_pos hs]
  rfl
theorem UnAt.done {xs O : List Int} (h : UnAt xs O []) : dec xs = some O := by
  rw [← h.1, dec]
  simp
theorem UnAt.step {xs O R : List Int} {n : Int} {r : List Int} (h : UnAt xs O R) (hR : R = n :: r) (hs : ¬ r.length + 1 < n.toNat) :
    UnAt xs (O ++ r.take (n.toNat - 1) ++ (if n < 255 ∧ r.drop (n.toNat - 1) ≠ [] then [0] else [])) (r.drop (n.toNat - 1)) := by
  subst hR
  obtain ⟨h1, h2, h3, h4⟩ := h
  have hn := h4 n List.mem_cons_self
  have hr : Solid r := fun b hb => h4 b (List.mem_cons_of_mem _ hb)
  refine ⟨?_, ?_, ?_, fun b hb => hr b (List.mem_of_mem_drop hb)⟩
  · rw [← h1, dec, if_neg hs, Option.map_map]
    congr 1
    funext o
    simp
  · have : (if n < 255 ∧ r.drop (n.toNat - 1) ≠ [] then [0] else ([] : List Int)).length ≤ 1 := by split <;> simp
    simp only [List.length_append, List.length_take, List.length_drop, List.length_cons] at h2 ⊢
    omega
  · intro b hb
    rcases List.mem_append.1 hb with hb | hb
    · rcases List.mem_append.1 hb with hb | hb
      · exact h3 b hb
      · exact hr.octets b (List.mem_of_mem_take hb)
    · split at hb
      · rw [List.mem_singleton.1 hb]; omega
      · simp at hb

set_option maxHeartbeats 2000000 in
set_option maxRecDepth 10000 in
theorem unstuff_ref (xs : List Int) (ho : Octets xs) (hl : xs.length ≤ 140737488355328) (w : World) :
    Calls Try.prog 77 #[.string (strOfNums xs)] w fun e w' => e = .returned (.tuple #[.string (strOfNums (unst xs).2), .int .i64 (unst xs).1]) ∧ Keeps NoBlock w w' := by
  have HO := Lib.hid ho
  have hss : (strOfNums xs).size = xs.length := str_size xs
  obtain ⟨n, hn⟩ : ∃ n, n = xs.length := ⟨_, rfl⟩
  have HN := Lib.hid hn
  rw [← hn] at hl hss
  clear ho hn
  go_enter Try.func77, Try.ntmps77
  go_wp2_with fail
  go_loop [4] (fun i => ∃ k : Nat, k ≤ n ∧ i = .int .i64 (k : Int) ∧ Hid (Solid (xs.take k))) (fun i => n - (intOf i).toNat)
  case atStart => exact ⟨0, Nat.zero_le _, rfl, Lib.hid Solid.nil⟩
  case round =>
    obtain ⟨k, hk, rfl, hsol⟩ := hrel
    by_cases hlt : k < n
    · have hdk : decide ((k : Int) < (n : Int)) = true := decide_eq_true (by omega)
      have hsg := str_get xs HO.out k (by omega)
      have hbb := HO.out.getD k
      have hmem : xs.getD k 0 ∈ xs := by
        have hl : k < xs.length := by have := HN.out; omega
        have e : xs.getD k 0 = xs[k] := by simp [hl]
        rw [e]; exact List.getElem_mem hl
      have htk := take_succ_getD xs k (by have := HN.out; omega)
      obtain ⟨b, hb⟩ : ∃ b, b = xs.getD k 0 := ⟨_, rfl⟩
      rw [← hb] at hsg hbb hmem htk
      have HM := Lib.hid hmem
      have HT := Lib.hid htk
      obtain ⟨hb0, hb1⟩ := hbb
      clear hb hmem htk
      by_cases hz : b = 0
      · subst hz
        have hu : unst xs = (4, []) := by unfold unst; rw [if_pos HM.out]
        have HU := Lib.hid hu
        clear hu
        go_wp2_with fail
        exact bodyPost_ret (v := .tuple #[.string (strOfNums []), .int .i64 4]) (by simp [results, Try.results77, go_sem]; rfl) rfl ⟨by rw [HU.out], Keeps.refl _ _⟩
      · have hbz : (b == 0) = false := by rw [beq_eq_false_iff_ne]; exact hz
        have HS := Lib.hid (show Solid (xs.take (k + 1)) by rw [HT.out]; exact hsol.out.snoc ⟨by omega, hb1⟩)
        go_wp2_with fail
        exact ⟨⟨k + 1, by omega, rfl, HS⟩, by simp [intOf]; omega⟩
    · obtain rfl : k = n := by omega
      have hdk : decide ((k : Int) < (k : Int)) = false := decide_eq_false (by omega)
      have hsx : Solid xs := by
        have := hsol.out
        rwa [List.take_of_length_le (Nat.le_of_eq HN.out.symm)] at this
      have hz0 : (0 : Int) ∉ xs := hsx.noZero
      have HSX := Lib.hid hsx
      have HZ0 := Lib.hid hz0
      clear hsx hz0
      by_cases hk0 : k = 0
      · subst hk0
        have hxe : xs = [] := List.length_eq_zero_iff.1 HN.out.symm
        have hu : unst xs = (2, []) := by unfold unst; rw [if_neg HZ0.out, if_pos hxe]
        have HU := Lib.hid hu
        have hem : (strOfNums xs).toList.isEmpty = true := by rw [str_empty, hxe]; rfl
        clear hxe hu
        go_wp2_with fail
        exact bodyPost_ret (v := .tuple #[.string (strOfNums []), .int .i64 2]) (by simp [results, Try.results77, go_sem]; rfl) rfl ⟨by rw [HU.out], Keeps.refl _ _⟩
      · have hem : (strOfNums xs).toList.isEmpty = false := by
          rw [str_empty]
          cases hx : xs with
          | nil => exact absurd (by rw [HN.out, hx]; rfl) hk0
          | cons _ _ => rfl
        have hxe : xs ≠ [] := fun h => hk0 (by rw [HN.out, h]; rfl)
        have HXE := Lib.hid hxe
        clear hxe
        go_wp2_with fail
        go_loop [5, 6, 7] (fun s5 s6 _ => ∃ O R : List Int, s5 = .string (strOfNums O) ∧ s6 = .string (strOfNums R) ∧ Hid (UnAt xs O R)) (fun _ s6 _ => strSize s6)
        case atStart => exact ⟨[], xs, rfl, rfl, Lib.hid (UnAt.start HSX.out)⟩
        case round =>
          clear hem hdk hsol hlt
          obtain ⟨O, R, rfl, rfl, hu⟩ := hrel
          have hub := hu.out.2.1
          rw [← HN.out] at hub
          have hsO : (strOfNums O).size = O.length := str_size O
          have hsR : (strOfNums R).size = R.length := str_size R
          by_cases hRn : R = []
          · subst hRn
            have hem : (strOfNums []).toList.isEmpty = true := str_empty []
            have HD := Lib.hid hu.out.done
            have HS := Lib.hid (fun w => stuff_ref O hu.out.2.2.1 (by omega) w)
            have hcmp : ((strOfNums (stuff O)).toList == (strOfNums xs).toList) = decide (stuff O = xs) := by
              rw [text_beq]
              apply decide_eq_decide.2
              exact ⟨fun h => strOf_inj (stuff_solid hu.out.2.2.1).octets HO.out h, fun h => by rw [h]⟩
            go_wp2_with fail
            refine (HS.out _).mono ?_
            rintro e w1 ⟨rfl, hk1⟩
            have HK1 := Lib.hid hk1
            clear hk1
            by_cases he : stuff O = xs
            · have hun : unst xs = (0, O) := by
                unfold unst
                rw [if_neg HZ0.out, if_neg HXE.out, HD.out]
                exact if_pos he
              have HU := Lib.hid hun
              have hcmp2 : ((strOfNums (stuff O)).toList == (strOfNums xs).toList) = true := by rw [hcmp]; exact decide_eq_true he
              clear hun hcmp he
              go_wp2_with fail
              exact bodyPost_ret (v := .tuple #[.string (strOfNums O), .int .i64 0]) (by simp [results, Try.results77, go_sem]) rfl ⟨by rw [HU.out], HK1.out⟩
            · have hun : unst xs = (4, []) := by
                unfold unst
                rw [if_neg HZ0.out, if_neg HXE.out, HD.out]
                exact if_neg he
              have HU := Lib.hid hun
              have hcmp2 : ((strOfNums (stuff O)).toList == (strOfNums xs).toList) = false := by rw [hcmp]; exact decide_eq_false he
              clear hun hcmp he
              go_wp2_with fail
              exact bodyPost_ret (v := .tuple #[.string (strOfNums []), .int .i64 4]) (by simp [results, Try.results77, go_sem]; rfl) rfl ⟨by rw [HU.out], HK1.out⟩
          · obtain ⟨b, r, hR⟩ := List.exists_cons_of_ne_nil hRn
            clear hRn
            have hb := hu.out.2.2.2 b (by rw [hR]; exact List.mem_cons_self)
            have hRo : Octets R := hu.out.2.2.2.octets
            have hem : (strOfNums R).toList.isEmpty = false := by rw [str_empty, hR]; rfl
            have hm0 : R.length = r.length + 1 := by rw [hR]; rfl
            have hpos : 0 < (strOfNums R).size := by rw [hsR, hR]; simp
            have hsg := str_get R hRo 0 hpos
            rw [show R.getD 0 0 = b by rw [hR]; rfl] at hsg
            obtain ⟨B, rfl⟩ := Int.eq_ofNat_of_zero_le (show 0 ≤ b by omega)
            obtain ⟨m, hm⟩ : ∃ m, m = R.length := ⟨_, rfl⟩
            rw [← hm] at hsR hub hm0
            have HR := Lib.hid hR
            have HM := Lib.hid hm
            have HM0 := Lib.hid hm0
            have hB1 : 1 ≤ B := by omega
            have hB2 : B < 256 := by omega
            have hm1 : 1 ≤ m := by omega
            clear hR hm hRo hb hm0
            by_cases hsh : m < B
            · have hd : decide ((m : Int) < (B : Int)) = true := decide_eq_true (by omega)
              have hun : unst xs = (2, []) := by
                unfold unst
                rw [if_neg HZ0.out, if_neg HXE.out, hu.out.short HR.out (by have := HM0.out; omega)]
              have HU := Lib.hid hun
              clear hun
              go_wp2_with fail
              exact bodyPost_ret (v := .tuple #[.string (strOfNums []), .int .i64 2]) (by simp [results, Try.results77, go_sem]; rfl) rfl ⟨by rw [HU.out], Keeps.refl _ _⟩
            · have hd : decide ((m : Int) < (B : Int)) = false := decide_eq_false (by omega)
              have hst := hu.out.step HR.out (by have := HM0.out; omega)
              rw [Int.toNat_natCast] at hst
              obtain ⟨T, hT⟩ : ∃ T, T = r.take (B - 1) := ⟨_, rfl⟩
              obtain ⟨R2, hR2⟩ : ∃ R2, R2 = r.drop (B - 1) := ⟨_, rfl⟩
              rw [← hT, ← hR2] at hst
              have hex : (strOfNums R).extract 1 B = strOfNums T := by
                rw [str_piece R 1 B 1 (B - 1) rfl (by omega), HR.out, hT]
                rfl
              have hdr : (strOfNums R).extract B m = strOfNums R2 := by
                have e := str_drop R B
                rw [hsR] at e
                rw [e, HR.out, hR2]
                congr 1
                obtain ⟨j, rfl⟩ : ∃ j, B = j + 1 := ⟨B - 1, by omega⟩
                rfl
              have hTl : T.length ≤ B := by rw [hT, List.length_take]; omega
              have hR2l : R2.length < m := by rw [hR2, List.length_drop]; have := HM0.out; omega
              have hsT : (strOfNums T).size = T.length := str_size T
              have ha1 : strOfNums O ++ strOfNums T = strOfNums (O ++ T) := str_append _ _
              have hs3 : (strOfNums (O ++ T)).size = O.length + T.length := by rw [str_size, List.length_append]
              have hOm : O.length + m ≤ k := hub
              have HST := Lib.hid hst
              have HR2l := Lib.hid hR2l
              clear hT hR2 hst hub
              by_cases h255 : B < 255
              · have hd5 : decide ((B : Int) < 255) = true := decide_eq_true (by omega)
                by_cases hz : R2 = []
                · have hem2 : (strOfNums R2).toList.isEmpty = true := by rw [str_empty, hz]; rfl
                  have HST2 : Hid (UnAt xs (O ++ T) R2) := Lib.hid (by
                    have := HST.out
                    rwa [if_neg (fun h => h.2 hz), List.append_nil] at this)
                  clear hz
                  go_wp2_with fail
                  refine ⟨⟨_, _, rfl, rfl, HST2⟩, ?_⟩
                  show strSize (.string (strOfNums R2)) < strSize (.string (strOfNums R))
                  rw [strSize_of, strSize_of, ← HM.out]
                  exact HR2l.out
                · have hem2 : (strOfNums R2).toList.isEmpty = false := by rw [str_empty]; simpa using hz
                  have ha2 : strOfNums (O ++ T) ++ (ByteArray.mk #[0]) = strOfNums (O ++ (T ++ [0])) := by rw [← List.append_assoc]; exact str_append _ [0]
                  have HST2 : Hid (UnAt xs (O ++ (T ++ [0])) R2) := Lib.hid (by
                    have := HST.out
                    rwa [if_pos ⟨by omega, hz⟩, List.append_assoc] at this)
                  clear hz
                  go_wp2_with fail
                  refine ⟨⟨_, _, rfl, rfl, HST2⟩, ?_⟩
                  show strSize (.string (strOfNums R2)) < strSize (.string (strOfNums R))
                  rw [strSize_of, strSize_of, ← HM.out]
                  exact HR2l.out
              · have hd5 : decide ((B : Int) < 255) = false := decide_eq_false (by omega)
                have HST2 : Hid (UnAt xs (O ++ T) R2) := Lib.hid (by
                  have := HST.out
                  rwa [if_neg (fun h => by omega), List.append_nil] at this)
                go_wp2_with fail
                refine ⟨⟨_, _, rfl, rfl, HST2⟩, ?_⟩
                show strSize (.string (strOfNums R2)) < strSize (.string (strOfNums R))
                rw [strSize_of, strSize_of, ← HM.out]
                exact HR2l.out
end Go.Proofs.Ytmifbohdepejaaa

namespace Go.Proofs.Ytmifbohdepejaaa
open Go.RowKit

/-- What the document's GetText leaves. -/
def textOut (xs : List Int) (a : Int) (t : VT) : Value := .tuple #[rdr (xs.drop t.n) (a + t.n) t.e, .string (strOfNums t.t)]

theorem str_nil : (strOfNums [] : ByteArray) = ⟨#[]⟩ := rfl

end Go.Proofs.Ytmifbohdepejaaa

namespace Go.Proofs.Ytmifbohdepejaaa
open Go.RowKit

/-- What a slice of bytes is. -/
structure In8 (w : World) (p : Option Addr) (N c : Nat) (xs : List Int) : Prop where
  len : N = xs.length
  cap : N ≤ c
  room : c ≤ 9223372036854775807
  bare : p = none → N = 0 ∧ c = 0
  oct : Octets xs
  at_ : Bytes8 w p xs

theorem In8.nil (w : World) : In8 w none 0 0 [] := ⟨rfl, Nat.le_refl _, by decide, fun _ => ⟨rfl, rfl⟩, fun b hb => by simp at hb, Bytes8.nil _ _⟩

theorem Bytes8.left {w : World} {p : Option Addr} {xs ys : List Int} (h : Bytes8 w p (xs ++ ys)) : Bytes8 w p xs := fun h0 => by
  obtain ⟨a, ha, hc⟩ := h (by rw [List.length_append]; omega)
  refine ⟨a, ha, fun i hi => ?_⟩
  rw [hc i (by rw [List.length_append]; omega), List.getD_eq_getElem?_getD, List.getD_eq_getElem?_getD, List.getElem?_append_left hi]

theorem cell_new (w : World) (cs : Array Value) (t : TypeId) (f : Nat × Nat) (i : Nat) {v : Value} (h : cs[i]? = some v) : (w.alloc (.cells cs t f)).cell? ⟨w.heap.size, i, none⟩ = some v := by
  have e : (w.alloc (.cells cs t f)).heap[w.heap.size]? = some (.cells cs t f) := by
    show (w.heap.push _)[w.heap.size]? = _
    simp
  unfold World.cell?
  simp only [e]
  simpa using h
end Go.Proofs.Ytmifbohdepejaaa

namespace Go.Proofs.Ytmifbohdepejaaa
open Go.RowKit

theorem and31 (n : Nat) (hn : n < 32) : bits BinOp.and IntKind.u64 (n : Int) 31 = (n : Int) := by
  have e := u64_and_nat n 31 (by omega) (by decide)
  rw [show n &&& 31 = n % 2 ^ 5 from Nat.and_two_pow_sub_one_eq_mod n 5, Nat.mod_eq_of_lt (by omega)] at e
  exact e

theorem down32 {x : Int} (h : U32 x) : bits BinOp.xor IntKind.u32 x (x / 32768) = down 15 x ∧ bits BinOp.xor IntKind.u32 x (x / 8192) = down 13 x ∧ bits BinOp.xor IntKind.u32 x (x / 65536) = down 16 x :=
  ⟨down_of32 15 h, down_of32 13 h, down_of32 16 h⟩

def lenOf : Value → Nat
  | .slice _ n _ => n
  | _ => 0

/-- 'x | uint32(low) << (8*k)' where x has k bytes. -/
theorem or_byte32 (X y : Int) (k : Nat) (hk : k < 4) (hX0 : 0 ≤ X) (hX : X < 2 ^ (8 * k)) (h0 : 0 ≤ y) (h1 : y < 256) :
    bits BinOp.or IntKind.u32 X (y * 2 ^ (8 * k)) = X + 2 ^ (8 * k) * y := by
  obtain ⟨x, rfl⟩ := Int.eq_ofNat_of_zero_le hX0
  obtain ⟨b, rfl⟩ := Int.eq_ofNat_of_zero_le h0
  have hp : (2 : Nat) ^ (8 * k) * 256 ≤ 4294967296 := by
    have e : (2 : Nat) ^ (8 * k) * 256 = 2 ^ (8 * k + 8) := by rw [Nat.pow_add]
    rw [e]
    exact Nat.pow_le_pow_right (by decide) (show 8 * k + 8 ≤ 32 by omega)
  have hx : x < 2 ^ (8 * k) := by exact_mod_cast hX
  have hb : b < 256 := by omega
  have hbp : b * 2 ^ (8 * k) < 4294967296 := by
    have : b * 2 ^ (8 * k) < 256 * 2 ^ (8 * k) := Nat.mul_lt_mul_of_pos_right hb (Nat.two_pow_pos _)
    rw [Nat.mul_comm 256] at this
    omega
  have e2 : (b : Int) * 2 ^ (8 * k) = ((b * 2 ^ (8 * k) : Nat) : Int) := by push_cast; rfl
  rw [e2, u32_or_nat _ _ (by omega) hbp, Nat.or_comm, Nat.mul_comm b, ← Nat.two_pow_add_eq_or_of_lt hx]
  push_cast
  omega

theorem Bytes8.at4 {w : World} {p : Option Addr} {xs : List Int} (h : Bytes8 w p xs) (h4 : 4 ≤ xs.length) : ∃ a, p = some a ∧ w.cell? a = some (.int .u8 (xs.getD 0 0)) ∧ w.cell? ⟨a.block, a.off + 1, none⟩ = some (.int .u8 (xs.getD 1 0)) ∧ w.cell? ⟨a.block, a.off + 2, none⟩ = some (.int .u8 (xs.getD 2 0)) ∧ w.cell? ⟨a.block, a.off + 3, none⟩ = some (.int .u8 (xs.getD 3 0)) := by
  obtain ⟨a, rfl, hc⟩ := h (by omega)
  exact ⟨a, rfl, hc 0 (by omega), hc 1 (by omega), hc 2 (by omega), hc 3 (by omega)⟩

theorem four_le {xs : List Int} (h4 : 4 ≤ xs.length) : four4 xs 0 = xs.getD 0 0 + 256 * (xs.getD 1 0) + 65536 * (xs.getD 2 0) + 16777216 * (xs.getD 3 0) := by
  match xs, h4 with
  | a :: b :: c :: d :: r, _ => simp [four4, le]; omega

end Go.Proofs.Ytmifbohdepejaaa

namespace Go.Proofs.Ytmifbohdepejaaa
open Go.RowKit

end Go.Proofs.Ytmifbohdepejaaa

namespace Go.Proofs.Ytmifbohdepejaaa
open Go.RowKit

theorem xxh_nil : xxh 0 [] = 46947589 := by
  unfold xxh tblocks
  rw [if_pos (by decide), tails_end (by decide)]
  decide +kernel
theorem xxh_abc : xxh 0 [97, 98, 99] = 852579327 := by
  unfold xxh tblocks
  rw [if_pos (by decide), tails_end (by decide)]
  decide +kernel

end Go.Proofs.Ytmifbohdepejaaa

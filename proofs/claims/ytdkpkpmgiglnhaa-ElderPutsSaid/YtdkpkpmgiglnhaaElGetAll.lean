/-
  The document's GetAll of pairs.
-/
import Derived.Test.YtdkpkpmgiglnhaaElGet
import Derived.Test.YtdkpkpmgiglnhaaElRow
namespace Go.Proofs.Ytdkpkpmgiglnhaa
open Go.RowKit

theorem infoPr : (Try.prog.info? 36).map (fun i => (i.zero, i.size, i.bytes)) = some (some (.agg #[.string ⟨#[]⟩, .string ⟨#[]⟩]), 2, 32) := by kernel_rfl

def AllOk (a : PA) (w : World) (e : Ending) (w' : World) : Prop := ∃ v, e = .returned (.tuple #[v, .int .i64 (a.n : Int), .int .i64 a.e]) ∧ NewPrs w a.l v w'
/-- What stands behind the pairs so far. -/
structure AllState (xs : List Int) (w0 : World) (l : List Pr) (a : Nat) (v : Value) (wr : World) : Prop where
  row : PrsSoFar 36 w0 l v wr
  le : a ≤ xs.length
  few : l.length ≤ a
  all : allP xs = ⟨l ++ (allP (xs.drop a)).l, a + (allP (xs.drop a)).n, (allP (xs.drop a)).e⟩
theorem AllState.next {xs : List Int} {w0 wr w2 : World} {l : List Pr} {a : Nat} {v v2 : Value} (h : AllState xs w0 l a v wr) (ho : Octets xs) (hlt : a < xs.length) (he : (getP (xs.drop a)).e = 0) (hr : PrsSoFar 36 w0 (l ++ [(getP (xs.drop a)).p]) v2 w2) : AllState xs w0 (l ++ [(getP (xs.drop a)).p]) (a + (getP (xs.drop a)).n) v2 w2 ∧ 0 < (getP (xs.drop a)).n ∧ a + (getP (xs.drop a)).n ≤ xs.length := by
  obtain ⟨h1, h2, h3, _, _⟩ := getP_only (ho.drop a) he
  rw [List.length_drop] at h2
  have hne : ¬ xs.drop a = [] := fun e => by
    have := congrArg List.length e
    rw [List.length_drop, List.length_nil] at this
    omega
  have hall : allP (xs.drop a) = ⟨(getP (xs.drop a)).p :: (allP (xs.drop (a + (getP (xs.drop a)).n))).l, (getP (xs.drop a)).n + (allP (xs.drop (a + (getP (xs.drop a)).n))).n, (allP (xs.drop (a + (getP (xs.drop a)).n))).e⟩ := by
    conv => lhs; unfold allP
    rw [if_neg hne, dif_pos ⟨he, by omega, by rw [List.length_drop]; omega⟩, List.drop_drop]
  have := h.few
  refine ⟨⟨hr, by omega, by rw [List.length_append]; simp; omega, ?_⟩, by omega, by omega⟩
  rw [h.all, hall]
  simp only [List.append_assoc, List.singleton_append, Nat.add_assoc]
theorem AllState.stop {xs : List Int} {w0 wr : World} {l : List Pr} {a : Nat} {v : Value} (h : AllState xs w0 l a v wr) (hlt : a < xs.length) (he : (getP (xs.drop a)).e ≠ 0) : allP xs = ⟨l, a, (getP (xs.drop a)).e⟩ := by
  have hne : ¬ xs.drop a = [] := fun e => by
    have := congrArg List.length e
    rw [List.length_drop, List.length_nil] at this
    omega
  have hall : allP (xs.drop a) = ⟨[], 0, (getP (xs.drop a)).e⟩ := by
    conv => lhs; unfold allP
    rw [if_neg hne, dif_neg (fun hh => he hh.1)]
  rw [h.all, hall, List.append_nil, Nat.add_zero]
theorem AllState.done {xs : List Int} {w0 wr : World} {l : List Pr} {a : Nat} {v : Value} (h : AllState xs w0 l a v wr) (hlt : ¬ a < xs.length) : allP xs = ⟨l, a, 0⟩ := by
  have hd : xs.drop a = [] := List.drop_eq_nil_of_le (by omega)
  rw [h.all, hd, allP_nil, List.append_nil, Nat.add_zero]

set_option maxHeartbeats 8000000 in
set_option maxRecDepth 10000 in
theorem getall_ref (xs : List Int) (ho : Octets xs) (hl : xs.length ≤ 10000000) (w : World) :
    Calls Try.prog 18 #[.string (strOfNums xs)] w (AllOk (allP xs) w) := by
  obtain ⟨i0, hi, hz0, hz1, hz2⟩ := info_parts infoPr
  have hsz := str_size xs
  obtain ⟨L, hL⟩ : ∃ L, L = xs.length := ⟨_, rfl⟩
  rw [← hL] at hsz hl
  have HL := Lib.hid hL
  have HO := Lib.hid ho
  clear hL ho
  go_enter Try.func18, Try.ntmps18
  go_wp2_with fail
  go_loopw [5, 6] (fun v i wr => ∃ (l : List Pr) (a : Nat), a ≤ L ∧ i = .int .i64 (a : Int) ∧ Hid (AllState xs w l a v wr)) (fun _ i _ => L - (intOf i).toNat)
  case atStart => exact ⟨[], 0, Nat.zero_le _, rfl, Lib.hid ⟨⟨World.ownsRow_nil _ _ _ _, Below.refl _ _⟩, Nat.zero_le _, Nat.zero_le _, by simp⟩⟩
  case round =>
    obtain ⟨l, a, haL, rfl, HS⟩ := hrel
    by_cases hlt : a < L
    · have hd1 : decide (a < L) = true := decide_eq_true hlt
      have e1 : (strOfNums xs).extract a L = strOfNums (xs.drop a) := by
        have := str_drop xs a
        rw [hsz] at this
        exact this
      have HG := Lib.hid (fun w => getpair_ref (xs.drop a) (HO.out.drop a) (by rw [List.length_drop, ← HL.out]; omega) w)
      have hlx : a < xs.length := by rw [← HL.out]; exact hlt
      have HNx := Lib.hid (fun (he : (getP (xs.drop a)).e = 0) v2 w2 hr => HS.out.next (v2 := v2) (w2 := w2) HO.out hlx he hr)
      have HSt := Lib.hid (fun (he : (getP (xs.drop a)).e ≠ 0) => HS.out.stop hlx he)
      have hfew : l.length ≤ 10000000 := by have := HS.out.few; omega
      obtain ⟨g, hg⟩ : ∃ g, g = getP (xs.drop a) := ⟨_, rfl⟩
      rw [← hg] at HG HNx HSt
      clear hg hlx
      unfold pgOut prV at HG
      go_wp2_with fail
      refine (HG.out _).mono ?_
      rintro e w2 ⟨rfl, hk⟩
      have HOw := Lib.hid (own_keep HS.out.row.1 hk (fun _ _ h => h))
      have HBw := Lib.hid (HS.out.row.2.trans (hk.below HS.out.row.2.size (fun _ _ h => h)))
      clear hk
      by_cases he : g.e = 0
      · have hgb : (g.e != 0) = false := by rw [he]; rfl
        have HNx2 := Lib.hid (HNx.out he)
        clear HNx HSt
        have HW : Hid (Whole ((w2.alloc (.cells #[.string (strOfNums g.p.key), .string (strOfNums g.p.val)] 36)).alloc (.cells #[.string (strOfNums g.p.key), .string (strOfNums g.p.val)] 36)) (w2.heap.size + 1) 36 (prCells g.p)) := Lib.hid (Whole.newAt _ _ (prCells g.p) _ (by simp))
        have HO2 := Lib.hid ((HOw.out.alloc (.cells #[.string (strOfNums g.p.key), .string (strOfNums g.p.val)] 36)).alloc (.cells #[.string (strOfNums g.p.key), .string (strOfNums g.p.val)] 36))
        have HB2 := Lib.hid ((HBw.out.alloc HBw.out.size (.cells #[.string (strOfNums g.p.key), .string (strOfNums g.p.val)] 36)).alloc (by have := HBw.out.size; simp; omega) (.cells #[.string (strOfNums g.p.key), .string (strOfNums g.p.val)] 36))
        clear he
        go_wp2_with (at_builtin; refine wpList_append_own _ rfl _ _ 45 rfl w.heap.size 36 i0 (.agg #[.string ⟨#[]⟩, .string ⟨#[]⟩]) 2 32 Try.underlying45 hi hz0 hz1 hz2 rfl (by decide) _ _ _ rfl HO2.out ⟨w2.heap.size + 1, 0, none⟩ 1 1 (prTwo g.p) rfl ?qc1 ?qc2 ?qc3 ?qc4 ?qc5 ?qc6 ?_)
        case qc1 => rfl
        case qc2 =>
          intro j' u hu
          obtain ⟨d0, d1⟩ := PrAt.ofWhole HW.out
          rw [Addr.add_lit, Nat.zero_add]
          match j', hu with
          | 0, hu => obtain rfl := Option.some.inj hu; exact d0
          | 1, hu => obtain rfl := Option.some.inj hu; exact d1
          | k + 2, hu => simp [prTwo] at hu
        case qc3 =>
          intro u hu
          simp only [prTwo, List.mem_cons, List.not_mem_nil, or_false] at hu
          rcases hu with rfl | rfl <;> rfl
        case qc4 =>
          unfold maxLen
          omega
        case qc5 => omega
        case qc6 => exact HB2.out.size
        intro v' w5 hown hgrow _
        obtain ⟨h1, h2, h3⟩ := HNx2.out v' w5 ⟨by rw [prFlat_append, List.length_append]; simpa [prFlat] using hown, HB2.out.grown hgrow HB2.out.size (fun k hk => (HO2.out.lt k hk).1)⟩
        have HS2 := Lib.hid h1
        rw [← HL.out] at h3
        clear hown hgrow h1
        go_wp2_with fail
        exact ⟨⟨_, a + g.n, h3, by go_num, HS2⟩, by simp [intOf]; omega⟩
      · have hgb : (g.e != 0) = true := by rw [bne_iff_ne]; exact he
        have HSt2 := Lib.hid (HSt.out he)
        have HRow : Hid (NewPrs w l _ _) := Lib.hid (PrsSoFar.new (t := 36) ⟨HOw.out.alloc (.cells #[.string (strOfNums g.p.key), .string (strOfNums g.p.val)] 36), HBw.out.alloc HBw.out.size (.cells #[.string (strOfNums g.p.key), .string (strOfNums g.p.val)] 36)⟩)
        clear HNx HSt he
        go_wp2_with fail
        exact bodyPost_ret (v := .tuple #[_, .int .i64 (a : Int), .int .i64 g.e]) (by simp [results, Try.results18, go_sem]; rfl) rfl (by unfold AllOk; rw [HSt2.out]; exact ⟨_, rfl, HRow.out⟩)
    · have hd1 : decide (a < L) = false := decide_eq_false hlt
      have HD := Lib.hid (HS.out.done (by rw [← HL.out]; exact hlt))
      have HRow := Lib.hid (PrsSoFar.new HS.out.row)
      clear hlt
      go_wp2_with fail
      exact bodyPost_ret (v := .tuple #[_, .int .i64 (a : Int), .int .i64 0]) (by simp [results, Try.results18, go_sem]; rfl) rfl (by unfold AllOk; rw [HD.out]; exact ⟨_, rfl, HRow.out⟩)
end Go.Proofs.Ytdkpkpmgiglnhaa

/-
  RecRead; FrRead; FrGetOwn; RecAll; FrAll; PkEmpty.
-/
import Derived.Lib.Hide
import Derived.Test.YtehkjkcnigknkaaGreatV06
import Derived.Test.YtehkjkcnigknkaaGreatV16
import Derived.Test.YtehkjkcnigknkaaGreatV22
import Derived.Test.YtehkjkcnigknkaaGreatV27
import Derived.Test.YtehkjkcnigknkaaGreatV30
import Derived.Test.YtehkjkcnigknkaaGreatV31
namespace Go.Proofs.YtehkjkcnigknkaaGreat
open Lib (hid)
section
open Go.RowKit
def Left7 (w0:World) (D:Nat) (t:Int × Rec) (w2:World):Prop :=
 Keeps (Just D) w0 w2∧(t.1=0→Whole w2 D 48 (recCells t.2))
structure At7 (w0:World) (D:Nat) (p:Option Addr) (xs:List Int) (N c a:Nat) (y:Int) (cs:Array Value) (W:World):Prop where
 beg:Begun w0 p N c a y W
 cells:Whole W D 48 cs
 by8:Bytes8 W p xs
 kp:Keeps (Just D) w0 W
 lt:D<w0.heap.size
 far:0<xs.length→∀ q,p=some q→q.block<w0.heap.size∧q.block ≠ D
theorem At7.cur {w0:World} {D:Nat} {p:Option Addr} {xs:List Int} {N c a:Nat} {y:Int} {cs:Array Value} {W:World} (h:At7 w0 D p xs N c a y cs W):CurB W (w0.heap.size+1+1) p N c a true y:=h.beg.cur
theorem At7.apart {w0:World} {D:Nat} {p:Option Addr} {xs:List Int} {N c a:Nat} {y:Int} {cs:Array Value} {W:World} (h:At7 w0 D p xs N c a y cs W):0<xs.length→∀ q,p=some q→q.block ≠ w0.heap.size+1+1:=fun h0 q hq=>by have:=(h.far h0 q hq).1;omega
theorem At7.call {w0:World} {D:Nat} {p:Option Addr} {xs:List Int} {N c a:Nat} {y:Int} {cs:Array Value} {W:World} (h:At7 w0 D p xs N c a y cs W) {W':World} {b:Nat} {z:Int} (hk:Keeps (Just (w0.heap.size+1+1)) W W') (hc:CurB W' (w0.heap.size+1+1) p N c b true z):At7 w0 D p xs N c b z cs W' :=
 ⟨h.beg.keep hk hc,h.cells.keep hk (by have:=h.lt;unfold Just;omega),h.by8.keepPos hk (fun h0 q hq=>by have:=(h.far h0 q hq).1;unfold Just;omega),h.kp.then hk (fun i hi hj=>by unfold Just at hj;omega),h.lt,h.far⟩
theorem At7.quiet {w0:World} {D:Nat} {p:Option Addr} {xs:List Int} {N c a:Nat} {y:Int} {cs:Array Value} {W:World} (h:At7 w0 D p xs N c a y cs W) {W':World} (hk:Keeps NoBlock W W'):At7 w0 D p xs N c a y cs W' :=
 h.call (hk.wider (fun _ _ hj=>hj.elim)) (Whole.keep h.cur hk (fun hj=>hj))
theorem At7.put {w0:World} {D:Nat} {p:Option Addr} {xs:List Int} {N c a:Nat} {y:Int} {cs:Array Value} {W:World} (h:At7 w0 D p xs N c a y cs W) (i:Nat) (v:Value):At7 w0 D p xs N c a y (cs.setIfInBounds i v) (W.setCell ⟨D,i,none⟩ v) :=
 ⟨⟨h.beg.at_.setOther (by have:=h.lt;simp;omega) v,h.beg.why.setOther (by have:=h.lt;simp;omega) v,Whole.setOther h.beg.cur (by have:=h.lt;simp;omega) v,h.beg.var.setOther (by have:=h.lt;simp;omega) v⟩,
  h.cells.set i v,h.by8.keepPos ((Keeps.refl (Just D) W).setIn (Just.self D) i v) (fun h0 q hq=>(h.far h0 q hq).2),h.kp.setIn (Just.self D) i v,h.lt,h.far⟩
theorem At7.gave {w0:World} {D:Nat} {p:Option Addr} {xs:List Int} {N c a:Nat} {y:Int} {cs:Array Value} {W:World} (h:At7 w0 D p xs N c a y cs W) (hy:y ≠ 0) {r:Rec}:ReadEnds w0 p N c a y (Left7 w0 D (y,r)) (.panicked (given (w0.heap.size+1+1))) W :=
 ⟨.inr (gave_given _),h.beg,h.kp,fun h0=>absurd h0 hy⟩
theorem At7.done {w0:World} {D:Nat} {p:Option Addr} {xs:List Int} {N c a:Nat} {W:World} {r:Rec} (h:At7 w0 D p xs N c a 0 (recCells r) W):ReadEnds w0 p N c a 0 (Left7 w0 D (0,r)) (.returned (.tuple #[])) W :=
 ⟨.inl rfl,h.beg,h.kp,fun _=>h.cells⟩
theorem enter_readIn7 (args:Array Value) (w:World):(callFunc 142 args).run Tryz.prog w=.ok (.enter 142 args) w:=by kernel_rfl
theorem drop_succ (b:Int) (ys:List Int) (n:Nat):(b :: ys).drop (1+n)=ys.drop n:=by rw [Nat.add_comm,List.drop_succ_cons]
def Ends7 (w0:World) (D:Nat) (p:Option Addr) (xs:List Int) (N c a:Nat):Prop:=∀ W,At7 w0 D p xs N c 0 0 (recCells Rec.none) W →
  Calls Tryz.prog 142 (#[.pointer (some ⟨w0.heap.size+1+1,0,none⟩)] ++ #[.pointer (some ⟨D,0,none⟩)]) W (ReadEnds w0 p N c a (readR xs).1 (Left7 w0 D (readR xs)))
set_option maxHeartbeats 8000000 in
set_option maxRecDepth 10000 in
theorem readIn7 (w0:World) (D:Nat) (p:Option Addr) (xs:List Int) (N c:Nat) (hx:N=xs.length) (ho:Octets xs) (hc:N≤c) (hN9:N≤140737488355328) (hc':c≤9223372036854775807) :
  ∃ a,Ends7 w0 D p xs N c a:=by
 cases hxs:xs with
 | nil =>
  have hR:readR xs=(2,Rec.none):=by rw [hxs];rfl
  rw [← hxs]
  refine ⟨0,?_⟩
  intro W hA
  have HA0:=hid hA
  rw [hR]
  have H_hx:=hid hx
  have H_hxs:=hid hxs
  clear hA hx hxs
  simp only [List.append_toArray,List.nil_append,List.cons_append]
  go_enter Tryz.func142,Tryz.ntmps142
  go_wp2_with fail
  refine (gone_own _ p xs N c _ H_hx.out HA0.out.cur HA0.out.by8 ho HA0.out.apart hc hc').mono ?_
  rw [H_hxs.out]
  rintro e w1 ⟨rfl,hcur,hk⟩
  exact ⟨rfl,(HA0.out.call hk hcur).gave (by decide)⟩
 | cons b ys =>
  have hd1:xs.drop 1=ys:=by rw [hxs];rfl
  have hd2:xs.drop (1+(vget ys).n)=ys.drop (vget ys).n:=by rw [hxs,drop_succ]
  have hd3:xs.drop (1+(vget ys).n+(vtext (ys.drop (vget ys).n) 1 4096).n)=ys.drop ((vget ys).n+(vtext (ys.drop (vget ys).n) 1 4096).n):=by rw [hxs,Nat.add_assoc,drop_succ]
  have hlen:N=1+ys.length:=by rw [hx,hxs,List.length_cons];omega
  have n1:(vget ys).n≤ys.length:=vread_n 10 true ys
  have n2:(vtext (ys.drop (vget ys).n) 1 4096).n≤ys.length - (vget ys).n:=by rw [← List.length_drop];exact vtext_n _ 1 4096
  have n3:(vtext (ys.drop ((vget ys).n+(vtext (ys.drop (vget ys).n) 1 4096).n)) 0 1048576).n≤ys.length - (vget ys).n - (vtext (ys.drop (vget ys).n) 1 4096).n:=by rw [Nat.sub_sub,← List.length_drop];exact vtext_n _ 0 1048576
  rw [← hxs]
  by_cases hb:b ≠ 2∧b ≠ 3
  ·have hR:readR xs=(4,Rec.none):=by
    rw [hxs]
    show readKind b ys=_
    unfold readKind
    rw [if_pos hb]
   refine ⟨1,?_⟩
   intro W hA
   have HA0:=hid hA
   rw [hR]
   have H_hx:=hid hx
   have H_hxs:=hid hxs
   have H_hlen:=hid hlen
   have H_hb:=hid hb
   clear hA hx hxs hlen hb
   simp only [List.append_toArray,List.nil_append,List.cons_append]
   go_enter Tryz.func142,Tryz.ntmps142
   go_wp2_with fail
   refine (gone_own _ p xs N c _ H_hx.out HA0.out.cur HA0.out.by8 ho HA0.out.apart hc hc').mono ?_
   rw [H_hxs.out]
   rintro e w1 ⟨hk,hcur,rfl⟩
   rw [if_pos H_hb.out] at hcur ⊢
   exact ⟨rfl,(HA0.out.call hk hcur).gave (by decide)⟩
  ·have hk2:(if b ≠ 2∧b ≠ 3 then (4:Int) else 0)=0:=if_neg hb
   have hk3:(if b ≠ 2∧b ≠ 3 then Ending.panicked (given (w0.heap.size+1+1)) else Ending.returned (.bool (b == 3)))=.returned (.bool (b == 3)):=if_neg hb
   have hR0:readR xs=if (vget ys).e ≠ 0 then ((vget ys).e,Rec.none) else readKey b (vget ys).x.toNat (ys.drop (vget ys).n):=by
    rw [hxs]
    show readKind b ys=_
    unfold readKind
    rw [if_neg hb]
   by_cases h1:(vget ys).e=0
   rotate_left
   ·have hR:readR xs=((vget ys).e,Rec.none):=by rw [hR0,if_pos h1]
    refine ⟨1+(vget ys).n,?_⟩
    intro W hA
    have HA0:=hid hA
    rw [hR]
    have H_hx:=hid hx
    have H_hxs:=hid hxs
    have H_hlen:=hid hlen
    have H_hd1:=hid hd1
    have H_hk2:=hid hk2
    have H_hk3:=hid hk3
    clear hA hx hxs hlen hd1 hk2 hk3
    simp only [List.append_toArray,List.nil_append,List.cons_append]
    go_enter Tryz.func142,Tryz.ntmps142
    go_wp2_with fail
    refine (gone_own _ p xs N c _ H_hx.out HA0.out.cur HA0.out.by8 ho HA0.out.apart hc hc').mono ?_
    rw [H_hxs.out]
    rintro e w1 ⟨hk,hcur,he⟩
    rw [H_hk2.out] at hcur
    rw [H_hk3.out] at he
    subst he
    have hA1:=HA0.out.call hk hcur
    clear hk hcur
    have HA1:=hid (hA1.put 0 (.bool (b == 3)))
    have f1:=hA1.cells.free 0
    have g1:w1.cell? ⟨D,0,none⟩=some (.bool false):=hA1.cells.cell 0 rfl
    clear hA1
    go_wp2_with fail
    refine (get_any _ p xs N c 1 _ H_hx.out HA1.out.cur HA1.out.by8 ho HA1.out.apart (by have:=H_hx.out;have:=H_hlen.out;omega) hc hc').mono ?_
    rw [H_hd1.out]
    rintro e w9 ⟨hk,⟨he,rfl,hcur⟩|⟨he,rfl,hcur⟩⟩
    ·exact absurd he h1
    ·exact ⟨rfl,(HA1.out.call hk hcur).gave h1⟩
   rw [if_neg (by simpa using h1)] at hR0
   have hxb:=vread_bound 9 true ys (fun z hz=>ho z (by rw [hxs];exact List.mem_cons_of_mem _ hz)) h1
   have hxn:(((vget ys).x.toNat:Nat):Int)=(vget ys).x:=Int.toNat_of_nonneg hxb.1
   clear hxb
   unfold readKey at hR0
   simp only [List.drop_drop] at hR0
   by_cases h2:(vtext (ys.drop (vget ys).n) 1 4096).e=0
   rotate_left
   ·have hR:readR xs=((vtext (ys.drop (vget ys).n) 1 4096).e,Rec.none):=by rw [hR0,if_pos h2]
    refine ⟨1+(vget ys).n+(vtext (ys.drop (vget ys).n) 1 4096).n,?_⟩
    intro W hA
    have HA0:=hid hA
    rw [hR]
    have H_hx:=hid hx
    have H_hxs:=hid hxs
    have H_hlen:=hid hlen
    have H_hd1:=hid hd1
    have H_hd2:=hid hd2
    have H_hk2:=hid hk2
    have H_hk3:=hid hk3
    clear hA hx hxs hlen hd1 hd2 hk2 hk3
    simp only [List.append_toArray,List.nil_append,List.cons_append]
    go_enter Tryz.func142,Tryz.ntmps142
    go_wp2_with fail
    refine (gone_own _ p xs N c _ H_hx.out HA0.out.cur HA0.out.by8 ho HA0.out.apart hc hc').mono ?_
    rw [H_hxs.out]
    rintro e w1 ⟨hk,hcur,he⟩
    rw [H_hk2.out] at hcur
    rw [H_hk3.out] at he
    subst he
    have hA1:=HA0.out.call hk hcur
    clear hk hcur
    have HA1:=hid (hA1.put 0 (.bool (b == 3)))
    have f1:=hA1.cells.free 0
    have g1:w1.cell? ⟨D,0,none⟩=some (.bool false):=hA1.cells.cell 0 rfl
    clear hA1
    go_wp2_with fail
    refine (get_any _ p xs N c 1 _ H_hx.out HA1.out.cur HA1.out.by8 ho HA1.out.apart (by have:=H_hx.out;have:=H_hlen.out;omega) hc hc').mono ?_
    rw [H_hd1.out]
    rintro e w2 ⟨hk,⟨he,rfl,hcur⟩|⟨he,rfl,hcur⟩⟩
    rotate_left
    ·exact absurd h1 he
    clear he
    have hA2:=HA1.out.call hk hcur
    clear hk hcur
    have HA2:=hid (hA2.put 1 (.int .u64 (vget ys).x))
    have f2:=hA2.cells.free 1
    have g2:w2.cell? ⟨D,1,none⟩=some (.int .u64 0):=hA2.cells.cell 1 rfl
    clear hA2
    go_wp2_with fail
    refine (gettext_any _ p xs N c (1+(vget ys).n) 1 4096 1 4096 rfl rfl (by have:=H_hx.out;have:=H_hlen.out;omega) (by have:=H_hx.out;have:=H_hlen.out;omega) _ H_hx.out HA2.out.cur HA2.out.by8 ho HA2.out.apart (by have:=H_hx.out;have:=H_hlen.out;omega) hc hN9 hc').mono ?_
    rw [H_hd2.out]
    rintro e w9 ⟨hk,⟨he,rfl,hcur⟩|⟨he,rfl,hcur⟩⟩
    ·exact absurd he h2
    ·exact ⟨rfl,(HA2.out.call hk hcur).gave h2⟩
   rw [if_neg (by simpa using h2)] at hR0
   by_cases h3b:b=3
   ·rw [if_pos h3b] at hR0
    have hbt:(b == 3)=true:=by rw [h3b];rfl
    unfold readEnd at hR0
    have hl3:(ys.drop ((vget ys).n+(vtext (ys.drop (vget ys).n) 1 4096).n)).length=N - (1+(vget ys).n+(vtext (ys.drop (vget ys).n) 1 4096).n):=by rw [List.length_drop];omega
    by_cases hend:1+(vget ys).n+(vtext (ys.drop (vget ys).n) 1 4096).n=N
    ·have hR:readR xs=(0,⟨true,(vget ys).x.toNat,(vtext (ys.drop (vget ys).n) 1 4096).t,[]⟩):=by rw [hR0,if_pos (List.length_eq_zero_iff.1 (by omega))]
     refine ⟨1+(vget ys).n+(vtext (ys.drop (vget ys).n) 1 4096).n,?_⟩
     intro W hA
     have HA0:=hid hA
     rw [hR]
     have H_hx:=hid hx
     have H_hxs:=hid hxs
     have H_hlen:=hid hlen
     have H_hd1:=hid hd1
     have H_hd2:=hid hd2
     have H_hk2:=hid hk2
     have H_hk3:=hid hk3
     have H_hbt:=hid hbt
     have H_hend:=hid hend
     have H_hxn:=hid hxn
     clear hA hx hxs hlen hd1 hd2 hk2 hk3 hbt hend hxn
     simp only [List.append_toArray,List.nil_append,List.cons_append]
     go_enter Tryz.func142,Tryz.ntmps142
     go_wp2_with fail
     refine (gone_own _ p xs N c _ H_hx.out HA0.out.cur HA0.out.by8 ho HA0.out.apart hc hc').mono ?_
     rw [H_hxs.out]
     rintro e w1 ⟨hk,hcur,he⟩
     rw [H_hk2.out] at hcur
     rw [H_hk3.out,H_hbt.out] at he
     subst he
     have hA1:=HA0.out.call hk hcur
     clear hk hcur
     have HA1:=hid (hA1.put 0 (.bool true))
     have f1:=hA1.cells.free 0
     have g1:w1.cell? ⟨D,0,none⟩=some (.bool false):=hA1.cells.cell 0 rfl
     clear hA1
     go_wp2_with fail
     refine (get_any _ p xs N c 1 _ H_hx.out HA1.out.cur HA1.out.by8 ho HA1.out.apart (by have:=H_hx.out;have:=H_hlen.out;omega) hc hc').mono ?_
     rw [H_hd1.out]
     rintro e w2 ⟨hk,⟨he,rfl,hcur⟩|⟨he,rfl,hcur⟩⟩
     rotate_left
     ·exact absurd h1 he
     clear he
     have hA2:=HA1.out.call hk hcur
     clear hk hcur
     have HA2:=hid (hA2.put 1 (.int .u64 (vget ys).x))
     have f2:=hA2.cells.free 1
     have g2:w2.cell? ⟨D,1,none⟩=some (.int .u64 0):=hA2.cells.cell 1 rfl
     clear hA2
     go_wp2_with fail
     refine (gettext_any _ p xs N c (1+(vget ys).n) 1 4096 1 4096 rfl rfl (by have:=H_hx.out;have:=H_hlen.out;omega) (by have:=H_hx.out;have:=H_hlen.out;omega) _ H_hx.out HA2.out.cur HA2.out.by8 ho HA2.out.apart (by have:=H_hx.out;have:=H_hlen.out;omega) hc hN9 hc').mono ?_
     rw [H_hd2.out]
     rintro e w3 ⟨hk,⟨he,rfl,hcur⟩|⟨he,rfl,hcur⟩⟩
     rotate_left
     ·exact absurd h2 he
     clear he
     have hA3:=HA2.out.call hk hcur
     clear hk hcur
     have HA3:=hid (hA3.put 2 (.string (strOfNums (vtext (ys.drop (vget ys).n) 1 4096).t)))
     have f3:=hA3.cells.free 2
     have g3:w3.cell? ⟨D,2,none⟩=some (.string (strOfNums [])):=hA3.cells.cell 2 rfl
     have c3:(w3.setCell ⟨D,2,none⟩ (.string (strOfNums (vtext (ys.drop (vget ys).n) 1 4096).t))).cell? ⟨D,0,none⟩=some (.bool true):=HA3.out.cells.cell 0 rfl
     clear hA3
     go_wp2_with fail
     rw [← H_hxn.out] at HA3
     refine (end_whole _ p N c 0 _ (by have:=HA3.out.cur;rw [show 1+(vget ys).n+(vtext (ys.drop (vget ys).n) 1 4096).n=N from H_hend.out] at this;exact this) (by have:=H_hx.out;have:=H_hlen.out;omega)).mono ?_
     rintro e w9 ⟨rfl,hcur,hk⟩
     have HA9:=hid (HA3.out.quiet hk)
     clear hk hcur
     go_wp2_with fail
     go_returns
     exact (show At7 w0 D p xs N c _ 0 (recCells ⟨true,(vget ys).x.toNat,(vtext (ys.drop (vget ys).n) 1 4096).t,[]⟩) w9 from HA9.out).done
    ·have hR:readR xs=(3,Rec.none):=by rw [hR0,if_neg (fun h=>by rw [h] at hl3;simp at hl3;omega)]
     refine ⟨1+(vget ys).n+(vtext (ys.drop (vget ys).n) 1 4096).n,?_⟩
     intro W hA
     have HA0:=hid hA
     rw [hR]
     have H_hx:=hid hx
     have H_hxs:=hid hxs
     have H_hlen:=hid hlen
     have H_hd1:=hid hd1
     have H_hd2:=hid hd2
     have H_hk2:=hid hk2
     have H_hk3:=hid hk3
     have H_hbt:=hid hbt
     clear hA hx hxs hlen hd1 hd2 hk2 hk3 hbt
     simp only [List.append_toArray,List.nil_append,List.cons_append]
     go_enter Tryz.func142,Tryz.ntmps142
     go_wp2_with fail
     refine (gone_own _ p xs N c _ H_hx.out HA0.out.cur HA0.out.by8 ho HA0.out.apart hc hc').mono ?_
     rw [H_hxs.out]
     rintro e w1 ⟨hk,hcur,he⟩
     rw [H_hk2.out] at hcur
     rw [H_hk3.out,H_hbt.out] at he
     subst he
     have hA1:=HA0.out.call hk hcur
     clear hk hcur
     have HA1:=hid (hA1.put 0 (.bool true))
     have f1:=hA1.cells.free 0
     have g1:w1.cell? ⟨D,0,none⟩=some (.bool false):=hA1.cells.cell 0 rfl
     clear hA1
     go_wp2_with fail
     refine (get_any _ p xs N c 1 _ H_hx.out HA1.out.cur HA1.out.by8 ho HA1.out.apart (by have:=H_hx.out;have:=H_hlen.out;omega) hc hc').mono ?_
     rw [H_hd1.out]
     rintro e w2 ⟨hk,⟨he,rfl,hcur⟩|⟨he,rfl,hcur⟩⟩
     rotate_left
     ·exact absurd h1 he
     clear he
     have hA2:=HA1.out.call hk hcur
     clear hk hcur
     have HA2:=hid (hA2.put 1 (.int .u64 (vget ys).x))
     have f2:=hA2.cells.free 1
     have g2:w2.cell? ⟨D,1,none⟩=some (.int .u64 0):=hA2.cells.cell 1 rfl
     clear hA2
     go_wp2_with fail
     refine (gettext_any _ p xs N c (1+(vget ys).n) 1 4096 1 4096 rfl rfl (by have:=H_hx.out;have:=H_hlen.out;omega) (by have:=H_hx.out;have:=H_hlen.out;omega) _ H_hx.out HA2.out.cur HA2.out.by8 ho HA2.out.apart (by have:=H_hx.out;have:=H_hlen.out;omega) hc hN9 hc').mono ?_
     rw [H_hd2.out]
     rintro e w3 ⟨hk,⟨he,rfl,hcur⟩|⟨he,rfl,hcur⟩⟩
     rotate_left
     ·exact absurd h2 he
     clear he
     have hA3:=HA2.out.call hk hcur
     clear hk hcur
     have HA3:=hid (hA3.put 2 (.string (strOfNums (vtext (ys.drop (vget ys).n) 1 4096).t)))
     have f3:=hA3.cells.free 2
     have g3:w3.cell? ⟨D,2,none⟩=some (.string (strOfNums [])):=hA3.cells.cell 2 rfl
     have c3:(w3.setCell ⟨D,2,none⟩ (.string (strOfNums (vtext (ys.drop (vget ys).n) 1 4096).t))).cell? ⟨D,0,none⟩=some (.bool true):=HA3.out.cells.cell 0 rfl
     clear hA3
     go_wp2_with fail
     refine (end_more _ p N c (1+(vget ys).n+(vtext (ys.drop (vget ys).n) 1 4096).n) _ HA3.out.cur (by have:=H_hx.out;have:=H_hlen.out;omega) (by have:=H_hx.out;have:=H_hlen.out;omega)).mono ?_
     rintro e w9 ⟨rfl,hcur,hk⟩
     exact ⟨rfl,(HA3.out.call hk hcur).gave (by decide)⟩
   ·rw [if_neg h3b] at hR0
    have hbt:(b == 3)=false:=by simpa using h3b
    by_cases h3:(vtext (ys.drop ((vget ys).n+(vtext (ys.drop (vget ys).n) 1 4096).n)) 0 1048576).e=0
    rotate_left
    ·have hR:readR xs=((vtext (ys.drop ((vget ys).n+(vtext (ys.drop (vget ys).n) 1 4096).n)) 0 1048576).e,Rec.none):=by rw [hR0,if_pos h3]
     refine ⟨1+(vget ys).n+(vtext (ys.drop (vget ys).n) 1 4096).n+(vtext (ys.drop ((vget ys).n+(vtext (ys.drop (vget ys).n) 1 4096).n)) 0 1048576).n,?_⟩
     intro W hA
     have HA0:=hid hA
     rw [hR]
     have H_hx:=hid hx
     have H_hxs:=hid hxs
     have H_hlen:=hid hlen
     have H_hd1:=hid hd1
     have H_hd2:=hid hd2
     have H_hd3:=hid hd3
     have H_hk2:=hid hk2
     have H_hk3:=hid hk3
     have H_hbt:=hid hbt
     clear hA hx hxs hlen hd1 hd2 hd3 hk2 hk3 hbt
     simp only [List.append_toArray,List.nil_append,List.cons_append]
     go_enter Tryz.func142,Tryz.ntmps142
     go_wp2_with fail
     refine (gone_own _ p xs N c _ H_hx.out HA0.out.cur HA0.out.by8 ho HA0.out.apart hc hc').mono ?_
     rw [H_hxs.out]
     rintro e w1 ⟨hk,hcur,he⟩
     rw [H_hk2.out] at hcur
     rw [H_hk3.out,H_hbt.out] at he
     subst he
     have hA1:=HA0.out.call hk hcur
     clear hk hcur
     have HA1:=hid (hA1.put 0 (.bool false))
     have f1:=hA1.cells.free 0
     have g1:w1.cell? ⟨D,0,none⟩=some (.bool false):=hA1.cells.cell 0 rfl
     clear hA1
     go_wp2_with fail
     refine (get_any _ p xs N c 1 _ H_hx.out HA1.out.cur HA1.out.by8 ho HA1.out.apart (by have:=H_hx.out;have:=H_hlen.out;omega) hc hc').mono ?_
     rw [H_hd1.out]
     rintro e w2 ⟨hk,⟨he,rfl,hcur⟩|⟨he,rfl,hcur⟩⟩
     rotate_left
     ·exact absurd h1 he
     clear he
     have hA2:=HA1.out.call hk hcur
     clear hk hcur
     have HA2:=hid (hA2.put 1 (.int .u64 (vget ys).x))
     have f2:=hA2.cells.free 1
     have g2:w2.cell? ⟨D,1,none⟩=some (.int .u64 0):=hA2.cells.cell 1 rfl
     clear hA2
     go_wp2_with fail
     refine (gettext_any _ p xs N c (1+(vget ys).n) 1 4096 1 4096 rfl rfl (by have:=H_hx.out;have:=H_hlen.out;omega) (by have:=H_hx.out;have:=H_hlen.out;omega) _ H_hx.out HA2.out.cur HA2.out.by8 ho HA2.out.apart (by have:=H_hx.out;have:=H_hlen.out;omega) hc hN9 hc').mono ?_
     rw [H_hd2.out]
     rintro e w3 ⟨hk,⟨he,rfl,hcur⟩|⟨he,rfl,hcur⟩⟩
     rotate_left
     ·exact absurd h2 he
     clear he
     have hA3:=HA2.out.call hk hcur
     clear hk hcur
     have HA3:=hid (hA3.put 2 (.string (strOfNums (vtext (ys.drop (vget ys).n) 1 4096).t)))
     have f3:=hA3.cells.free 2
     have g3:w3.cell? ⟨D,2,none⟩=some (.string (strOfNums [])):=hA3.cells.cell 2 rfl
     have c3:(w3.setCell ⟨D,2,none⟩ (.string (strOfNums (vtext (ys.drop (vget ys).n) 1 4096).t))).cell? ⟨D,0,none⟩=some (.bool false):=HA3.out.cells.cell 0 rfl
     clear hA3
     go_wp2_with fail
     refine (gettext_any _ p xs N c (1+(vget ys).n+(vtext (ys.drop (vget ys).n) 1 4096).n) 0 1048576 0 1048576 rfl rfl (by have:=H_hx.out;have:=H_hlen.out;omega) (by have:=H_hx.out;have:=H_hlen.out;omega) _ H_hx.out HA3.out.cur HA3.out.by8 ho HA3.out.apart (by have:=H_hx.out;have:=H_hlen.out;omega) hc hN9 hc').mono ?_
     rw [H_hd3.out]
     rintro e w9 ⟨hk,⟨he,rfl,hcur⟩|⟨he,rfl,hcur⟩⟩
     ·exact absurd he h3
     ·exact ⟨rfl,(HA3.out.call hk hcur).gave h3⟩
    rw [if_neg (by simpa using h3)] at hR0
    unfold readEnd at hR0
    have hl3:(ys.drop ((vget ys).n+(vtext (ys.drop (vget ys).n) 1 4096).n+(vtext (ys.drop ((vget ys).n+(vtext (ys.drop (vget ys).n) 1 4096).n)) 0 1048576).n)).length=N - (1+(vget ys).n+(vtext (ys.drop (vget ys).n) 1 4096).n+(vtext (ys.drop ((vget ys).n+(vtext (ys.drop (vget ys).n) 1 4096).n)) 0 1048576).n):=by rw [List.length_drop];omega
    by_cases hend:1+(vget ys).n+(vtext (ys.drop (vget ys).n) 1 4096).n+(vtext (ys.drop ((vget ys).n+(vtext (ys.drop (vget ys).n) 1 4096).n)) 0 1048576).n=N
    ·have hR:readR xs=(0,⟨false,(vget ys).x.toNat,(vtext (ys.drop (vget ys).n) 1 4096).t,(vtext (ys.drop ((vget ys).n+(vtext (ys.drop (vget ys).n) 1 4096).n)) 0 1048576).t⟩):=by rw [hR0,if_pos (List.length_eq_zero_iff.1 (by omega))]
     refine ⟨1+(vget ys).n+(vtext (ys.drop (vget ys).n) 1 4096).n+(vtext (ys.drop ((vget ys).n+(vtext (ys.drop (vget ys).n) 1 4096).n)) 0 1048576).n,?_⟩
     intro W hA
     have HA0:=hid hA
     rw [hR]
     have H_hx:=hid hx
     have H_hxs:=hid hxs
     have H_hlen:=hid hlen
     have H_hd1:=hid hd1
     have H_hd2:=hid hd2
     have H_hd3:=hid hd3
     have H_hk2:=hid hk2
     have H_hk3:=hid hk3
     have H_hbt:=hid hbt
     have H_hend:=hid hend
     have H_hxn:=hid hxn
     clear hA hx hxs hlen hd1 hd2 hd3 hk2 hk3 hbt hend hxn
     simp only [List.append_toArray,List.nil_append,List.cons_append]
     go_enter Tryz.func142,Tryz.ntmps142
     go_wp2_with fail
     refine (gone_own _ p xs N c _ H_hx.out HA0.out.cur HA0.out.by8 ho HA0.out.apart hc hc').mono ?_
     rw [H_hxs.out]
     rintro e w1 ⟨hk,hcur,he⟩
     rw [H_hk2.out] at hcur
     rw [H_hk3.out,H_hbt.out] at he
     subst he
     have hA1:=HA0.out.call hk hcur
     clear hk hcur
     have HA1:=hid (hA1.put 0 (.bool false))
     have f1:=hA1.cells.free 0
     have g1:w1.cell? ⟨D,0,none⟩=some (.bool false):=hA1.cells.cell 0 rfl
     clear hA1
     go_wp2_with fail
     refine (get_any _ p xs N c 1 _ H_hx.out HA1.out.cur HA1.out.by8 ho HA1.out.apart (by have:=H_hx.out;have:=H_hlen.out;omega) hc hc').mono ?_
     rw [H_hd1.out]
     rintro e w2 ⟨hk,⟨he,rfl,hcur⟩|⟨he,rfl,hcur⟩⟩
     rotate_left
     ·exact absurd h1 he
     clear he
     have hA2:=HA1.out.call hk hcur
     clear hk hcur
     have HA2:=hid (hA2.put 1 (.int .u64 (vget ys).x))
     have f2:=hA2.cells.free 1
     have g2:w2.cell? ⟨D,1,none⟩=some (.int .u64 0):=hA2.cells.cell 1 rfl
     clear hA2
     go_wp2_with fail
     refine (gettext_any _ p xs N c (1+(vget ys).n) 1 4096 1 4096 rfl rfl (by have:=H_hx.out;have:=H_hlen.out;omega) (by have:=H_hx.out;have:=H_hlen.out;omega) _ H_hx.out HA2.out.cur HA2.out.by8 ho HA2.out.apart (by have:=H_hx.out;have:=H_hlen.out;omega) hc hN9 hc').mono ?_
     rw [H_hd2.out]
     rintro e w3 ⟨hk,⟨he,rfl,hcur⟩|⟨he,rfl,hcur⟩⟩
     rotate_left
     ·exact absurd h2 he
     clear he
     have hA3:=HA2.out.call hk hcur
     clear hk hcur
     have HA3:=hid (hA3.put 2 (.string (strOfNums (vtext (ys.drop (vget ys).n) 1 4096).t)))
     have f3:=hA3.cells.free 2
     have g3:w3.cell? ⟨D,2,none⟩=some (.string (strOfNums [])):=hA3.cells.cell 2 rfl
     have c3:(w3.setCell ⟨D,2,none⟩ (.string (strOfNums (vtext (ys.drop (vget ys).n) 1 4096).t))).cell? ⟨D,0,none⟩=some (.bool false):=HA3.out.cells.cell 0 rfl
     clear hA3
     go_wp2_with fail
     refine (gettext_any _ p xs N c (1+(vget ys).n+(vtext (ys.drop (vget ys).n) 1 4096).n) 0 1048576 0 1048576 rfl rfl (by have:=H_hx.out;have:=H_hlen.out;omega) (by have:=H_hx.out;have:=H_hlen.out;omega) _ H_hx.out HA3.out.cur HA3.out.by8 ho HA3.out.apart (by have:=H_hx.out;have:=H_hlen.out;omega) hc hN9 hc').mono ?_
     rw [H_hd3.out]
     rintro e w4 ⟨hk,⟨he,rfl,hcur⟩|⟨he,rfl,hcur⟩⟩
     rotate_left
     ·exact absurd h3 he
     clear he
     have hA4:=HA3.out.call hk hcur
     clear hk hcur
     have HA4:=hid (hA4.put 3 (.string (strOfNums (vtext (ys.drop ((vget ys).n+(vtext (ys.drop (vget ys).n) 1 4096).n)) 0 1048576).t)))
     have f4:=hA4.cells.free 3
     have g4:w4.cell? ⟨D,3,none⟩=some (.string (strOfNums [])):=hA4.cells.cell 3 rfl
     clear hA4
     go_wp2_with fail
     rw [← H_hxn.out] at HA4
     refine (end_whole _ p N c 0 _ (by have:=HA4.out.cur;rw [show 1+(vget ys).n+(vtext (ys.drop (vget ys).n) 1 4096).n+(vtext (ys.drop ((vget ys).n+(vtext (ys.drop (vget ys).n) 1 4096).n)) 0 1048576).n=N from H_hend.out] at this;exact this) (by have:=H_hx.out;have:=H_hlen.out;omega)).mono ?_
     rintro e w9 ⟨rfl,hcur,hk⟩
     have HA9:=hid (HA4.out.quiet hk)
     clear hk hcur
     go_wp2_with fail
     go_returns
     exact (show At7 w0 D p xs N c _ 0 (recCells ⟨false,(vget ys).x.toNat,(vtext (ys.drop (vget ys).n) 1 4096).t,(vtext (ys.drop ((vget ys).n+(vtext (ys.drop (vget ys).n) 1 4096).n)) 0 1048576).t⟩) w9 from HA9.out).done
    ·have hR:readR xs=(3,Rec.none):=by rw [hR0,if_neg (fun h=>by rw [h] at hl3;simp at hl3;omega)]
     refine ⟨1+(vget ys).n+(vtext (ys.drop (vget ys).n) 1 4096).n+(vtext (ys.drop ((vget ys).n+(vtext (ys.drop (vget ys).n) 1 4096).n)) 0 1048576).n,?_⟩
     intro W hA
     have HA0:=hid hA
     rw [hR]
     have H_hx:=hid hx
     have H_hxs:=hid hxs
     have H_hlen:=hid hlen
     have H_hd1:=hid hd1
     have H_hd2:=hid hd2
     have H_hd3:=hid hd3
     have H_hk2:=hid hk2
     have H_hk3:=hid hk3
     have H_hbt:=hid hbt
     clear hA hx hxs hlen hd1 hd2 hd3 hk2 hk3 hbt
     simp only [List.append_toArray,List.nil_append,List.cons_append]
     go_enter Tryz.func142,Tryz.ntmps142
     go_wp2_with fail
     refine (gone_own _ p xs N c _ H_hx.out HA0.out.cur HA0.out.by8 ho HA0.out.apart hc hc').mono ?_
     rw [H_hxs.out]
     rintro e w1 ⟨hk,hcur,he⟩
     rw [H_hk2.out] at hcur
     rw [H_hk3.out,H_hbt.out] at he
     subst he
     have hA1:=HA0.out.call hk hcur
     clear hk hcur
     have HA1:=hid (hA1.put 0 (.bool false))
     have f1:=hA1.cells.free 0
     have g1:w1.cell? ⟨D,0,none⟩=some (.bool false):=hA1.cells.cell 0 rfl
     clear hA1
     go_wp2_with fail
     refine (get_any _ p xs N c 1 _ H_hx.out HA1.out.cur HA1.out.by8 ho HA1.out.apart (by have:=H_hx.out;have:=H_hlen.out;omega) hc hc').mono ?_
     rw [H_hd1.out]
     rintro e w2 ⟨hk,⟨he,rfl,hcur⟩|⟨he,rfl,hcur⟩⟩
     rotate_left
     ·exact absurd h1 he
     clear he
     have hA2:=HA1.out.call hk hcur
     clear hk hcur
     have HA2:=hid (hA2.put 1 (.int .u64 (vget ys).x))
     have f2:=hA2.cells.free 1
     have g2:w2.cell? ⟨D,1,none⟩=some (.int .u64 0):=hA2.cells.cell 1 rfl
     clear hA2
     go_wp2_with fail
     refine (gettext_any _ p xs N c (1+(vget ys).n) 1 4096 1 4096 rfl rfl (by have:=H_hx.out;have:=H_hlen.out;omega) (by have:=H_hx.out;have:=H_hlen.out;omega) _ H_hx.out HA2.out.cur HA2.out.by8 ho HA2.out.apart (by have:=H_hx.out;have:=H_hlen.out;omega) hc hN9 hc').mono ?_
     rw [H_hd2.out]
     rintro e w3 ⟨hk,⟨he,rfl,hcur⟩|⟨he,rfl,hcur⟩⟩
     rotate_left
     ·exact absurd h2 he
     clear he
     have hA3:=HA2.out.call hk hcur
     clear hk hcur
     have HA3:=hid (hA3.put 2 (.string (strOfNums (vtext (ys.drop (vget ys).n) 1 4096).t)))
     have f3:=hA3.cells.free 2
     have g3:w3.cell? ⟨D,2,none⟩=some (.string (strOfNums [])):=hA3.cells.cell 2 rfl
     have c3:(w3.setCell ⟨D,2,none⟩ (.string (strOfNums (vtext (ys.drop (vget ys).n) 1 4096).t))).cell? ⟨D,0,none⟩=some (.bool false):=HA3.out.cells.cell 0 rfl
     clear hA3
     go_wp2_with fail
     refine (gettext_any _ p xs N c (1+(vget ys).n+(vtext (ys.drop (vget ys).n) 1 4096).n) 0 1048576 0 1048576 rfl rfl (by have:=H_hx.out;have:=H_hlen.out;omega) (by have:=H_hx.out;have:=H_hlen.out;omega) _ H_hx.out HA3.out.cur HA3.out.by8 ho HA3.out.apart (by have:=H_hx.out;have:=H_hlen.out;omega) hc hN9 hc').mono ?_
     rw [H_hd3.out]
     rintro e w4 ⟨hk,⟨he,rfl,hcur⟩|⟨he,rfl,hcur⟩⟩
     rotate_left
     ·exact absurd h3 he
     clear he
     have hA4:=HA3.out.call hk hcur
     clear hk hcur
     have HA4:=hid (hA4.put 3 (.string (strOfNums (vtext (ys.drop ((vget ys).n+(vtext (ys.drop (vget ys).n) 1 4096).n)) 0 1048576).t)))
     have f4:=hA4.cells.free 3
     have g4:w4.cell? ⟨D,3,none⟩=some (.string (strOfNums [])):=hA4.cells.cell 3 rfl
     clear hA4
     go_wp2_with fail
     refine (end_more _ p N c (1+(vget ys).n+(vtext (ys.drop (vget ys).n) 1 4096).n+(vtext (ys.drop ((vget ys).n+(vtext (ys.drop (vget ys).n) 1 4096).n)) 0 1048576).n) _ HA4.out.cur (by have:=H_hx.out;have:=H_hlen.out;omega) (by have:=H_hx.out;have:=H_hlen.out;omega)).mono ?_
     rintro e w9 ⟨rfl,hcur,hk⟩
     exact ⟨rfl,(HA4.out.call hk hcur).gave (by decide)⟩
end
section
open Go.RowKit
structure HR where
 y:Int
 a:Nat
 e:Int
 s:Int
 n:Int
structure AtH (w0:World) (A B C:Nat) (p:Option Addr) (xs:List Int) (N c a:Nat) (y x s n:Int) (W:World):Prop where
 beg:Begun w0 p N c a y W
 cA:Whole W A 5 #[.int .u8 x]
 cB:Whole W B 46 #[.int .u64 s]
 cC:Whole W C 46 #[.int .u64 n]
 by8:Bytes8 W p xs
 kp:Keeps (fun i=>i=A ∨ i=B ∨ i=C) w0 W
 lt:A<B∧B<C∧C<w0.heap.size
 far:0<xs.length→∀ q,p=some q→q.block<A
section
variable {w0:World} {A B C:Nat} {p:Option Addr} {xs:List Int} {N c a:Nat} {y x s n:Int} {W:World}
theorem AtH.cur (h:AtH w0 A B C p xs N c a y x s n W):CurB W (w0.heap.size+1+1) p N c a true y:=h.beg.cur
theorem AtH.apart (h:AtH w0 A B C p xs N c a y x s n W):0<xs.length→∀ q,p=some q→q.block ≠ w0.heap.size+1+1:=fun h0 q hq=>by have:=h.far h0 q hq;have:=h.lt;omega
theorem AtH.call (h:AtH w0 A B C p xs N c a y x s n W) {W':World} {b:Nat} {z:Int} (hk:Keeps (Just (w0.heap.size+1+1)) W W') (hc:CurB W' (w0.heap.size+1+1) p N c b true z):AtH w0 A B C p xs N c b z x s n W' :=
 ⟨h.beg.keep hk hc,h.cA.keep hk (by have:=h.lt;unfold Just;omega),h.cB.keep hk (by have:=h.lt;unfold Just;omega),h.cC.keep hk (by have:=h.lt;unfold Just;omega),h.by8.keepPos hk (fun h0 q hq=>by have:=h.far h0 q hq;have:=h.lt;unfold Just;omega),h.kp.then hk (fun i hi hj=>by unfold Just at hj;omega),h.lt,h.far⟩
theorem AtH.quiet (h:AtH w0 A B C p xs N c a y x s n W) {W':World} (hk:Keeps NoBlock W W'):AtH w0 A B C p xs N c a y x s n W' :=
 h.call (hk.wider (fun _ _ hj=>hj.elim)) (Whole.keep h.cur hk (fun hj=>hj))
end
def LeftH (w0:World) (A B C:Nat) (t:HR) (w2:World):Prop :=
 Keeps (fun i=>i=A ∨ i=B ∨ i=C) w0 w2∧Whole w2 A 5 #[.int .u8 t.e]∧Whole w2 B 46 #[.int .u64 t.s]∧Whole w2 C 46 #[.int .u64 t.n]
theorem AtH.gave {w0:World} {A B C:Nat} {p:Option Addr} {xs:List Int} {N c:Nat} {t u:HR} {W:World} (h:AtH w0 A B C p xs N c t.a t.y t.e t.s t.n W) (hu:u=t):ReadEnds w0 p N c u.a u.y (LeftH w0 A B C u) (.panicked (given (w0.heap.size+1+1))) W:=by
 subst hu
 exact ⟨.inr (gave_given _),h.beg,h.kp,h.cA,h.cB,h.cC⟩
theorem AtH.done {w0:World} {A B C:Nat} {p:Option Addr} {xs:List Int} {N c:Nat} {t u:HR} {W:World} (h:AtH w0 A B C p xs N c t.a t.y t.e t.s t.n W) (hu:u=t):ReadEnds w0 p N c u.a u.y (LeftH w0 A B C u) (.returned (.tuple #[])) W:=by
 subst hu
 exact ⟨.inl rfl,h.beg,h.kp,h.cA,h.cB,h.cC⟩
end
section
open Go.RowKit
structure HR.Fine (t:HR):Prop where
 e:0≤t.e∧t.e<256
 s:0≤t.s∧t.s<18446744073709551616
 n:0≤t.n∧t.n<18446744073709551616
set_option maxHeartbeats 1000000 in
set_option maxRecDepth 10000 in
theorem hcheck_own (e s n:Nat) (w:World):Calls Tryz.prog 78 #[confV e s,.int .u32 (n:Int)] w fun r w'=>r=.returned (.int .i64 (if mayHead e s n=true then 0 else 1))∧Keeps NoBlock w w':=by
 have HR:=hid (Whole.new w 27 (confCells e s))
 have HK:=hid ((Keeps.refl NoBlock w).alloc (.cells (confCells e s) 27))
 have H1:=hid (fun w=>check_conf e s w)
 have hdef:mayHead e s n=(mayC e s && decide (n<s)):=rfl
 rw [hdef]
 cases hm:mayC e s
 ·rw [checkC_not hm] at H1
  rw [Bool.false_and,if_neg (by decide)]
  clear hdef hm
  unfold confV at H1 ⊢
  go_enter Tryz.func78,Tryz.ntmps78
  go_wp2_with fail
  refine (H1.out _).mono ?_
  rintro r w1 ⟨rfl,hk⟩
  have HK:=hid (HK.out.trans hk)
  clear hk
  go_wp2_with fail
  go_ret
  exact ⟨rfl,HK.out⟩
 ·rw [checkC_may hm] at H1
  rw [Bool.true_and]
  clear hdef hm
  unfold confV at H1 ⊢
  by_cases hns:n<s
  ·have d1:decide ((s:Int)≤(n:Int))=false:=decide_eq_false (by omega)
   have d2:decide (s≤n)=false:=decide_eq_false (by omega)
   rw [if_pos (decide_eq_true hns)]
   have HN:=hid hns
   clear hns
   go_enter Tryz.func78,Tryz.ntmps78
   go_wp2_with fail
   refine (H1.out _).mono ?_
   rintro r w1 ⟨rfl,hk⟩
   have c1:=(HR.out.keep hk (fun h=>h)).cell 1 rfl
   simp only [confCells,List.getElem_toArray,List.getElem_cons_zero,List.getElem_cons_succ] at c1
   have HK:=hid (HK.out.trans hk)
   clear hk
   have hns:¬ (s:Int)≤(n:Int):=by have:=HN.out;omega
   go_wp2_with fail
   go_ret
   exact ⟨rfl,HK.out⟩
  ·have d1:decide ((s:Int)≤(n:Int))=true:=decide_eq_true (by omega)
   have d2:decide (s≤n)=true:=decide_eq_true (by omega)
   rw [if_neg (by simpa using hns)]
   have HN:=hid hns
   clear hns
   go_enter Tryz.func78,Tryz.ntmps78
   go_wp2_with fail
   refine (H1.out _).mono ?_
   rintro r w1 ⟨rfl,hk⟩
   have c1:=(HR.out.keep hk (fun h=>h)).cell 1 rfl
   simp only [confCells,List.getElem_toArray,List.getElem_cons_zero,List.getElem_cons_succ] at c1
   have HK:=hid (HK.out.trans hk)
   clear hk
   have hns:(s:Int)≤(n:Int):=by have:=HN.out;omega
   go_wp2_with fail
   go_ret
   exact ⟨rfl,HK.out⟩
end
section
open Go.RowKit
theorem recMakeFn:∀ (fn:Fn) (first cap:Array Value) (w:World),(Instr.makeFunc fn first cap).run Tryz.prog w=.ok (.func fn first cap) w:=fun _ _ _ _=>rfl
theorem run_readIn7 (D:Nat) (p:Option Addr) (xs:List Int) (N c:Nat) (hx:N=xs.length) (w0:World) (hD:Whole w0 D 48 (recCells Rec.none)) (hb:Bytes8 w0 p xs) (ho:Octets xs) (hfar:0<xs.length→∀ q,p=some q→q.block ≠ D) (hc:N≤c) (hN:N≤140737488355328) (hc':c≤9223372036854775807) :
  Calls Tryz.prog 141 #[.slice p N c,.func (.func 142) #[] #[.pointer (some ⟨D,0,none⟩)]] w0 fun e w'=>(∃ a:Nat,e=.returned (.tuple #[.int .i64 a,.int .i64 (readR xs).1]))∧Left7 w0 D (readR xs) w':=by
 obtain ⟨a,ha⟩:=readIn7 w0 D p xs N c hx ho hc hN hc'
 refine (run_any _ _ p N c a (readR xs).1 _ w0 enter_readIn7 (fun W hB hK _=>ha W ⟨hB,hD.keep hK (fun h=>h),hb.keep hK (fun _ _ h=>h),hK.wider (fun _ _ h=>h.elim),hD.lt,fun h0 q hq=>?_⟩)).mono ?_
 ·refine ⟨?_,hfar h0 q hq⟩
  obtain ⟨a',ha',hcell⟩:=hb h0
  obtain rfl:=Option.some.inj (hq.symm.trans ha')
  have:=ltOfCell (hcell 0 h0)
  rwa [addBlock] at this
 ·rintro e w' ⟨rfl,w2,⟨hR1,hR2⟩,hT⟩
  refine ⟨⟨a,rfl⟩,hR1.then hT.2.2.2.2 (fun i hi h=>by unfold Just;omega),fun h0=>(hR2 h0).keep hT.2.2.2.2 (by have:=hD.lt;omega)⟩
set_option maxHeartbeats 1600000 in
set_option maxRecDepth 10000 in
theorem read_own (p:Option Addr) (N c:Nat) (xs:List Int) (w:World) (hx:N=xs.length) (hc:N≤c) (hc':c≤9223372036854775807) (hN:N≤140737488355328) (ho:Octets xs) (hb:Bytes8 w p xs) :
  Calls Tryz.prog 113 #[.slice p N c] w fun e w'=>e=.returned (.tuple #[recV (readR xs).2,.int .i64 (readR xs).1])∧Keeps NoBlock w w':=by
 have hmf:=recMakeFn
 have hlt:0<xs.length→∀ q,p=some q→q.block<w.heap.size:=fun h0 q hq=>by
  obtain ⟨a,ha,hcell⟩:=hb h0
  obtain rfl:=Option.some.inj (hq.symm.trans ha)
  have:=ltOfCell (hcell 0 h0)
  rwa [addBlock] at this
 have hk0:Keeps NoBlock w ((w.alloc (.cells (recCells Rec.none) 48)).alloc (.cells (recCells Rec.none) 48)):=((Keeps.refl NoBlock w).alloc _).alloc _
 have hfirst:Whole ((w.alloc (.cells (recCells Rec.none) 48)).alloc (.cells (recCells Rec.none) 48)) w.heap.size 48 (recCells Rec.none):=(Whole.new w _ _).alloc _
 have hrun:=run_readIn7 (w.heap.size+1) p xs N c hx _ (Whole.newAt (w.alloc (.cells (recCells Rec.none) 48)) 48 (recCells Rec.none) (w.heap.size+1) (by simp)) (hb.keep hk0 (fun _ _ h=>h)) ho (fun h0 q hq=>by have:=hlt h0 q hq;omega) hc hN hc'
 have hbad:(readR xs).1 ≠ 0→(readR xs).2=Rec.none:=fun h=>readR_none h
 obtain ⟨t,ht⟩:∃ t,t=readR xs:=⟨_,rfl⟩
 rw [← ht] at hrun hbad ⊢
 have HRn:=hid hrun;have HF:=hid hfirst;have HK0:=hid hk0;have HBad:=hid hbad
 clear hrun hfirst hk0 hbad ht hb ho hx hc hc' hN hlt
 obtain ⟨y,r⟩:=t
 simp only at HRn HBad ⊢
 by_cases he:y=0
 ·subst he
  go_enter Tryz.func113,Tryz.ntmps113
  go_wp2_with fail
  refine HRn.out.mono ?_
  rintro e w1 ⟨⟨a,rfl⟩,hk,hrec⟩
  have hF:=HF.out.keep hk (by unfold Just;omega)
  have HKa:=hid (HK0.out.then hk (fun i hi h=>by unfold Just at h;omega))
  obtain ⟨c0,c1,c2,c3⟩:=RecAt.ofWhole (hrec rfl)
  obtain ⟨e0,e1,e2,e3⟩:=RecAt.ofWhole hF
  have f0:=hF.free 0
  have f1:=hF.free 1
  have f2:=hF.free 2
  have f3:=hF.free 3
  have HF2:=hid hF
  clear hF hrec hk
  obtain ⟨del,seq,key,val⟩:=r
  simp only at c0 c1 c2 c3
  go_wp2_with fail
  obtain ⟨g0,g1,g2,g3⟩:=RecAt.ofWhole (r:=⟨del,seq,key,val⟩) ((((HF2.out.set 0 (.bool del)).set 1 (.int .u64 (seq:Int))).set 2 (.string (strOfNums key))).set 3 (.string (strOfNums val)))
  simp only at g0 g1 g2 g3
  exact bodyPost_ret (v:=.tuple #[recV ⟨del,seq,key,val⟩,.int .i64 0]) (by simp [results,Tryz.results113,go_sem,recV,g0,g1,g2,g3]) rfl ⟨rfl,(((HKa.out.setNew (Nat.le_refl _) 0 _).setNew (Nat.le_refl _) 1 _).setNew (Nat.le_refl _) 2 _).setNew (Nat.le_refl _) 3 _⟩
 ·rw [HBad.out he]
  go_enter Tryz.func113,Tryz.ntmps113
  go_wp2_with fail
  refine HRn.out.mono ?_
  rintro e w1 ⟨⟨a,rfl⟩,hk,_⟩
  have hF:=HF.out.keep hk (by unfold Just;omega)
  have HKa:=hid (HK0.out.then hk (fun i hi h=>by unfold Just at h;omega))
  obtain ⟨e0,e1,e2,e3⟩:=RecAt.ofWhole hF
  have f0:=hF.free 0
  have f1:=hF.free 1
  have f2:=hF.free 2
  have f3:=hF.free 3
  have HF2:=hid hF
  clear hF hk
  go_wp2_with fail
  obtain ⟨g0,g1,g2,g3⟩:=RecAt.ofWhole (r:=Rec.none) ((((HF2.out.set 0 (.bool false)).set 1 (.int .u64 0)).set 2 (.string ⟨#[]⟩)).set 3 (.string ⟨#[]⟩))
  exact bodyPost_ret (v:=.tuple #[recV Rec.none,.int .i64 y]) (by simp [results,Tryz.results113,go_sem,recV,g0,g1,g2,g3]) rfl ⟨rfl,(((HKa.out.setNew (Nat.le_refl _) 0 _).setNew (Nat.le_refl _) 1 _).setNew (Nat.le_refl _) 2 _).setNew (Nat.le_refl _) 3 _⟩
end
section
open Go.RowKit
set_option maxHeartbeats 2000000 in
set_option maxRecDepth 10000 in
theorem putrec_own (r:Rec) (w:World) (hr:r.Little):Calls Tryz.prog 57 #[recV r] w fun e w'=>∃ v,e=.returned (.tuple #[v,.int .i64 (checkR r)])∧NewBytes w (putR r) v w':=by
 have hf:=hr.fine
 have h1:=hr.key
 have h2:=hr.val
 have HB:=hid (fun w=>body_own r w ⟨hf,by omega,by omega⟩)
 by_cases hc:checkR r=0
 ·have hbe:bodyE r=bodyR r:=by unfold bodyE;rw [if_pos hc]
  have hpr:putR r=sealN (bodyR r):=by unfold putR;rw [if_pos hc]
  rw [hbe,hc] at HB
  rw [hpr,hc]
  have hbl:=bodyR_length hf (by omega) (by omega)
  have hbo:=bodyR_octets hf
  obtain ⟨B,hB⟩:∃ B,B=bodyR r:=⟨_,rfl⟩
  rw [← hB] at HB hbl hbo ⊢
  obtain ⟨L,hL⟩:∃ L,L=B.length:=⟨_,rfl⟩
  have HS:=hid (fun q d W (hd:L≤d) (hd':d≤9223372036854775807) (hq:q=none→L=0∧d=0) (h8:Bytes8 W q B)=>seal_own q L d B W ⟨hL,hd,hd',hq,hbo,h8⟩ (by omega))
  have HL:=hid hL
  clear hbe hpr hc hr hf h1 h2 hB hL hbl hbo
  obtain ⟨del,seq,key,val⟩:=r
  unfold recV at HB ⊢
  simp only at HB ⊢
  go_enter Tryz.func57,Tryz.ntmps57
  go_wp2_with fail
  refine (HB.out _).mono ?_
  rintro e w1 ⟨v,rfl,q,m,d,rfl,hm,hmd,hd,hq,hb,hk⟩
  have hmL:m=L:=by rw [hm,HL.out]
  subst hmL
  have HK:=hid (((Keeps.refl NoBlock w).alloc _).trans hk)
  have HQ:=hid hq
  have HBb:=hid hb
  clear hk hm hq hb HB
  go_wp2_with fail
  refine (HS.out q d _ hmd hd HQ.out HBb.out).mono ?_
  rintro e w2 ⟨v2,rfl,q2,m2,d2,rfl,hm2,hmd2,hd2,hq2,hb2,hk2⟩
  have HN:=hid (show NewBytes w (sealN B) (.slice q2 m2 d2) w2 from ⟨q2,m2,d2,rfl,hm2,hmd2,hd2,hq2,hb2,HK.out.trans hk2⟩)
  clear hm2 hmd2 hd2 hq2 hb2 hk2
  go_wp2_with fail
  refine bodyPost_ret (results_tmp2 rfl _ _ _) rfl ?_
  exact ⟨_,rfl,HN.out⟩
 ·have hpr:putR r=[]:=by unfold putR;rw [if_neg hc]
  rw [hpr]
  obtain ⟨z,hz⟩:∃ z,z=checkR r:=⟨_,rfl⟩
  rw [← hz] at HB hc ⊢
  have hne:(z != 0)=true:=by rw [bne_iff_ne];exact hc
  clear hpr hc hr hf h1 h2 hz
  obtain ⟨del,seq,key,val⟩:=r
  unfold recV at HB ⊢
  simp only at HB ⊢
  go_enter Tryz.func57,Tryz.ntmps57
  go_wp2_with fail
  refine (HB.out _).mono ?_
  rintro e w1 ⟨v,rfl,q,m,d,rfl,hm,hmd,hd,hq,hb,hk⟩
  have HK:=hid (((Keeps.refl NoBlock w).alloc _).trans hk)
  clear hk hm hmd hd hq hb HB
  go_wp2_with fail
  refine bodyPost_ret (results_tmp2 rfl _ _ _) rfl ?_
  exact ⟨_,rfl,.ofNil _ _ HK.out⟩
set_option maxHeartbeats 2000000 in
set_option maxRecDepth 10000 in
theorem getrec_own (p:Option Addr) (N c:Nat) (ys:List Int) (w:World) (h:In8 w p N c ys) (hN:N≤500000) :
  Calls Tryz.prog 84 #[.slice p N c] w fun e w'=>e=.returned (.tuple #[recV (getR ys).2,.int .i64 (getR ys).1])∧Keeps NoBlock w w':=by
 have HO:=hid (fun W (hb:Bytes8 W p ys)=>open_own p N c ys W ⟨h.len,h.cap,h.room,h.bare,h.oct,hb⟩ (by omega))
 have HAt:=hid (h.at_.keep ((Keeps.refl NoBlock w).alloc (.cells (recCells Rec.none) 48)) (fun _ _ h=>h))
 obtain ⟨hb1,hb2⟩:=open_bound h.oct
 have hl:=h.len
 unfold getR
 obtain ⟨y,hy⟩:∃ y,y=(openN ys).1:=⟨_,rfl⟩
 obtain ⟨T,hT⟩:∃ T,T=(openN ys).2:=⟨_,rfl⟩
 rw [← hy] at HO ⊢
 rw [← hT] at HO hb1 hb2 ⊢
 have HW:=hid (Whole.new w 48 (recCells Rec.none))
 have HK0:=hid ((Keeps.refl NoBlock w).alloc (.cells (recCells Rec.none) 48))
 by_cases h0:y=0
 ·subst h0
  rw [if_neg (by simp)]
  obtain ⟨L,hL⟩:∃ L,L=T.length:=⟨_,rfl⟩
  have HR:=hid (fun q d W (hd:L≤d) (hd':d≤9223372036854775807) (h8:Bytes8 W q T)=>read_own q L d T W hL hd hd' (by omega) hb1 h8)
  obtain ⟨z,hz⟩:∃ z,z=readR T:=⟨_,rfl⟩
  rw [← hz] at HR ⊢
  have HL:=hid hL
  obtain ⟨y2,r2⟩:=z
  obtain ⟨del,seq,key,val⟩:=r2
  unfold recV at HR ⊢
  simp only at HR ⊢
  clear hz hb1 hb2 hl hy hT hL h
  go_enter Tryz.func84,Tryz.ntmps84
  go_wp2_with fail
  refine (HO.out _ HAt.out).mono ?_
  rintro e w1 ⟨v,rfl,q,m,d,rfl,hm,hmd,hd,hq,hb,hk⟩
  have hmL:m=L:=by rw [hm,HL.out]
  subst hmL
  have HN:=hid (HW.out.keep hk (fun h=>h))
  have HK:=hid (HK0.out.trans hk)
  have HBb:=hid hb
  clear hk hm hq hb HO
  go_wp2_with fail
  refine (HR.out q d _ hmd hd HBb.out).mono ?_
  rintro e w2 ⟨rfl,hk⟩
  have hN2:=HN.out.keep hk (fun h=>h)
  have HK:=hid (HK.out.trans hk)
  obtain ⟨c0,c1,c2,c3⟩:=RecAt.ofWhole hN2
  have f0:=hN2.free 0
  have f1:=hN2.free 1
  have f2:=hN2.free 2
  have f3:=hN2.free 3
  have HF2:=hid hN2
  clear hk hN2
  go_wp2_with fail
  obtain ⟨g0,g1,g2,g3⟩:=RecAt.ofWhole (r:=⟨del,seq,key,val⟩) ((((HF2.out.set 0 (.bool del)).set 1 (.int .u64 (seq:Int))).set 2 (.string (strOfNums key))).set 3 (.string (strOfNums val)))
  simp only at g0 g1 g2 g3
  exact bodyPost_ret (v:=.tuple #[recV ⟨del,seq,key,val⟩,.int .i64 y2]) (by simp [results,Tryz.results84,go_sem,recV,g0,g1,g2,g3]) rfl ⟨rfl,(((HK.out.setNew (Nat.le_refl _) 0 _).setNew (Nat.le_refl _) 1 _).setNew (Nat.le_refl _) 2 _).setNew (Nat.le_refl _) 3 _⟩
 ·rw [if_pos h0]
  have hne:(y != 0)=true:=by rw [bne_iff_ne];exact h0
  clear hb1 hb2 hl h0 hy hT h
  go_enter Tryz.func84,Tryz.ntmps84
  go_wp2_with fail
  refine (HO.out _ HAt.out).mono ?_
  rintro e w1 ⟨v,rfl,q,m,d,rfl,hm,hmd,hd,hq,hb,hk⟩
  have hN2:=HW.out.keep hk (fun h=>h)
  have HK:=hid (HK0.out.trans hk)
  obtain ⟨c0,c1,c2,c3⟩:=RecAt.ofWhole hN2
  have f0:=hN2.free 0
  have f1:=hN2.free 1
  have f2:=hN2.free 2
  have f3:=hN2.free 3
  have HF2:=hid hN2
  clear hk hN2 hm hmd hd hq hb HO
  go_wp2_with fail
  obtain ⟨g0,g1,g2,g3⟩:=RecAt.ofWhole (r:=Rec.none) ((((HF2.out.set 0 (.bool false)).set 1 (.int .u64 0)).set 2 (.string ⟨#[]⟩)).set 3 (.string ⟨#[]⟩))
  exact bodyPost_ret (v:=.tuple #[recV Rec.none,.int .i64 y]) (by simp [results,Tryz.results84,go_sem,recV,g0,g1,g2,g3]) rfl ⟨rfl,(((HK.out.setNew (Nat.le_refl _) 0 _).setNew (Nat.le_refl _) 1 _).setNew (Nat.le_refl _) 2 _).setNew (Nat.le_refl _) 3 _⟩
set_option maxHeartbeats 4000000 in
set_option maxRecDepth 10000 in
theorem puthead_both (x s n:Nat) (w:World) (hx:x<256) (hs:s<4294967296) (hn:n<4294967296):Calls Tryz.prog 53 #[confV x s,.int .u32 (n:Int)] w fun e w'=>∃ v,e=.returned (.tuple #[v,.int .i64 (if mayHead x s n=true then 0 else 1)])∧NewBytes w (putH x s n) v w'∧NewRow8 w (putH x s n) v w':=by
 have HW:=hid (Whole.new w 27 (confCells x s))
 have HK0:=hid ((Keeps.refl NoBlock w).alloc (.cells (confCells x s) 27))
 have HCk:=hid (fun w=>hcheck_own x s n w)
 unfold putH
 by_cases hm:mayHead x s n=true
 ·rw [if_pos hm] at HCk ⊢
  rw [if_pos hm]
  have hbl:=headB_length (e:=x) (s:=s) (n:=n) (by omega) (by omega)
  have hbo:=headB_octets (e:=x) (s:=s) (n:=n) hx
  have HPs:=hid (fun base g xs w h hb hx=>put_any base g xs s (s:Int) rfl w h hb hx (by omega))
  have HPn:=hid (fun base g xs w h hb hx=>put_any base g xs n (n:Int) rfl w h hb hx (by omega))
  have hdef:headB x s n=((([] ++ [(1:Int)]) ++ [(2:Int)]) ++ [(x:Int)]) ++ vnum s ++ vnum n:=by simp [headB]
  rw [hdef] at hbl hbo ⊢
  have hls:=vnum_ten (x:=s) (by omega)
  have ws:IntKind.u64.wrap (s:Int)=(s:Int):=by rw [IntKind.wrap_u64];omega
  have wn:IntKind.u64.wrap (n:Int)=(n:Int):=by rw [IntKind.wrap_u64];omega
  obtain ⟨S,hS⟩:∃ S,S=vnum s:=⟨_,rfl⟩
  obtain ⟨V,hV⟩:∃ V,V=vnum n:=⟨_,rfl⟩
  rw [← hS] at HPs hbl hbo hls ⊢
  rw [← hV] at HPn hbl hbo ⊢
  have HS:=hid (fun q d W L (hL:L=(((([] ++ [(1:Int)]) ++ [(2:Int)]) ++ [(x:Int)]) ++ S ++ V).length) (hd:L≤d) (hd':d≤9223372036854775807) (hq:q=none→L=0∧d=0) (h8:Bytes8 W q (((([] ++ [(1:Int)]) ++ [(2:Int)]) ++ [(x:Int)]) ++ S ++ V))=>seal_both q L d _ W ⟨hL,hd,hd',hq,hbo,h8⟩ (by omega))
  obtain ⟨G,hG⟩:∃ G,G=((([] ++ [(1:Int)]) ++ [(2:Int)]) ++ [(x:Int)]) ++ S ++ V:=⟨_,rfl⟩
  rw [← hG] at HS hbl ⊢
  have HG:=hid hG
  clear hm hdef hS hV hbo hG
  unfold confV at HCk ⊢
  go_enter Tryz.func53,Tryz.ntmps53
  go_wp2_with fail
  refine (HCk.out _).mono ?_
  rintro e w1 ⟨rfl,hk⟩
  have hN:=HW.out.keep hk (fun h=>h)
  have HK:=hid (HK0.out.trans hk)
  have hsz:w.heap.size+1≤w1.heap.size:=by have:=hk.size;simpa using this
  have HSz:=hid hsz
  have hwa:Keeps NoBlock w1 (w1.alloc (.cells #[.slice none 0 0] 145)):=(Keeps.refl NoBlock w1).alloc _
  obtain ⟨W,hW⟩:∃ W,W=w1.alloc (.cells #[.slice none 0 0] 145):=⟨_,rfl⟩
  have HB:Hid (BufAt W w1.heap.size w1.heap.size []):=hid (by rw [hW];exact bufNewB w1 w1.heap.size)
  have HR:Hid (Whole W w.heap.size 27 (confCells x s)):=hid (by rw [hW];exact hN.alloc _)
  have HQ:Hid (Keeps (fun i=>w1.heap.size≤i) w1 W):=hid (by rw [hW];exact (Keeps.refl _ w1).alloc _)
  clear hk hN hsz hwa
  go_wp2_with fail
  rw [← hW]
  clear hW
  have s0:W.drew.cell? ⟨w.heap.size,0,none⟩=some (.int .u8 (x:Int)):=HR.out.cell 0 rfl
  have sN:W.cell? ⟨w.heap.size,0,none⟩=some (.int .u8 (x:Int)):=HR.out.cell 0 rfl
  go_region_held3 (fun w'=>w'.cell? ⟨w.heap.size,0,none⟩=some (.int .u8 (x:Int)))
   (first|exact s5|exact s0|exact sN)
   (first|(go_at_call 79;refine (bufByteK w1.heap.size w1.heap.size _ _ _ (by exact HB.out) (by have:=HQ.out.size;first|exact this|omega) (by simp)).mono ?_;rintro e w5 ⟨rfl,hb,hk⟩;have hk':Keeps (fun i=>w1.heap.size≤i) W w5:=(by first|exact hk.onBuf (Nat.le_refl _)|exact (hk.onBuf (Nat.le_refl _)).ofDrew|exact (hk.onBuf (Nat.le_refl _)).ofDrewN);have HB:=hid hb;have HQ:=hid (HQ.out.trans hk');have HR:=hid (HR.out.keep hk' (by have:=HSz.out;omega));have s5:w5.cell? ⟨w.heap.size,0,none⟩=some (.int .u8 (x:Int)):=HR.out.cell 0 rfl;clear hb hk hk';obtain ⟨W,rfl⟩:∃ x,x=w5:=⟨_,rfl⟩))
  have q1:W.cell? ⟨w.heap.size,1,none⟩=some (.int .u32 (s:Int)):=HR.out.cell 1 rfl
  have HB3:Hid (BufAt W w1.heap.size w1.heap.size ((([] ++ [(1:Int)]) ++ [(2:Int)]) ++ [(x:Int)])):=HB
  have HQ3:=HQ
  clear HB HQ HR s0 sN s5
  go_wp2_with fail
  refine (HPs.out _ _ _ _ HB3.out HQ3.out.size (by simp)).mono ?_
  rintro e w6 ⟨rfl,hb,hk⟩
  have HB6:=hid hb
  have HQ6:=hid (HQ3.out.trans (hk.onBuf (Nat.le_refl _)))
  clear hb hk HB3
  go_wp2_with fail
  refine (HPn.out _ _ _ _ HB6.out HQ6.out.size (by simp;omega)).mono ?_
  rintro e w7 ⟨rfl,hb,hk⟩
  have HB7:=hid hb
  have HQ7:=hid (HQ6.out.trans (hk.onBuf (Nat.le_refl _)))
  clear hb hk HB6
  rw [← HG.out] at HB7
  have hG0:0<G.length:=by rw [HG.out];simp
  have HBy:=hid (bufBytes w1.heap.size w1.heap.size G w7 HB7.out (by omega))
  obtain ⟨L,hL⟩:∃ L,L=G.length:=⟨_,rfl⟩
  rw [← hL] at HBy hG0
  have HL:=hid hL
  clear hL hbl q1 HB7
  go_wp2_with fail
  refine HBy.out.mono ?_
  rintro e w8 ⟨v,rfl,q,d,rfl,hd,hd',hby,hq,hk⟩
  have HK8:=hid (HK.out.then (HQ7.out.trans (hk.wider (S':=fun i=>w1.heap.size≤i) (fun _ _ h=>h.elim))) (fun i hi h=>by have:=HSz.out;omega))
  have HB8:=hid hby
  have HQ8:Hid (q=none→L=0∧d=0):=hid (fun h0=>by
   obtain ⟨a,ha,_⟩:=HB8.out (by rw [← HL.out];exact hG0)
   rw [h0] at ha
   simp at ha)
  have hd9:d≤9223372036854775807:=by first|omega|(unfold maxLen at hd';omega)|exact hd'
  clear hby hq hk hd'
  go_wp2_with fail
  refine (HS.out q d _ L HL.out hd hd9 HQ8.out HB8.out).mono ?_
  rintro e w9 ⟨v2,rfl,⟨q2,m2,d2,rfl,hm2,hmd2,hd2,hq2,hb2,hk2⟩,hr2⟩
  have HR2:=hid (show NewRow8 w (sealN G) (.slice q2 m2 d2) w9 from row_lower hr2 HK8.out.size)
  have HN:=hid (show NewBytes w (sealN G) (.slice q2 m2 d2) w9 from ⟨q2,m2,d2,rfl,hm2,hmd2,hd2,hq2,hb2,HK8.out.trans hk2⟩)
  clear hm2 hmd2 hd2 hq2 hb2 hk2 hr2
  go_wp2_with fail
  refine bodyPost_ret (results_tmp2 rfl _ _ _) rfl ?_
  exact ⟨_,rfl,HN.out,HR2.out⟩
 ·rw [if_neg hm] at HCk ⊢
  rw [if_neg hm]
  clear hm
  unfold confV at HCk ⊢
  go_enter Tryz.func53,Tryz.ntmps53
  go_wp2_with fail
  refine (HCk.out _).mono ?_
  rintro e w1 ⟨rfl,hk⟩
  have HK:=hid (HK0.out.trans hk)
  clear hk
  go_wp2_with fail
  refine bodyPost_ret (results_tmp2 rfl _ _ _) rfl ?_
  exact ⟨_,rfl,.ofNil _ _ HK.out,World.ownsRow_nil _ _ _ _⟩
theorem puthead_own (x s n:Nat) (w:World) (hx:x<256) (hs:s<4294967296) (hn:n<4294967296):Calls Tryz.prog 53 #[confV x s,.int .u32 (n:Int)] w fun e w'=>∃ v,e=.returned (.tuple #[v,.int .i64 (if mayHead x s n=true then 0 else 1)])∧NewBytes w (putH x s n) v w' :=
 (puthead_both x s n w hx hs hn).mono fun _ _ ⟨v,h1,h2,_⟩=>⟨v,h1,h2⟩
end
section
open Go.RowKit
set_option maxHeartbeats 4000000 in
set_option maxRecDepth 10000 in
theorem empty_own (e s n:Nat) (w:World) (he:e<256) (hs:s<4294967296) (hn:n<4294967296) :
  Calls Tryz.prog 59 #[confV e s,.int .u32 (n:Int)] w fun r w'=>r=.returned (.tuple #[roomV (if mayHead e s n=true then emptyP e s n else Rm.none),.int .i64 (if mayHead e s n=true then 0 else 1)])∧Keeps NoBlock w w':=by
 have HP:=hid (fun w=>puthead_own e s n w he hs hn)
 have HW:=hid ((Whole.new w 27 (confCells e s)).alloc (.cells (roomCells Rm.none) 121))
 have HZ:=hid (Whole.newAt (w.alloc (.cells (confCells e s) 27)) 121 (roomCells Rm.none) (w.heap.size+1) (by simp))
 have HK:=hid (((Keeps.refl NoBlock w).alloc (.cells (confCells e s) 27)).alloc (.cells (roomCells Rm.none) 121))
 obtain ⟨c0,c1⟩:=And.intro (HW.out.cell 0 rfl) (HW.out.cell 1 rfl)
 simp only [confCells,List.getElem_toArray,List.getElem_cons_zero,List.getElem_cons_succ] at c0 c1
 by_cases hm:mayHead e s n=true
 rotate_left
 ·rw [if_neg hm,if_neg hm]
  unfold putH at HP
  simp only [if_neg hm] at HP
  clear hm he hs hn
  unfold confV at *
  unfold roomCells confCells Rm.none at HW HK HZ
  unfold roomCells Rm.none at c0 c1
  simp only at HW HK HP HZ c0 c1 ⊢
  go_enter Tryz.func59,Tryz.ntmps59
  go_wp2_with fail
  refine (HP.out _).mono ?_
  rintro r w1 ⟨v,rfl,q,m,d,rfl,hm,hmd,hd,hq,hb,hk⟩
  have HZ:=hid (HZ.out.keep hk (fun h=>h))
  have HK:=hid (HK.out.trans hk)
  clear hk c0 c1 hm hmd hd hq hb
  obtain ⟨c0,c1,c2,c3,c4⟩:=room_at5 HZ.out
  obtain ⟨q0,q1,q2,q3,q4⟩:=room_free HZ.out
  obtain ⟨g0,g1,g2,g3,g4⟩:=room_at5 (Whole.set5 HZ.out (.int .u8 0) (.int .u32 0) (.int .u32 0) (.int .i64 0) (.int .i64 0))
  go_wp2_with fail
  exact bodyPost_ret (v:=.tuple #[roomV Rm.none,.int .i64 1]) (by simp [results,Tryz.results59,go_sem,roomV,Rm.none,c0,c1,c2,c3,c4]) rfl ⟨rfl,HK.out.new5 (by omega) (.int .u8 0) (.int .u32 0) (.int .u32 0) (.int .i64 0) (.int .i64 0)⟩
 rw [if_pos hm,if_pos hm]
 unfold putH at HP
 simp only [if_pos hm] at HP
 have hlen:headLen e s n=(sealN (headB e s n)).length:=rfl
 have hle:=(headLen_le (e:=e) (s:=s) (n:=n) (by omega) (by omega)).2
 have hU:emptyP e s n=⟨e,s,n,headLen e s n,0⟩:=rfl
 rw [hU]
 obtain ⟨L,hL⟩:∃ L,L=headLen e s n:=⟨_,rfl⟩
 rw [← hL] at hle hlen ⊢
 have HL:=hid hlen
 clear hm he hs hn hL hlen hU
 unfold confV at *
 unfold roomV
 unfold roomCells confCells Rm.none at HW HK HZ
 unfold roomCells Rm.none at c0 c1
 simp only at HW HK HP HZ c0 c1 ⊢
 go_enter Tryz.func59,Tryz.ntmps59
 go_wp2_with fail
 refine (HP.out _).mono ?_
 rintro r w1 ⟨v,rfl,q,m,d,rfl,hm,hmd,hd,hq,hb,hk⟩
 have HW:=hid (HW.out.keep hk (fun h=>h))
 have HZ:=hid (HZ.out.keep hk (fun h=>h))
 have HK:=hid (HK.out.trans hk)
 obtain rfl:m=L:=hm.trans HL.out.symm
 clear hk c0 c1 hm hmd hd hq hb
 obtain ⟨c0,c1⟩:=And.intro (HW.out.cell 0 rfl) (HW.out.cell 1 rfl)
 simp only [List.getElem_toArray,List.getElem_cons_zero,List.getElem_cons_succ] at c0 c1
 obtain ⟨y0,y1,y2,y3,y4⟩:=room_at5 HZ.out
 obtain ⟨q0,q1,q2,q3,q4⟩:=room_free HZ.out
 obtain ⟨g0,g1,g2,g3,g4⟩:=room_at5 (Whole.set5 HZ.out (.int .u8 (e:Int)) (.int .u32 (s:Int)) (.int .u32 (n:Int)) (.int .i64 (m:Int)) (.int .i64 0))
 have HK3:=hid (HK.out.new5 (k:=w.heap.size+1) (by omega) (.int .u8 (e:Int)) (.int .u32 (s:Int)) (.int .u32 (n:Int)) (.int .i64 (m:Int)) (.int .i64 0))
 go_wp2_with fail
 exact bodyPost_ret (v:=.tuple #[.agg #[.int .u8 (e:Int),.int .u32 (s:Int),.int .u32 (n:Int),.int .i64 (m:Int),.int .i64 0],.int .i64 0]) (by simp [results,Tryz.results59,go_sem,g0,g1,g2,g3,g4]) rfl ⟨rfl,HK3.out⟩
end
end Go.Proofs.YtehkjkcnigknkaaGreat

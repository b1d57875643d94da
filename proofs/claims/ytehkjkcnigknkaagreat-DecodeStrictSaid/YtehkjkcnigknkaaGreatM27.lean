/-
  FtMine; ConfRef3; ConfLaws; ConfOwn; PkLeft; PkFits.
-/
import Derived.Lib.Hide
import Derived.Test.YtehkjkcnigknkaaGreatM17
import Derived.Test.YtehkjkcnigknkaaGreatM18
import Derived.Test.YtehkjkcnigknkaaGreatM23
import Derived.Test.YtehkjkcnigknkaaGreatM26
namespace Go.Proofs.YtehkjkcnigknkaaGreat
open Lib (hid)
section
open Go.RowKit
set_option maxHeartbeats 1000000 in
set_option maxRecDepth 10000 in
theorem ftmost_own (z:Int) (w:World) (h0:-500000≤z) (h1:z≤500000) :
  Calls Tryz.prog 150 #[.int .i64 z] w fun e w'=>e=.returned (.int .i64 ((mostFt z.toNat:Nat):Int))∧Keeps NoBlock w w':=by
 obtain ⟨k,hk⟩:∃ k,k=z.toNat:=⟨_,rfl⟩
 rw [← hk]
 have hk9:k≤500000:=by omega
 obtain ⟨c,hc⟩:∃ c,c=countF (k:Int):=⟨_,rfl⟩
 have hc9:c≤500000:=by rw [hc];unfold countF;omega
 have HC:=hid (fun (y:Int) (hy:y=(k:Int)) w=>(show Calls Tryz.prog 155 #[.int .i64 y] w fun e w'=>e=.returned (.int .i64 ((c:Nat):Int))∧Keeps NoBlock w w' from by
  subst hy
  rw [hc]
  exact fcount_own (k:Int) w (by omega) (by omega)))
 have hbl:mostFt k=sizeN (9+12*k+8*c):=by unfold mostFt bodyLen;rw [hc]
 rw [hbl]
 obtain ⟨M,hM⟩:∃ M,M=9+12*k+8*c:=⟨_,rfl⟩
 rw [← hM]
 have HS:=hid (fun (y:Int) (hy:y=9+12*(k:Int)+8*(c:Int)) w=>(show Calls Tryz.prog 183 #[.int .i64 y] w fun e w'=>e=.returned (.int .i64 ((sizeN M:Nat):Int))∧Keeps NoBlock w w' from by
  have h:=fsize_own y w (by omega) (by omega)
  rwa [show y.toNat=M by omega] at h))
 have w1:IntKind.i64.wrap (12*(k:Int))=12*(k:Int):=by rw [IntKind.wrap_i64];omega
 have w2:IntKind.i64.wrap (9+12*(k:Int))=9+12*(k:Int):=by rw [IntKind.wrap_i64];omega
 have w3:IntKind.i64.wrap (8*(c:Int))=8*(c:Int):=by rw [IntKind.wrap_i64];omega
 have w4:IntKind.i64.wrap (9+12*(k:Int)+8*(c:Int))=9+12*(k:Int)+8*(c:Int):=by rw [IntKind.wrap_i64];omega
 have HZ:=hid hc
 clear hc hbl hM
 by_cases hz:z≤0
 ·obtain rfl:k=0:=by omega
  obtain rfl:c=0:=by rw [HZ.out];rfl
  clear hk w1 w2 w3 w4
  go_enter Tryz.func150,Tryz.ntmps150
  go_wp2_with fail
  refine (HC.out _ (by first|rfl|omega|(simp;done)) _).mono ?_
  rintro e w5 ⟨rfl,hk⟩
  have HK:=hid hk
  clear hk
  go_wp2_with fail
  refine (HS.out _ (by first|rfl|omega|(simp;done)) _).mono ?_
  rintro e w6 ⟨rfl,hk⟩
  have HK:=hid (HK.out.trans hk)
  clear hk
  go_wp2_with fail
  go_ret
  exact ⟨rfl,HK.out⟩
 ·obtain rfl:z=(k:Int):=by omega
  have hz2:¬ (k:Int)≤0:=hz
  clear hk
  go_enter Tryz.func150,Tryz.ntmps150
  go_wp2_with fail
  refine (HC.out _ (by first|rfl|omega|(simp;done)) _).mono ?_
  rintro e w5 ⟨rfl,hk⟩
  have HK:=hid hk
  clear hk
  go_wp2_with fail
  refine (HS.out _ (by first|rfl|omega|(simp;done)) _).mono ?_
  rintro e w6 ⟨rfl,hk⟩
  have HK:=hid (HK.out.trans hk)
  clear hk
  go_wp2_with fail
  go_ret
  exact ⟨rfl,HK.out⟩
end
section
open Go.RowKit
end
section
open Go.RowKit
def got8 (t:Nat × Int):Value:=.tuple #[.int .u32 (t.1:Int),.int .i64 t.2]
def checkC (e s:Nat):Int:=if mayC e s=true then 0 else 1
def sizeC (e s:Nat):Nat:=if mayC e s=true then 2 ^ e else 0
end
section
open Go.RowKit
set_option maxHeartbeats 2000000 in
set_option maxRecDepth 10000 in
theorem check_conf (e s:Nat) (w:World):Calls Tryz.prog 34 #[confV e s] w fun r w'=>r=.returned (.int .i64 (checkC e s))∧Keeps NoBlock w w':=by
 have HR:=hid (Whole.new w 27 (confCells e s))
 have HK:=hid ((Keeps.refl NoBlock w).alloc (.cells (confCells e s) 27))
 by_cases h1:12≤e
 ·have d1:decide ((e:Int)<12)=false:=decide_eq_false (by omega)
  by_cases h2:e≤24
  ·have d2:decide ((24:Int)<(e:Int))=false:=decide_eq_false (by omega)
   by_cases h3:1≤s
   ·have d3:decide ((s:Int)<1)=false:=decide_eq_false (by omega)
    by_cases h4:s≤65536
    ·have d4:decide ((65536:Int)<(s:Int))=false:=decide_eq_false (by omega)
     have HM:=hid (show checkC e s=0 by unfold checkC;rw [if_pos (mayC_true.2 ⟨h1,h2,h3,h4⟩)])
     unfold confV
     go_enter Tryz.func34,Tryz.ntmps34
     go_wp2_with fail
     go_ret
     rw [HM.out]
     exact ⟨rfl,HK.out⟩
    ·have d4:decide ((65536:Int)<(s:Int))=true:=decide_eq_true (by omega)
     have HM:=hid (show checkC e s=1 by unfold checkC;rw [if_neg (fun h=>by have:=mayC_true.1 h;omega)])
     unfold confV
     go_enter Tryz.func34,Tryz.ntmps34
     go_wp2_with fail
     go_ret
     rw [HM.out]
     exact ⟨rfl,HK.out⟩
   ·have d3:decide ((s:Int)<1)=true:=decide_eq_true (by omega)
    have HM:=hid (show checkC e s=1 by unfold checkC;rw [if_neg (fun h=>by have:=mayC_true.1 h;omega)])
    unfold confV
    go_enter Tryz.func34,Tryz.ntmps34
    go_wp2_with fail
    go_ret
    rw [HM.out]
    exact ⟨rfl,HK.out⟩
  ·have d2:decide ((24:Int)<(e:Int))=true:=decide_eq_true (by omega)
   have HM:=hid (show checkC e s=1 by unfold checkC;rw [if_neg (fun h=>by have:=mayC_true.1 h;omega)])
   unfold confV
   go_enter Tryz.func34,Tryz.ntmps34
   go_wp2_with fail
   go_ret
   rw [HM.out]
   exact ⟨rfl,HK.out⟩
 ·have d1:decide ((e:Int)<12)=true:=decide_eq_true (by omega)
  have HM:=hid (show checkC e s=1 by unfold checkC;rw [if_neg (fun h=>by have:=mayC_true.1 h;omega)])
  unfold confV
  go_enter Tryz.func34,Tryz.ntmps34
  go_wp2_with fail
  go_ret
  rw [HM.out]
  exact ⟨rfl,HK.out⟩
theorem checkC_may {e s:Nat} (h:mayC e s=true):checkC e s=0:=by unfold checkC;rw [if_pos h]
theorem checkC_not {e s:Nat} (h:mayC e s=false):checkC e s=1:=by unfold checkC;rw [if_neg (by rw [h];decide)]
theorem shl_one {e:Nat} (h:e≤24):Op.shift BinOp.shl IntKind.i64 1 IntKind.u8 (e:Int)=pure (.int .i64 ((2 ^ e:Nat):Int)):=by
 have:e=0 ∨ e=1 ∨ e=2 ∨ e=3 ∨ e=4 ∨ e=5 ∨ e=6 ∨ e=7 ∨ e=8 ∨ e=9 ∨ e=10 ∨ e=11 ∨ e=12 ∨ e=13 ∨ e=14 ∨ e=15 ∨ e=16 ∨ e=17 ∨ e=18 ∨ e=19 ∨ e=20 ∨ e=21 ∨ e=22 ∨ e=23 ∨ e=24:=by omega
 rcases this with rfl|rfl|rfl|rfl|rfl|rfl|rfl|rfl|rfl|rfl|rfl|rfl|rfl|rfl|rfl|rfl|rfl|rfl|rfl|rfl|rfl|rfl|rfl|rfl|rfl <;> rfl
set_option maxHeartbeats 2000000 in
set_option maxRecDepth 10000 in
theorem size_conf (e s:Nat) (w:World):Calls Tryz.prog 18 #[confV e s] w fun r w'=>r=.returned (.int .i64 (sizeC e s:Int))∧Keeps NoBlock w w':=by
 have HR:=hid (Whole.new w 27 (confCells e s))
 have HK:=hid ((Keeps.refl NoBlock w).alloc (.cells (confCells e s) 27))
 have H1:=hid (fun w=>check_conf e s w)
 by_cases hm:mayC e s=true
 ·have HM:=hid (show sizeC e s=2 ^ e by unfold sizeC;rw [if_pos hm])
  have he:=(mayC_true.1 hm).2.1
  have hsh:=shl_one he
  rw [checkC_may hm] at H1
  obtain ⟨q,hq⟩:∃ q,q=2 ^ e:=⟨_,rfl⟩
  rw [← hq] at HM hsh
  clear hq hm he
  unfold confV at H1
  unfold confV
  go_enter Tryz.func18,Tryz.ntmps18
  go_wp2_with fail
  refine (H1.out _).mono ?_
  rintro r w1 ⟨rfl,hk⟩
  have HR:=hid (HR.out.keep hk (fun h=>h))
  have HK:=hid (HK.out.trans hk)
  clear hk
  have c0:=HR.out.cell 0 rfl
  have c1:=HR.out.cell 1 rfl
  simp only [confCells,List.getElem_toArray,List.getElem_cons_zero,List.getElem_cons_succ] at c0 c1
  go_wp2_with fail
  go_ret
  rw [HM.out]
  exact ⟨rfl,HK.out⟩
 ·have HM:=hid (show sizeC e s=0 by unfold sizeC;rw [if_neg hm])
  have hmf:mayC e s=false:=by simpa using hm
  rw [checkC_not hmf] at H1
  clear hm hmf
  unfold confV at H1
  unfold confV
  go_enter Tryz.func18,Tryz.ntmps18
  go_wp2_with fail
  refine (H1.out _).mono ?_
  rintro r w1 ⟨rfl,hk⟩
  have HR:=hid (HR.out.keep hk (fun h=>h))
  have HK:=hid (HK.out.trans hk)
  clear hk
  go_wp2_with fail
  go_ret
  rw [HM.out]
  exact ⟨rfl,HK.out⟩
end
section
open Go.RowKit
theorem sizeC_le (e s:Nat):sizeC e s≤16777216:=by
 unfold sizeC
 split
 ·rename_i h
  exact (two_e (mayC_true.1 h).2.1).2
 ·exact Nat.zero_le _
set_option maxHeartbeats 4000000 in
set_option maxRecDepth 10000 in
theorem left_any (r:Rm) (w:World) (hc:r.count≤10000) (hu:r.used≤16777216) (hcu:r.count<r.used) :
  Calls Tryz.prog 117 #[roomV r] w fun e w'=>e=.returned (.int .i64 ((sizeC r.e r.s - (r.used+mostFt (r.count+1)):Nat):Int))∧Keeps NoBlock w w':=by
 have HSz:=hid (fun w=>size_conf r.e r.s w)
 have HMo:=hid (fun w=>ftmost_own ((r.count+1:Nat):Int) w (by omega) (by omega))
 have hlin:=mostFt_lin (r.count+1)
 have hpos:=mostFt_pos (r.count+1)
 have hp:=sizeC_le r.e r.s
 have HW:=hid (Whole.new w 121 (roomCells r))
 have HK:=hid ((Keeps.refl NoBlock w).alloc (.cells (roomCells r) 121))
 obtain ⟨p,hpp⟩:∃ p,p=sizeC r.e r.s:=⟨_,rfl⟩
 obtain ⟨m,hm⟩:∃ m,m=mostFt (r.count+1):=⟨_,rfl⟩
 rw [← hpp] at HSz hp ⊢
 rw [show ((r.count+1:Nat):Int).toNat=r.count+1 from Int.toNat_natCast _,← hm] at HMo
 rw [← hm] at hlin hpos ⊢
 rw [show ((r.count+1:Nat):Int)=(r.count:Int)+1 by omega] at HMo
 obtain ⟨Z,hZ⟩:∃ Z,Z=p - (r.used+m):=⟨_,rfl⟩
 rw [← hZ]
 have HZ:=hid hZ
 obtain ⟨e,s,num,used,count⟩:=r
 simp only at hu hc hcu hlin HSz HMo hp HZ
 clear hpp hm hZ
 unfold roomV confV at *
 unfold roomCells at HW HK
 simp only at HW HK HSz ⊢
 obtain ⟨c0,c1,c2,c3,c4⟩:=room_at (r:=⟨e,s,num,used,count⟩) HW.out
 go_enter Tryz.func117,Tryz.ntmps117
 go_wp2_with fail
 refine (HSz.out _).mono ?_
 rintro e9 w1 ⟨rfl,hk⟩
 have HW:=hid (HW.out.keep hk (fun h=>h))
 have HK:=hid (HK.out.trans hk)
 clear hk c0 c1 c2 c3 c4
 obtain ⟨c0,c1,c2,c3,c4⟩:=room_at (r:=⟨e,s,num,used,count⟩) HW.out
 have n1:¬ (count:Int)<0:=by omega
 have n3:¬ (used:Int)<(count:Int):=by omega
 have n4:¬ used<count:=by omega
 have n5:decide ((count:Int)<0)=false:=decide_eq_false n1
 have n7:¬ (used:Int)≤(count:Int):=by omega
 have n8:¬ used≤count:=by omega
 by_cases hs:p≤used
 ·have g1:decide ((p:Int)≤(used:Int))=true:=decide_eq_true (by omega)
  have g2:decide (p≤used)=true:=decide_eq_true hs
  go_wp2_with fail
  go_ret
  exact ⟨by rw [HZ.out,show p - (used+m)=0 by omega];rfl,HK.out⟩
 have g1:decide ((p:Int)≤(used:Int))=false:=decide_eq_false (by omega)
 have g2:decide (p≤used)=false:=decide_eq_false hs
 have w6:IntKind.i64.wrap ((count:Int)+1)=(count:Int)+1:=IntWalk.i64_in _ (by omega)
 have w7:IntKind.i64.wrap ((p:Int) - (used:Int))=(p:Int) - (used:Int):=IntWalk.i64_in _ (by omega)
 have w8:IntKind.i64.wrap ((p:Int) - (used:Int) - (m:Int))=(p:Int) - (used:Int) - (m:Int):=IntWalk.i64_in _ (by omega)
 have hmax:max ((p:Int) - (used:Int) - (m:Int)) 0=(Z:Int):=by have:=HZ.out;omega
 go_upto_region 4 with (fail)
 have s0:=And.intro ((Whole.drewN HW.out 1).cell 3 rfl) ((Whole.drewN HW.out 1).cell 4 rfl)
 have sN:=And.intro (HW.out.cell 3 rfl) (HW.out.cell 4 rfl)
 simp only [List.getElem_toArray,List.getElem_cons_zero,List.getElem_cons_succ] at s0 sN
 go_region_held3 (fun w'=>w'.cell? ⟨w.heap.size,3,none⟩=some (.int .i64 (used:Int))∧w'.cell? ⟨w.heap.size,4,none⟩=some (.int .i64 (count:Int)))
  (first|exact s5|exact s0|exact sN)
  (first|(go_at_call 150;refine (HMo.out _).mono ?_;rintro e9 w5 ⟨rfl,hk⟩;have hk':Keeps NoBlock w1 w5:=(by first|exact hk|exact hk.ofDrew|exact hk.ofDrewN);have HK:=hid (HK.out.trans hk');have HW:=hid (HW.out.keep hk' (fun h=>h));have s5:=And.intro (HW.out.cell 3 rfl) (HW.out.cell 4 rfl);simp only [List.getElem_toArray,List.getElem_cons_zero,List.getElem_cons_succ] at s5;clear hk hk';obtain ⟨w1,rfl⟩:∃ x,x=w5:=⟨_,rfl⟩))
 go_wp2_with fail
 go_ret
 exact ⟨rfl,HK.out⟩
theorem left_own (r:Rm) (w:World) (hr:r.Real):Calls Tryz.prog 117 #[roomV r] w fun e w'=>e=.returned (.int .i64 ((leftP r:Nat):Int))∧Keeps NoBlock w w':=by
 obtain ⟨he,hu,hs,hn⟩:=hr.small
 have hh:=(headLen_le (e:=r.e) (s:=r.s) (n:=r.num) (by omega) (by omega)).1
 have hd:=hr.head
 have h1:=left_any r w hr.few hu (by omega)
 have h2:=(mayHead_true.1 hr.may)
 have h3:sizeC r.e r.s=2 ^ r.e:=by unfold sizeC;rw [if_pos (mayC_true.2 ⟨h2.1,h2.2.1,h2.2.2.1,h2.2.2.2.1⟩)]
 rw [h3] at h1
 exact h1
set_option maxHeartbeats 4000000 in
set_option maxRecDepth 10000 in
theorem left_none (w:World):Calls Tryz.prog 117 #[roomV Rm.none] w fun e w'=>e=.returned (.int .i64 (((0:Nat):Int)))∧Keeps NoBlock w w':=by
 have HSz:=hid (fun w=>size_conf 0 0 w)
 rw [show sizeC 0 0=0 from by decide] at HSz
 have HW:=hid (Whole.new w 121 (roomCells Rm.none))
 have HK:=hid ((Keeps.refl NoBlock w).alloc (.cells (roomCells Rm.none) 121))
 unfold Rm.none at *
 unfold roomV confV at *
 unfold roomCells at HW HK
 simp only at HW HK HSz ⊢
 obtain ⟨c0,c1,c2,c3,c4⟩:=room_at (r:=⟨0,0,0,0,0⟩) HW.out
 go_enter Tryz.func117,Tryz.ntmps117
 go_wp2_with fail
 refine (HSz.out _).mono ?_
 rintro e9 w1 ⟨rfl,hk⟩
 have HW:=hid (HW.out.keep hk (fun h=>h))
 have HK:=hid (HK.out.trans hk)
 clear hk c0 c1 c2 c3 c4
 obtain ⟨c0,c1,c2,c3,c4⟩:=room_at (r:=⟨0,0,0,0,0⟩) HW.out
 go_wp2_with fail
 go_ret
 exact ⟨rfl,HK.out⟩
end
section
open Go.RowKit
theorem room_at5 {w:World} {g:Nat} {t:TypeId} {a b c d e:Value} (h:Whole w g t #[a,b,c,d,e]) :
  w.cell? ⟨g,0,none⟩=some a∧w.cell? ⟨g,1,none⟩=some b∧w.cell? ⟨g,2,none⟩=some c∧w.cell? ⟨g,3,none⟩=some d∧w.cell? ⟨g,4,none⟩=some e :=
 ⟨h.cell 0 rfl,h.cell 1 rfl,h.cell 2 rfl,h.cell 3 rfl,h.cell 4 rfl⟩
def LeftIs (r:Rm) (L:Nat):Prop:=∀ w,Calls Tryz.prog 117 #[roomV r] w fun e w'=>e=.returned (.int .i64 ((L:Nat):Int))∧Keeps NoBlock w w'
set_option maxHeartbeats 4000000 in
set_option maxRecDepth 10000 in
theorem fits_any (r:Rm) (L:Nat) (HL:LeftIs r L) (z:Int) (w:World) :
  Calls Tryz.prog 90 #[roomV r,.int .i64 z] w fun e w'=>e=.returned (.bool (decide (1≤z) && decide (z≤(L:Int))))∧Keeps NoBlock w w':=by
 have HL:=hid HL
 unfold LeftIs at HL
 have HW:=hid (Whole.new w 121 (roomCells r))
 have HK:=hid ((Keeps.refl NoBlock w).alloc (.cells (roomCells r) 121))
 obtain ⟨e,s,num,used,count⟩:=r
 unfold roomV at *
 unfold roomCells at HW HK
 simp only at HW HK HL ⊢
 obtain ⟨c0,c1,c2,c3,c4⟩:=room_at (r:=⟨e,s,num,used,count⟩) HW.out
 by_cases z1:1≤z
 ·have d1:decide (1≤z)=true:=decide_eq_true z1
  rw [d1,Bool.true_and]
  go_enter Tryz.func90,Tryz.ntmps90
  go_wp2_with fail
  refine (HL.out _).mono ?_
  rintro e9 w1 ⟨rfl,hk⟩
  have HK:=hid (HK.out.trans hk)
  clear hk c0 c1 c2 c3 c4
  go_wp2_with fail
  go_ret
  exact ⟨rfl,HK.out⟩
 ·have d1:decide (1≤z)=false:=decide_eq_false z1
  rw [d1,Bool.false_and]
  go_enter Tryz.func90,Tryz.ntmps90
  go_wp2_with fail
  go_ret
  exact ⟨rfl,HK.out⟩
theorem fits_own (r:Rm) (z:Int) (w:World) (hr:r.Real) :
  Calls Tryz.prog 90 #[roomV r,.int .i64 z] w fun e w'=>e=.returned (.bool (fitsP r z))∧Keeps NoBlock w w':=by
 have h:=fits_any r (leftP r) (fun w=>left_own r w hr) z w
 rw [show fitsP r z=(decide (1≤z) && decide (z≤(leftP r:Int))) from by
  rw [Bool.eq_iff_iff,fitsP_left,Bool.and_eq_true,decide_eq_true_iff,decide_eq_true_iff]]
 exact h
theorem fits_none (z:Int) (w:World) :
  Calls Tryz.prog 90 #[roomV Rm.none,.int .i64 z] w fun e w'=>e=.returned (.bool false)∧Keeps NoBlock w w':=by
 have h:=fits_any Rm.none 0 left_none z w
 rw [show (decide (1≤z) && decide (z≤((0:Nat):Int)))=false from by
  rw [Bool.eq_false_iff];intro h;rw [Bool.and_eq_true,decide_eq_true_iff,decide_eq_true_iff] at h;omega] at h
 exact h
set_option maxHeartbeats 4000000 in
set_option maxRecDepth 10000 in
theorem take_own (r:Rm) (z:Int) (w:World) (hr:r.Real) (hc9:r.count<10000) :
  Calls Tryz.prog 61 #[roomV r,.int .i64 z] w fun e w'=>e=.returned (.tuple #[roomV (if fitsP r z=true then takeP r z else Rm.none),.int .i64 (if fitsP r z=true then 0 else 7)])∧Keeps NoBlock w w':=by
 have HF:=hid (fun w=>fits_own r z w hr)
 have HW:=hid ((Whole.new w 121 (roomCells r)).alloc (.cells (roomCells Rm.none) 121))
 have HZ:=hid (Whole.newAt (w.alloc (.cells (roomCells r) 121)) 121 (roomCells Rm.none) (w.heap.size+1) (by simp))
 have HK:=hid (((Keeps.refl NoBlock w).alloc (.cells (roomCells r) 121)).alloc (.cells (roomCells Rm.none) 121))
 by_cases hf:fitsP r z=true
 rotate_left
 ·have hf0:fitsP r z=false:=by simpa using hf
  rw [if_neg hf,if_neg hf]
  rw [hf0] at HF
  clear hf hf0 hr hc9
  obtain ⟨e,s,num,used,count⟩:=r
  unfold Rm.none at *
  unfold roomV at *
  unfold roomCells at HW HK HZ
  simp only at HW HK HF HZ ⊢
  obtain ⟨c0,c1,c2,c3,c4⟩:=room_at (r:=⟨e,s,num,used,count⟩) HW.out
  go_enter Tryz.func61,Tryz.ntmps61
  go_wp2_with fail
  refine (HF.out _).mono ?_
  rintro e9 w1 ⟨rfl,hk⟩
  have HZ:=hid (HZ.out.keep hk (fun h=>h))
  have HK:=hid (HK.out.trans hk)
  clear hk c0 c1 c2 c3 c4
  obtain ⟨c0,c1,c2,c3,c4⟩:=room_at (r:=⟨0,0,0,0,0⟩) HZ.out
  obtain ⟨q0,q1,q2,q3,q4⟩:=room_free HZ.out
  obtain ⟨g0,g1,g2,g3,g4⟩:=room_at (r:=⟨0,0,0,0,0⟩) (Whole.set5 HZ.out (.int .u8 (0:Int)) (.int .u32 (0:Int)) (.int .u32 (0:Int)) (.int .i64 (0:Int)) (.int .i64 (0:Int)))
  go_wp2_with fail
  exact bodyPost_ret (v:=.tuple #[roomV Rm.none,.int .i64 7]) (by simp [results,Tryz.results61,go_sem,roomV,Rm.none,c0,c1,c2,c3,c4]) rfl ⟨rfl,HK.out.new5 (by omega) (.int .u8 (0:Int)) (.int .u32 (0:Int)) (.int .u32 (0:Int)) (.int .i64 (0:Int)) (.int .i64 (0:Int))⟩
 rw [if_pos hf,if_pos hf]
 rw [hf] at HF
 obtain ⟨hz1,hz2⟩:=fitsP_true.1 hf
 have hsm:=hr.small
 have he2:=(two_e hsm.1).2
 have hU:takeP r z=⟨r.e,r.s,r.num,r.used+z.toNat,r.count+1⟩:=rfl
 obtain ⟨U,hUe⟩:∃ U,U=r.used+z.toNat:=⟨_,rfl⟩
 obtain ⟨P,hP⟩:∃ P,P=2 ^ r.e:=⟨_,rfl⟩
 rw [← hUe] at hU
 rw [hU]
 rw [← hP] at hz2 he2
 have hsum:(r.used:Int)+z=(U:Int):=by omega
 have hsz:(U:Int)≤16777216:=by omega
 clear hf hr hU hUe hP hz2 hz1 hsm
 obtain ⟨e,s,num,used,count⟩:=r
 simp only at hsum hc9
 unfold roomV at *
 unfold roomCells Rm.none at HW HK HZ
 simp only at HW HK HF HZ ⊢
 obtain ⟨c0,c1,c2,c3,c4⟩:=room_at (r:=⟨e,s,num,used,count⟩) HW.out
 have w1:IntKind.i64.wrap ((used:Int)+z)=(U:Int):=by rw [hsum];exact IntWalk.i64_in _ (by omega)
 have w2:IntKind.i64.wrap ((count:Int)+1)=(count:Int)+1:=IntWalk.i64_in _ (by omega)
 go_enter Tryz.func61,Tryz.ntmps61
 go_wp2_with fail
 refine (HF.out _).mono ?_
 rintro e9 w1 ⟨rfl,hk⟩
 have HW:=hid (HW.out.keep hk (fun h=>h))
 have HZ:=hid (HZ.out.keep hk (fun h=>h))
 have HK:=hid (HK.out.trans hk)
 clear hk c0 c1 c2 c3 c4
 obtain ⟨c0,c1,c2,c3,c4⟩:=room_at (r:=⟨e,s,num,used,count⟩) HW.out
 obtain ⟨p0,p1,p2,p3,p4⟩:=room_free HW.out
 obtain ⟨q0,q1,q2,q3,q4⟩:=room_free HZ.out
 obtain ⟨y0,y1,y2,y3,y4⟩:=room_at (r:=⟨0,0,0,0,0⟩) HZ.out
 have HZ2:=hid ((HZ.out.setOther (p:=⟨w.heap.size,3,none⟩) (by simp) (.int .i64 (U:Int))).setOther (p:=⟨w.heap.size,4,none⟩) (by simp) (.int .i64 ((count:Int)+1)))
 have HK2:=hid ((HK.out.setNew (Nat.le_refl _) 3 (.int .i64 (U:Int))).setNew (Nat.le_refl _) 4 (.int .i64 ((count:Int)+1)))
 obtain ⟨g0,g1,g2,g3,g4⟩:=room_at5 (Whole.set5 HZ2.out (.int .u8 ((e:Nat):Int)) (.int .u32 ((s:Nat):Int)) (.int .u32 ((num:Nat):Int)) (.int .i64 ((U:Nat):Int)) (.int .i64 ((count:Int)+1)))
 have HK3:=hid (HK2.out.new5 (k:=w.heap.size+1) (by omega) (.int .u8 ((e:Nat):Int)) (.int .u32 ((s:Nat):Int)) (.int .u32 ((num:Nat):Int)) (.int .i64 ((U:Nat):Int)) (.int .i64 ((count:Int)+1)))
 go_wp2_with fail
 exact bodyPost_ret (v:=.tuple #[.agg #[.int .u8 (e:Int),.int .u32 (s:Int),.int .u32 (num:Int),.int .i64 (U:Int),.int .i64 ((count:Int)+1)],.int .i64 0]) (by simp [results,Tryz.results61,go_sem,g0,g1,g2,g3,g4]) rfl ⟨rfl,HK3.out⟩
end
end Go.Proofs.YtehkjkcnigknkaaGreat

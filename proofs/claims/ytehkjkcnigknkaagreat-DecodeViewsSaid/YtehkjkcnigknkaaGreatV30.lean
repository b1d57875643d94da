/-
  FrSeal; FtMine; ConfRef3; ConfLaws; ConfOwn; PkLeft.
-/
import Derived.Lib.Hide
import Derived.Test.YtehkjkcnigknkaaGreatV03
import Derived.Test.YtehkjkcnigknkaaGreatV05
import Derived.Test.YtehkjkcnigknkaaGreatV10
import Derived.Test.YtehkjkcnigknkaaGreatV11
import Derived.Test.YtehkjkcnigknkaaGreatV12
import Derived.Test.YtehkjkcnigknkaaGreatV13
import Derived.Test.YtehkjkcnigknkaaGreatV17
import Derived.Test.YtehkjkcnigknkaaGreatV26
import Derived.Test.YtehkjkcnigknkaaGreatV27
import Derived.Test.YtehkjkcnigknkaaGreatV29
namespace Go.Proofs.YtehkjkcnigknkaaGreat
open Lib (hid)
section
open Go.RowKit
theorem stuff_own (p:Option Addr) (N c:Nat) (xs:List Int) (w:World) (h:In8 w p N c xs) (hN:N≤1000000) :
  Calls Tryz.prog 109 #[.slice p N c] w fun e w'=>∃ v,e=.returned v∧Copied w (stuff xs).length (stuff xs) v w':=by
 refine (callsIn_wide.1 (stuff_in 3 (Nat.le_refl _) p N c xs w h.len h.cap h.room h.bare h.oct hN h.at_)).mono ?_
 rintro e w' ⟨v,rfl,h⟩
 rw [← stuff_groups] at h
 exact ⟨v,rfl,h⟩
def NewRow8 (w:World) (ys:List Int) (v:Value) (w':World):Prop:=w'.ownsRow w.heap.size 5 1 v ys.length (ys.map (Value.int .u8))
theorem row_lower {w:World} {b1 b2 size n:Nat} {t:TypeId} {v:Value} {xs:List Value} (h:w.ownsRow b1 t size v n xs) (hb:b2≤b1):w.ownsRow b2 t size v n xs:=by
 refine ⟨h.1,?_⟩
 rcases h.2 with hn|⟨g,cap,cur,rfl,hg,rest⟩
 ·exact .inl hn
 ·exact .inr ⟨g,cap,cur,rfl,Nat.le_trans hb hg,rest⟩
set_option maxHeartbeats 4000000 in
set_option maxRecDepth 10000 in
theorem seal_both (p:Option Addr) (N c:Nat) (xs:List Int) (w:World) (h:In8 w p N c xs) (hN:N≤500000) :
  Calls Tryz.prog 81 #[.slice p N c] w fun e w'=>∃ v,e=.returned v∧NewBytes w (sealN xs) v w'∧NewRow8 w (sealN xs) v w':=by
 have hu:=wxxh_u64 0 xs
 have hl:=h.len
 have hSl:(xs ++ sumB xs).length=N+8:=by rw [List.length_append,sumB_length];omega
 have hso:Octets (xs ++ sumB xs):=h.oct.app (sumB_octets xs)
 have hcl:(stuff (xs ++ sumB xs)).length≤2000000:=Nat.le_trans (stuff_most _) (Nat.le_trans (mostOf_le _) (by omega))
 have hcp:0<(stuff (xs ++ sumB xs)).length:=List.length_pos_iff.2 (stuff_pos _)
 have HAt:=hid h.at_
 have HRaw:=hid (fun W (hb:BufAt W w.heap.size w.heap.size []) (h8:Bytes8 W p xs) (hs:w.heap.size≤W.heap.size) =>
  (show Calls Tryz.prog 106 #[.pointer (some ⟨w.heap.size,0,none⟩),.slice p N c] W (BufOk w.heap.size w.heap.size xs W) from bufRaw w.heap.size w.heap.size [] xs p N c W hb hl h8 h.bare (Nat.le_refl _) hs (by simp;omega)))
 have HSum:=hid (fun W (h8:Bytes8 W p xs)=>sum_wide 0 u64_zero p N c xs hl h.cap h.room h.bare h.oct (by omega) W h8)
 have HEi:=hid (fun W (hb:BufAt W w.heap.size w.heap.size xs) (hs:w.heap.size≤W.heap.size) =>
  (show Calls Tryz.prog 107 #[.pointer (some ⟨w.heap.size,0,none⟩),.int .u64 (wxxh 0 xs)] W (BufOk w.heap.size w.heap.size (xs ++ sumB xs) W) from bufEight w.heap.size w.heap.size xs (wxxh 0 xs) W hb (Nat.le_refl _) hs (by omega) hu.1 hu.2))
 have HBy:=hid (fun W (hb:BufAt W w.heap.size w.heap.size (xs ++ sumB xs))=>bufBytes w.heap.size w.heap.size (xs ++ sumB xs) W hb (by omega))
 rw [hSl] at HBy
 have HSt:=hid (fun q d W (h8:Bytes8 W q (xs ++ sumB xs)) (hd:N+8≤d) (hd':d≤9223372036854775807) (hq:q=none→N+8=0∧d=0)=>stuff_own q (N+8) d (xs ++ sumB xs) W ⟨hSl.symm,hd,hd',hq,hso,h8⟩ (by omega))
 obtain ⟨z,hz⟩:∃ z,z=wxxh 0 xs:=⟨_,rfl⟩
 rw [← hz] at HSum HEi
 have hdef:sealN xs=stuff (xs ++ sumB xs) ++ [0]:=rfl
 obtain ⟨T,hT⟩:∃ T,T=xs ++ sumB xs:=⟨_,rfl⟩
 rw [← hT] at HEi HBy HSt hdef hcl hcp
 have hT8:0<T.length:=by rw [hT,hSl];omega
 obtain ⟨C,hC⟩:∃ C,C=stuff T:=⟨_,rfl⟩
 rw [← hC] at HSt hdef hcl hcp
 obtain ⟨M,hM⟩:∃ M,M=N+8:=⟨_,rfl⟩
 rw [← hM] at HBy HSt
 obtain ⟨L,hL⟩:∃ L,L=C.length:=⟨_,rfl⟩
 rw [← hL] at HSt hcl hcp
 have HDef:=hid hdef
 have HL:=hid hL
 clear h hu hl hSl hso hz hT hC hM hdef hL hN
 go_enter Tryz.func81,Tryz.ntmps81
 go_wp2_with fail
 refine (HRaw.out _ (bufNewB w w.heap.size) (HAt.out.keep ((Keeps.refl NoBlock w).alloc _) (fun _ _ h=>h)) (by simp)).mono ?_
 rintro e w1 ⟨rfl,hb1,hk1⟩
 have HB1:=hid hb1
 have HK1:=hid (((Keeps.refl NoBlock w).alloc (.cells #[.slice none 0 0] 145)).then (Keeps.ofBelowAt hk1) (fun i hi h=>by omega))
 clear hb1 hk1
 go_wp2_with fail
 refine (HSum.out _ (HAt.out.keep HK1.out (fun _ _ h=>h))).mono ?_
 rintro e w2 ⟨rfl,hk2⟩
 have HB2:=hid (HB1.out.keepO hk2 (fun h=>h) (fun _ _ _ _ h=>h))
 have HK2:=hid (HK1.out.trans hk2)
 clear hk2
 go_wp2_with fail
 refine (HEi.out _ HB2.out HK2.out.size).mono ?_
 rintro e w3 ⟨rfl,hb3,hk3⟩
 have HB3:=hid hb3
 have HK3:=hid (HK2.out.then (Keeps.ofBelowAt hk3) (fun i hi h=>by omega))
 clear hb3 hk3
 go_wp2_with fail
 refine (HBy.out _ HB3.out).mono ?_
 rintro e w4 ⟨v4,rfl,q,d,rfl,hd,hd',hby,hq,hk4⟩
 have HBy4:=hid hby
 have HK4:=hid (HK3.out.trans hk4)
 have HQ4:Hid (q=none→M=0∧d=0):=hid (fun h0=>by
  obtain ⟨a,ha,_⟩:=HBy4.out hT8
  rw [h0] at ha
  simp at ha)
 have hd9:d≤9223372036854775807:=by first|omega|(unfold maxLen at hd';omega)|exact hd'
 clear hby hq hk4
 go_wp2_with fail
 refine (HSt.out q d _ HBy4.out hd hd9 HQ4.out).mono ?_
 rintro e w5 ⟨v5,rfl,hown,hbel⟩
 have HO5:=hid hown
 have HBel:=hid hbel
 have hbs:=hbel.size
 have HBs:=hid hbs
 clear hown hbel hbs
 go_wp2_with (at_builtin;refine wpList_append_bytes rfl _ _ rfl w4.heap.size _ L C rfl (HO5.out.alloc _) (some ⟨w5.heap.size,0,none⟩) 1 1 [0] rfl (fun h=>by simp at h) rfl (Bytes8.ofNew1 _ _ _ _) (by omega) (by have:=HBs.out;simp;omega) ?_)
 intro v6 w6 h6 hb6
 have hbe:Below w4.heap.size w4 w6:=(HBel.out.alloc HBs.out _).trans hb6
 obtain ⟨q6,d6,rfl,h61,h62,h63,h64⟩:=Copied.read2 (show Copied w4 (L+1) (C ++ [0]) v6 w6 from ⟨by rw [List.map_append];exact h6,hbe⟩) (by rw [List.length_append,← HL.out];rfl)
 have HR6:=hid (show NewRow8 w (C ++ [0]) (.slice q6 (L+1) d6) w6 from by
  unfold NewRow8
  rw [List.length_append,← HL.out,List.map_append]
  exact row_lower h6 HK4.out.size)
 have HN6:=hid (show NewBytes w (C ++ [0]) (.slice q6 (L+1) d6) w6 from ⟨q6,L+1,d6,rfl,by rw [List.length_append,← HL.out];rfl,h61,h62,h64,h63,HK4.out.then (Keeps.ofBelowAt hbe) (fun i hi h=>by have:=HK4.out.size;omega)⟩)
 clear h6 hb6 hbe h61 h62 h63 h64
 go_wp2_with fail
 go_ret
 rw [HDef.out]
 exact ⟨_,rfl,HN6.out,HR6.out⟩
theorem seal_own (p:Option Addr) (N c:Nat) (xs:List Int) (w:World) (h:In8 w p N c xs) (hN:N≤500000) :
  Calls Tryz.prog 81 #[.slice p N c] w fun e w'=>∃ v,e=.returned v∧NewBytes w (sealN xs) v w' :=
 (seal_both p N c xs w h hN).mono fun _ _ ⟨v,h1,h2,_⟩=>⟨v,h1,h2⟩
set_option maxHeartbeats 1000000 in
set_option maxRecDepth 10000 in
theorem fsize_own (z:Int) (w:World) (h0:-50000000≤z) (h1:z≤50000000):Calls Tryz.prog 183 #[.int .i64 z] w fun e w'=>e=.returned (.int .i64 ((sizeN z.toNat:Nat):Int))∧Keeps NoBlock w w':=by
 have hle:=mostOf_le (z.toNat+8)
 obtain ⟨k,hk⟩:∃ k,k=z.toNat:=⟨_,rfl⟩
 rw [← hk] at hle
 have HM:=hid (fun (y:Int) (hy:y=(k:Int)+8) w=>most_cobs y w (by omega) (by omega))
 have HM:=hid (fun (y:Int) (hy:y=(k:Int)+8) w=>(show Calls Tryz.prog 137 #[.int .i64 y] w fun e w'=>e=.returned (.int .i64 ((mostOf (k+8):Nat):Int))∧w'=w from by
  have h:=HM.out y hy w
  rwa [show y.toNat=k+8 by omega] at h))
 rw [← hk]
 unfold sizeN
 obtain ⟨m,hm⟩:∃ m,m=mostOf (k+8):=⟨_,rfl⟩
 rw [← hm] at HM hle ⊢
 have w1:IntKind.i64.wrap ((k:Int)+8)=(k:Int)+8:=by rw [IntKind.wrap_i64];omega
 have w2:IntKind.i64.wrap ((m:Int)+1)=(m:Int)+1:=by rw [IntKind.wrap_i64];omega
 clear hm
 by_cases hz:z≤0
 ·obtain rfl:k=0:=by omega
  clear hk
  go_enter Tryz.func183,Tryz.ntmps183
  go_wp2_with fail
  refine (HM.out _ (by first|rfl|omega|(simp;done)) _).mono ?_
  rintro e w3 ⟨rfl,rfl⟩
  go_wp2_with fail
  go_ret
  exact ⟨by first|rfl|(rw [w2];push_cast;rfl),Keeps.refl _ _⟩
 ·obtain rfl:z=(k:Int):=by omega
  have hz2:¬ (k:Int)≤0:=hz
  clear hk
  go_enter Tryz.func183,Tryz.ntmps183
  go_wp2_with fail
  refine (HM.out _ (by first|rfl|omega|(simp;done)) _).mono ?_
  rintro e w3 ⟨rfl,rfl⟩
  go_wp2_with fail
  go_ret
  exact ⟨by first|rfl|(rw [w2];push_cast;rfl),Keeps.refl _ _⟩
end
section
open Go.RowKit
set_option maxHeartbeats 1000000 in
set_option maxRecDepth 10000 in
theorem ftmost_own (z:Int) (w:World) (h0:-500000≤z) (h1:z≤500000) :
  Calls Tryz.prog 150 #[.int .i64 z] w fun e w'=>e=.returned (.int .i64 ((mostFt z.toNat:Nat):Int))∧Keeps NoBlock w w':=by
 obtain ⟨k,hk⟩:∃ k,k=z.toNat:=⟨_,rfl⟩
 rw [← hk]
 have hk9:k≤500000:=by omega
 obtain ⟨c,hc⟩:∃ c,c=countF (k:Int):=⟨_,rfl⟩
 have hc9:c≤500000:=by rw [hc];unfold countF;omega
 have HC:=hid (fun (y:Int) (hy:y=(k:Int)) w=>(show Calls Tryz.prog 155 #[.int .i64 y] w fun e w'=>e=.returned (.int .i64 ((c:Nat):Int))∧Keeps NoBlock w w' from by
  subst hy
  rw [hc]
  exact fcount_own (k:Int) w (by omega) (by omega)))
 have hbl:mostFt k=sizeN (9+12*k+8*c):=by unfold mostFt bodyLen;rw [hc]
 rw [hbl]
 obtain ⟨M,hM⟩:∃ M,M=9+12*k+8*c:=⟨_,rfl⟩
 rw [← hM]
 have HS:=hid (fun (y:Int) (hy:y=9+12*(k:Int)+8*(c:Int)) w=>(show Calls Tryz.prog 183 #[.int .i64 y] w fun e w'=>e=.returned (.int .i64 ((sizeN M:Nat):Int))∧Keeps NoBlock w w' from by
  have h:=fsize_own y w (by omega) (by omega)
  rwa [show y.toNat=M by omega] at h))
 have w1:IntKind.i64.wrap (12*(k:Int))=12*(k:Int):=by rw [IntKind.wrap_i64];omega
 have w2:IntKind.i64.wrap (9+12*(k:Int))=9+12*(k:Int):=by rw [IntKind.wrap_i64];omega
 have w3:IntKind.i64.wrap (8*(c:Int))=8*(c:Int):=by rw [IntKind.wrap_i64];omega
 have w4:IntKind.i64.wrap (9+12*(k:Int)+8*(c:Int))=9+12*(k:Int)+8*(c:Int):=by rw [IntKind.wrap_i64];omega
 have HZ:=hid hc
 clear hc hbl hM
 by_cases hz:z≤0
 ·obtain rfl:k=0:=by omega
  obtain rfl:c=0:=by rw [HZ.out];rfl
  clear hk w1 w2 w3 w4
  go_enter Tryz.func150,Tryz.ntmps150
  go_wp2_with fail
  refine (HC.out _ (by first|rfl|omega|(simp;done)) _).mono ?_
  rintro e w5 ⟨rfl,hk⟩
  have HK:=hid hk
  clear hk
  go_wp2_with fail
  refine (HS.out _ (by first|rfl|omega|(simp;done)) _).mono ?_
  rintro e w6 ⟨rfl,hk⟩
  have HK:=hid (HK.out.trans hk)
  clear hk
  go_wp2_with fail
  go_ret
  exact ⟨rfl,HK.out⟩
 ·obtain rfl:z=(k:Int):=by omega
  have hz2:¬ (k:Int)≤0:=hz
  clear hk
  go_enter Tryz.func150,Tryz.ntmps150
  go_wp2_with fail
  refine (HC.out _ (by first|rfl|omega|(simp;done)) _).mono ?_
  rintro e w5 ⟨rfl,hk⟩
  have HK:=hid hk
  clear hk
  go_wp2_with fail
  refine (HS.out _ (by first|rfl|omega|(simp;done)) _).mono ?_
  rintro e w6 ⟨rfl,hk⟩
  have HK:=hid (HK.out.trans hk)
  clear hk
  go_wp2_with fail
  go_ret
  exact ⟨rfl,HK.out⟩
end
section
open Go.RowKit
end
section
open Go.RowKit
def got8 (t:Nat × Int):Value:=.tuple #[.int .u32 (t.1:Int),.int .i64 t.2]
def checkC (e s:Nat):Int:=if mayC e s=true then 0 else 1
def sizeC (e s:Nat):Nat:=if mayC e s=true then 2 ^ e else 0
end
section
open Go.RowKit
set_option maxHeartbeats 2000000 in
set_option maxRecDepth 10000 in
theorem check_conf (e s:Nat) (w:World):Calls Tryz.prog 34 #[confV e s] w fun r w'=>r=.returned (.int .i64 (checkC e s))∧Keeps NoBlock w w':=by
 have HR:=hid (Whole.new w 27 (confCells e s))
 have HK:=hid ((Keeps.refl NoBlock w).alloc (.cells (confCells e s) 27))
 by_cases h1:12≤e
 ·have d1:decide ((e:Int)<12)=false:=decide_eq_false (by omega)
  by_cases h2:e≤24
  ·have d2:decide ((24:Int)<(e:Int))=false:=decide_eq_false (by omega)
   by_cases h3:1≤s
   ·have d3:decide ((s:Int)<1)=false:=decide_eq_false (by omega)
    by_cases h4:s≤65536
    ·have d4:decide ((65536:Int)<(s:Int))=false:=decide_eq_false (by omega)
     have HM:=hid (show checkC e s=0 by unfold checkC;rw [if_pos (mayC_true.2 ⟨h1,h2,h3,h4⟩)])
     unfold confV
     go_enter Tryz.func34,Tryz.ntmps34
     go_wp2_with fail
     go_ret
     rw [HM.out]
     exact ⟨rfl,HK.out⟩
    ·have d4:decide ((65536:Int)<(s:Int))=true:=decide_eq_true (by omega)
     have HM:=hid (show checkC e s=1 by unfold checkC;rw [if_neg (fun h=>by have:=mayC_true.1 h;omega)])
     unfold confV
     go_enter Tryz.func34,Tryz.ntmps34
     go_wp2_with fail
     go_ret
     rw [HM.out]
     exact ⟨rfl,HK.out⟩
   ·have d3:decide ((s:Int)<1)=true:=decide_eq_true (by omega)
    have HM:=hid (show checkC e s=1 by unfold checkC;rw [if_neg (fun h=>by have:=mayC_true.1 h;omega)])
    unfold confV
    go_enter Tryz.func34,Tryz.ntmps34
    go_wp2_with fail
    go_ret
    rw [HM.out]
    exact ⟨rfl,HK.out⟩
  ·have d2:decide ((24:Int)<(e:Int))=true:=decide_eq_true (by omega)
   have HM:=hid (show checkC e s=1 by unfold checkC;rw [if_neg (fun h=>by have:=mayC_true.1 h;omega)])
   unfold confV
   go_enter Tryz.func34,Tryz.ntmps34
   go_wp2_with fail
   go_ret
   rw [HM.out]
   exact ⟨rfl,HK.out⟩
 ·have d1:decide ((e:Int)<12)=true:=decide_eq_true (by omega)
  have HM:=hid (show checkC e s=1 by unfold checkC;rw [if_neg (fun h=>by have:=mayC_true.1 h;omega)])
  unfold confV
  go_enter Tryz.func34,Tryz.ntmps34
  go_wp2_with fail
  go_ret
  rw [HM.out]
  exact ⟨rfl,HK.out⟩
theorem checkC_may {e s:Nat} (h:mayC e s=true):checkC e s=0:=by unfold checkC;rw [if_pos h]
theorem checkC_not {e s:Nat} (h:mayC e s=false):checkC e s=1:=by unfold checkC;rw [if_neg (by rw [h];decide)]
theorem shl_one {e:Nat} (h:e≤24):Op.shift BinOp.shl IntKind.i64 1 IntKind.u8 (e:Int)=pure (.int .i64 ((2 ^ e:Nat):Int)):=by
 have:e=0 ∨ e=1 ∨ e=2 ∨ e=3 ∨ e=4 ∨ e=5 ∨ e=6 ∨ e=7 ∨ e=8 ∨ e=9 ∨ e=10 ∨ e=11 ∨ e=12 ∨ e=13 ∨ e=14 ∨ e=15 ∨ e=16 ∨ e=17 ∨ e=18 ∨ e=19 ∨ e=20 ∨ e=21 ∨ e=22 ∨ e=23 ∨ e=24:=by omega
 rcases this with rfl|rfl|rfl|rfl|rfl|rfl|rfl|rfl|rfl|rfl|rfl|rfl|rfl|rfl|rfl|rfl|rfl|rfl|rfl|rfl|rfl|rfl|rfl|rfl|rfl <;> rfl
set_option maxHeartbeats 2000000 in
set_option maxRecDepth 10000 in
theorem size_conf (e s:Nat) (w:World):Calls Tryz.prog 18 #[confV e s] w fun r w'=>r=.returned (.int .i64 (sizeC e s:Int))∧Keeps NoBlock w w':=by
 have HR:=hid (Whole.new w 27 (confCells e s))
 have HK:=hid ((Keeps.refl NoBlock w).alloc (.cells (confCells e s) 27))
 have H1:=hid (fun w=>check_conf e s w)
 by_cases hm:mayC e s=true
 ·have HM:=hid (show sizeC e s=2 ^ e by unfold sizeC;rw [if_pos hm])
  have he:=(mayC_true.1 hm).2.1
  have hsh:=shl_one he
  rw [checkC_may hm] at H1
  obtain ⟨q,hq⟩:∃ q,q=2 ^ e:=⟨_,rfl⟩
  rw [← hq] at HM hsh
  clear hq hm he
  unfold confV at H1
  unfold confV
  go_enter Tryz.func18,Tryz.ntmps18
  go_wp2_with fail
  refine (H1.out _).mono ?_
  rintro r w1 ⟨rfl,hk⟩
  have HR:=hid (HR.out.keep hk (fun h=>h))
  have HK:=hid (HK.out.trans hk)
  clear hk
  have c0:=HR.out.cell 0 rfl
  have c1:=HR.out.cell 1 rfl
  simp only [confCells,List.getElem_toArray,List.getElem_cons_zero,List.getElem_cons_succ] at c0 c1
  go_wp2_with fail
  go_ret
  rw [HM.out]
  exact ⟨rfl,HK.out⟩
 ·have HM:=hid (show sizeC e s=0 by unfold sizeC;rw [if_neg hm])
  have hmf:mayC e s=false:=by simpa using hm
  rw [checkC_not hmf] at H1
  clear hm hmf
  unfold confV at H1
  unfold confV
  go_enter Tryz.func18,Tryz.ntmps18
  go_wp2_with fail
  refine (H1.out _).mono ?_
  rintro r w1 ⟨rfl,hk⟩
  have HR:=hid (HR.out.keep hk (fun h=>h))
  have HK:=hid (HK.out.trans hk)
  clear hk
  go_wp2_with fail
  go_ret
  rw [HM.out]
  exact ⟨rfl,HK.out⟩
end
section
open Go.RowKit
theorem sizeC_le (e s:Nat):sizeC e s≤16777216:=by
 unfold sizeC
 split
 ·rename_i h
  exact (two_e (mayC_true.1 h).2.1).2
 ·exact Nat.zero_le _
set_option maxHeartbeats 4000000 in
set_option maxRecDepth 10000 in
theorem left_any (r:Rm) (w:World) (hc:r.count≤10000) (hu:r.used≤16777216) (hcu:r.count<r.used) :
  Calls Tryz.prog 117 #[roomV r] w fun e w'=>e=.returned (.int .i64 ((sizeC r.e r.s - (r.used+mostFt (r.count+1)):Nat):Int))∧Keeps NoBlock w w':=by
 have HSz:=hid (fun w=>size_conf r.e r.s w)
 have HMo:=hid (fun w=>ftmost_own ((r.count+1:Nat):Int) w (by omega) (by omega))
 have hlin:=mostFt_lin (r.count+1)
 have hpos:=mostFt_pos (r.count+1)
 have hp:=sizeC_le r.e r.s
 have HW:=hid (Whole.new w 121 (roomCells r))
 have HK:=hid ((Keeps.refl NoBlock w).alloc (.cells (roomCells r) 121))
 obtain ⟨p,hpp⟩:∃ p,p=sizeC r.e r.s:=⟨_,rfl⟩
 obtain ⟨m,hm⟩:∃ m,m=mostFt (r.count+1):=⟨_,rfl⟩
 rw [← hpp] at HSz hp ⊢
 rw [show ((r.count+1:Nat):Int).toNat=r.count+1 from Int.toNat_natCast _,← hm] at HMo
 rw [← hm] at hlin hpos ⊢
 rw [show ((r.count+1:Nat):Int)=(r.count:Int)+1 by omega] at HMo
 obtain ⟨Z,hZ⟩:∃ Z,Z=p - (r.used+m):=⟨_,rfl⟩
 rw [← hZ]
 have HZ:=hid hZ
 obtain ⟨e,s,num,used,count⟩:=r
 simp only at hu hc hcu hlin HSz HMo hp HZ
 clear hpp hm hZ
 unfold roomV confV at *
 unfold roomCells at HW HK
 simp only at HW HK HSz ⊢
 obtain ⟨c0,c1,c2,c3,c4⟩:=room_at (r:=⟨e,s,num,used,count⟩) HW.out
 go_enter Tryz.func117,Tryz.ntmps117
 go_wp2_with fail
 refine (HSz.out _).mono ?_
 rintro e9 w1 ⟨rfl,hk⟩
 have HW:=hid (HW.out.keep hk (fun h=>h))
 have HK:=hid (HK.out.trans hk)
 clear hk c0 c1 c2 c3 c4
 obtain ⟨c0,c1,c2,c3,c4⟩:=room_at (r:=⟨e,s,num,used,count⟩) HW.out
 have n1:¬ (count:Int)<0:=by omega
 have n3:¬ (used:Int)<(count:Int):=by omega
 have n4:¬ used<count:=by omega
 have n5:decide ((count:Int)<0)=false:=decide_eq_false n1
 have n7:¬ (used:Int)≤(count:Int):=by omega
 have n8:¬ used≤count:=by omega
 by_cases hs:p≤used
 ·have g1:decide ((p:Int)≤(used:Int))=true:=decide_eq_true (by omega)
  have g2:decide (p≤used)=true:=decide_eq_true hs
  go_wp2_with fail
  go_ret
  exact ⟨by rw [HZ.out,show p - (used+m)=0 by omega];rfl,HK.out⟩
 have g1:decide ((p:Int)≤(used:Int))=false:=decide_eq_false (by omega)
 have g2:decide (p≤used)=false:=decide_eq_false hs
 have w6:IntKind.i64.wrap ((count:Int)+1)=(count:Int)+1:=IntWalk.i64_in _ (by omega)
 have w7:IntKind.i64.wrap ((p:Int) - (used:Int))=(p:Int) - (used:Int):=IntWalk.i64_in _ (by omega)
 have w8:IntKind.i64.wrap ((p:Int) - (used:Int) - (m:Int))=(p:Int) - (used:Int) - (m:Int):=IntWalk.i64_in _ (by omega)
 have hmax:max ((p:Int) - (used:Int) - (m:Int)) 0=(Z:Int):=by have:=HZ.out;omega
 go_upto_region 4 with (fail)
 have s0:=And.intro ((Whole.drewN HW.out 1).cell 3 rfl) ((Whole.drewN HW.out 1).cell 4 rfl)
 have sN:=And.intro (HW.out.cell 3 rfl) (HW.out.cell 4 rfl)
 simp only [List.getElem_toArray,List.getElem_cons_zero,List.getElem_cons_succ] at s0 sN
 go_region_held3 (fun w'=>w'.cell? ⟨w.heap.size,3,none⟩=some (.int .i64 (used:Int))∧w'.cell? ⟨w.heap.size,4,none⟩=some (.int .i64 (count:Int)))
  (first|exact s5|exact s0|exact sN)
  (first|(go_at_call 150;refine (HMo.out _).mono ?_;rintro e9 w5 ⟨rfl,hk⟩;have hk':Keeps NoBlock w1 w5:=(by first|exact hk|exact hk.ofDrew|exact hk.ofDrewN);have HK:=hid (HK.out.trans hk');have HW:=hid (HW.out.keep hk' (fun h=>h));have s5:=And.intro (HW.out.cell 3 rfl) (HW.out.cell 4 rfl);simp only [List.getElem_toArray,List.getElem_cons_zero,List.getElem_cons_succ] at s5;clear hk hk';obtain ⟨w1,rfl⟩:∃ x,x=w5:=⟨_,rfl⟩))
 go_wp2_with fail
 go_ret
 exact ⟨rfl,HK.out⟩
theorem left_own (r:Rm) (w:World) (hr:r.Real):Calls Tryz.prog 117 #[roomV r] w fun e w'=>e=.returned (.int .i64 ((leftP r:Nat):Int))∧Keeps NoBlock w w':=by
 obtain ⟨he,hu,hs,hn⟩:=hr.small
 have hh:=(headLen_le (e:=r.e) (s:=r.s) (n:=r.num) (by omega) (by omega)).1
 have hd:=hr.head
 have h1:=left_any r w hr.few hu (by omega)
 have h2:=(mayHead_true.1 hr.may)
 have h3:sizeC r.e r.s=2 ^ r.e:=by unfold sizeC;rw [if_pos (mayC_true.2 ⟨h2.1,h2.2.1,h2.2.2.1,h2.2.2.2.1⟩)]
 rw [h3] at h1
 exact h1
set_option maxHeartbeats 4000000 in
set_option maxRecDepth 10000 in
theorem left_none (w:World):Calls Tryz.prog 117 #[roomV Rm.none] w fun e w'=>e=.returned (.int .i64 (((0:Nat):Int)))∧Keeps NoBlock w w':=by
 have HSz:=hid (fun w=>size_conf 0 0 w)
 rw [show sizeC 0 0=0 from by decide] at HSz
 have HW:=hid (Whole.new w 121 (roomCells Rm.none))
 have HK:=hid ((Keeps.refl NoBlock w).alloc (.cells (roomCells Rm.none) 121))
 unfold Rm.none at *
 unfold roomV confV at *
 unfold roomCells at HW HK
 simp only at HW HK HSz ⊢
 obtain ⟨c0,c1,c2,c3,c4⟩:=room_at (r:=⟨0,0,0,0,0⟩) HW.out
 go_enter Tryz.func117,Tryz.ntmps117
 go_wp2_with fail
 refine (HSz.out _).mono ?_
 rintro e9 w1 ⟨rfl,hk⟩
 have HW:=hid (HW.out.keep hk (fun h=>h))
 have HK:=hid (HK.out.trans hk)
 clear hk c0 c1 c2 c3 c4
 obtain ⟨c0,c1,c2,c3,c4⟩:=room_at (r:=⟨0,0,0,0,0⟩) HW.out
 go_wp2_with fail
 go_ret
 exact ⟨rfl,HK.out⟩
end
end Go.Proofs.YtehkjkcnigknkaaGreat

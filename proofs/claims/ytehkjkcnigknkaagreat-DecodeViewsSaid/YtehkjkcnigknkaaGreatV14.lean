/-
  FrHead; RecRow; RecsOwn; SgFrames; SgErased; FenText.
-/
import Derived.OwnWalk
import Derived.Lib.Hide
import Derived.Test.YtehkjkcnigknkaaGreatV02
import Derived.Test.YtehkjkcnigknkaaGreatV03
import Derived.Test.YtehkjkcnigknkaaGreatV04
import Derived.Test.YtehkjkcnigknkaaGreatV07
import Derived.Test.YtehkjkcnigknkaaGreatV09
import Derived.Test.YtehkjkcnigknkaaGreatV11
import Derived.Test.YtehkjkcnigknkaaGreatV13
namespace Go.Proofs.YtehkjkcnigknkaaGreat
open Lib (hid)
section
open Go.RowKit
set_option maxHeartbeats 4000000 in
set_option maxRecDepth 10000 in
theorem head9_ref (e s n:Nat) (he:e<256) (hs:s<4294967296) (hn:n<18446744073709551616) (w:World) :
  Calls Tryz.prog 44 #[confV e s,.int .u64 (n:Int)] w fun r w'=>r=.returned (.string (strOfNums (sealN (headB e s n))))∧Keeps NoBlock w w':=by
 have HNs:=hid (fun w=>num_bytes s (IntKind.u64.wrap (s:Int)) (by rw [IntKind.wrap_u64];omega) (by omega) w)
 have HNn:=hid (fun w=>num_bytes n (n:Int) rfl hn w)
 have HSl:=hid (fun w=>seal9_ref (headB e s n) (headB_octets he) (by have:=headB_length (e:=e) (s:=s) (n:=n) (by omega) hn;omega) w)
 have t1:=vnum_ten (x:=s) (by omega)
 have t2:=vnum_ten hn
 have z1:=str_size (vnum s)
 have z2:=str_size (vnum n)
 have a1:(⟨#[1,2]⟩:ByteArray) ++ strOfNums [(e:Int)]=strOfNums [1,2,(e:Int)]:=str_append [1,2] [(e:Int)]
 have a2:strOfNums [1,2,(e:Int)] ++ strOfNums (vnum s)=strOfNums (1 :: 2 :: (e:Int) :: vnum s):=str_append [1,2,(e:Int)] (vnum s)
 have a3:strOfNums (1 :: 2 :: (e:Int) :: vnum s) ++ strOfNums (vnum n)=strOfNums (headB e s n):=str_append (1 :: 2 :: (e:Int) :: vnum s) (vnum n)
 have z3:(⟨#[1,2]⟩:ByteArray).size=2:=rfl
 have z4:(strOfNums [(e:Int)]).size=1:=str_size _
 have z5:(strOfNums [1,2,(e:Int)]).size=3:=str_size _
 have z6:(strOfNums (1 :: 2 :: (e:Int) :: vnum s)).size=3+(vnum s).length:=by rw [str_size];simp;omega
 have HWc:=hid (Whole.new w 27 (confCells e s))
 obtain ⟨S,hS⟩:∃ S,S=vnum s:=⟨_,rfl⟩
 obtain ⟨N,hN⟩:∃ N,N=vnum n:=⟨_,rfl⟩
 obtain ⟨B,hB⟩:∃ B,B=headB e s n:=⟨_,rfl⟩
 rw [← hS] at HNs t1 z1 a2 a3 z6
 rw [← hN] at HNn t2 z2 a3
 rw [← hB] at HSl a3 ⊢
 clear hS hN hB he hs hn
 have r1:¬ 9223372036854775807<2+1:=by decide
 have r2:¬ 9223372036854775807<3+S.length:=by omega
 have r3:¬ 9223372036854775807<3+S.length+N.length:=by omega
 unfold confV
 go_enter Tryz.func44,Tryz.ntmps44
 go_wp2_with fail
 obtain ⟨W,hW⟩:∃ W,W=w.alloc (.cells #[.int .u8 (e:Int),.int .u32 (s:Int)] 27):=⟨_,rfl⟩
 have HC:Hid (Whole W w.heap.size 27 (confCells e s)):=hid (by rw [hW];exact HWc.out)
 have HK:Hid (Keeps NoBlock w W):=hid (by rw [hW];exact (Keeps.refl _ _).alloc _)
 rw [← hW]
 clear hW HWc
 have HC:Hid (Whole W.drew w.heap.size 27 (confCells e s)):=hid (HC.out.drewN 1)
 have HK:Hid (Keeps NoBlock w W.drew):=hid (HK.out.drewN 1)
 have s0:=And.intro (HC.out.cell 0 rfl) (HC.out.cell 1 rfl)
 simp only [confCells,List.getElem_toArray,List.getElem_cons_zero,List.getElem_cons_succ] at s0
 refine wp_region_held_drew (S:=fun w'=>w'.cell? ⟨w.heap.size,0,none⟩=some (.int .u8 (e:Int))∧w'.cell? ⟨w.heap.size,1,none⟩=some (.int .u32 (s:Int))) (by kernel_rfl) s0 (fun hHeld=>?_)
 refine wpAnyH_take (i:=0) (v:=?vT1) rfl ?aT1 ?bT1 ?cT1 ?dT1 (Or.inl ⟨?eT1,?fT1⟩) hHeld ?gT1
 case fT1=>intro w hSw;(try dsimp only at hSw);go_simp;(try with_reducible rfl)
 case aT1=>kernel_rfl
 case bT1=>kernel_rfl
 case cT1=>kernel_rfl
 case dT1=>exact fun _ _ _ h=>h
 case eT1=>rfl
 simp only [Act.put,List.getElem_toArray,List.getElem_cons_zero,List.setIfInBounds_toArray,List.set_cons_zero,List.set_cons_succ]
 refine wpAnyH_take (i:=1) (v:=?vT2) rfl ?aT2 ?bT2 ?cT2 ?dT2 (Or.inl ⟨?eT2,?fT2⟩) hHeld ?gT2
 case fT2=>intro w hSw;(try dsimp only at hSw);go_simp;(try with_reducible rfl)
 case aT2=>kernel_rfl
 case bT2=>kernel_rfl
 case cT2=>kernel_rfl
 case dT2=>exact fun _ _ _ h=>h
 case eT2=>rfl
 simp only [Act.put,List.getElem_toArray,List.getElem_cons_zero,List.getElem_cons_succ,List.setIfInBounds_toArray,List.set_cons_zero,List.set_cons_succ]
 refine wpAnyH_take (i:=5) (v:=?vT3) rfl ?aT3 ?bT3 ?cT3 ?dT3 (Or.inl ⟨?eT3,?fT3⟩) hHeld ?gT3
 case fT3=>intro w hSw;(try dsimp only at hSw);go_simp;(try with_reducible rfl)
 case aT3=>kernel_rfl
 case bT3=>kernel_rfl
 case cT3=>kernel_rfl
 case dT3=>exact fun _ _ _ h=>h
 case eT3=>rfl
 simp only [Act.put,List.getElem_toArray,List.getElem_cons_zero,List.getElem_cons_succ,List.setIfInBounds_toArray,List.set_cons_zero,List.set_cons_succ]
 refine wpAnyH_take (i:=6) (v:=?vT4) rfl ?aT4 ?bT4 ?cT4 ?dT4 (Or.inl ⟨?eT4,?fT4⟩) hHeld ?gT4
 case fT4=>intro w hSw;(try dsimp only at hSw);go_simp;(try with_reducible rfl)
 case aT4=>kernel_rfl
 case bT4=>kernel_rfl
 case cT4=>kernel_rfl
 case dT4=>exact fun _ _ _ h=>h
 case eT4=>rfl
 simp only [Act.put,List.getElem_toArray,List.getElem_cons_zero,List.getElem_cons_succ,List.setIfInBounds_toArray,List.set_cons_zero,List.set_cons_succ]
 refine wpAnyH_take (i:=7) (v:=?vT5) rfl ?aT5 ?bT5 ?cT5 ?dT5 (Or.inl ⟨?eT5,?fT5⟩) hHeld ?gT5
 case fT5=>intro w hSw;(try dsimp only at hSw);go_simp;(try with_reducible rfl)
 case aT5=>kernel_rfl
 case bT5=>kernel_rfl
 case cT5=>kernel_rfl
 case dT5=>exact fun _ _ _ h=>h
 case eT5=>rfl
 simp only [Act.put,List.getElem_toArray,List.getElem_cons_zero,List.getElem_cons_succ,List.setIfInBounds_toArray,List.set_cons_zero,List.set_cons_succ]
 refine wpAnyH_take (i:=10) (v:=?vT6) rfl ?aT6 ?bT6 ?cT6 ?dT6 (Or.inl ⟨?eT6,?fT6⟩) hHeld ?gT6
 case fT6=>intro w hSw;(try dsimp only at hSw);go_simp;(try with_reducible rfl)
 case aT6=>kernel_rfl
 case bT6=>kernel_rfl
 case cT6=>kernel_rfl
 case dT6=>exact fun _ _ _ h=>h
 case eT6=>rfl
 simp only [Act.put,List.getElem_toArray,List.getElem_cons_zero,List.getElem_cons_succ,List.setIfInBounds_toArray,List.set_cons_zero,List.set_cons_succ]
 refine wpAnyH_ready (rs:=[2,8]) (by kernel_rfl) (by simp) ?_
 refine (AllReadyH.cons (o:=_) rfl (fun K hK=>?_) (AllReadyH.cons (o:=_) rfl (fun K hK=>?_) AllReadyH.nil))
 ·go_simp
  have HC:=hid (HC.out.alloc (.cells #[.int .u8 (e:Int)] 5))
  have HK:=hid (HK.out.alloc (.cells #[.int .u8 (e:Int)] 5))
  have HNB:Hid (Whole (W.drew.alloc (.cells #[.int .u8 (e:Int)] 5)) W.heap.size 5 #[.int .u8 (e:Int)]):=hid (Whole.new _ _ _)
  refine hK.out _ _ (And.intro (HC.out.cell 0 rfl) (HC.out.cell 1 rfl)) (fun _=>?_)
  clear hK K
  refine wpAnyH_swap (S':=fun w'=>(w'.cell? ⟨w.heap.size,0,none⟩=some (.int .u8 (e:Int))∧w'.cell? ⟨w.heap.size,1,none⟩=some (.int .u32 (s:Int)))∧(convert 29 9 (.slice (some ⟨W.heap.size,0,none⟩) 1 1)).run Tryz.prog w'=.ok (.string (strOfNums [(e:Int)])) w') (fun _ h=>h.1) _ _ _ _ ?_
  have hS:((fun w'=>w'.cell? ⟨w.heap.size,0,none⟩=some (.int .u8 (e:Int))∧w'.cell? ⟨w.heap.size,1,none⟩=some (.int .u32 (s:Int))) (W.drew.alloc (.cells #[.int .u8 (e:Int)] 5)))∧((fun w'=>(convert 29 9 (.slice (some ⟨W.heap.size,0,none⟩) 1 1)).run Tryz.prog w'=.ok (.string (strOfNums [(e:Int)])) w') (W.drew.alloc (.cells #[.int .u8 (e:Int)] 5))):=And.intro (And.intro (HC.out.cell 0 rfl) (HC.out.cell 1 rfl)) (one_conv HNB.out)
  refine wpAnyH_take (i:=3) (v:=?vT7) rfl ?aT7 ?bT7 ?cT7 ?dT7 (Or.inl ⟨?eT7,?fT7⟩) hS ?gT7
  case fT7=>intro w hSw;(try dsimp only at hSw);go_simp;(try with_reducible rfl)
  case aT7=>kernel_rfl
  case bT7=>kernel_rfl
  case cT7=>kernel_rfl
  case dT7=>exact fun _ _ _ h=>h
  case eT7=>rfl
  simp only [Act.put,List.getElem_toArray,List.getElem_cons_zero,List.getElem_cons_succ,List.setIfInBounds_toArray,List.set_cons_zero,List.set_cons_succ]
  refine wpAnyH_take (i:=4) (v:=?vT8) rfl ?aT8 ?bT8 ?cT8 ?dT8 (Or.inl ⟨?eT8,?fT8⟩) hS ?gT8
  case fT8=>intro w hSw;(try dsimp only at hSw);go_simp;(try with_reducible rfl)
  case aT8=>kernel_rfl
  case bT8=>kernel_rfl
  case cT8=>kernel_rfl
  case dT8=>exact fun _ _ _ h=>h
  case eT8=>rfl
  simp only [Act.put,List.getElem_toArray,List.getElem_cons_zero,List.getElem_cons_succ,List.setIfInBounds_toArray,List.set_cons_zero,List.set_cons_succ]
  refine wpAnyH_ready (rs:=[8]) (by kernel_rfl) (by simp) ?_
  refine (AllReadyH.cons (o:=_) rfl (fun K hK=>?_) AllReadyH.nil)
  go_simp
  refine (HNs.out _).mono ?_
  rintro r w5 ⟨rfl,hk⟩
  have hk2:Keeps NoBlock (W.drew.alloc (.cells #[.int .u8 (e:Int)] 5)) w5:=by first|exact hk|exact hk.ofDrew|exact hk.ofDrewN
  have HC:=hid (HC.out.keep hk2 (fun h=>h))
  have HK:=hid (HK.out.trans hk2)
  have HNB:=hid (HNB.out.keep hk2 (fun h=>h))
  have hS:((fun w'=>w'.cell? ⟨w.heap.size,0,none⟩=some (.int .u8 (e:Int))∧w'.cell? ⟨w.heap.size,1,none⟩=some (.int .u32 (s:Int))) w5)∧((fun w'=>(convert 29 9 (.slice (some ⟨W.heap.size,0,none⟩) 1 1)).run Tryz.prog w'=.ok (.string (strOfNums [(e:Int)])) w') w5):=And.intro (And.intro (HC.out.cell 0 rfl) (HC.out.cell 1 rfl)) (one_conv HNB.out)
  clear hk hk2
  go_wp2_with fail
  refine hK.out _ _ hS (fun _=>?_)
  clear hK K
  refine wpAnyH_take (i:=9) (v:=?vT9) rfl ?aT9 ?bT9 ?cT9 ?dT9 (Or.inl ⟨?eT9,?fT9⟩) hS ?gT9
  case fT9=>intro w hSw;(try dsimp only at hSw);go_simp;(try with_reducible rfl)
  case aT9=>kernel_rfl
  case bT9=>kernel_rfl
  case cT9=>kernel_rfl
  case dT9=>exact fun _ _ _ h=>h
  case eT9=>rfl
  simp only [Act.put,List.getElem_toArray,List.getElem_cons_zero,List.getElem_cons_succ,List.setIfInBounds_toArray,List.set_cons_zero,List.set_cons_succ]
  refine wpAnyH_ready (rs:=[11]) (by kernel_rfl) (by simp) ?_
  refine (AllReadyH.cons (o:=_) rfl (fun K hK=>?_) AllReadyH.nil)
  go_simp
  refine (HNn.out _).mono ?_
  rintro r w6 ⟨rfl,hk⟩
  have hk2:Keeps NoBlock w5 w6:=by first|exact hk|exact hk.ofDrew|exact hk.ofDrewN
  have HC:=hid (HC.out.keep hk2 (fun h=>h))
  have HK:=hid (HK.out.trans hk2)
  have HNB:=hid (HNB.out.keep hk2 (fun h=>h))
  have hS:((fun w'=>w'.cell? ⟨w.heap.size,0,none⟩=some (.int .u8 (e:Int))∧w'.cell? ⟨w.heap.size,1,none⟩=some (.int .u32 (s:Int))) w6)∧((fun w'=>(convert 29 9 (.slice (some ⟨W.heap.size,0,none⟩) 1 1)).run Tryz.prog w'=.ok (.string (strOfNums [(e:Int)])) w') w6):=And.intro (And.intro (HC.out.cell 0 rfl) (HC.out.cell 1 rfl)) (one_conv HNB.out)
  clear hk hk2
  go_wp2_with fail
  refine hK.out _ _ hS (fun _=>?_)
  clear hK K
  refine wpAnyH_take (i:=12) (v:=?vT10) rfl ?aT10 ?bT10 ?cT10 ?dT10 (Or.inl ⟨?eT10,?fT10⟩) hS ?gT10
  case fT10=>intro w hSw;(try dsimp only at hSw);go_simp;(try with_reducible rfl)
  case aT10=>kernel_rfl
  case bT10=>kernel_rfl
  case cT10=>kernel_rfl
  case dT10=>exact fun _ _ _ h=>h
  case eT10=>rfl
  simp only [Act.put,List.getElem_toArray,List.getElem_cons_zero,List.getElem_cons_succ,List.setIfInBounds_toArray,List.set_cons_zero,List.set_cons_succ]
  refine wpAnyH_ready (rs:=[13]) (by kernel_rfl) (by simp) ?_
  refine (AllReadyH.cons (o:=_) rfl (fun K hK=>?_) AllReadyH.nil)
  go_simp
  refine (HSl.out _).mono ?_
  rintro r w7 ⟨rfl,hk⟩
  have hk2:Keeps NoBlock w6 w7:=by first|exact hk|exact hk.ofDrew|exact hk.ofDrewN
  have HC:=hid (HC.out.keep hk2 (fun h=>h))
  have HK:=hid (HK.out.trans hk2)
  have HNB:=hid (HNB.out.keep hk2 (fun h=>h))
  have hS:((fun w'=>w'.cell? ⟨w.heap.size,0,none⟩=some (.int .u8 (e:Int))∧w'.cell? ⟨w.heap.size,1,none⟩=some (.int .u32 (s:Int))) w7)∧((fun w'=>(convert 29 9 (.slice (some ⟨W.heap.size,0,none⟩) 1 1)).run Tryz.prog w'=.ok (.string (strOfNums [(e:Int)])) w') w7):=And.intro (And.intro (HC.out.cell 0 rfl) (HC.out.cell 1 rfl)) (one_conv HNB.out)
  clear hk hk2
  go_wp2_with fail
  refine hK.out _ _ hS (fun _=>?_)
  clear hK K
  refine wpAnyH_take (i:=14) (v:=?vT11) rfl ?aT11 ?bT11 ?cT11 ?dT11 (Or.inl ⟨?eT11,?fT11⟩) hS ?gT11
  case fT11=>intro w hSw;(try dsimp only at hSw);go_simp;(try with_reducible rfl)
  case aT11=>kernel_rfl
  case bT11=>kernel_rfl
  case cT11=>kernel_rfl
  case dT11=>exact fun _ _ _ h=>h
  case eT11=>rfl
  simp only [Act.put,List.getElem_toArray,List.getElem_cons_zero,List.getElem_cons_succ,List.setIfInBounds_toArray,List.set_cons_zero,List.set_cons_succ]
  refine wpAnyH_done (by kernel_rfl) ?_ _
  go_wp2_with fail
  go_ret
  exact ⟨rfl,HK.out⟩
 ·go_simp
  refine (HNs.out _).mono ?_
  rintro r w8 ⟨rfl,hk⟩
  have hk2:Keeps NoBlock W.drew w8:=by first|exact hk|exact hk.ofDrew|exact hk.ofDrewN
  have HC:=hid (HC.out.keep hk2 (fun h=>h))
  have HK:=hid (HK.out.trans hk2)
  have hS:(fun w'=>w'.cell? ⟨w.heap.size,0,none⟩=some (.int .u8 (e:Int))∧w'.cell? ⟨w.heap.size,1,none⟩=some (.int .u32 (s:Int))) w8:=And.intro (HC.out.cell 0 rfl) (HC.out.cell 1 rfl)
  clear hk hk2
  go_wp2_with fail
  refine hK.out _ _ hS (fun _=>?_)
  clear hK K
  refine wpAnyH_ready (rs:=[2,11]) (by kernel_rfl) (by simp) ?_
  refine (AllReadyH.cons (o:=_) rfl (fun K hK=>?_) (AllReadyH.cons (o:=_) rfl (fun K hK=>?_) AllReadyH.nil))
  ·go_simp
   have HC:=hid (HC.out.alloc (.cells #[.int .u8 (e:Int)] 5))
   have HK:=hid (HK.out.alloc (.cells #[.int .u8 (e:Int)] 5))
   have HNB:Hid (Whole (w8.alloc (.cells #[.int .u8 (e:Int)] 5)) w8.heap.size 5 #[.int .u8 (e:Int)]):=hid (Whole.new _ _ _)
   refine hK.out _ _ (And.intro (HC.out.cell 0 rfl) (HC.out.cell 1 rfl)) (fun _=>?_)
   clear hK K
   refine wpAnyH_swap (S':=fun w'=>(w'.cell? ⟨w.heap.size,0,none⟩=some (.int .u8 (e:Int))∧w'.cell? ⟨w.heap.size,1,none⟩=some (.int .u32 (s:Int)))∧(convert 29 9 (.slice (some ⟨w8.heap.size,0,none⟩) 1 1)).run Tryz.prog w'=.ok (.string (strOfNums [(e:Int)])) w') (fun _ h=>h.1) _ _ _ _ ?_
   have hS:((fun w'=>w'.cell? ⟨w.heap.size,0,none⟩=some (.int .u8 (e:Int))∧w'.cell? ⟨w.heap.size,1,none⟩=some (.int .u32 (s:Int))) (w8.alloc (.cells #[.int .u8 (e:Int)] 5)))∧((fun w'=>(convert 29 9 (.slice (some ⟨w8.heap.size,0,none⟩) 1 1)).run Tryz.prog w'=.ok (.string (strOfNums [(e:Int)])) w') (w8.alloc (.cells #[.int .u8 (e:Int)] 5))):=And.intro (And.intro (HC.out.cell 0 rfl) (HC.out.cell 1 rfl)) (one_conv HNB.out)
   refine wpAnyH_take (i:=3) (v:=?vT12) rfl ?aT12 ?bT12 ?cT12 ?dT12 (Or.inl ⟨?eT12,?fT12⟩) hS ?gT12
   case fT12=>intro w hSw;(try dsimp only at hSw);go_simp;(try with_reducible rfl)
   case aT12=>kernel_rfl
   case bT12=>kernel_rfl
   case cT12=>kernel_rfl
   case dT12=>exact fun _ _ _ h=>h
   case eT12=>rfl
   simp only [Act.put,List.getElem_toArray,List.getElem_cons_zero,List.getElem_cons_succ,List.setIfInBounds_toArray,List.set_cons_zero,List.set_cons_succ]
   refine wpAnyH_take (i:=4) (v:=?vT13) rfl ?aT13 ?bT13 ?cT13 ?dT13 (Or.inl ⟨?eT13,?fT13⟩) hS ?gT13
   case fT13=>intro w hSw;(try dsimp only at hSw);go_simp;(try with_reducible rfl)
   case aT13=>kernel_rfl
   case bT13=>kernel_rfl
   case cT13=>kernel_rfl
   case dT13=>exact fun _ _ _ h=>h
   case eT13=>rfl
   simp only [Act.put,List.getElem_toArray,List.getElem_cons_zero,List.getElem_cons_succ,List.setIfInBounds_toArray,List.set_cons_zero,List.set_cons_succ]
   refine wpAnyH_take (i:=9) (v:=?vT14) rfl ?aT14 ?bT14 ?cT14 ?dT14 (Or.inl ⟨?eT14,?fT14⟩) hS ?gT14
   case fT14=>intro w hSw;(try dsimp only at hSw);go_simp;(try with_reducible rfl)
   case aT14=>kernel_rfl
   case bT14=>kernel_rfl
   case cT14=>kernel_rfl
   case dT14=>exact fun _ _ _ h=>h
   case eT14=>rfl
   simp only [Act.put,List.getElem_toArray,List.getElem_cons_zero,List.getElem_cons_succ,List.setIfInBounds_toArray,List.set_cons_zero,List.set_cons_succ]
   refine wpAnyH_ready (rs:=[11]) (by kernel_rfl) (by simp) ?_
   refine (AllReadyH.cons (o:=_) rfl (fun K hK=>?_) AllReadyH.nil)
   go_simp
   refine (HNn.out _).mono ?_
   rintro r w9 ⟨rfl,hk⟩
   have hk2:Keeps NoBlock (w8.alloc (.cells #[.int .u8 (e:Int)] 5)) w9:=by first|exact hk|exact hk.ofDrew|exact hk.ofDrewN
   have HC:=hid (HC.out.keep hk2 (fun h=>h))
   have HK:=hid (HK.out.trans hk2)
   have HNB:=hid (HNB.out.keep hk2 (fun h=>h))
   have hS:((fun w'=>w'.cell? ⟨w.heap.size,0,none⟩=some (.int .u8 (e:Int))∧w'.cell? ⟨w.heap.size,1,none⟩=some (.int .u32 (s:Int))) w9)∧((fun w'=>(convert 29 9 (.slice (some ⟨w8.heap.size,0,none⟩) 1 1)).run Tryz.prog w'=.ok (.string (strOfNums [(e:Int)])) w') w9):=And.intro (And.intro (HC.out.cell 0 rfl) (HC.out.cell 1 rfl)) (one_conv HNB.out)
   clear hk hk2
   go_wp2_with fail
   refine hK.out _ _ hS (fun _=>?_)
   clear hK K
   refine wpAnyH_take (i:=12) (v:=?vT15) rfl ?aT15 ?bT15 ?cT15 ?dT15 (Or.inl ⟨?eT15,?fT15⟩) hS ?gT15
   case fT15=>intro w hSw;(try dsimp only at hSw);go_simp;(try with_reducible rfl)
   case aT15=>kernel_rfl
   case bT15=>kernel_rfl
   case cT15=>kernel_rfl
   case dT15=>exact fun _ _ _ h=>h
   case eT15=>rfl
   simp only [Act.put,List.getElem_toArray,List.getElem_cons_zero,List.getElem_cons_succ,List.setIfInBounds_toArray,List.set_cons_zero,List.set_cons_succ]
   refine wpAnyH_ready (rs:=[13]) (by kernel_rfl) (by simp) ?_
   refine (AllReadyH.cons (o:=_) rfl (fun K hK=>?_) AllReadyH.nil)
   go_simp
   refine (HSl.out _).mono ?_
   rintro r w10 ⟨rfl,hk⟩
   have hk2:Keeps NoBlock w9 w10:=by first|exact hk|exact hk.ofDrew|exact hk.ofDrewN
   have HC:=hid (HC.out.keep hk2 (fun h=>h))
   have HK:=hid (HK.out.trans hk2)
   have HNB:=hid (HNB.out.keep hk2 (fun h=>h))
   have hS:((fun w'=>w'.cell? ⟨w.heap.size,0,none⟩=some (.int .u8 (e:Int))∧w'.cell? ⟨w.heap.size,1,none⟩=some (.int .u32 (s:Int))) w10)∧((fun w'=>(convert 29 9 (.slice (some ⟨w8.heap.size,0,none⟩) 1 1)).run Tryz.prog w'=.ok (.string (strOfNums [(e:Int)])) w') w10):=And.intro (And.intro (HC.out.cell 0 rfl) (HC.out.cell 1 rfl)) (one_conv HNB.out)
   clear hk hk2
   go_wp2_with fail
   refine hK.out _ _ hS (fun _=>?_)
   clear hK K
   refine wpAnyH_take (i:=14) (v:=?vT16) rfl ?aT16 ?bT16 ?cT16 ?dT16 (Or.inl ⟨?eT16,?fT16⟩) hS ?gT16
   case fT16=>intro w hSw;(try dsimp only at hSw);go_simp;(try with_reducible rfl)
   case aT16=>kernel_rfl
   case bT16=>kernel_rfl
   case cT16=>kernel_rfl
   case dT16=>exact fun _ _ _ h=>h
   case eT16=>rfl
   simp only [Act.put,List.getElem_toArray,List.getElem_cons_zero,List.getElem_cons_succ,List.setIfInBounds_toArray,List.set_cons_zero,List.set_cons_succ]
   refine wpAnyH_done (by kernel_rfl) ?_ _
   go_wp2_with fail
   go_ret
   exact ⟨rfl,HK.out⟩
  ·go_simp
   refine (HNn.out _).mono ?_
   rintro r w11 ⟨rfl,hk⟩
   have hk2:Keeps NoBlock w8 w11:=by first|exact hk|exact hk.ofDrew|exact hk.ofDrewN
   have HC:=hid (HC.out.keep hk2 (fun h=>h))
   have HK:=hid (HK.out.trans hk2)
   have hS:(fun w'=>w'.cell? ⟨w.heap.size,0,none⟩=some (.int .u8 (e:Int))∧w'.cell? ⟨w.heap.size,1,none⟩=some (.int .u32 (s:Int))) w11:=And.intro (HC.out.cell 0 rfl) (HC.out.cell 1 rfl)
   clear hk hk2
   go_wp2_with fail
   refine hK.out _ _ hS (fun _=>?_)
   clear hK K
   refine wpAnyH_ready (rs:=[2]) (by kernel_rfl) (by simp) ?_
   refine (AllReadyH.cons (o:=_) rfl (fun K hK=>?_) AllReadyH.nil)
   go_simp
   have HC:=hid (HC.out.alloc (.cells #[.int .u8 (e:Int)] 5))
   have HK:=hid (HK.out.alloc (.cells #[.int .u8 (e:Int)] 5))
   have HNB:Hid (Whole (w11.alloc (.cells #[.int .u8 (e:Int)] 5)) w11.heap.size 5 #[.int .u8 (e:Int)]):=hid (Whole.new _ _ _)
   refine hK.out _ _ (And.intro (HC.out.cell 0 rfl) (HC.out.cell 1 rfl)) (fun _=>?_)
   clear hK K
   refine wpAnyH_swap (S':=fun w'=>(w'.cell? ⟨w.heap.size,0,none⟩=some (.int .u8 (e:Int))∧w'.cell? ⟨w.heap.size,1,none⟩=some (.int .u32 (s:Int)))∧(convert 29 9 (.slice (some ⟨w11.heap.size,0,none⟩) 1 1)).run Tryz.prog w'=.ok (.string (strOfNums [(e:Int)])) w') (fun _ h=>h.1) _ _ _ _ ?_
   have hS:((fun w'=>w'.cell? ⟨w.heap.size,0,none⟩=some (.int .u8 (e:Int))∧w'.cell? ⟨w.heap.size,1,none⟩=some (.int .u32 (s:Int))) (w11.alloc (.cells #[.int .u8 (e:Int)] 5)))∧((fun w'=>(convert 29 9 (.slice (some ⟨w11.heap.size,0,none⟩) 1 1)).run Tryz.prog w'=.ok (.string (strOfNums [(e:Int)])) w') (w11.alloc (.cells #[.int .u8 (e:Int)] 5))):=And.intro (And.intro (HC.out.cell 0 rfl) (HC.out.cell 1 rfl)) (one_conv HNB.out)
   refine wpAnyH_take (i:=3) (v:=?vT17) rfl ?aT17 ?bT17 ?cT17 ?dT17 (Or.inl ⟨?eT17,?fT17⟩) hS ?gT17
   case fT17=>intro w hSw;(try dsimp only at hSw);go_simp;(try with_reducible rfl)
   case aT17=>kernel_rfl
   case bT17=>kernel_rfl
   case cT17=>kernel_rfl
   case dT17=>exact fun _ _ _ h=>h
   case eT17=>rfl
   simp only [Act.put,List.getElem_toArray,List.getElem_cons_zero,List.getElem_cons_succ,List.setIfInBounds_toArray,List.set_cons_zero,List.set_cons_succ]
   refine wpAnyH_take (i:=4) (v:=?vT18) rfl ?aT18 ?bT18 ?cT18 ?dT18 (Or.inl ⟨?eT18,?fT18⟩) hS ?gT18
   case fT18=>intro w hSw;(try dsimp only at hSw);go_simp;(try with_reducible rfl)
   case aT18=>kernel_rfl
   case bT18=>kernel_rfl
   case cT18=>kernel_rfl
   case dT18=>exact fun _ _ _ h=>h
   case eT18=>rfl
   simp only [Act.put,List.getElem_toArray,List.getElem_cons_zero,List.getElem_cons_succ,List.setIfInBounds_toArray,List.set_cons_zero,List.set_cons_succ]
   refine wpAnyH_take (i:=9) (v:=?vT19) rfl ?aT19 ?bT19 ?cT19 ?dT19 (Or.inl ⟨?eT19,?fT19⟩) hS ?gT19
   case fT19=>intro w hSw;(try dsimp only at hSw);go_simp;(try with_reducible rfl)
   case aT19=>kernel_rfl
   case bT19=>kernel_rfl
   case cT19=>kernel_rfl
   case dT19=>exact fun _ _ _ h=>h
   case eT19=>rfl
   simp only [Act.put,List.getElem_toArray,List.getElem_cons_zero,List.getElem_cons_succ,List.setIfInBounds_toArray,List.set_cons_zero,List.set_cons_succ]
   refine wpAnyH_take (i:=12) (v:=?vT20) rfl ?aT20 ?bT20 ?cT20 ?dT20 (Or.inl ⟨?eT20,?fT20⟩) hS ?gT20
   case fT20=>intro w hSw;(try dsimp only at hSw);go_simp;(try with_reducible rfl)
   case aT20=>kernel_rfl
   case bT20=>kernel_rfl
   case cT20=>kernel_rfl
   case dT20=>exact fun _ _ _ h=>h
   case eT20=>rfl
   simp only [Act.put,List.getElem_toArray,List.getElem_cons_zero,List.getElem_cons_succ,List.setIfInBounds_toArray,List.set_cons_zero,List.set_cons_succ]
   refine wpAnyH_ready (rs:=[13]) (by kernel_rfl) (by simp) ?_
   refine (AllReadyH.cons (o:=_) rfl (fun K hK=>?_) AllReadyH.nil)
   go_simp
   refine (HSl.out _).mono ?_
   rintro r w12 ⟨rfl,hk⟩
   have hk2:Keeps NoBlock (w11.alloc (.cells #[.int .u8 (e:Int)] 5)) w12:=by first|exact hk|exact hk.ofDrew|exact hk.ofDrewN
   have HC:=hid (HC.out.keep hk2 (fun h=>h))
   have HK:=hid (HK.out.trans hk2)
   have HNB:=hid (HNB.out.keep hk2 (fun h=>h))
   have hS:((fun w'=>w'.cell? ⟨w.heap.size,0,none⟩=some (.int .u8 (e:Int))∧w'.cell? ⟨w.heap.size,1,none⟩=some (.int .u32 (s:Int))) w12)∧((fun w'=>(convert 29 9 (.slice (some ⟨w11.heap.size,0,none⟩) 1 1)).run Tryz.prog w'=.ok (.string (strOfNums [(e:Int)])) w') w12):=And.intro (And.intro (HC.out.cell 0 rfl) (HC.out.cell 1 rfl)) (one_conv HNB.out)
   clear hk hk2
   go_wp2_with fail
   refine hK.out _ _ hS (fun _=>?_)
   clear hK K
   refine wpAnyH_take (i:=14) (v:=?vT21) rfl ?aT21 ?bT21 ?cT21 ?dT21 (Or.inl ⟨?eT21,?fT21⟩) hS ?gT21
   case fT21=>intro w hSw;(try dsimp only at hSw);go_simp;(try with_reducible rfl)
   case aT21=>kernel_rfl
   case bT21=>kernel_rfl
   case cT21=>kernel_rfl
   case dT21=>exact fun _ _ _ h=>h
   case eT21=>rfl
   simp only [Act.put,List.getElem_toArray,List.getElem_cons_zero,List.getElem_cons_succ,List.setIfInBounds_toArray,List.set_cons_zero,List.set_cons_succ]
   refine wpAnyH_done (by kernel_rfl) ?_ _
   go_wp2_with fail
   go_ret
   exact ⟨rfl,HK.out⟩
end
section
open Go.RowKit
def RecsAt (w:World) (p:Option Addr) (l:List Rec):Prop :=
 ∀ i,i<l.length→∃ a:Addr,p=some a∧w.cell? (a.add (i*4))=some (.bool (l.getD i Rec.none).del)∧w.cell? ⟨(a.add (i*4)).block,(a.add (i*4)).off+1,none⟩=some (.int .u64 ((l.getD i Rec.none).seq:Int)) ∧
  w.cell? ⟨(a.add (i*4)).block,(a.add (i*4)).off+2,none⟩=some (.string (strOfNums (l.getD i Rec.none).key))∧w.cell? ⟨(a.add (i*4)).block,(a.add (i*4)).off+3,none⟩=some (.string (strOfNums (l.getD i Rec.none).val))
theorem RecsAt.keep {w w':World} {p:Option Addr} {l:List Rec} (h:RecsAt w p l) {S:Nat→Prop} (hk:Keeps S w w') (hs:∀ k,k<w.heap.size→¬ S k):RecsAt w' p l:=fun i hi=>by
 obtain ⟨a,rfl,c0,c1,c2,c3⟩:=h i hi
 exact ⟨a,rfl,hk.cell c0 (hs _ (ltOfCell c0)),hk.cell c1 (hs _ (ltOfCell c1)),hk.cell c2 (hs _ (ltOfCell c2)),hk.cell c3 (hs _ (ltOfCell c3))⟩
def littleR (bytes:Nat) (r:Rec):Bool:=decide (r.key.length≤bytes) && decide (r.val.length≤bytes)
def fewR (l:List Rec) (most bytes:Nat):Bool:=l.all (littleR bytes) && decide (l.length≤most)
theorem all_take_succ {l:List Rec} {b j:Nat} (hj:j<l.length):(l.take (j+1)).all (littleR b)=((l.take j).all (littleR b) && littleR b (l.getD j Rec.none)):=by
 rw [List.take_succ_eq_append_getElem hj,List.all_append]
 simp [hj]
set_option maxHeartbeats 2000000 in
set_option maxRecDepth 10000 in
theorem few_any (p:Option Addr) (n c:Nat) (l:List Rec) (most bytes:Nat) (zm zb:Int) (hzm:zm=(most:Int)) (hzb:zb=(bytes:Int)) (hn:n=l.length) (hn9:n≤9223372036854775807) (hs:∀ r ∈ l,r.key.length≤9223372036854775807∧r.val.length≤9223372036854775807) (w:World) (hl:RecsAt w p l) :
  Calls Tryz.prog 7 #[.slice p n c,.int .i64 zm,.int .i64 zb] w fun e w'=>e=.returned (.bool (fewR l most bytes))∧Keeps NoBlock w w':=by
 subst hzm
 subst hzb
 have HL:=hid hl
 have HN:=hid hn
 have HS:=hid hs
 clear hl hn hs
 go_enter Tryz.func7,Tryz.ntmps7
 go_wp2_with fail
 go_loopw [11] (fun i wr=>∃ j:Nat,j≤n∧i=.int .i64 (j:Int)∧(l.take j).all (littleR bytes)=true∧Keeps NoBlock w wr) (fun i _=>n - (intOf i).toNat)
 case atStart=>exact ⟨0,Nat.zero_le _,rfl,by simp,Keeps.refl _ _⟩
 case round =>
  obtain ⟨j,hj,rfl,hall,hk⟩:=hrel
  have HK:=hid hk
  have HA:=hid hall
  clear hk hall
  by_cases hlt:j<n
  ·have hdj:decide ((j:Int)<(n:Int))=true:=decide_eq_true (by omega)
   have hjl:j<l.length:=by rw [← HN.out];exact hlt
   obtain ⟨a,rfl,c0,c1,c2,c3⟩:=(HL.out.keep HK.out (fun _ _ h=>h)) j hjl
   have hmem:l.getD j Rec.none ∈ l:=by simp [hjl]
   have hsr:=HS.out _ hmem
   have HT:=hid (all_take_succ (b:=bytes) hjl)
   obtain ⟨r,hr⟩:∃ r,r=l.getD j Rec.none:=⟨_,rfl⟩
   rw [← hr] at c0 c1 c2 c3 hsr HT
   have hk1:=str_size r.key
   have hv1:=str_size r.val
   have hbad:littleR bytes r=false→fewR l most bytes=false:=fun h=>by
    unfold fewR
    have:l.all (littleR bytes)=false:=by
     rw [Bool.eq_false_iff]
     intro ha
     have:=List.all_eq_true.1 ha r (by rw [hr];exact hmem)
     rw [h] at this
     cases this
    rw [this]
    rfl
   have HBd:=hid hbad
   clear hr hmem hjl hbad
   by_cases k1:bytes<r.key.length
   ·have dk:decide (bytes<r.key.length)=true:=decide_eq_true k1
    have dk2:decide ((bytes:Int)<(r.key.length:Int))=true:=decide_eq_true (by omega)
    have e:=HBd.out (by unfold littleR;rw [decide_eq_false (by omega)];rfl)
    have HE:=hid e
    clear e
    go_wp2_with fail
    go_ret
    rw [HE.out]
    exact ⟨rfl,HK.out.alloc _⟩
   ·have dk:decide (bytes<r.key.length)=false:=decide_eq_false k1
    have dk2:decide ((bytes:Int)<(r.key.length:Int))=false:=decide_eq_false (by omega)
    by_cases k2:bytes<r.val.length
    ·have dv:decide (bytes<r.val.length)=true:=decide_eq_true k2
     have dv2:decide ((bytes:Int)<(r.val.length:Int))=true:=decide_eq_true (by omega)
     have e:=HBd.out (by unfold littleR;rw [Bool.and_comm,decide_eq_false (show ¬ r.val.length≤bytes by omega)];rfl)
     have HE:=hid e
     clear e
     go_wp2_with fail
     go_ret
     rw [HE.out]
     exact ⟨rfl,HK.out.alloc _⟩
    ·have dv:decide (bytes<r.val.length)=false:=decide_eq_false k2
     have dv2:decide ((bytes:Int)<(r.val.length:Int))=false:=decide_eq_false (by omega)
     have hgood:littleR bytes r=true:=by unfold littleR;rw [decide_eq_true (show r.key.length≤bytes by omega),decide_eq_true (show r.val.length≤bytes by omega)];rfl
     have HG:=hid hgood
     clear hgood
     go_wp2_with fail
     exact ⟨⟨j+1,by omega,by go_num,by rw [HT.out,HA.out,HG.out];rfl,HK.out.alloc _⟩,by simp [intOf];omega⟩
  ·have hdj:decide ((j:Int)<(n:Int))=false:=decide_eq_false (by omega)
   have hall:l.all (littleR bytes)=true:=by
    have:=HA.out
    rwa [List.take_of_length_le (by rw [← HN.out];omega)] at this
   have hres:fewR l most bytes=decide ((n:Int)≤(most:Int)):=by
    unfold fewR
    rw [hall,Bool.true_and,← HN.out]
    by_cases h:n≤most
    ·rw [decide_eq_true h,decide_eq_true (by omega)]
    ·rw [decide_eq_false h,decide_eq_false (by omega)]
   have HR:=hid hres
   clear hall hres
   go_wp2_with fail
   go_ret
   rw [HR.out]
   exact ⟨by simp,HK.out⟩
end
section
open Go.RowKit
theorem infoRc:(Tryz.prog.info? 48).map (fun i=>(i.zero,i.size,i.bytes))=some (some (.agg #[.bool false,.int .u64 0,.string ⟨#[]⟩,.string ⟨#[]⟩]),4,48):=by kernel_rfl
def rcFour (r:Rec):List Value:=[.bool r.del,.int .u64 (r.seq:Int),.string (strOfNums r.key),.string (strOfNums r.val)]
def rcFlat (l:List Rec):List Value:=l.flatMap rcFour
theorem rcFlat_len (l:List Rec):(rcFlat l).length=l.length*4:=by
 induction l with
 | nil=>rfl
 | cons r l ih =>
  rw [rcFlat,List.flatMap_cons,List.length_append,← rcFlat,ih]
  simp [rcFour]
  omega
theorem rcFlat_append (a b:List Rec):rcFlat (a ++ b)=rcFlat a ++ rcFlat b:=List.flatMap_append
theorem rcFlat_at:∀ (l:List Rec) (i j:Nat),i<l.length→j<4→(rcFlat l)[i*4+j]?=(rcFour (l.getD i Rec.none))[j]?
 | [],i,j,h,_=>by simp at h
 | r :: l,0,j,_,hj=>by
  rw [rcFlat,List.flatMap_cons,List.getElem?_append_left (by simp [rcFour];omega)]
  simp
 | r :: l,i+1,j,h,hj=>by
  rw [rcFlat,List.flatMap_cons,List.getElem?_append_right (by simp [rcFour];omega),← rcFlat]
  have e:(i+1)*4+j - (rcFour r).length=i*4+j:=by simp [rcFour];omega
  rw [e,rcFlat_at l i j (by simpa using h) hj]
  simp
theorem RecsAt.nil (w:World) (p:Option Addr):RecsAt w p []:=fun i hi=>by simp at hi
def NewRecs (w:World) (l:List Rec) (v:Value) (w':World):Prop :=
 ∃ (q:Option Addr) (m d:Nat),v=.slice q m d∧m=l.length∧m≤d∧d≤9223372036854775807∧(q=none→m=0∧d=0)∧RecsAt w' q l∧Keeps NoBlock w w'
def RecsSoFar (w0:World) (l:List Rec) (v:Value) (wr:World):Prop:=wr.ownsRow w0.heap.size 48 4 v l.length (rcFlat l)∧Below w0.heap.size w0 wr
theorem RecsSoFar.start (w0:World):RecsSoFar w0 [] (.slice none 0 0) w0:=⟨⟨by simp [rcFlat],.inl ⟨rfl,rfl⟩⟩,Below.refl _ _⟩
theorem RecsSoFar.alloc {w0 wr:World} {l:List Rec} {v:Value} (h:RecsSoFar w0 l v wr) (o:Obj):RecsSoFar w0 l v (wr.alloc o):=⟨World.ownsRow.alloc h.1 o,h.2.alloc h.2.size o⟩
theorem RecsSoFar.keep {w0 wr w':World} {l:List Rec} {v:Value} (h:RecsSoFar w0 l v wr) (hk:Keeps NoBlock wr w'):RecsSoFar w0 l v w':=by
 refine ⟨⟨h.1.1,?_⟩,h.2.trans (hk.below h.2.size (fun _ _ h=>h))⟩
 rcases h.1.2 with hn|⟨g,cap,cur,rfl,hb,hgg,rest⟩
 ·exact .inl hn
 ·have hlt:g<wr.heap.size:=(Array.getElem?_eq_some_iff.1 hgg).1
  exact .inr ⟨g,cap,cur,rfl,hb,(hk.block g hlt (fun h=>h)).trans hgg,rest⟩
theorem RecsSoFar.keeps {w0 wr:World} {l:List Rec} {v:Value} (h:RecsSoFar w0 l v wr):Keeps NoBlock w0 wr:=.ofBelow h.2
theorem RecsSoFar.new {w0 wr:World} {l:List Rec} {v:Value} (h:RecsSoFar w0 l v wr):NewRecs w0 l v wr:=by
 have h':=h.1
 rcases h.1 with ⟨_,⟨rfl,h0⟩|⟨g,cap,cur,rfl,hg,hh,hc1,hc2,hc3,hc4⟩⟩
 ·obtain rfl:l=[]:=List.length_eq_zero_iff.1 h0
  exact ⟨none,0,0,rfl,rfl,Nat.le_refl _,by decide,fun _=>⟨rfl,rfl⟩,RecsAt.nil _ _,h.keeps⟩
 ·refine ⟨_,_,cap,rfl,rfl,hc1,by unfold maxLen at hc2;omega,fun h=>by simp at h,fun i hi=>?_,h.keeps⟩
  have hc:=h'.cells (g:=g) rfl
  have ha:∀ j u,j<4→(rcFour (l.getD i Rec.none))[j]?=some u→wr.cell? ⟨g,i*4+j,none⟩=some u:=fun j u hj hu=>by
   have:=hc (i*4+j) u (by rw [rcFlat_at l i j hi hj];exact hu)
   rw [Addr.add_lit,Nat.zero_add] at this
   exact this
  refine ⟨⟨g,0,none⟩,rfl,?_⟩
  simp only [Addr.add_lit,Nat.zero_add]
  exact ⟨ha 0 _ (by decide) rfl,ha 1 _ (by decide) rfl,ha 2 _ (by decide) rfl,ha 3 _ (by decide) rfl⟩
end
section
open Go.RowKit
theorem entsGo_snoc:∀ (l:List Rec) (k:Nat) (r:Rec),entsGo k (l ++ [r])=entsGo k l ++ [⟨(wxxh 0 r.key).toNat,k+(recsB l).length⟩]
 | [],k,r=>by simp [entsGo,recsB]
 | x :: l,k,r=>by
  rw [List.cons_append,entsGo,entsGo_snoc l _ r,entsGo]
  have e:recsB (x :: l)=recB x ++ recsB l:=by unfold recsB;rw [List.flatMap_cons]
  rw [e,List.length_append,Nat.add_assoc]
  rfl
theorem entsS_snoc (e s n:Nat) (l:List Rec) (r:Rec):entsS e s n (l ++ [r])=entsS e s n l ++ [⟨(wxxh 0 r.key).toNat,(outS e s n l).length⟩]:=by
 unfold entsS
 rw [entsGo_snoc]
 unfold outS headLen
 rw [List.length_append]
theorem outS_le (e s n:Nat) (l m:List Rec):(outS e s n l).length≤(outS e s n (l ++ m)).length:=by
 unfold outS recsB
 rw [List.flatMap_append,← List.append_assoc]
 simp only [List.length_append]
 omega
structure SegIn (e s n:Nat) (l:List Rec):Prop where
 e8:e<256
 s32:s<4294967296
 n64:n<18446744073709551616
 fine:∀ r ∈ l,r.Fine
 key:∀ r ∈ l,r.key.length≤2000000
 val:∀ r ∈ l,r.val.length≤2000000
 few:l.length≤100000
 long:(outS e s n l).length≤100000000
theorem SegIn.take {e s n:Nat} {l:List Rec} (h:SegIn e s n l) (j:Nat):SegIn e s n (l.take j) :=
 ⟨h.e8,h.s32,h.n64,fun r hr=>h.fine r (List.mem_of_mem_take hr),fun r hr=>h.key r (List.mem_of_mem_take hr),fun r hr=>h.val r (List.mem_of_mem_take hr),by have:=h.few;rw [List.length_take];omega,by
  have h1:=outS_le e s n (l.take j) (l.drop j)
  rw [List.take_append_drop] at h1
  have:=h.long
  omega⟩
theorem sizeN_bound (n:Nat):sizeN n≤2*n+20:=by
 unfold sizeN mostOf
 split <;> omega
set_option maxHeartbeats 4000000 in
set_option maxRecDepth 10000 in
theorem frames15_ref (e s n:Nat) (p:Option Addr) (m c:Nat) (l:List Rec) (hi:SegIn e s n l) (hm:m=l.length) (w:World) (hl:RecsAt w p l) :
  Calls Tryz.prog 26 #[confV e s,.int .u64 (n:Int),.slice p m c] w fun r w'=>∃ v,r=.returned (.tuple #[.string (strOfNums (outS e s n l)),v])∧NewEns w (sortE (entsS e s n l)) v w':=by
 obtain ⟨i0,hi0,hz0,hz1,hz2⟩:=info_parts infoEnR
 have HHd:=hid (fun w=>head9_ref e s n hi.e8 hi.s32 hi.n64 w)
 have HSo:=hid (fun q d w h=>sorted11_ref q (entsS e s n l).length d (entsS e s n l) rfl (by unfold entsS;rw [entsGo_length];have:=hi.few;omega) w h)
 have HI:=hid hi
 have HL:=hid hl
 have HM:=hid hm
 have HW0:=hid (Whole.new w 27 (confCells e s))
 have hm9:m≤100000:=by have:=hi.few;omega
 rw [← outS_nil e s n] at HHd
 clear hi hl hm
 unfold confV at *
 go_enter Tryz.func26,Tryz.ntmps26
 go_wp2_with fail
 refine (HHd.out _).mono ?_
 rintro e1 w1 ⟨rfl,hk⟩
 have HK:=hid (((Keeps.refl NoBlock w).alloc (.cells #[.int .u8 (e:Int),.int .u32 (s:Int)] 27)).trans hk)
 clear hk HHd HW0
 go_wp2_with fail
 go_loopw [8,9,17] (fun o t i wr=>∃ j:Nat,j≤m∧i=.int .i64 (j:Int)∧o=.string (strOfNums (outS e s n (l.take j)))∧Hid (TwosSoFar enH enA 105 w (entsS e s n (l.take j)) t wr)) (fun _ _ i _=>m - (intOf i).toNat)
 case atStart=>exact ⟨0,Nat.zero_le _,rfl,by simp,hid (by
  have h:=TwosSoFar.start (v0:=enH) (v1:=enA) (t:=105) w
  exact h.keep HK.out)⟩
 case round =>
  obtain ⟨j,hj,rfl,rfl,HS⟩:=hrel
  by_cases hlt:j<m
  ·have hdj:decide ((j:Int)<(m:Int))=true:=decide_eq_true (by omega)
   have hjl:j<l.length:=by rw [← HM.out];exact hlt
   obtain ⟨a,rfl,c0,c1,c2,c3⟩:=(HL.out.keep HS.out.keeps (fun _ _ h=>h)) j hjl
   have hmem:l.getD j Rec.none ∈ l:=by simp [hjl]
   have HT:Hid (l.take (j+1)=l.take j ++ [l.getD j Rec.none]):=hid (by rw [List.take_succ_eq_append_getElem hjl];simp [hjl])
   have HIj:=hid (HI.out.take j)
   have HFi:=hid (HI.out.fine _ hmem)
   have HKy:=hid (HI.out.key _ hmem)
   have HVa:=hid (HI.out.val _ hmem)
   obtain ⟨r,hr⟩:∃ r,r=l.getD j Rec.none:=⟨_,rfl⟩
   rw [← hr] at c0 c1 c2 c3 HT HFi HKy HVa
   clear hr hmem hjl
   have HRec:=hid (fun w=>record9_ref r HFi.out HKy.out HVa.out w)
   have HSum:=hid (fun w=>wsum_ref 0 r.key (by unfold U64;omega) HFi.out.key (by have:=HKy.out;omega) w)
   have HO2:Hid (outS e s n (l.take j) ++ sealN (bodyR r)=outS e s n (l.take (j+1))):=hid (by rw [HT.out,outS_snoc];rfl)
   have HE2:Hid (entsS e s n (l.take j) ++ [⟨(wxxh 0 r.key).toNat,(outS e s n (l.take j)).length⟩]=entsS e s n (l.take (j+1))):=hid (by rw [HT.out,entsS_snoc])
   have hlong:=HIj.out.long
   have hfew:(entsS e s n (l.take j)).length≤100000:=by unfold entsS;rw [entsGo_length,List.length_take];omega
   obtain ⟨H,hH⟩:∃ H,H=(wxxh 0 r.key).toNat:=⟨_,rfl⟩
   have hHi:wxxh 0 r.key=(H:Int):=by have:=wxxh_u64 0 r.key;unfold U64 at this;omega
   rw [hHi] at HSum
   rw [← hH] at HE2
   clear hH hHi
   obtain ⟨O,hO⟩:∃ O,O=outS e s n (l.take j):=⟨_,rfl⟩
   obtain ⟨E,hE⟩:∃ E,E=entsS e s n (l.take j):=⟨_,rfl⟩
   rw [← hO] at HO2 HE2 hlong ⊢
   rw [← hE] at HE2 HS hfew
   clear hO hE
   obtain ⟨R,hR⟩:∃ R,R=sealN (bodyR r):=⟨_,rfl⟩
   have hRl:R.length≤100000000:=by
    have h1:=bodyR_length HFi.out HKy.out HVa.out
    have h2:=HI.out.take (j+1)
    have h3:=h2.long
    rw [← HO2.out,List.length_append] at h3
    rw [hR]
    have h4:=(seal_length (bodyR r)).2
    have h5:=sizeN_bound (bodyR r).length
    have h6:=HKy.out
    have h7:=HVa.out
    omega
   rw [← hR] at HRec HO2
   clear hR
   obtain ⟨O2,hO2⟩:∃ O2,O2=outS e s n (l.take (j+1)):=⟨_,rfl⟩
   obtain ⟨E2,hE2⟩:∃ E2,E2=entsS e s n (l.take (j+1)):=⟨_,rfl⟩
   rw [← hO2] at HO2
   rw [← hE2] at HE2
   have HO3:=hid hO2
   have HE3:=hid hE2
   clear hO2 hE2 HT HIj HFi HKy HVa
   have z1:=str_size O
   have z2:=str_size R
   have hap:=str_append O R
   rw [HO2.out] at hap
   have hu:IntKind.u32.wrap ((O.length:Nat):Int)=((O.length:Nat):Int):=by rw [IntKind.wrap_u32];omega
   have r1:¬ 9223372036854775807<O.length+R.length:=by omega
   obtain ⟨N,hN⟩:∃ N,N=O.length:=⟨_,rfl⟩
   rw [← hN] at z1 hu r1 HE2
   have HLg:=hid hlong
   clear hN hlong hRl
   have HBox:=hid (Whole.new wr 48 (recCells r))
   have HS1:=hid (HS.out.alloc (.cells (recCells r) 48))
   unfold recV at HRec
   clear HS
   go_wp2_with fail
   refine (HSum.out _).mono ?_
   rintro e2 w2 ⟨rfl,hk⟩
   have HS2:=hid (HS1.out.keep hk)
   have HBox2:=hid (HBox.out.keep hk (fun h=>h))
   clear hk HS1 HBox
   have HEn:=hid (Whole.new w2 105 (enCells ⟨H,N⟩))
   have HS3:=hid (HS2.out.alloc (.cells (enCells ⟨H,N⟩) 105))
   have HBox3:=hid (HBox2.out.alloc (.cells (enCells ⟨H,N⟩) 105))
   have HAp:=hid (own_apart (by decide) HS3.out.1 HBox3.out)
   clear HS2 HBox2
   go_wp2_with (at_builtin;refine wpList_append_twoG rfl _ _ 72 rfl 105 i0 (.agg #[.int .u64 0,.int .u32 0]) 16 Tryz.underlying72 hi0 hz0 hz1 hz2 rfl _ _ rfl HS3.out w2.heap.size ⟨H,N⟩ rfl (HEn.out.cell 0 rfl) (HEn.out.cell 1 rfl) rfl rfl (by omega) (by omega) ?_)
   intro v5 w5 h5 g5
   have HBox5:=hid (HBox3.out.grown g5 HAp.out)
   rw [HE2.out] at h5
   have HS5:=hid h5
   obtain ⟨b0,b1,b2,b3⟩:=RecAt.ofWhole HBox5.out
   clear h5 g5 HS3 HBox3 HAp HEn
   go_wp2_with fail
   refine (HRec.out _).mono ?_
   rintro e6 w6 ⟨rfl,hk⟩
   have HS6:=hid (HS5.out.keep hk)
   clear hk
   go_wp2_with fail
   exact ⟨⟨j+1,by omega,by go_num,by rw [HO3.out],hid (by rw [← HE3.out];exact HS6.out)⟩,by simp [intOf];omega⟩
  ·have hdj:decide ((j:Int)<(m:Int))=false:=decide_eq_false (by omega)
   have hjl:l.take j=l:=List.take_of_length_le (by rw [← HM.out];omega)
   rw [hjl] at HS ⊢
   obtain ⟨q,k,d,rfl,hk1,hk2,hk3,hq,hat,hkk⟩:=HS.out.new (dd:=En.none)
   subst hk1
   have HSd:=hid (HSo.out q d wr hat)
   have HK2:=hid hkk
   clear hat hkk hq hk2 hk3 HS
   obtain ⟨M,hM⟩:∃ M,M=(entsS e s n l).length:=⟨_,rfl⟩
   rw [← hM] at HSd ⊢
   obtain ⟨S,hS⟩:∃ S,S=sortE (entsS e s n l):=⟨_,rfl⟩
   rw [← hS] at HSd
   have HSe:=hid hS
   clear hM hS
   obtain ⟨O,hO⟩:∃ O,O=outS e s n l:=⟨_,rfl⟩
   have HOe:=hid hO
   rw [← hO]
   clear hO
   go_wp2_with fail
   refine HSd.out.mono ?_
   rintro e7 w7 ⟨v,rfl,q2,k2,d2,rfl,h1,h2,h3,h4,h5,h6⟩
   have HKf:=hid (HK2.out.trans h6)
   have HAt:=hid h5
   have HC:=hid (And.intro h1 (And.intro h2 (And.intro h3 h4)))
   clear h1 h2 h3 h4 h5 h6
   go_wp2_with fail
   refine bodyPost_ret (results_tmp2 rfl _ _ _) rfl ?_
   obtain ⟨h1,h2,h3,h4⟩:=HC.out
   refine ⟨_,by rw [← HOe.out];rfl,_,_,_,rfl,?_,h2,h3,h4,?_,HKf.out⟩
   ·rw [← HSe.out];exact h1
   ·rw [← HSe.out];exact HAt.out
end
section
open Go.RowKit
def ErasedTo (wr:World) (g n j:Nat):Prop:=∃ cur,Whole wr g 5 cur∧cur.size=n∧∀ i,i<j→cur[i]?=some (.int .u8 255)
theorem ErasedTo.cell {wr:World} {g n j:Nat} (h:ErasedTo wr g n j) (i:Nat) (hi:i<n):∃ v,wr.cell? ⟨g,i,none⟩=some v:=by
 obtain ⟨cur,hw,hs,_⟩:=h
 exact ⟨cur[i]'(by omega),hw.cell i (by rw [Array.getElem?_eq_getElem])⟩
theorem ErasedTo.free {wr:World} {g n j:Nat} (h:ErasedTo wr g n j) (i:Nat):wr.frozen? ⟨g,i,none⟩=false:=by
 obtain ⟨cur,hw,_⟩:=h
 exact hw.free i
theorem ErasedTo.step {wr:World} {g n j:Nat} (h:ErasedTo wr g n j) (hj:j<n):ErasedTo (wr.setCell ⟨g,j,none⟩ (.int .u8 255)) g n (j+1):=by
 obtain ⟨cur,hw,hs,hc⟩:=h
 refine ⟨_,hw.set j _,by simpa using hs,fun i hi=>?_⟩
 by_cases e:i=j
 ·subst e
  rw [Array.getElem?_setIfInBounds_self_of_lt (by omega)]
 ·rw [Array.getElem?_setIfInBounds_ne (by omega)]
  exact hc i (by omega)
theorem ErasedTo.bytes {wr:World} {g n:Nat} (h:ErasedTo wr g n n):Bytes8 wr (some ⟨g,0,none⟩) (List.replicate n 255):=by
 obtain ⟨cur,hw,hs,hc⟩:=h
 intro hx
 refine ⟨_,rfl,fun i hi=>?_⟩
 rw [List.length_replicate] at hi
 rw [Addr.add_lit,Nat.zero_add,hw.cell i (hc i hi)]
 simp [hi]
set_option maxHeartbeats 2000000 in
set_option maxRecDepth 10000 in
theorem erased15_ref (z:Int) (h1:-9223372036854775808≤z) (h2:z≤20000000) (w:World) :
  Calls Tryz.prog 28 #[.int .i64 z] w fun e w'=>e=.returned (.string (strOfNums (List.replicate z.toNat 255)))∧Keeps NoBlock w w':=by
 obtain ⟨i0,hi,hz0,hz1,hz2⟩:=info_parts infoByte
 by_cases hz:z≤0
 ·rw [show z.toNat=0 by omega]
  have d1:decide (z≤0)=true:=decide_eq_true hz
  have d2:decide (0<z)=false:=decide_eq_false (by omega)
  have d3:¬ 0<z:=by omega
  have HT:=hid (fun (g:Nat) (w:World) h=>textOf (some ⟨g,0,none⟩) 0 0 [] w rfl h)
  go_enter Tryz.func28,Tryz.ntmps28
  go_wp2_with (at_make;refine wpList_make_full _ rfl _ _ 29 rfl w.heap.size 5 i0 (.int .u8 0) 1 Tryz.underlying29 hi hz0 hz1 .i64 .i64 (0:Int) (0:Int) 0 rfl rfl rfl rfl (by rw [hz2];omega) (by unfold maxLen;omega) (Nat.le_refl _) ?_)
  intro w2 hown hgrow
  have hkk:Keeps NoBlock w w2:=(Keeps.refl NoBlock w).grown hgrow (fun k hk=>by simp at hk)
  have hE:ErasedTo w2 w.heap.size 0 0:=by
   rcases hown with ⟨_,⟨h0,_⟩|⟨g',cap,cur,hv,hb,hg,h1,h2,h3,h4⟩⟩
   ·simp at h0
   ·simp only [Value.slice.injEq,Option.some.injEq,Addr.mk.injEq,and_true,true_and] at hv
    obtain ⟨rfl,rfl⟩:=hv
    exact ⟨cur,hg,by omega,fun i hi=>by omega⟩
  obtain ⟨g,hg⟩:∃ g,g=w.heap.size:=⟨_,rfl⟩
  rw [← hg] at hE ⊢
  have HG:=hid (show w.heap.size≤g by omega)
  have HE:=hid hE
  have HK:=hid hkk
  clear hown hgrow hkk hE hg
  go_wp2_with fail
  refine wp_loop_rounds 1 ?_
  rw [rounds_succ]
  have ht:=HT.out g w2 (Bytes8.nil _ _)
  go_wp2_with fail
  go_ret
  exact ⟨rfl,HK.out⟩
 ·obtain ⟨n,rfl⟩:∃ n:Nat,z=(n:Int):=⟨z.toNat,by omega⟩
  rw [Int.toNat_natCast]
  have hn9:n≤20000000:=by omega
  have d2:decide (0<(n:Int))=true:=decide_eq_true (by omega)
  have d3:(0:Int)<(n:Int):=by omega
  have d4:0<n:=by omega
  have HT:=hid (fun (g:Nat) (w:World) h=>textOf (some ⟨g,0,none⟩) n n (List.replicate n 255) w (by simp) h)
  go_enter Tryz.func28,Tryz.ntmps28
  go_wp2_with (at_make;refine wpList_make_full _ rfl _ _ 29 rfl w.heap.size 5 i0 (.int .u8 0) 1 Tryz.underlying29 hi hz0 hz1 .i64 .i64 (n:Int) (n:Int) n rfl rfl rfl rfl (by rw [hz2];omega) (by unfold maxLen;omega) (Nat.le_refl _) ?_)
  intro w2 hown hgrow
  have hkk:Keeps NoBlock w w2:=(Keeps.refl NoBlock w).grown hgrow (fun k hk=>by simp at hk)
  have hE:ErasedTo w2 w.heap.size n 0:=by
   rcases hown with ⟨_,⟨h0,_⟩|⟨g',cap,cur,hv,hb,hg,h1,h2,h3,h4⟩⟩
   ·simp at h0
   ·simp only [Value.slice.injEq,Option.some.injEq,Addr.mk.injEq,and_true,true_and] at hv
    obtain ⟨rfl,rfl⟩:=hv
    exact ⟨cur,hg,by omega,fun i hi=>by omega⟩
  obtain ⟨g,hg⟩:∃ g,g=w.heap.size:=⟨_,rfl⟩
  rw [← hg] at hE ⊢
  have HG:=hid (show w.heap.size≤g by omega)
  have HE:=hid hE
  have HK:=hid hkk
  clear hown hgrow hkk hE hg
  go_wp2_with fail
  go_loopw [10] (fun i wr=>∃ j:Nat,j≤n∧i=.int .i64 (j:Int)∧Hid (ErasedTo wr g n j)∧Hid (Keeps NoBlock w wr)) (fun i _=>n - (intOf i).toNat)
  case atStart=>exact ⟨0,Nat.zero_le _,rfl,HE,HK⟩
  case round =>
   obtain ⟨j,hj,rfl,HE2,HK2⟩:=hrel
   by_cases hlt:j<n
   ·have hdj:decide ((j:Int)<(n:Int))=true:=decide_eq_true (by omega)
    obtain ⟨v,c0⟩:=HE2.out.cell j hlt
    have f0:=HE2.out.free j
    have HEn:=hid (HE2.out.step hlt)
    have HKn:=hid (HK2.out.set (p:=⟨g,j,none⟩) (.inr HG.out) (.int .u8 255))
    go_wp2_with fail
    exact ⟨⟨j+1,by omega,by go_num,HEn,HKn⟩,by simp [intOf];omega⟩
   ·have hdj:decide ((j:Int)<(n:Int))=false:=decide_eq_false (by omega)
    obtain rfl:j=n:=by omega
    have ht:=HT.out g wr HE2.out.bytes
    go_wp2_with fail
    go_ret
    exact ⟨rfl,HK2.out⟩
end
section
open Go.RowKit
theorem textF_take {l:List Nat} {j:Nat} (hj:j<l.length):textF (l.take (j+1))=textF (l.take j) ++ digits ((l.getD j 0:Nat):Int) 8:=by
 have e:l.take (j+1)=l.take j ++ [l.getD j 0]:=by rw [List.take_succ_eq_append_getElem hj];simp [hj]
 rw [e,textF_snoc]
set_option maxHeartbeats 4000000 in
set_option maxRecDepth 10000 in
theorem text12_ref (p:Option Addr) (n c:Nat) (l:List Nat) (hn:n=l.length) (hn9:n≤1000000) (hf:∀ x ∈ l,x<18446744073709551616) (w:World) (hl:RowN w p l) :
  Calls Tryz.prog 51 #[.slice p n c] w fun e w'=>e=.returned (.string (strOfNums (textF l)))∧Keeps NoBlock w w':=by
 have HL:=hid hl
 have HN:=hid hn
 have HFi:=hid hf
 clear hl hn hf
 go_enter Tryz.func51,Tryz.ntmps51
 go_wp2_with fail
 go_loopw [3,8] (fun x i wr=>∃ j:Nat,j≤n∧i=.int .i64 (j:Int)∧x=.string (strOfNums (textF (l.take j)))∧Keeps NoBlock w wr) (fun _ i _=>n - (intOf i).toNat)
 case atStart=>exact ⟨0,Nat.zero_le _,rfl,rfl,Keeps.refl _ _⟩
 case round =>
  obtain ⟨j,hj,rfl,rfl,hk⟩:=hrel
  have HK:=hid hk
  clear hk
  by_cases hlt:j<n
  ·have hdj:decide ((j:Int)<(n:Int))=true:=decide_eq_true (by omega)
   have hjl:j<l.length:=by rw [← HN.out];exact hlt
   obtain ⟨a,rfl,c0⟩:=RowN.keep HL.out HK.out (fun _ _ h=>h) j hjl
   have HT:=hid (textF_take hjl)
   have hfine:=HFi.out (l.getD j 0) (by simp [hjl])
   have hlen:(textF (l.take j)).length≤12000000:=by rw [textF_length,List.length_take];omega
   obtain ⟨r,hr⟩:∃ r,r=l.getD j 0:=⟨_,rfl⟩
   rw [← hr] at c0 HT hfine
   obtain ⟨A,hA⟩:∃ A,A=textF (l.take j):=⟨_,rfl⟩
   rw [← hA] at HT hlen ⊢
   have HN8:=hid (fun w=>num_any (r:Int) 8 8 rfl (by decide) (by omega) (by omega) w)
   have z8:=str_size (digits (r:Int) 8)
   have zA:=str_size A
   rw [digits_length] at z8
   have a1:=str_append A (digits (r:Int) 8)
   rw [← HT.out] at a1
   obtain ⟨D8,hD8⟩:∃ D8,D8=digits (r:Int) 8:=⟨_,rfl⟩
   rw [← hD8] at HN8 z8 a1
   obtain ⟨M,hM⟩:∃ M,M=A.length:=⟨_,rfl⟩
   rw [← hM] at zA hlen
   have r1:¬ 9223372036854775807<M+8:=by omega
   obtain ⟨B,hB⟩:∃ B,B=textF (l.take (j+1)):=⟨_,rfl⟩
   rw [← hB] at a1
   have HB:=hid hB
   clear hr hjl hfine hA HT hD8 hM hB
   go_wp2_with fail
   refine (HN8.out _).mono ?_
   rintro e w5 ⟨rfl,hk⟩
   have HK:=hid (HK.out.trans hk)
   clear hk
   go_wp2_with fail
   exact ⟨⟨j+1,by omega,by go_num,by rw [HB.out],HK.out⟩,by simp [intOf];omega⟩
  ·have hdj:decide ((j:Int)<(n:Int))=false:=decide_eq_false (by omega)
   have hT:l.take j=l:=List.take_of_length_le (by have:=HN.out;omega)
   rw [hT]
   clear hT
   go_wp2_with fail
   go_ret
   exact ⟨rfl,HK.out⟩
end
end Go.Proofs.YtehkjkcnigknkaaGreat

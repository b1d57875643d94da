/-
  SgRep; SgRow; ConfAll; SgWhole; TabHash; TabMeOk.
-/
import Derived.Lib.MakeNoZero
import Derived.Lib.SlBuf
import Derived.Lib.Hide
import Derived.Test.YtehkjkcnigknkaaGreatV04
import Derived.Test.YtehkjkcnigknkaaGreatV05
import Derived.Test.YtehkjkcnigknkaaGreatV18
import Derived.Test.YtehkjkcnigknkaaGreatV24
import Derived.Test.YtehkjkcnigknkaaGreatV29
import Derived.Test.YtehkjkcnigknkaaGreatV30
import Derived.Test.YtehkjkcnigknkaaGreatV34
namespace Go.Proofs.YtehkjkcnigknkaaGreat
open Lib (hid)
section
open Go.RowKit
set_option maxHeartbeats 1600000 in
set_option maxRecDepth 10000 in
theorem mul64_one (y:Nat) (hy:y<4294967296) (w:World):Calls Tryz.prog 152 #[.int .u64 1,.int .u64 (y:Int)] w fun e w'=>e=.returned (.tuple #[.int .u64 0,.int .u64 (y:Int)])∧w'=w:=by
 have hl:bits BinOp.and IntKind.u64 (y:Int) 4294967295=(y:Int):=by
  have h:=u64_and_nat y 4294967295 (by omega) (by decide)
  rw [show (4294967295:Nat)=2 ^ 32 - 1 by decide,Nat.and_two_pow_sub_one_eq_mod] at h
  rw [show ((4294967295:Int))=((2 ^ 32 - 1:Nat):Int) by decide,h]
  have:y % 2 ^ 32=y:=Nat.mod_eq_of_lt (by omega)
  rw [this]
 have hh:(y:Int) / 4294967296=0:=by omega
 have w0:IntKind.u64.wrap (y:Int)=(y:Int):=by rw [IntKind.wrap_u64];omega
 have a1:bits BinOp.and IntKind.u64 1 4294967295=1:=u64_and_nat 1 4294967295 (by decide) (by decide)
 have a0:bits BinOp.and IntKind.u64 0 4294967295=0:=u64_and_nat 0 4294967295 (by decide) (by decide)
 go_enter Tryz.func152,Tryz.ntmps152
 go_wp2_with fail
 refine bodyPost_ret (results_tmp2 rfl _ _ _) rfl ?_
 exact ⟨rfl,rfl⟩
set_option maxHeartbeats 1600000 in
set_option maxRecDepth 10000 in
theorem mul_one (y:Nat) (hy:y<4294967296) (w:World):Calls Tryz.prog 118 #[.int .u64 1,.int .u64 (y:Int)] w fun e w'=>e=.returned (.tuple #[.int .u64 0,.int .u64 (y:Int)])∧w'=w:=by
 have HM:=hid (mul64_one y hy w)
 go_enter Tryz.func118,Tryz.ntmps118
 go_wp2_with fail
 refine HM.out.mono ?_
 rintro e w2 ⟨rfl,rfl⟩
 go_wp2_with fail
 refine bodyPost_ret (results_tmp2 rfl _ _ _) rfl ?_
 exact ⟨rfl,rfl⟩
def FilledTo (wr:World) (g n j:Nat) (x:Int):Prop:=∃ cur,Whole wr g 5 cur∧n≤cur.size∧∀ i,i<j→cur[i]?=some (.int .u8 x)
theorem FilledTo.keep {wr w':World} {g n j:Nat} {x:Int} (h:FilledTo wr g n j x) (hk:Keeps NoBlock wr w'):FilledTo w' g n j x:=by
 obtain ⟨cur,hw,hs,hc⟩:=h
 exact ⟨cur,hw.keep hk (fun h=>h),hs,hc⟩
theorem FilledTo.put {wr:World} {g n j m:Nat} {x:Int} (h:FilledTo wr g n j x) (o dLen dCap sLen sCap:Nat) (a:Addr) (hm:m=Nat.min sLen dLen) (hj:j+m≤n) (ho:o=j) (hs:∀ i,i<m→wr.cell? (a.add i)=some (.int .u8 x)) :
  ∃ w',(Builtin.copy_ #[29,29] 3 #[.slice (some ⟨g,o,none⟩) dLen dCap,.slice (some a) sLen sCap]).run Tryz.prog wr=.ok (.int .i64 (m:Int)) w'∧FilledTo w' g n (j+m) x∧Keeps (Just g) wr w':=by
 subst ho
 obtain ⟨i0,hi,hz0,hz1,hz2⟩:=info_parts infoByte
 obtain ⟨cur,hw,hsz,hc⟩:=h
 have e:=run_copy_row Tryz.prog wr 29 29 3 5 g o dLen dCap a sLen sCap cur 5 (List.replicate m (.int .u8 x)) Tryz.underlying29 (by rw [hi];simpa using hz1) hw (by rw [List.length_replicate];exact hm)
  (fun i v hv=>by
   rw [List.getElem?_replicate] at hv
   split at hv
   ·obtain rfl:=Option.some.inj hv
    exact hs i (by omega)
   ·simp at hv)
  (by rw [List.length_replicate];omega) (fun v hv=>by rw [(List.mem_replicate.1 hv).2];rfl)
 rw [List.length_replicate] at e
 refine ⟨_,e,⟨_,hw.setRow _,?_,?_⟩,(Keeps.refl (Just g) wr).setRow (Just.self g) _⟩
 ·simp
  omega
 ·intro i hi9
  rw [List.getElem?_toArray,List.append_assoc]
  by_cases h1:i<o
  ·rw [List.getElem?_append_left (by simp;omega),List.getElem?_take,if_pos h1,Array.getElem?_toList]
   exact hc i h1
  ·rw [List.getElem?_append_right (by simp;omega),List.getElem?_append_left (by simp;omega),List.getElem?_replicate,if_pos (by simp;omega)]
theorem FilledTo.cells {wr:World} {g n j:Nat} {x:Int} (h:FilledTo wr g n j x) (k:Nat) (hk:k≤j):∀ i,i<k→wr.cell? (Addr.add ⟨g,0,none⟩ i)=some (.int .u8 x):=fun i hi=>by
 obtain ⟨cur,hw,_,hc⟩:=h
 rw [addZero]
 exact hw.cell i (hc i (by omega))
theorem step_copy_run {ops:Array Oper} {o:Oper} {a:Act} {w:World} {K:Act→World→Prop} {Q:Exit→Act→World→Prop} {E:Prop}
  (hg:o.guard=none) (d x:Operand) (dT sT:TypeId) (hop:o.op=Op.call { callee:=Callee.builtin Builtin.copy,args:=#[d,x],argTypes:=#[dT,sT] })
  (v u:Value) (hd:a.eval d=v) (hx:a.eval x=u) {v':Value} {w':World} (hr:(Builtin.copy_ #[dT,sT] o.type #[v,u]).run Tryz.prog w=.ok v' w') (hK:K (a.put o.dst v') w') :
  if Region.wanted o (yielded ops a.tmps)=true then Oper.wp Tryz.prog o a w K Q else E:=by
 have hw:Region.wanted o (yielded ops a.tmps)=true:=by simp [Region.wanted,hg]
 rw [if_pos hw]
 exact Lib.wp_copy_run w d x dT sT hop v u hd hx hr hK
set_option maxHeartbeats 4000000 in
set_option maxRecDepth 10000 in
theorem repeat_bytes (g n:Nat) (x:Int) (w:World) (hn:0<n) (hn9:n≤100000000) (hg:w.cell? ⟨g,0,none⟩=some (.int .u8 x)) :
  Calls Tryz.prog 93 #[.slice (some ⟨g,0,none⟩) 1 1,.int .i64 (n:Int)] w fun e w'=>∃ g',e=.returned (.slice (some ⟨g',0,none⟩) n n)∧w.heap.size≤g'∧FilledTo w' g' n n x∧Keeps NoBlock w w':=by
 obtain ⟨i0,hi,hz0,hz1,hz2⟩:=info_parts infoByte
 have HM:=hid (fun w=>mul_one n (by omega) w)
 have wn:IntKind.u64.wrap (n:Int)=(n:Int):=by rw [IntKind.wrap_u64];omega
 have wi:IntKind.i64.wrap (n:Int)=(n:Int):=by rw [IntKind.wrap_i64];omega
 have n0:¬ (n:Int)=0:=by omega
 have n1:¬ (n:Int)<0:=by omega
 have n2:¬ (9223372036854775807:Int)<(n:Int):=by omega
 have hgl:=ltOfCell hg
 obtain ⟨cs,hrunM,hle,_⟩:=Lib.run_makeNoZero (P:=Tryz.prog) w #[3] 29 5 Tryz.underlying29 n (by omega)
 have hcall:(callFunc 119 #[.int .i64 (n:Int)]).run Tryz.prog w=.ok (.value (.slice (some ⟨w.heap.size,0,none⟩) n cs.size)) ((w.alloc (.cells cs 5)).drewN 2):=by
  rw [run_callFunc_extern Tryz.func119 (by kernel_rfl) (by kernel_rfl) (by kernel_rfl) (e:=Extern.BytealgMakeNoZero.makeNoZero #[3] #[29]) (by kernel_rfl),hrunM]
  rfl
 clear hrunM
 have HW:=hid (show Whole ((w.alloc (.cells cs 5)).drewN 2) w.heap.size 5 cs from Whole.new w _ _)
 have HK:=hid (show Keeps NoBlock w ((w.alloc (.cells cs 5)).drewN 2) from ((Keeps.refl NoBlock w).alloc _).drewN 2)
 have hgc:=HK.out.cell hg (fun h=>h)
 have i0:(0:Int)≤(n:Int):=by omega
 have i1:(n:Int)≤(cs.size:Int):=by omega
 have i2:(n:Int)≤(n:Int):=Int.le_refl _
 clear hg
 have HS0:=hid (FilledTo.put (wr:=(w.alloc (.cells cs 5)).drewN 2) (g:=w.heap.size) (n:=n) (j:=0) (m:=1) (x:=x) ⟨cs,HW.out,hle,fun i hi=>by omega⟩ 0 n n 1 1 ⟨g,0,none⟩ (by show 1=min 1 n;omega) (by omega) rfl (fun i hi=>by rw [addZero,show i=0 by omega];exact hgc))
 obtain ⟨w3,hr3,hf3,hk3⟩:=HS0.out
 have HF3:=hid hf3
 have HK3:=hid (HK.out.then hk3 (fun k hk hj=>by unfold Just at hj;omega))
 clear hf3 hk3 HS0 hgc HW
 obtain ⟨G,hG⟩:∃ G,G=w.heap.size:=⟨_,rfl⟩
 rw [← hG] at hr3 HF3 hcall
 have HG:=hid (show w.heap.size≤G by omega)
 clear hG
 have hsl:∀ (j:Nat),j<n→∀ W,(Instr.slice 29 (.slice (some ⟨G,0,none⟩) n n) (some (.int .i64 (j:Int))) none none).run Tryz.prog W=.ok (.slice (some ⟨G,j,none⟩) (n - j) (n - j)) W:=fun j hj W=>by
  have h:=Lib.run_slice_tailV (P:=Tryz.prog) W 29 5 Tryz.underlying29 (fun w=>by simp [Go.sizeOf,typeInfo,hi,hz1]) G n j (by omega)
  unfold Lib.tailV at h
  rw [if_neg (by omega)] at h
  exact h
 have HSl:=hid hsl
 clear hsl
 by_cases hbig:8192<n
 ·have hbi:(8192:Int)<(n:Int):=by omega
  clear hbig
  go_enter Tryz.func93,Tryz.ntmps93
  go_wp2_with fail
  refine (HM.out _).mono ?_
  rintro e w2 ⟨rfl,rfl⟩
  go_wp2_with (at_builtin;refine Lib.wpList_copy_run _ rfl _ _ 29 29 rfl _ _ rfl rfl hr3 ?_)
  clear hr3 hcall
  go_loopw [10,11] (fun bp ch wr=>∃ j:Nat,1≤j∧j≤n∧bp=.int .i64 (j:Int)∧Hid (FilledTo wr G n j x)∧Hid (Keeps NoBlock w2 wr)) (fun bp _ _=>n - (intOf bp).toNat)
  case atStart=>exact ⟨1,Nat.le_refl _,by omega,rfl,HF3,HK3⟩
  case round =>
   obtain ⟨j,hj1,hj,rfl,HF,HK4⟩:=hrel
   by_cases hlt:j<n
   ·have hd:decide ((j:Int)<(n:Int))=true:=decide_eq_true (by omega)
    have hjn:(j:Int)<(n:Int):=by omega
    have hs:=HSl.out j hlt
    obtain ⟨k,hk⟩:∃ k,k=min j 8192:=⟨_,rfl⟩
    have hmin:min (j:Int) (8192:Int)=(k:Int):=by omega
    have hk0:(0:Int)≤(k:Int):=by omega
    have hkn:(k:Int)≤(n:Int):=by omega
    obtain ⟨m,hm⟩:∃ m,m=min k (n - j):=⟨_,rfl⟩
    obtain ⟨w5,hr5,hf5,hk5⟩:=FilledTo.put (wr:=wr.drew) (m:=m) HF.out j (n - j) (n - j) k n ⟨G,0,none⟩ hm (by omega) rfl (HF.out.cells m (by omega))
    have HF5:=hid hf5
    have HK5:=hid (HK4.out.drew.then hk5 (fun i hi hj=>by have:=HG.out;unfold Just at hj;omega))
    have hwj:IntKind.i64.wrap ((j:Int)+(m:Int))=((j+m:Nat):Int):=by rw [IntKind.wrap_i64];omega
    have HM2:=hid (show 1≤m∧j+m≤n by omega)
    clear hf5 hk5 hm hk
    go_wp2_with fail
    refine wp_region_held_drew (S:=fun _=>True) (by kernel_rfl) trivial (fun hHeld=>?_)
    refine wpAnyH_take (i:=0) (v:=?vT1) rfl ?aT1 ?bT1 ?cT1 ?dT1 (Or.inl ⟨?eT1,?fT1⟩) hHeld ?gT1
    case fT1=>intro w hSw;(try dsimp only at hSw);go_simp;(try with_reducible rfl)
    case aT1=>kernel_rfl
    case bT1=>kernel_rfl
    case cT1=>kernel_rfl
    case dT1=>exact fun _ _ _ h=>h
    case eT1=>rfl
    simp only [Act.put,List.getElem_toArray,List.getElem_cons_zero,List.setIfInBounds_toArray,List.set_cons_zero,List.set_cons_succ]
    refine wpAnyH_take (i:=1) (v:=?vT2) rfl ?aT2 ?bT2 ?cT2 ?dT2 (Or.inl ⟨?eT2,?fT2⟩) hHeld ?gT2
    case fT2=>intro w hSw;(try dsimp only at hSw);go_simp;(try with_reducible rfl)
    case aT2=>kernel_rfl
    case bT2=>kernel_rfl
    case cT2=>kernel_rfl
    case dT2=>exact fun _ _ _ h=>h
    case eT2=>rfl
    simp only [Act.put,List.getElem_toArray,List.getElem_cons_zero,List.getElem_cons_succ,List.setIfInBounds_toArray,List.set_cons_zero,List.set_cons_succ]
    refine wpAnyH_take (i:=2) (v:=?vT3) rfl ?aT3 ?bT3 ?cT3 ?dT3 (Or.inl ⟨?eT3,?fT3⟩) hHeld ?gT3
    case fT3=>intro w hSw;(try dsimp only at hSw);go_simp;(try with_reducible rfl)
    case aT3=>kernel_rfl
    case bT3=>kernel_rfl
    case cT3=>kernel_rfl
    case dT3=>exact fun _ _ _ h=>h
    case eT3=>rfl
    simp only [Act.put,List.getElem_toArray,List.getElem_cons_zero,List.getElem_cons_succ,List.setIfInBounds_toArray,List.set_cons_zero,List.set_cons_succ]
    refine wpAnyH_take (i:=3) (v:=?vT4) rfl ?aT4 ?bT4 ?cT4 ?dT4 (Or.inl ⟨?eT4,?fT4⟩) hHeld ?gT4
    case fT4=>intro w hSw;(try dsimp only at hSw);go_simp;(try with_reducible rfl)
    case aT4=>kernel_rfl
    case bT4=>kernel_rfl
    case cT4=>kernel_rfl
    case dT4=>exact fun _ _ _ h=>h
    case eT4=>rfl
    simp only [Act.put,List.getElem_toArray,List.getElem_cons_zero,List.getElem_cons_succ,List.setIfInBounds_toArray,List.set_cons_zero,List.set_cons_succ]
    refine wpAnyH_take (i:=4) (v:=?vT5) rfl ?aT5 ?bT5 ?cT5 ?dT5 (Or.inl ⟨?eT5,?fT5⟩) hHeld ?gT5
    case fT5=>intro w hSw;(try dsimp only at hSw);go_simp;(try with_reducible rfl)
    case aT5=>kernel_rfl
    case bT5=>kernel_rfl
    case cT5=>kernel_rfl
    case dT5=>exact fun _ _ _ h=>h
    case eT5=>rfl
    simp only [Act.put,List.getElem_toArray,List.getElem_cons_zero,List.getElem_cons_succ,List.setIfInBounds_toArray,List.set_cons_zero,List.set_cons_succ]
    refine wpAnyH_take (i:=5) (v:=?vT6) rfl ?aT6 ?bT6 ?cT6 ?dT6 (Or.inl ⟨?eT6,?fT6⟩) hHeld ?gT6
    case fT6=>intro w hSw;(try dsimp only at hSw);go_simp;(try with_reducible rfl)
    case aT6=>kernel_rfl
    case bT6=>kernel_rfl
    case cT6=>kernel_rfl
    case dT6=>exact fun _ _ _ h=>h
    case eT6=>rfl
    simp only [Act.put,List.getElem_toArray,List.getElem_cons_zero,List.getElem_cons_succ,List.setIfInBounds_toArray,List.set_cons_zero,List.set_cons_succ]
    refine wpAnyH_take (i:=6) (v:=?vT7) rfl ?aT7 ?bT7 ?cT7 ?dT7 (Or.inl ⟨?eT7,?fT7⟩) hHeld ?gT7
    case fT7=>intro w hSw;(try dsimp only at hSw);go_simp;(try with_reducible rfl)
    case aT7=>kernel_rfl
    case bT7=>kernel_rfl
    case cT7=>kernel_rfl
    case dT7=>exact fun _ _ _ h=>h
    case eT7=>rfl
    simp only [Act.put,List.getElem_toArray,List.getElem_cons_zero,List.getElem_cons_succ,List.setIfInBounds_toArray,List.set_cons_zero,List.set_cons_succ]
    refine wpAnyH_ready (rs:=[7]) (by kernel_rfl) (by simp) ?_
    refine (AllReadyH.cons (o:=_) rfl (fun K hK=>?_) AllReadyH.nil)
    refine step_copy_run rfl _ _ 29 29 rfl _ _ rfl rfl hr5 ?_
    refine hK.out _ _ trivial (fun _=>?_)
    clear hK K
    refine wpAnyH_ready (rs:=[8]) (by kernel_rfl) (by simp) ?_
    refine (AllReadyH.cons (o:=_) rfl (fun K hK=>?_) AllReadyH.nil)
    go_simp
    refine hK.out _ _ trivial (fun _=>?_)
    clear hK K
    refine wpAnyH_ready (rs:=[9]) (by kernel_rfl) (by simp) ?_
    refine (AllReadyH.cons (o:=_) rfl (fun K hK=>?_) AllReadyH.nil)
    go_simp
    refine hK.out _ _ trivial (fun _=>?_)
    clear hK K
    refine wpAnyH_done (by kernel_rfl) ?_ _
    clear hr5
    go_wp2_with fail
    go_roundw
    case rel=>exact ⟨j+m,by omega,HM2.out.2,by push_cast;rfl,HF5,HK5⟩
    case measure=>have:=HM2.out;simp only [intOf];omega
   ·have hjn:¬ (j:Int)<(n:Int):=by omega
    obtain rfl:j=n:=by omega
    have hd:decide ((j:Int)<(j:Int))=false:=decide_eq_false (by omega)
    go_wp2_with fail
    go_ret
    exact ⟨G,rfl,HG.out,HF.out,HK4.out⟩
 ·have hbi:¬ (8192:Int)<(n:Int):=by omega
  clear hbig
  go_enter Tryz.func93,Tryz.ntmps93
  go_wp2_with fail
  refine (HM.out _).mono ?_
  rintro e w2 ⟨rfl,rfl⟩
  go_wp2_with (at_builtin;refine Lib.wpList_copy_run _ rfl _ _ 29 29 rfl _ _ rfl rfl hr3 ?_)
  clear hr3 hcall
  go_loopw [10,11] (fun bp ch wr=>∃ j:Nat,1≤j∧j≤n∧bp=.int .i64 (j:Int)∧Hid (FilledTo wr G n j x)∧Hid (Keeps NoBlock w2 wr)) (fun bp _ _=>n - (intOf bp).toNat)
  case atStart=>exact ⟨1,Nat.le_refl _,by omega,rfl,HF3,HK3⟩
  case round =>
   obtain ⟨j,hj1,hj,rfl,HF,HK4⟩:=hrel
   by_cases hlt:j<n
   ·have hd:decide ((j:Int)<(n:Int))=true:=decide_eq_true (by omega)
    have hjn:(j:Int)<(n:Int):=by omega
    have hs:=HSl.out j hlt
    obtain ⟨k,hk⟩:∃ k,k=min j n:=⟨_,rfl⟩
    have hmin:min (j:Int) (n:Int)=(k:Int):=by omega
    have hk0:(0:Int)≤(k:Int):=by omega
    have hkn:(k:Int)≤(n:Int):=by omega
    obtain ⟨m,hm⟩:∃ m,m=min k (n - j):=⟨_,rfl⟩
    obtain ⟨w5,hr5,hf5,hk5⟩:=FilledTo.put (wr:=wr.drew) (m:=m) HF.out j (n - j) (n - j) k n ⟨G,0,none⟩ hm (by omega) rfl (HF.out.cells m (by omega))
    have HF5:=hid hf5
    have HK5:=hid (HK4.out.drew.then hk5 (fun i hi hj=>by have:=HG.out;unfold Just at hj;omega))
    have hwj:IntKind.i64.wrap ((j:Int)+(m:Int))=((j+m:Nat):Int):=by rw [IntKind.wrap_i64];omega
    have HM2:=hid (show 1≤m∧j+m≤n by omega)
    clear hf5 hk5 hm hk
    go_wp2_with fail
    refine wp_region_held_drew (S:=fun _=>True) (by kernel_rfl) trivial (fun hHeld=>?_)
    refine wpAnyH_take (i:=0) (v:=?vT501) rfl ?aT501 ?bT501 ?cT501 ?dT501 (Or.inl ⟨?eT501,?fT501⟩) hHeld ?gT501
    case fT501=>intro w hSw;(try dsimp only at hSw);go_simp;(try with_reducible rfl)
    case aT501=>kernel_rfl
    case bT501=>kernel_rfl
    case cT501=>kernel_rfl
    case dT501=>exact fun _ _ _ h=>h
    case eT501=>rfl
    simp only [Act.put,List.getElem_toArray,List.getElem_cons_zero,List.setIfInBounds_toArray,List.set_cons_zero,List.set_cons_succ]
    refine wpAnyH_take (i:=1) (v:=?vT502) rfl ?aT502 ?bT502 ?cT502 ?dT502 (Or.inl ⟨?eT502,?fT502⟩) hHeld ?gT502
    case fT502=>intro w hSw;(try dsimp only at hSw);go_simp;(try with_reducible rfl)
    case aT502=>kernel_rfl
    case bT502=>kernel_rfl
    case cT502=>kernel_rfl
    case dT502=>exact fun _ _ _ h=>h
    case eT502=>rfl
    simp only [Act.put,List.getElem_toArray,List.getElem_cons_zero,List.getElem_cons_succ,List.setIfInBounds_toArray,List.set_cons_zero,List.set_cons_succ]
    refine wpAnyH_take (i:=2) (v:=?vT503) rfl ?aT503 ?bT503 ?cT503 ?dT503 (Or.inl ⟨?eT503,?fT503⟩) hHeld ?gT503
    case fT503=>intro w hSw;(try dsimp only at hSw);go_simp;(try with_reducible rfl)
    case aT503=>kernel_rfl
    case bT503=>kernel_rfl
    case cT503=>kernel_rfl
    case dT503=>exact fun _ _ _ h=>h
    case eT503=>rfl
    simp only [Act.put,List.getElem_toArray,List.getElem_cons_zero,List.getElem_cons_succ,List.setIfInBounds_toArray,List.set_cons_zero,List.set_cons_succ]
    refine wpAnyH_take (i:=3) (v:=?vT504) rfl ?aT504 ?bT504 ?cT504 ?dT504 (Or.inl ⟨?eT504,?fT504⟩) hHeld ?gT504
    case fT504=>intro w hSw;(try dsimp only at hSw);go_simp;(try with_reducible rfl)
    case aT504=>kernel_rfl
    case bT504=>kernel_rfl
    case cT504=>kernel_rfl
    case dT504=>exact fun _ _ _ h=>h
    case eT504=>rfl
    simp only [Act.put,List.getElem_toArray,List.getElem_cons_zero,List.getElem_cons_succ,List.setIfInBounds_toArray,List.set_cons_zero,List.set_cons_succ]
    refine wpAnyH_take (i:=4) (v:=?vT505) rfl ?aT505 ?bT505 ?cT505 ?dT505 (Or.inl ⟨?eT505,?fT505⟩) hHeld ?gT505
    case fT505=>intro w hSw;(try dsimp only at hSw);go_simp;(try with_reducible rfl)
    case aT505=>kernel_rfl
    case bT505=>kernel_rfl
    case cT505=>kernel_rfl
    case dT505=>exact fun _ _ _ h=>h
    case eT505=>rfl
    simp only [Act.put,List.getElem_toArray,List.getElem_cons_zero,List.getElem_cons_succ,List.setIfInBounds_toArray,List.set_cons_zero,List.set_cons_succ]
    refine wpAnyH_take (i:=5) (v:=?vT506) rfl ?aT506 ?bT506 ?cT506 ?dT506 (Or.inl ⟨?eT506,?fT506⟩) hHeld ?gT506
    case fT506=>intro w hSw;(try dsimp only at hSw);go_simp;(try with_reducible rfl)
    case aT506=>kernel_rfl
    case bT506=>kernel_rfl
    case cT506=>kernel_rfl
    case dT506=>exact fun _ _ _ h=>h
    case eT506=>rfl
    simp only [Act.put,List.getElem_toArray,List.getElem_cons_zero,List.getElem_cons_succ,List.setIfInBounds_toArray,List.set_cons_zero,List.set_cons_succ]
    refine wpAnyH_take (i:=6) (v:=?vT507) rfl ?aT507 ?bT507 ?cT507 ?dT507 (Or.inl ⟨?eT507,?fT507⟩) hHeld ?gT507
    case fT507=>intro w hSw;(try dsimp only at hSw);go_simp;(try with_reducible rfl)
    case aT507=>kernel_rfl
    case bT507=>kernel_rfl
    case cT507=>kernel_rfl
    case dT507=>exact fun _ _ _ h=>h
    case eT507=>rfl
    simp only [Act.put,List.getElem_toArray,List.getElem_cons_zero,List.getElem_cons_succ,List.setIfInBounds_toArray,List.set_cons_zero,List.set_cons_succ]
    refine wpAnyH_ready (rs:=[7]) (by kernel_rfl) (by simp) ?_
    refine (AllReadyH.cons (o:=_) rfl (fun K hK=>?_) AllReadyH.nil)
    refine step_copy_run rfl _ _ 29 29 rfl _ _ rfl rfl hr5 ?_
    refine hK.out _ _ trivial (fun _=>?_)
    clear hK K
    refine wpAnyH_ready (rs:=[8]) (by kernel_rfl) (by simp) ?_
    refine (AllReadyH.cons (o:=_) rfl (fun K hK=>?_) AllReadyH.nil)
    go_simp
    refine hK.out _ _ trivial (fun _=>?_)
    clear hK K
    refine wpAnyH_ready (rs:=[9]) (by kernel_rfl) (by simp) ?_
    refine (AllReadyH.cons (o:=_) rfl (fun K hK=>?_) AllReadyH.nil)
    go_simp
    refine hK.out _ _ trivial (fun _=>?_)
    clear hK K
    refine wpAnyH_done (by kernel_rfl) ?_ _
    clear hr5
    go_wp2_with fail
    go_roundw
    case rel=>exact ⟨j+m,by omega,HM2.out.2,by push_cast;rfl,HF5,HK5⟩
    case measure=>have:=HM2.out;simp only [intOf];omega
   ·have hjn:¬ (j:Int)<(n:Int):=by omega
    obtain rfl:j=n:=by omega
    have hd:decide ((j:Int)<(j:Int))=false:=decide_eq_false (by omega)
    go_wp2_with fail
    go_ret
    exact ⟨G,rfl,HG.out,HF.out,HK4.out⟩
end
section
open Go.RowKit
def RowT (w:World) (g M:Nat) (T:List Int):Prop:=T.length=M∧∃ cur,Whole w g 5 cur∧M≤cur.size∧∀ i,i<M→cur[i]?=some (.int .u8 (T.getD i 0))
theorem FilledTo.row {w:World} {g n:Nat} {x:Int} (h:FilledTo w g n n x):RowT w g n (List.replicate n x):=by
 obtain ⟨cur,hw,hs,hc⟩:=h
 refine ⟨List.length_replicate,cur,hw,hs,fun i hi=>?_⟩
 rw [hc i hi]
 simp [hi]
theorem RowT.keep {w w':World} {g M:Nat} {T:List Int} (h:RowT w g M T) {S:Nat→Prop} (hk:Keeps S w w') (hs:¬ S g):RowT w' g M T:=by
 obtain ⟨h1,cur,hw,h2,h3⟩:=h
 exact ⟨h1,cur,hw.keep hk hs,h2,h3⟩
theorem RowT.own {w:World} {g M base:Nat} {T:List Int} (h:RowT w g M T) (hg:base≤g) (hM:M≤maxLen):OwnP w base (.slice (some ⟨g,0,none⟩) M M) T.length (T.map (Value.int .u8)):=by
 obtain ⟨h1,cur,hw,h2,h3⟩:=h
 subst h1
 refine ⟨by rw [List.length_map],.inr ⟨g,T.length,cur,rfl,hg,hw,Nat.le_refl _,hM,h2,?_⟩⟩
 refine List.ext_getElem? (fun i=>?_)
 rw [List.getElem?_take,List.getElem?_map]
 by_cases hi:i<T.length
 ·rw [if_pos hi,Array.getElem?_toList,h3 i hi]
  simp [hi]
 ·rw [if_neg hi]
  simp [Nat.le_of_not_lt hi]
theorem mid_get {α:Type} (A B:List α) (o k i:Nat) (ho:o+k≤A.length) (hk:k=B.length):(A.take o ++ (B ++ A.drop (o+k)))[i]?=if i<o then A[i]? else if i - o<k then B[i - o]? else A[i]?:=by
 by_cases h1:i<o
 ·rw [if_pos h1,List.getElem?_append_left (by rw [List.length_take];omega),List.getElem?_take,if_pos h1]
 ·rw [if_neg h1,List.getElem?_append_right (by rw [List.length_take];omega),List.length_take,show min o A.length=o by omega]
  by_cases h2:i - o<k
  ·rw [if_pos h2,List.getElem?_append_left (by omega)]
  ·rw [if_neg h2,List.getElem?_append_right (by omega),List.getElem?_drop,show o+k+(i - o - B.length)=i by omega]
theorem RowT.put {w:World} {g M:Nat} {T:List Int} (h:RowT w g M T) (o k dLen dCap:Nat) (p:Option Addr) (c:Nat) (ys:List Int) (hk:k=ys.length) (hd:k≤dLen) (ho:o+k≤M) (h8:Bytes8 w p ys) (d:Option Addr) (hdst:0<k→d=some ⟨g,o,none⟩) :
  ∃ w',(Builtin.copy_ #[29,29] 3 #[.slice d dLen dCap,.slice p k c]).run Tryz.prog w=.ok (.int .i64 (k:Int)) w'∧RowT w' g M (T.take o ++ ys ++ T.drop (o+k))∧Keeps (Just g) w w':=by
 obtain ⟨i0,hi,hz0,hz1,hz2⟩:=info_parts infoByte
 obtain ⟨hl,cur,hw,hsz,hc⟩:=h
 by_cases h0:k=0
 ·subst h0
  obtain rfl:ys=[]:=List.length_eq_zero_iff.1 hk.symm
  refine ⟨w,run_copy_none (P:=Tryz.prog) w _ _ _ 5 _ _ _ _ _ _ Tryz.underlying29 (by rw [hi];simpa using hz1) (by simp),⟨by simp;omega,cur,hw,hsz,fun i h=>?_⟩,Keeps.refl _ _⟩
  rw [List.append_nil,Nat.add_zero,List.take_append_drop]
  exact hc i h
 ·obtain rfl:=hdst (by omega)
  obtain ⟨a,rfl,h8'⟩:=h8 (by omega)
  have e:=run_copy_row Tryz.prog w 29 29 3 5 g o dLen dCap a k c cur 5 (ys.map (Value.int .u8)) Tryz.underlying29 (by rw [hi];simpa using hz1) hw (by rw [List.length_map,← hk];exact (Nat.min_eq_left hd).symm)
   (fun i v hv=>by
    have hil:i<ys.length:=by have:=(List.getElem?_eq_some_iff.1 hv).1;simpa using this
    rw [h8' i hil]
    rw [← hv]
    simp [hil])
   (by rw [List.length_map,← hk];omega) (fun v hv=>by obtain ⟨x,_,rfl⟩:=List.mem_map.1 hv;rfl)
  rw [List.length_map,← hk] at e
  refine ⟨_,e,⟨?_,_,hw.setRow _,?_,?_⟩,(Keeps.refl (Just g) w).setRow (Just.self g) _⟩
  ·simp only [List.length_append,List.length_take,List.length_drop]
   omega
  ·simp only [List.size_toArray,List.length_append,List.length_take,List.length_drop,List.length_map,Array.length_toList]
   omega
  ·intro i hi9
   rw [List.getElem?_toArray,List.append_assoc,List.append_assoc,List.getD_eq_getElem?_getD,mid_get T ys o k i (by omega) hk,show o+k=o+k from rfl,mid_get cur.toList (ys.map (Value.int .u8)) o k i (by rw [Array.length_toList];omega) (by rw [List.length_map];exact hk)]
   by_cases h1:i<o
   ·rw [if_pos h1,if_pos h1,Array.getElem?_toList,hc i hi9,List.getD_eq_getElem?_getD]
   ·rw [if_neg h1,if_neg h1]
    by_cases h2:i - o<k
    ·rw [if_pos h2,if_pos h2,List.getElem?_map]
     simp [show i - o<ys.length by omega]
    ·rw [if_neg h2,if_neg h2,Array.getElem?_toList,hc i hi9,List.getD_eq_getElem?_getD]
end
section
open Go.RowKit
theorem sizeC_may {e s:Nat} (h:mayC e s=true):sizeC e s=2 ^ e:=by unfold sizeC;rw [if_pos h]
set_option maxHeartbeats 4000000 in
set_option maxRecDepth 10000 in
theorem count_conf (e s n:Nat) (hn:n<18446744073709551616) (w:World):Calls Tryz.prog 30 #[confV e s,.int .u64 (n:Int)] w fun r w'=>r=.returned (got8 (countC e s n))∧Keeps NoBlock w w':=by
 have HR:=hid (Whole.new w 27 (confCells e s))
 have HK:=hid ((Keeps.refl NoBlock w).alloc (.cells (confCells e s) 27))
 have H1:=hid (fun w=>check_conf e s w)
 by_cases hm:mayC e s=true
 ·have he:=(mayC_true.1 hm).2.1
  have hs:=(mayC_true.1 hm).2.2.2
  have HSz:=hid (fun w=>size_conf e s w)
  obtain ⟨q1,q2⟩:=two_e he
  obtain ⟨k,m,hk,hmk,hmn,hnm,h0,hsk⟩:=whole_parts (q:=2 ^ e) (n:=n) q1
  have HC:Hid (countC e s n=if s*2 ^ e<n then (0,7) else if n % 2 ^ e=0 then (n / 2 ^ e,0) else (0,4)):=hid (by unfold countC;rw [if_pos hm])
  rw [sizeC_may hm] at HSz
  rw [checkC_may hm] at H1
  rw [hk] at HC
  obtain ⟨q,hq⟩:∃ q,q=2 ^ e:=⟨_,rfl⟩
  rw [← hq] at HSz HC hsk h0 q1 q2 hk hmk hnm
  obtain ⟨b,hb⟩:∃ b,b=s*q:=⟨_,rfl⟩
  have hb9:b≤65536*16777216:=by rw [hb];exact Nat.mul_le_mul hs q2
  have hbk:=hsk s
  rw [← hb] at HC hbk
  have e1:(q:Int)*(s:Int)=(b:Int):=by rw [hb,Int.natCast_mul,Int.mul_comm]
  have e2:(n:Int) / (q:Int)=(k:Int):=by rw [← hk];exact (Int.natCast_ediv n q).symm
  obtain ⟨r,hr⟩:∃ r,r=n % q:=⟨_,rfl⟩
  have e3:(n:Int) % (q:Int)=(r:Int):=by rw [hr];exact (Int.natCast_emod n q).symm
  have hr9:r<q:=by rw [hr];exact Nat.mod_lt _ (by omega)
  rw [← hr] at HC h0
  have wq:IntKind.u64.wrap (q:Int)=(q:Int):=by rw [IntKind.wrap_u64];omega
  have wb:IntKind.u64.wrap (b:Int)=(b:Int):=by rw [IntKind.wrap_u64];omega
  have hq0:¬ (q:Int)=0:=by omega
  clear hq hb hr hm he hsk hmk
  unfold confV at H1 HSz
  unfold confV
  by_cases hbn:b<n
  ·have d1:decide ((b:Int)<(n:Int))=true:=decide_eq_true (by omega)
   have HV:Hid (countC e s n=(0,7)):=hid (by rw [HC.out,if_pos hbn])
   clear hk h0 hbk
   go_enter Tryz.func30,Tryz.ntmps30
   go_wp2_with fail
   refine (H1.out _).mono ?_
   rintro r w1 ⟨rfl,hk⟩
   have HR:=hid (HR.out.keep hk (fun h=>h))
   have HK:=hid (HK.out.trans hk)
   clear hk
   have c0:=HR.out.cell 0 rfl
   have c1:=HR.out.cell 1 rfl
   simp only [confCells,List.getElem_toArray,List.getElem_cons_zero,List.getElem_cons_succ] at c0 c1
   go_wp2_with fail
   refine (HSz.out _).mono ?_
   rintro r w2 ⟨rfl,hk⟩
   have HR:=hid (HR.out.keep hk (fun h=>h))
   have HK:=hid (HK.out.trans hk)
   clear hk c0 c1
   have c0:=HR.out.cell 0 rfl
   have c1:=HR.out.cell 1 rfl
   simp only [confCells,List.getElem_toArray,List.getElem_cons_zero,List.getElem_cons_succ] at c0 c1
   go_wp2_with fail
   refine bodyPost_ret (results_tmp2 rfl _ _ _) rfl ?_
   rw [HV.out]
   exact ⟨rfl,HK.out⟩
  ·have d1:decide ((b:Int)<(n:Int))=false:=decide_eq_false (by omega)
   have hks:k≤s:=by
    by_cases h:s<k
    ·have:=hbk.2 (.inl h);omega
    ·omega
   have wk:IntKind.u32.wrap (k:Int)=(k:Int):=by rw [IntKind.wrap_u32];omega
   have wk6:IntKind.u64.wrap (k:Int)=(k:Int):=by rw [IntKind.wrap_u64];omega
   have HV0:Hid (countC e s n=if r=0 then (k,0) else (0,4)):=hid (by rw [HC.out,if_neg hbn])
   by_cases hr0:r=0
   ·have d2:((r:Int) != 0)=false:=by simp;omega
    have d3:decide ((r:Int)=0)=true:=decide_eq_true (by omega)
    have HV:Hid (countC e s n=(k,0)):=hid (by rw [HV0.out,if_pos hr0])
    clear hk h0 hbk HV0 HC
    subst hr0
    go_enter Tryz.func30,Tryz.ntmps30
    go_wp2_with fail
    refine (H1.out _).mono ?_
    rintro r w1 ⟨rfl,hk⟩
    have HR:=hid (HR.out.keep hk (fun h=>h))
    have HK:=hid (HK.out.trans hk)
    clear hk
    have c0:=HR.out.cell 0 rfl
    have c1:=HR.out.cell 1 rfl
    simp only [confCells,List.getElem_toArray,List.getElem_cons_zero,List.getElem_cons_succ] at c0 c1
    go_wp2_with fail
    refine (HSz.out _).mono ?_
    rintro r w2 ⟨rfl,hk⟩
    have HR:=hid (HR.out.keep hk (fun h=>h))
    have HK:=hid (HK.out.trans hk)
    clear hk c0 c1
    have c0:=HR.out.cell 0 rfl
    have c1:=HR.out.cell 1 rfl
    simp only [confCells,List.getElem_toArray,List.getElem_cons_zero,List.getElem_cons_succ] at c0 c1
    go_wp2_with fail
    refine bodyPost_ret (results_tmp2 rfl _ _ _) rfl ?_
    rw [HV.out]
    exact ⟨rfl,HK.out⟩
   ·have d2:((r:Int) != 0)=true:=by simp;omega
    have d3:decide ((r:Int)=0)=false:=decide_eq_false (by omega)
    have HV:Hid (countC e s n=(0,4)):=hid (by rw [HV0.out,if_neg hr0])
    clear hk h0 hbk HV0 HC
    go_enter Tryz.func30,Tryz.ntmps30
    go_wp2_with fail
    refine (H1.out _).mono ?_
    rintro r' w1 ⟨rfl,hk⟩
    have HR:=hid (HR.out.keep hk (fun h=>h))
    have HK:=hid (HK.out.trans hk)
    clear hk
    have c0:=HR.out.cell 0 rfl
    have c1:=HR.out.cell 1 rfl
    simp only [confCells,List.getElem_toArray,List.getElem_cons_zero,List.getElem_cons_succ] at c0 c1
    go_wp2_with fail
    refine (HSz.out _).mono ?_
    rintro r' w2 ⟨rfl,hk⟩
    have HR:=hid (HR.out.keep hk (fun h=>h))
    have HK:=hid (HK.out.trans hk)
    clear hk c0 c1
    have c0:=HR.out.cell 0 rfl
    have c1:=HR.out.cell 1 rfl
    simp only [confCells,List.getElem_toArray,List.getElem_cons_zero,List.getElem_cons_succ] at c0 c1
    go_wp2_with fail
    refine bodyPost_ret (results_tmp2 rfl _ _ _) rfl ?_
    rw [HV.out]
    exact ⟨rfl,HK.out⟩
 ·have hmf:mayC e s=false:=by simpa using hm
  have HV:Hid (countC e s n=(0,1)):=hid (by unfold countC;rw [if_neg hm])
  rw [checkC_not hmf] at H1
  clear hm hmf
  unfold confV at H1
  unfold confV
  go_enter Tryz.func30,Tryz.ntmps30
  go_wp2_with fail
  refine (H1.out _).mono ?_
  rintro r w1 ⟨rfl,hk⟩
  have HK:=hid (HK.out.trans hk)
  clear hk
  go_wp2_with fail
  refine bodyPost_ret (results_tmp2 rfl _ _ _) rfl ?_
  rw [HV.out]
  exact ⟨rfl,HK.out⟩
end
section
open Go.RowKit
def bCells (e s n u k:Nat) (f p:Value):Array Value:=#[.int .u8 (e:Int),.int .u32 (s:Int),.int .u32 (n:Int),.int .i64 (u:Int),.int .i64 (k:Int),f,p]
theorem bcells_at {w:World} {g e s n u k:Nat} {f p:Value} (h:Whole w g 126 (bCells e s n u k f p)) :
  w.cell? ⟨g,0,none⟩=some (.int .u8 (e:Int))∧w.cell? ⟨g,1,none⟩=some (.int .u32 (s:Int))∧w.cell? ⟨g,2,none⟩=some (.int .u32 (n:Int))∧w.cell? ⟨g,3,none⟩=some (.int .i64 (u:Int))∧w.cell? ⟨g,4,none⟩=some (.int .i64 (k:Int))∧w.cell? ⟨g,5,none⟩=some f∧w.cell? ⟨g,6,none⟩=some p :=
 ⟨h.cell 0 rfl,h.cell 1 rfl,h.cell 2 rfl,h.cell 3 rfl,h.cell 4 rfl,h.cell 5 rfl,h.cell 6 rfl⟩
set_option maxHeartbeats 4000000 in
set_option maxRecDepth 10000 in
theorem whole_own (g e s n u k:Nat) (q:Option Addr) (m d:Nat) (pv:Value) (xs:List Int) (p:Option Addr) (N c:Nat) (ys:List Int) (w:World)
  (hw:Whole w g 126 (bCells e s n u k (.slice q m d) pv)) (hm:mayC e s=true) (hx:m=xs.length) (h8:Bytes8 w q xs) (hN:N=ys.length) (hy:Bytes8 w p ys) (hl:m+N≤2 ^ e) :
  Calls Tryz.prog 63 #[.pointer (some ⟨g,0,none⟩),.slice p N c] w fun r w'=>∃ v,r=.returned v∧OwnB w (xs ++ ys ++ List.replicate (2 ^ e - (xs ++ ys).length) 255) v w'∧Keeps NoBlock w w':=by
 obtain ⟨i0,hi,hz0,hz1,hz2⟩:=info_parts infoByte
 obtain ⟨me,me2,_,_⟩:=mayC_true.1 hm
 obtain ⟨M,hM⟩:∃ M,M=2 ^ e:=⟨_,rfl⟩
 have hMb:0<M∧M≤16777216:=by rw [hM];exact ⟨Nat.pow_pos (by decide),(two_e me2).2⟩
 have HS:=hid (fun w=>size_conf e s w)
 rw [sizeC_may hm,← hM] at HS
 rw [← hM] at hl ⊢
 obtain ⟨c0,c1,c2,c3,c4,c5,c6⟩:=bcells_at (hw.alloc (.cells #[.int .u8 255] 5))
 have HK0:=hid ((Keeps.refl NoBlock w).alloc (.cells #[.int .u8 255] 5))
 have HB:=hid (Whole.new w 5 #[.int .u8 255])
 have hlt:=hw.lt
 have HW:=hid hw
 have HX:=hid h8
 have HY:=hid hy
 have HXl:=hid hx
 have HYl:=hid hN
 have HSl:Hid (∀ G,∀ (j:Nat),j≤M→∀ W,∃ d',(0<M - j→d'=some ⟨G,j,none⟩)∧(Instr.slice 29 (.slice (some ⟨G,0,none⟩) M M) (some (.int .i64 (j:Int))) none none).run Tryz.prog W=.ok (.slice d' (M - j) (M - j)) W):=hid (fun G j hj W=>by
  have h:=Lib.run_slice_tailV (P:=Tryz.prog) W 29 5 Tryz.underlying29 (fun w=>by simp [Go.sizeOf,typeInfo,hi,hz1]) G M j hj
  unfold Lib.tailV at h
  exact ⟨_,fun h0=>by rw [if_neg (by omega)],h⟩)
 have HR:=hid (fun G w h=>repeat_bytes G M 255 w hMb.1 (by omega) h)
 clear hw hm hx h8 hN hy me me2 hM
 unfold confV at HS
 unfold bCells at HW
 go_enter Tryz.func63,Tryz.ntmps63
 go_wp2_with fail
 refine (HS.out _).mono ?_
 rintro r w1 ⟨rfl,hk⟩
 have HK1:=hid (HK0.out.trans hk)
 have HC1:=hid ((HB.out.keep hk (fun h=>h)).cell 0 rfl)
 clear hk c0 c1 c2 c3 c4 c5 c6 HK0 HB HS
 go_wp2_with fail
 refine (HR.out _ _ (by exact HC1.out)).mono ?_
 rintro r w2 ⟨G,rfl,hG,hf,hk⟩
 obtain ⟨c0,c1,c2,c3,c4,c5,c6⟩:=bcells_at (HW.out.keep (HK1.out.trans hk) (fun h=>h))
 obtain ⟨w3,hr3,hf3,hk3⟩:=hf.row.put 0 m M M q d xs HXl.out (by omega) (by omega) (HX.out.keep (HK1.out.trans hk) (fun _ _ h=>h)) (some ⟨G,0,none⟩) (fun _=>rfl)
 have HG:=hid (show w.heap.size≤G by have:=HK1.out.size;omega)
 have HK3:=hid ((HK1.out.trans hk).then hk3 (fun i hi hj=>by have:=HG.out;unfold Just at hj;omega))
 obtain ⟨dd,hdd,hs⟩:=HSl.out G m (by omega) w3
 obtain ⟨w4,hr4,hf4,hk4⟩:=hf3.put m N (M - m) (M - m) p c ys HYl.out (by omega) (by omega) (HY.out.keep HK3.out (fun _ _ h=>h)) dd (fun h0=>hdd (by omega))
 have HK4:=hid (HK3.out.then hk4 (fun i hi hj=>by have:=HG.out;unfold Just at hj;omega))
 have HF4:=hid hf4
 clear hk hf hf3 hk3 hf4 hk4 hG hdd
 go_wp2_with (at_builtin;first|refine Lib.wpList_copy_run _ rfl _ _ 29 29 rfl _ _ rfl rfl hr3 ?_|refine Lib.wpList_copy_run _ rfl _ _ 29 29 rfl _ _ rfl rfl hr4 ?_)
 go_ret
 refine ⟨_,rfl,?_,HK4.out⟩
 have h:=HF4.out
 have hx:=HXl.out
 have hy:=HYl.out
 have hT:((List.replicate M (255:Int)).take 0 ++ xs ++ (List.replicate M (255:Int)).drop (0+m)).take m ++ ys ++ ((List.replicate M (255:Int)).take 0 ++ xs ++ (List.replicate M (255:Int)).drop (0+m)).drop (m+N)=xs ++ ys ++ List.replicate (M - (xs ++ ys).length) 255:=by
  rw [List.take_zero,List.nil_append,Nat.zero_add,List.drop_replicate,hx,List.take_left' rfl,List.drop_append,List.drop_eq_nil_of_le (by omega),List.nil_append,List.drop_replicate,List.length_append]
  congr 2
  omega
 rw [hT] at h
 exact h.own HG.out (by unfold maxLen;omega)
end
section
open Go.RowKit
set_option maxHeartbeats 800000 in
theorem hash_own (xs:List Int) (w:World) (ho:Octets xs) (hl:xs.length≤1000000) :
  Calls Tryz.prog 92 #[.string (strOfNums xs)] w fun e w'=>e=.returned (.int .u64 (wxxh 0 xs))∧Keeps NoBlock w w':=by
 have hz:=str_size xs
 have hc:=run_str_bytes xs w
 obtain ⟨C,hC⟩:∃ C,C=grownCap w xs.length 0 5:=⟨_,rfl⟩
 have hC1:xs.length≤C:=by rw [hC];exact grownCap_ge _ _ _ _
 have hC2:C≤9223372036854775807:=by rw [hC];exact grownCap_le_maxLen _ _ _ _ (by unfold maxLen;omega)
 rw [← hC] at hc
 clear hC
 obtain ⟨W,hW⟩:∃ W,W=Lib.bytesWorld w 5 (strOfNums xs):=⟨_,rfl⟩
 have HB:Hid (Bytes8 W (some ⟨w.heap.size,0,none⟩) xs):=hid (by rw [hW];exact bytesWorld_bytes w _ xs ho)
 have HK:Hid (Keeps NoBlock w W):=hid (by rw [hW];exact bytesWorld_keeps _ _ _ _)
 rw [← hW] at hc
 clear hW
 have HS:=hid (sum_wide 0 (by unfold U64;omega) (some ⟨w.heap.size,0,none⟩) xs.length C xs rfl hC1 hC2 (fun h=>by simp at h) ho (by omega) W HB.out)
 clear ho
 go_enter Tryz.func92,Tryz.ntmps92
 go_wp2_with fail
 refine HS.out.mono ?_
 rintro e w2 ⟨rfl,hk⟩
 have HK2:=hid (HK.out.trans hk)
 clear hk
 go_wp2_with fail
 go_ret
 exact ⟨rfl,HK2.out⟩
end
section
open Go.RowKit
section
variable {α:Type} {v0 v1:α→Value} {dd:α}
theorem TwosSoFar.whole {t:TypeId} {w0 wr:World} {l:List α} {g n d:Nat} (h:TwosSoFar v0 v1 t w0 l (.slice (some ⟨g,0,none⟩) n d) wr) :
  ∃ cur,Whole wr g t cur∧n=l.length∧w0.heap.size≤g∧n≤d∧d≤maxLen∧cur.size=d*2∧cur.toList.take (l.length*2)=twoFlat v0 v1 l:=by
 obtain ⟨⟨_,ho⟩,_⟩:=h
 rcases ho with ⟨hn,_⟩|⟨g',cap,cur,hv,hb,hg,h1,h2,h3,h4⟩
 ·simp at hn
 ·simp only [Value.slice.injEq,Option.some.injEq,Addr.mk.injEq,and_true] at hv
  obtain ⟨rfl,rfl,rfl⟩:=hv
  exact ⟨cur,hg,rfl,hb,h1,h2,h3,h4⟩
end
end
end Go.Proofs.YtehkjkcnigknkaaGreat

/-
  TabRow; TabCmp; TabCmp2; TabRis; TabComp; TabComp2.
-/
import Derived.OwnWalk
import Derived.Sort.Grow
import Derived.Shelf.SlSortCmp.InsertionK
import Derived.Shelf.SlSortCmp.QuietGrown
import Derived.Lib.SlicesCompact
import Derived.Lib.SliceRun
import Derived.Sort.Statements
import Derived.Lib.Hide
import Derived.Test.YtehkjkcnigknkaaGreatV05
import Derived.Test.YtehkjkcnigknkaaGreatV13
import Derived.Test.YtehkjkcnigknkaaGreatV35
namespace Go.Proofs.YtehkjkcnigknkaaGreat
open Lib (hid)
section
open Go.RowKit
def RowF (wr:World) (g d n:Nat) (f:Nat→En):Prop :=
 ∃ cur,Whole wr g 129 cur∧cur.size=d*2∧n≤d∧∀ i,i<n→cur[i*2]?=some (enH (f i))∧cur[i*2+1]?=some (enA (f i))
theorem RowF.lt {wr:World} {g d n:Nat} {f:Nat→En} (h:RowF wr g d n f):g<wr.heap.size:=by
 obtain ⟨cur,hw,_⟩:=h
 exact hw.lt
theorem RowF.le {wr:World} {g d n:Nat} {f:Nat→En} (h:RowF wr g d n f):n≤d:=by
 obtain ⟨cur,_,_,h,_⟩:=h
 exact h
theorem RowF.cell {wr:World} {g d n:Nat} {f:Nat→En} (h:RowF wr g d n f) {i:Nat} (hi:i<n) :
  wr.cell? ⟨g,i*2,none⟩=some (.int .u64 ((f i).hash:Int))∧wr.cell? ⟨g,i*2+1,none⟩=some (.int .u32 ((f i).at_:Int)):=by
 obtain ⟨cur,hw,_,_,hc⟩:=h
 exact ⟨hw.cell _ (hc i hi).1,hw.cell _ (hc i hi).2⟩
theorem RowF.free {wr:World} {g d n:Nat} {f:Nat→En} (h:RowF wr g d n f) (i:Nat):wr.frozen? ⟨g,i,none⟩=false:=by
 obtain ⟨cur,hw,_⟩:=h
 exact hw.free i
theorem RowF.keep {w w':World} {g d n:Nat} {f:Nat→En} (h:RowF w g d n f) {S:Nat→Prop} (hk:Keeps S w w') (hs:¬ S g):RowF w' g d n f:=by
 obtain ⟨cur,hw,h1⟩:=h
 exact ⟨cur,hw.keep hk hs,h1⟩
theorem RowF.drew {w:World} {g d n:Nat} {f:Nat→En} (h:RowF w g d n f):RowF w.drew g d n f:=h
theorem RowF.congr {w:World} {g d n m:Nat} {f f':Nat→En} (h:RowF w g d n f) (hm:m≤n) (he:∀ i,i<m→f i=f' i):RowF w g d m f':=by
 obtain ⟨cur,hw,h1,h2,h3⟩:=h
 exact ⟨cur,hw,h1,by omega,fun i hi=>by rw [← he i hi];exact h3 i (by omega)⟩
theorem RowF.put {w:World} {g d n:Nat} {f:Nat→En} (h:RowF w g d n f) {k:Nat} (hk:k<n) (x:En) :
  RowF ((w.setCell ⟨g,k*2,none⟩ (.int .u64 (x.hash:Int))).setCell ⟨g,k*2+1,none⟩ (.int .u32 (x.at_:Int))) g d n (fun i=>if i=k then x else f i):=by
 obtain ⟨cur,hw,h1,h2,h3⟩:=h
 refine ⟨_,(hw.set _ _).set _ _,by simpa using h1,h2,fun i hi=>?_⟩
 dsimp only
 by_cases e:i=k
 ·subst e
  constructor
  ·rw [if_pos rfl,Array.getElem?_setIfInBounds_ne (by omega),Array.getElem?_setIfInBounds_self_of_lt (by omega)]
   rfl
  ·rw [if_pos rfl,Array.getElem?_setIfInBounds_self_of_lt (by simp;omega)]
   rfl
 ·rw [if_neg e]
  constructor
  ·rw [Array.getElem?_setIfInBounds_ne (by omega),Array.getElem?_setIfInBounds_ne (by omega)]
   exact (h3 i hi).1
  ·rw [Array.getElem?_setIfInBounds_ne (by omega),Array.getElem?_setIfInBounds_ne (by omega)]
   exact (h3 i hi).2
theorem keepsPut {S:Nat→Prop} {a b:World} (h:Keeps S a b) {g:Nat} (hg:S g ∨ a.heap.size≤g) (i j:Nat) (u v:Value):Keeps S a ((b.setCell ⟨g,i,none⟩ u).setCell ⟨g,j,none⟩ v):=(h.set hg u).set hg v
theorem RowF.ens {w:World} {g d n:Nat} {f:Nat→En} (h:RowF w g d n f) {l:List En} (hl:l.length≤n) (he:∀ i,i<l.length→l.getD i En.none=f i):EnsAt w (some ⟨g,0,none⟩) l:=fun i hi=>by
 refine ⟨_,rfl,?_⟩
 have hc:=h.cell (i:=i) (by omega)
 rw [← he i hi] at hc
 simp only [Addr.add_lit,Nat.zero_add]
 exact hc
theorem RowF.ofOwn {w:World} {base g n d:Nat} {l:List En} (h:w.ownsRow base 129 2 (.slice (some ⟨g,0,none⟩) n d) n (twoFlat enH enA l)) (hn:n=l.length) :
  RowF w g d n (fun i=>l.getD i En.none)∧base≤g∧d≤maxLen:=by
 rcases h with ⟨hl,⟨h0,_⟩|⟨g',cap,cur,hv,hb,hg,h1,h2,h3,h4⟩⟩
 ·simp at h0
 ·simp only [Value.slice.injEq,Option.some.injEq,Addr.mk.injEq,and_true,true_and] at hv
  obtain ⟨rfl,rfl⟩:=hv
  refine ⟨⟨cur,hg,h3,h1,fun i hi=>?_⟩,hb,h2⟩
  have e:∀ j u,j<2→[enH (l.getD i En.none),enA (l.getD i En.none)][j]?=some u→cur[i*2+j]?=some u:=fun j u hj hu=>by
   have h5:=twoFlat_at (v0:=enH) (v1:=enA) (dd:=En.none) l i j (by omega) hj
   rw [← h4,hu,List.getElem?_take_of_lt (by omega)] at h5
   simpa using h5
  exact ⟨e 0 _ (by decide) rfl,e 1 _ (by decide) rfl⟩
theorem RowF.own {w:World} {base g n d:Nat} {f:Nat→En} (h:RowF w g d n f) {l:List En} (hl:l.length≤n) (he:∀ i,i<l.length→l.getD i En.none=f i) (hb:base≤g) (hd:d≤maxLen) :
  w.ownsRow base 129 2 (.slice (some ⟨g,0,none⟩) l.length d) l.length (twoFlat enH enA l):=by
 obtain ⟨cur,hw,h1,h2,h3⟩:=h
 refine ⟨twoFlat_length l,.inr ⟨g,d,cur,rfl,hb,hw,by omega,hd,h1,?_⟩⟩
 apply List.ext_getElem?
 intro j
 by_cases hj:j<l.length*2
 ·rw [List.getElem?_take_of_lt hj]
  have hi:j / 2<l.length:=by omega
  have h4:=h3 (j / 2) (by omega)
  rw [← he (j / 2) hi] at h4
  by_cases h5:j % 2=0
  ·have e:j=j / 2*2+0:=by omega
   rw [e,twoFlat_at (v0:=enH) (v1:=enA) (dd:=En.none) l (j / 2) 0 hi (by decide)]
   simpa using h4.1
  ·have e:j=j / 2*2+1:=by omega
   rw [e,twoFlat_at (v0:=enH) (v1:=enA) (dd:=En.none) l (j / 2) 1 hi (by decide)]
   simpa using h4.2
 ·rw [List.getElem?_eq_none (by rw [List.length_take];omega),List.getElem?_eq_none (by rw [twoFlat_length];omega)]
theorem madeTwos (n:Nat):(madeCells (Value.agg #[.int .u64 0,.int .u32 0]).cells (n*2)).toList=twoFlat enH enA (List.replicate n En.none):=by
 have hz:(Value.agg #[.int .u64 0,.int .u32 0]).cells=#[.int .u64 0,.int .u32 0]:=rfl
 rw [hz]
 apply List.ext_getElem?
 intro j
 by_cases hj:j<n*2
 ·have hi:j / 2<(List.replicate n En.none).length:=by simp;omega
  have h6:(madeCells #[.int .u64 0,.int .u32 0] (n*2)).toList[j]?=some ((#[Value.int .u64 0,Value.int .u32 0])[j % 2]!):=by
   rw [Array.getElem?_toList]
   simp [madeCells,hj]
  have h7:(List.replicate n En.none).getD (j / 2) En.none=En.none:=by
   rw [List.getD_eq_getElem?_getD,List.getElem?_replicate]
   split <;> rfl
  rw [h6]
  by_cases h5:j % 2=0
  ·have e:j=j / 2*2+0:=by omega
   rw [h5]
   conv=>rhs;rw [e]
   rw [twoFlat_at (v0:=enH) (v1:=enA) (dd:=En.none) _ (j / 2) 0 hi (by decide),h7]
   rfl
  ·have e:j=j / 2*2+1:=by omega
   rw [show j % 2=1 by omega]
   conv=>rhs;rw [e]
   rw [twoFlat_at (v0:=enH) (v1:=enA) (dd:=En.none) _ (j / 2) 1 hi (by decide),h7]
   rfl
 ·rw [List.getElem?_eq_none (by simp [madeCells];omega),List.getElem?_eq_none (by rw [twoFlat_length];simp;omega)]
end
section
open Go.RowKit Go.Sort
def Grown (w w':World):Prop:=∃ q os,w'=grow (w.drewN q) os
theorem Grown.refl (w:World):Grown w w:=⟨0,#[],by rw [grow_empty];rfl⟩
theorem Grown.drewN {w w':World} (h:Grown w w') (n:Nat):Grown w (w'.drewN n):=by
 obtain ⟨q,os,rfl⟩:=h
 exact ⟨q+n,os,by show grow ((w.drewN q).drewN n) os=_;rw [World.drewN_drewN]⟩
theorem Grown.drew {w w':World} (h:Grown w w'):Grown w w'.drew:=h.drewN 1
theorem Grown.alloc {w w':World} (h:Grown w w') (o:Obj):Grown w (w'.alloc o):=by
 obtain ⟨q,os,rfl⟩:=h
 exact ⟨q,os ++ #[o],by rw [alloc_eq_grow,grow_grow]⟩
theorem Grown.trans {a b c:World} (h:Grown a b) (g:Grown b c):Grown a c:=by
 obtain ⟨q,os,rfl⟩:=h
 obtain ⟨q',os',rfl⟩:=g
 exact ⟨q+q',os ++ os',by show grow (grow ((a.drewN q).drewN q') os) os'=_;rw [grow_grow,World.drewN_drewN]⟩
theorem Grown.keeps {w w':World} (h:Grown w w'):Keeps NoBlock w w':=by
 obtain ⟨q,os,rfl⟩:=h
 refine ⟨rfl,rfl,rfl,by simp [grow],fun k hk _=>?_⟩
 show ((w.drewN q).heap ++ os)[k]?=_
 rw [Array.getElem?_append_left (by show k<w.heap.size;exact hk)]
 rfl
def cmpN (x y:Nat):Int:=if x<y then -1 else if y<x then 1 else 0
theorem nan64_own (x:Nat) (w:World):Calls Tryz.prog 197 #[.int .u64 (x:Int)] w fun e w'=>e=.returned (.bool false)∧w'=w:=by
 have h:((x:Int) != (x:Int))=false:=by simp
 go_enter Tryz.func197,Tryz.ntmps197
 go_wp2_with fail
 go_ret
 exact ⟨rfl,rfl⟩
theorem nan32_own (x:Nat) (w:World):Calls Tryz.prog 198 #[.int .u32 (x:Int)] w fun e w'=>e=.returned (.bool false)∧w'=w:=by
 have h:((x:Int) != (x:Int))=false:=by simp
 go_enter Tryz.func198,Tryz.ntmps198
 go_wp2_with fail
 go_ret
 exact ⟨rfl,rfl⟩
set_option maxHeartbeats 1000000 in
theorem cmp64_own (x y:Nat) (w:World):Calls Tryz.prog 160 #[.int .u64 (x:Int),.int .u64 (y:Int)] w fun e w'=>e=.returned (.int .i64 (cmpN x y))∧w'=w:=by
 have HA:=hid (fun w=>nan64_own x w)
 have HB:=hid (fun w=>nan64_own y w)
 unfold cmpN
 by_cases h1:x<y
 ·rw [if_pos h1]
  have d1:decide ((x:Int)<(y:Int))=true:=decide_eq_true (by omega)
  have d2:decide (x<y)=true:=decide_eq_true h1
  go_enter Tryz.func160,Tryz.ntmps160
  go_wp2_with fail
  refine (HA.out _).mono ?_
  rintro e w1 ⟨rfl,rfl⟩
  go_wp2_with fail
  refine (HB.out _).mono ?_
  rintro e w1 ⟨rfl,rfl⟩
  go_wp2_with fail
  go_ret
  exact ⟨rfl,rfl⟩
 ·rw [if_neg h1]
  have d1:decide ((x:Int)<(y:Int))=false:=decide_eq_false (by omega)
  have d2:decide (x<y)=false:=decide_eq_false h1
  by_cases h2:y<x
  ·rw [if_pos h2]
   have d3:decide ((y:Int)<(x:Int))=true:=decide_eq_true (by omega)
   have d4:decide (y<x)=true:=decide_eq_true h2
   go_enter Tryz.func160,Tryz.ntmps160
   go_wp2_with fail
   refine (HA.out _).mono ?_
   rintro e w1 ⟨rfl,rfl⟩
   go_wp2_with fail
   refine (HB.out _).mono ?_
   rintro e w1 ⟨rfl,rfl⟩
   go_wp2_with fail
   go_ret
   exact ⟨rfl,rfl⟩
  ·rw [if_neg h2]
   have d3:decide ((y:Int)<(x:Int))=false:=decide_eq_false (by omega)
   have d4:decide (y<x)=false:=decide_eq_false h2
   go_enter Tryz.func160,Tryz.ntmps160
   go_wp2_with fail
   refine (HA.out _).mono ?_
   rintro e w1 ⟨rfl,rfl⟩
   go_wp2_with fail
   refine (HB.out _).mono ?_
   rintro e w1 ⟨rfl,rfl⟩
   go_wp2_with fail
   go_ret
   exact ⟨rfl,rfl⟩
set_option maxHeartbeats 1000000 in
theorem cmp32_own (x y:Nat) (w:World):Calls Tryz.prog 161 #[.int .u32 (x:Int),.int .u32 (y:Int)] w fun e w'=>e=.returned (.int .i64 (cmpN x y))∧w'=w:=by
 have HA:=hid (fun w=>nan32_own x w)
 have HB:=hid (fun w=>nan32_own y w)
 unfold cmpN
 by_cases h1:x<y
 ·rw [if_pos h1]
  have d1:decide ((x:Int)<(y:Int))=true:=decide_eq_true (by omega)
  have d2:decide (x<y)=true:=decide_eq_true h1
  go_enter Tryz.func161,Tryz.ntmps161
  go_wp2_with fail
  refine (HA.out _).mono ?_
  rintro e w1 ⟨rfl,rfl⟩
  go_wp2_with fail
  refine (HB.out _).mono ?_
  rintro e w1 ⟨rfl,rfl⟩
  go_wp2_with fail
  go_ret
  exact ⟨rfl,rfl⟩
 ·rw [if_neg h1]
  have d1:decide ((x:Int)<(y:Int))=false:=decide_eq_false (by omega)
  have d2:decide (x<y)=false:=decide_eq_false h1
  by_cases h2:y<x
  ·rw [if_pos h2]
   have d3:decide ((y:Int)<(x:Int))=true:=decide_eq_true (by omega)
   have d4:decide (y<x)=true:=decide_eq_true h2
   go_enter Tryz.func161,Tryz.ntmps161
   go_wp2_with fail
   refine (HA.out _).mono ?_
   rintro e w1 ⟨rfl,rfl⟩
   go_wp2_with fail
   refine (HB.out _).mono ?_
   rintro e w1 ⟨rfl,rfl⟩
   go_wp2_with fail
   go_ret
   exact ⟨rfl,rfl⟩
  ·rw [if_neg h2]
   have d3:decide ((y:Int)<(x:Int))=false:=decide_eq_false (by omega)
   have d4:decide (y<x)=false:=decide_eq_false h2
   go_enter Tryz.func161,Tryz.ntmps161
   go_wp2_with fail
   refine (HA.out _).mono ?_
   rintro e w1 ⟨rfl,rfl⟩
   go_wp2_with fail
   refine (HB.out _).mono ?_
   rintro e w1 ⟨rfl,rfl⟩
   go_wp2_with fail
   go_ret
   exact ⟨rfl,rfl⟩
set_option maxHeartbeats 1000000 in
theorem or_own (g:Nat) (x y:Int) (w:World) (h0:w.cell? ⟨g,0,none⟩=some (.int .i64 x)) (h1:w.cell? ⟨g,1,none⟩=some (.int .i64 y)) :
  Calls Tryz.prog 159 #[.slice (some ⟨g,0,none⟩) 2 2] w fun e w'=>e=.returned (.int .i64 (if x=0 then y else x))∧w'=w:=by
 have G0:=hid h0
 have G1:=hid h1
 clear h0 h1
 by_cases hx:x=0
 ·have b1:(x != 0)=false:=by simpa using hx
  rw [if_pos hx]
  clear hx
  by_cases hy:y=0
  ·have b2:(y != 0)=false:=by simpa using hy
   have HY:=hid hy
   clear hy
   go_enter Tryz.func159,Tryz.ntmps159
   go_wp2_with fail
   refine wp_loop_rounds 3 ?_
   rw [rounds_succ]
   have g0:=G0.out
   go_wp2_with fail
   rw [rounds_succ]
   have g1:=G1.out
   go_wp2_with fail
   rw [rounds_succ]
   go_wp2_with fail
   go_ret
   exact ⟨by rw [HY.out];rfl,rfl⟩
  ·have b2:(y != 0)=true:=by simpa using hy
   go_enter Tryz.func159,Tryz.ntmps159
   go_wp2_with fail
   refine wp_loop_rounds 3 ?_
   rw [rounds_succ]
   have g0:=G0.out
   go_wp2_with fail
   rw [rounds_succ]
   have g1:=G1.out
   go_wp2_with fail
   go_ret
   exact ⟨rfl,rfl⟩
 ·have b1:(x != 0)=true:=by simpa using hx
  rw [if_neg hx]
  go_enter Tryz.func159,Tryz.ntmps159
  go_wp2_with fail
  refine wp_loop_rounds 3 ?_
  rw [rounds_succ]
  have g0:=G0.out
  go_wp2_with fail
  go_ret
  exact ⟨rfl,rfl⟩
end
section
open Go.RowKit Go.Sort
theorem cmpE_of (a b:En):(if cmpN a.hash b.hash=0 then cmpN a.at_ b.at_ else cmpN a.hash b.hash)=cmpE a b:=by
 unfold cmpN cmpE
 have L1:LessE a b ↔ (a.hash<b.hash ∨ a.hash=b.hash∧a.at_<b.at_):=Iff.rfl
 by_cases h1:a.hash<b.hash
 ·have hne:¬ a=b:=fun e=>by rw [e] at h1;omega
  rw [if_pos h1,if_neg (by omega),if_neg hne,if_pos (L1.2 (.inl h1))]
 ·by_cases h2:b.hash<a.hash
  ·have hne:¬ a=b:=fun e=>by rw [e] at h2;omega
   rw [if_neg h1,if_pos h2,if_neg (by omega),if_neg hne,if_neg (fun h=>by have:=L1.1 h;omega)]
  ·have he:a.hash=b.hash:=by omega
   rw [if_neg h1,if_neg h2,if_pos rfl]
   by_cases h3:a.at_<b.at_
   ·have hne:¬ a=b:=fun e=>by rw [e] at h3;omega
    rw [if_pos h3,if_neg hne,if_pos (L1.2 (.inr ⟨he,h3⟩))]
   ·by_cases h4:b.at_<a.at_
    ·have hne:¬ a=b:=fun e=>by rw [e] at h4;omega
     rw [if_neg h3,if_pos h4,if_neg hne,if_neg (fun h=>by have:=L1.1 h;omega)]
    ·rw [if_neg h3,if_neg h4,if_pos (En.ext' he (by omega))]
set_option maxHeartbeats 4000000 in
set_option maxRecDepth 10000 in
theorem compare_grown (a b:En) (w:World):Calls Tryz.prog 127 #[enV a,enV b] w fun e w'=>e=.returned (.int .i64 (cmpE a b))∧Grown w w':=by
 have H64:=hid (fun w=>cmp64_own a.hash b.hash w)
 have H32:=hid (fun w=>cmp32_own a.at_ b.at_ w)
 obtain ⟨R,hR⟩:∃ R,R=cmpE a b:=⟨_,rfl⟩
 have HO:Hid ((if cmpN a.hash b.hash=0 then cmpN a.at_ b.at_ else cmpN a.hash b.hash)=R):=hid ((cmpE_of a b).trans hR.symm)
 rw [← hR]
 clear hR
 obtain ⟨X,hX⟩:∃ X,X=cmpN a.hash b.hash:=⟨_,rfl⟩
 obtain ⟨Y,hY⟩:∃ Y,Y=cmpN a.at_ b.at_:=⟨_,rfl⟩
 rw [← hX] at H64 HO
 rw [← hY] at H32 HO
 clear hX hY
 have HWa:=hid ((Whole.new w 129 (enCells a)).alloc (.cells (enCells b) 129))
 have HWb:=hid (Whole.newAt (w.alloc (.cells (enCells a) 129)) 129 (enCells b) (w.heap.size+1) (by simp))
 have HGw:=hid (((Grown.refl w).alloc (.cells (enCells a) 129)).alloc (.cells (enCells b) 129))
 unfold enV
 go_enter Tryz.func127,Tryz.ntmps127
 go_wp2_with fail
 obtain ⟨W0,hW⟩:∃ W0,W0=(w.alloc (.cells #[.int .u64 (a.hash:Int),.int .u32 (a.at_:Int)] 129)).alloc (.cells #[.int .u64 (b.hash:Int),.int .u32 (b.at_:Int)] 129):=⟨_,rfl⟩
 have HA:Hid (Whole W0.drew w.heap.size 129 (enCells a)):=hid (by rw [hW];exact HWa.out)
 have HB:Hid (Whole W0.drew (w.heap.size+1) 129 (enCells b)):=hid (by rw [hW];exact HWb.out)
 have HG:Hid (Grown w W0.drew):=hid (by rw [hW];exact HGw.out.drew)
 rw [← hW]
 clear hW HWa HWb HGw
 obtain ⟨W,hWd⟩:∃ W,W=W0.drew:=⟨_,rfl⟩
 rw [← hWd] at HA HB HG
 have s0:=And.intro (And.intro (HA.out.cell 0 rfl) (HA.out.cell 1 rfl)) (And.intro (HB.out.cell 0 rfl) (HB.out.cell 1 rfl))
 simp only [enCells,List.getElem_toArray,List.getElem_cons_zero,List.getElem_cons_succ] at s0
 refine wp_region_held_drew (S:=fun w'=>((w'.cell? ⟨w.heap.size,0,none⟩=some (.int .u64 (a.hash:Int))∧w'.cell? ⟨w.heap.size,1,none⟩=some (.int .u32 (a.at_:Int)))∧(w'.cell? ⟨w.heap.size+1,0,none⟩=some (.int .u64 (b.hash:Int))∧w'.cell? ⟨w.heap.size+1,1,none⟩=some (.int .u32 (b.at_:Int))))) (by kernel_rfl) (by rw [← hWd];exact s0) (fun hHeld=>?_)
 rw [← hWd]
 rw [← hWd] at hHeld
 clear hWd
 refine wpAnyH_take (i:=0) (v:=?vT1) rfl ?aT1 ?bT1 ?cT1 ?dT1 (Or.inl ⟨?eT1,?fT1⟩) hHeld ?gT1
 case fT1=>intro w hSw;(try dsimp only at hSw);go_simp;(try with_reducible rfl)
 case aT1=>kernel_rfl
 case bT1=>kernel_rfl
 case cT1=>kernel_rfl
 case dT1=>exact fun _ _ _ h=>h
 case eT1=>rfl
 simp only [Act.put,List.getElem_toArray,List.getElem_cons_zero,List.setIfInBounds_toArray,List.set_cons_zero,List.set_cons_succ]
 refine wpAnyH_take (i:=1) (v:=?vT2) rfl ?aT2 ?bT2 ?cT2 ?dT2 (Or.inl ⟨?eT2,?fT2⟩) hHeld ?gT2
 case fT2=>intro w hSw;(try dsimp only at hSw);go_simp;(try with_reducible rfl)
 case aT2=>kernel_rfl
 case bT2=>kernel_rfl
 case cT2=>kernel_rfl
 case dT2=>exact fun _ _ _ h=>h
 case eT2=>rfl
 simp only [Act.put,List.getElem_toArray,List.getElem_cons_zero,List.getElem_cons_succ,List.setIfInBounds_toArray,List.set_cons_zero,List.set_cons_succ]
 refine wpAnyH_take (i:=2) (v:=?vT3) rfl ?aT3 ?bT3 ?cT3 ?dT3 (Or.inl ⟨?eT3,?fT3⟩) hHeld ?gT3
 case fT3=>intro w hSw;(try dsimp only at hSw);go_simp;(try with_reducible rfl)
 case aT3=>kernel_rfl
 case bT3=>kernel_rfl
 case cT3=>kernel_rfl
 case dT3=>exact fun _ _ _ h=>h
 case eT3=>rfl
 simp only [Act.put,List.getElem_toArray,List.getElem_cons_zero,List.getElem_cons_succ,List.setIfInBounds_toArray,List.set_cons_zero,List.set_cons_succ]
 refine wpAnyH_take (i:=3) (v:=?vT4) rfl ?aT4 ?bT4 ?cT4 ?dT4 (Or.inl ⟨?eT4,?fT4⟩) hHeld ?gT4
 case fT4=>intro w hSw;(try dsimp only at hSw);go_simp;(try with_reducible rfl)
 case aT4=>kernel_rfl
 case bT4=>kernel_rfl
 case cT4=>kernel_rfl
 case dT4=>exact fun _ _ _ h=>h
 case eT4=>rfl
 simp only [Act.put,List.getElem_toArray,List.getElem_cons_zero,List.getElem_cons_succ,List.setIfInBounds_toArray,List.set_cons_zero,List.set_cons_succ]
 refine wpAnyH_take (i:=5) (v:=?vT5) rfl ?aT5 ?bT5 ?cT5 ?dT5 (Or.inl ⟨?eT5,?fT5⟩) hHeld ?gT5
 case fT5=>intro w hSw;(try dsimp only at hSw);go_simp;(try with_reducible rfl)
 case aT5=>kernel_rfl
 case bT5=>kernel_rfl
 case cT5=>kernel_rfl
 case dT5=>exact fun _ _ _ h=>h
 case eT5=>rfl
 simp only [Act.put,List.getElem_toArray,List.getElem_cons_zero,List.getElem_cons_succ,List.setIfInBounds_toArray,List.set_cons_zero,List.set_cons_succ]
 refine wpAnyH_take (i:=6) (v:=?vT6) rfl ?aT6 ?bT6 ?cT6 ?dT6 (Or.inl ⟨?eT6,?fT6⟩) hHeld ?gT6
 case fT6=>intro w hSw;(try dsimp only at hSw);go_simp;(try with_reducible rfl)
 case aT6=>kernel_rfl
 case bT6=>kernel_rfl
 case cT6=>kernel_rfl
 case dT6=>exact fun _ _ _ h=>h
 case eT6=>rfl
 simp only [Act.put,List.getElem_toArray,List.getElem_cons_zero,List.getElem_cons_succ,List.setIfInBounds_toArray,List.set_cons_zero,List.set_cons_succ]
 refine wpAnyH_take (i:=7) (v:=?vT7) rfl ?aT7 ?bT7 ?cT7 ?dT7 (Or.inl ⟨?eT7,?fT7⟩) hHeld ?gT7
 case fT7=>intro w hSw;(try dsimp only at hSw);go_simp;(try with_reducible rfl)
 case aT7=>kernel_rfl
 case bT7=>kernel_rfl
 case cT7=>kernel_rfl
 case dT7=>exact fun _ _ _ h=>h
 case eT7=>rfl
 simp only [Act.put,List.getElem_toArray,List.getElem_cons_zero,List.getElem_cons_succ,List.setIfInBounds_toArray,List.set_cons_zero,List.set_cons_succ]
 refine wpAnyH_take (i:=8) (v:=?vT8) rfl ?aT8 ?bT8 ?cT8 ?dT8 (Or.inl ⟨?eT8,?fT8⟩) hHeld ?gT8
 case fT8=>intro w hSw;(try dsimp only at hSw);go_simp;(try with_reducible rfl)
 case aT8=>kernel_rfl
 case bT8=>kernel_rfl
 case cT8=>kernel_rfl
 case dT8=>exact fun _ _ _ h=>h
 case eT8=>rfl
 simp only [Act.put,List.getElem_toArray,List.getElem_cons_zero,List.getElem_cons_succ,List.setIfInBounds_toArray,List.set_cons_zero,List.set_cons_succ]
 refine wpAnyH_ready (rs:=[4]) (by kernel_rfl) (by simp) ?_
 refine (AllReadyH.cons (o:=_) rfl (fun K hK=>?_) AllReadyH.nil)
 go_simp
 refine (H64.out _).mono ?_
 rintro e9 w9 ⟨rfl,hw9⟩
 have hw9':W=w9:=hw9.symm
 subst hw9'
 clear hw9
 go_wp2_with fail
 refine hK.out _ _ s0 (fun _=>?_)
 clear hK K
 refine wpAnyH_ready (rs:=[9]) (by kernel_rfl) (by simp) ?_
 refine (AllReadyH.cons (o:=_) rfl (fun K hK=>?_) AllReadyH.nil)
 go_simp
 refine (H32.out _).mono ?_
 rintro e9 w9 ⟨rfl,hw9⟩
 have hw9':W=w9:=hw9.symm
 subst hw9'
 clear hw9
 go_wp2_with fail
 refine hK.out _ _ s0 (fun _=>?_)
 clear hK K
 refine wpAnyH_ready (rs:=[10]) (by kernel_rfl) (by simp) ?_
 refine (AllReadyH.cons (o:=_) rfl (fun K hK=>?_) AllReadyH.nil)
 go_simp
 have s1:(fun w'=>((w'.cell? ⟨w.heap.size,0,none⟩=some (.int .u64 (a.hash:Int))∧w'.cell? ⟨w.heap.size,1,none⟩=some (.int .u32 (a.at_:Int)))∧(w'.cell? ⟨w.heap.size+1,0,none⟩=some (.int .u64 (b.hash:Int))∧w'.cell? ⟨w.heap.size+1,1,none⟩=some (.int .u32 (b.at_:Int))))) (W.alloc (.cells #[.int .i64 X,.int .i64 Y] 3)):=And.intro (And.intro ((HA.out.alloc _).cell 0 rfl) ((HA.out.alloc _).cell 1 rfl)) (And.intro ((HB.out.alloc _).cell 0 rfl) ((HB.out.alloc _).cell 1 rfl))
 have HR:=(or_own W.heap.size X Y (W.alloc (.cells #[.int .i64 X,.int .i64 Y] 3)) (Whole.cell (Whole.new W 3 #[.int .i64 X,.int .i64 Y]) 0 rfl) (Whole.cell (Whole.new W 3 #[.int .i64 X,.int .i64 Y]) 1 rfl))
 rw [HO.out] at HR
 have HR:=hid HR
 have HG:=hid (HG.out.alloc (.cells #[.int .i64 X,.int .i64 Y] 3))
 refine hK.out _ _ s1 (fun _=>?_)
 clear hK K
 refine wpAnyH_ready (rs:=[11]) (by kernel_rfl) (by simp) ?_
 refine (AllReadyH.cons (o:=_) rfl (fun K hK=>?_) AllReadyH.nil)
 go_simp
 refine HR.out.mono ?_
 rintro e9 w9 ⟨rfl,hw9⟩
 subst hw9
 go_wp2_with fail
 refine hK.out _ _ s1 (fun _=>?_)
 clear hK K
 refine wpAnyH_take (i:=12) (v:=?vT9) rfl ?aT9 ?bT9 ?cT9 ?dT9 (Or.inl ⟨?eT9,?fT9⟩) s1 ?gT9
 case fT9=>intro w hSw;(try dsimp only at hSw);go_simp;(try with_reducible rfl)
 case aT9=>kernel_rfl
 case bT9=>kernel_rfl
 case cT9=>kernel_rfl
 case dT9=>exact fun _ _ _ h=>h
 case eT9=>rfl
 simp only [Act.put,List.getElem_toArray,List.getElem_cons_zero,List.getElem_cons_succ,List.setIfInBounds_toArray,List.set_cons_zero,List.set_cons_succ]
 refine wpAnyH_done (by kernel_rfl) ?_ _
 go_wp2_with fail
 go_ret
 exact ⟨rfl,by first|exact HG.out|exact HG.out.drew⟩
end
section
open Go.RowKit Go.Sort
theorem ltOfCell' {w:World} {a:Addr} {v:Value} (h:w.cell? a=some v):a.block<w.heap.size:=World.block_lt_of_cell? _ _ h
theorem cellG {w:World} {a:Addr} {v:Value} (h:w.cell? a=some v) (n:Nat) (os:Array Obj):(grow (w.drewN n) os).cell? a=some v:=cell_grown (ltOfCell' h) h n os
theorem keepsG {S:Nat→Prop} {w w':World} (h:Keeps S w w') (n:Nat) (os:Array Obj):Keeps S w (grow (w'.drewN n) os) :=
 h.then (show Grown w' _ from ⟨n,os,rfl⟩).keeps (fun _ _ h=>h.elim)
set_option maxHeartbeats 4000000 in
set_option maxRecDepth 10000 in
theorem rising_own (p:Option Addr) (n c:Nat) (l:List En) (hn:n=l.length) (hn9:n≤1000000) (w:World) (hl:EnsAt w p l) :
  Calls Tryz.prog 153 #[.slice p n c] w fun e w'=>e=.returned (.bool (risesE l))∧Keeps NoBlock w w':=by
 have HL:=hid hl
 have HN:=hid hn
 have HCmp:=hid (fun a b w=>compare_grown a b w)
 unfold enV Grown at HCmp
 have mixed:Tryz.prog.follows .mixedOrders=true:=by kernel_rfl
 clear hl hn
 go_enter Tryz.func153,Tryz.ntmps153
 go_wp2_with fail
 go_loopw [3] (fun i wr=>∃ m:Nat,m≤n∧i=.int .i64 ((m+1:Nat):Int)∧Hid (∀ i,i+1<m+1→i+1<n→LessE (l.getD i En.none) (l.getD (i+1) En.none))∧Keeps NoBlock w wr) (fun i _=>n+1 - (intOf i).toNat)
 case atStart=>exact ⟨0,Nat.zero_le _,rfl,hid (fun i h=>by omega),Keeps.refl _ _⟩
 case round =>
  obtain ⟨m,hm,rfl,HA,hkk⟩:=hrel
  have HK:=hid hkk
  clear hkk
  by_cases hlt:m+1<n
  ·have hdk:decide (((m+1:Nat):Int)<(n:Int))=true:=decide_eq_true (by omega)
   have hdk2:decide ((m:Int)+1<(n:Int))=true:=decide_eq_true (by omega)
   obtain ⟨a,rfl,c0,c1⟩:=(HL.out.keep HK.out).at_ (m+1) (by have:=HN.out;omega)
   obtain ⟨b,hb,d0,d1⟩:=(HL.out.keep HK.out).at_ m (by have:=HN.out;omega)
   obtain rfl:=Option.some.inj hb
   obtain ⟨r,hr⟩:∃ r,r=l.getD (m+1) En.none:=⟨_,rfl⟩
   obtain ⟨s,hs⟩:∃ s,s=l.getD m En.none:=⟨_,rfl⟩
   rw [← hr] at c0 c1
   rw [← hs] at d0 d1
   have HRr:=hid hr
   have HSs:=hid hs
   clear hr hs hb
   have C0:∀ n os,(grow (wr.drewN n) os).cell? _=_:=fun n os=>cellG c0 n os
   have C1:∀ n os,(grow (wr.drewN n) os).cell? _=_:=fun n os=>cellG c1 n os
   have D0:∀ n os,(grow (wr.drewN n) os).cell? _=_:=fun n os=>cellG d0 n os
   have D1:∀ n os,(grow (wr.drewN n) os).cell? _=_:=fun n os=>cellG d1 n os
   clear c0 c1 d0 d1
   have hmn:(m:Int)<(n:Int):=by omega
   have hmn2:m<n:=by omega
   have hmn3:(m:Int)+1<(n:Int):=by omega
   have hm3:(0:Int)≤(m:Int)+1:=by omega
   have hm4:((m:Int)+1).toNat=m+1:=by omega
   have w1:IntKind.i64.wrap (m:Int)=(m:Int):=by rw [IntKind.wrap_i64];omega
   have hm0:(0:Int)≤(m:Int):=by omega
   have hcall:=fun n os=>HCmp.out s r (grow (wr.drewN n) os)
   by_cases hls:LessE s r
   ·have hc:cmpE s r<0:=cmpE_less.2 hls
    have HLs:=hid hls
    obtain ⟨z,hz⟩:∃ z,z=cmpE s r:=⟨_,rfl⟩
    rw [← hz] at hcall hc
    have hz0:decide (0≤z)=false:=decide_eq_false (by omega)
    clear hls hz
    go_wp2_with fail
    go_quiet_grown ((go_at_call 127;exact Calls.grown_of (hcall _ _)))
    go_wp2_with fail
    go_roundw
    case rel =>
     refine ⟨m+1,by omega,by go_num,hid (fun i h h2=>?_),by first|exact keepsG HK.out _ _|exact (keepsG HK.out _ _).drew⟩
     by_cases he:i=m
     ·rw [he,← HRr.out,← HSs.out]
      exact HLs.out
     ·exact HA.out i (by omega) h2
    case measure=>simp [intOf];omega
   ·have hc:¬ cmpE s r<0:=fun h=>hls (cmpE_less.1 h)
    have HB:Hid (risesE l=false):=hid (by
     cases hb:risesE l
     ·rfl
     ·have h:=risesE_adj.1 hb m (by have:=HN.out;omega)
      rw [← HRr.out,← HSs.out] at h
      exact absurd h hls)
    obtain ⟨z,hz⟩:∃ z,z=cmpE s r:=⟨_,rfl⟩
    rw [← hz] at hcall hc
    have hz0:decide (0≤z)=true:=decide_eq_true (by omega)
    clear hls hz
    go_wp2_with fail
    go_quiet_grown ((go_at_call 127;exact Calls.grown_of (hcall _ _)))
    go_wp2_with fail
    go_ret
    rw [HB.out]
    exact ⟨rfl,by first|exact keepsG HK.out _ _|exact (keepsG HK.out _ _).drew⟩
  ·have hdk:decide (((m+1:Nat):Int)<(n:Int))=false:=decide_eq_false (by omega)
   have hdk2:decide ((m:Int)+1<(n:Int))=false:=decide_eq_false (by omega)
   have HB:Hid (risesE l=true):=hid (risesE_adj.2 fun i hi=>HA.out i (by have:=HN.out;omega) (by have:=HN.out;omega))
   go_wp2_with fail
   go_ret
   rw [HB.out]
   exact ⟨rfl,HK.out⟩
end
section
open Go.RowKit Go.Lib
instance:Inhabited En:=⟨En.none⟩
theorem lessE_le {a b:En} (h:¬ LessE b a):a=b ∨ LessE a b:=by
 by_cases e:a=b
 ·exact .inl e
 ·exact .inr ((LessE.total e).resolve_right h)
theorem compact_rises (d:Array En) (hs:∀ i j,i≤j→j<d.size→¬ LessE d[j]! d[i]!):∀ m,m≤d.size→(compactUpTo d m).Pairwise LessE∧∀ x,x ∈ compactUpTo d m ↔ ∃ i,i<m∧x=d[i]!
 | 0,_=>by simp [compactUpTo]
 | m+1,hm=>by
  obtain ⟨h1,h2⟩:=compact_rises d hs m (by omega)
  rw [compactUpTo_succ]
  by_cases hk:keeps d m=true
  ·rw [if_pos hk]
   refine ⟨List.pairwise_append.2 ⟨h1,List.pairwise_singleton _ _,fun x hx y hy=>?_⟩,fun x=>?_⟩
   ·obtain ⟨i,hi,rfl⟩:=(h2 x).1 hx
    obtain rfl:y=d[m]!:=by simpa using hy
    have hne:d[m]! ≠ d[m - 1]!:=by
     unfold keeps at hk
     rcases of_decide_eq_true hk with h|h
     ·omega
     ·exact h
    have a1:=lessE_le (hs i (m - 1) (by omega) (by omega))
    have a2:LessE d[m - 1]! d[m]!:=(lessE_le (hs (m - 1) m (by omega) (by omega))).resolve_left (fun e=>hne e.symm)
    rcases a1 with e|h
    ·rw [e];exact a2
    ·exact h.trans a2
   ·rw [List.mem_append,List.mem_singleton,h2]
    constructor
    ·rintro (⟨i,hi,rfl⟩|rfl)
     ·exact ⟨i,by omega,rfl⟩
     ·exact ⟨m,by omega,rfl⟩
    ·rintro ⟨i,hi,rfl⟩
     by_cases e:i=m
     ·rw [e];exact .inr rfl
     ·exact .inl ⟨i,by omega,rfl⟩
  ·rw [if_neg hk,List.append_nil]
   refine ⟨h1,fun x=>?_⟩
   have he:m ≠ 0∧d[m]! = d[m - 1]!:=by
    have h3:¬ (m=0 ∨ d[m]! ≠ d[m - 1]!):=fun h=>hk (by unfold keeps;exact decide_eq_true h)
    exact ⟨fun h=>h3 (.inl h),Classical.byContradiction fun h=>h3 (.inr h)⟩
   rw [h2]
   constructor
   ·rintro ⟨i,hi,rfl⟩
    exact ⟨i,by omega,rfl⟩
   ·rintro ⟨i,hi,rfl⟩
    by_cases e:i=m
    ·rw [e,he.2]
     exact ⟨m - 1,by omega,rfl⟩
    ·exact ⟨i,by omega,rfl⟩
theorem mem_arr (d:Array En) (x:En):x ∈ d.toList ↔ ∃ i,i<d.size∧x=d[i]!:=by
 rw [List.mem_iff_getElem]
 constructor
 ·rintro ⟨i,hi,rfl⟩
  have hi':i<d.size:=by simpa using hi
  exact ⟨i,hi',by simp [getElem!_pos,hi']⟩
 ·rintro ⟨i,hi,rfl⟩
  exact ⟨i,by simpa using hi,by simp [getElem!_pos,hi]⟩
theorem compact_sortE (d:Array En) (hs:∀ i j,i≤j→j<d.size→¬ LessE d[j]! d[i]!):compactUpTo d d.size=sortE d.toList:=by
 obtain ⟨h1,h2⟩:=compact_rises d hs d.size (Nat.le_refl _)
 exact rises_only h1 (sortE_pair _) fun x=>by rw [h2,sortE_mem,mem_arr]
theorem setCells_whole {g:Nat} {t:TypeId}:∀ (vs:List Value) (o:Nat) (w:World) (cur:Array Value),Whole w g t cur→∃ cur',Whole (w.setCells g o vs) g t cur'∧cur'.size=cur.size∧∀ i,i<o→cur'[i]?=cur[i]?
 | [],_,_,cur,h=>⟨cur,h,rfl,fun _ _=>rfl⟩
 | v :: vs,o,w,cur,h=>by
  obtain ⟨cur',h1,h2,h3⟩:=setCells_whole vs (o+1) _ _ (h.set o v)
  exact ⟨cur',h1,by rw [h2];simp,fun i hi=>by rw [h3 i (by omega),Array.getElem?_setIfInBounds_ne (by omega)]⟩
theorem setCells_keeps {S:Nat→Prop} {a:World} {g:Nat} (hg:S g ∨ a.heap.size≤g):∀ (vs:List Value) (o:Nat) (b:World),Keeps S a b→Keeps S a (b.setCells g o vs)
 | [],_,_,h=>h
 | v :: vs,o,_,h=>setCells_keeps hg vs (o+1) _ (h.set hg v)
theorem RowF.setCells {w:World} {g d n:Nat} {f:Nat→En} (h:RowF w g d n f) (m:Nat) (hm:m≤n) (vs:List Value):RowF (w.setCells g (m*2) vs) g d m f:=by
 obtain ⟨cur,hw,h1,h2,h3⟩:=h
 obtain ⟨cur',c1,c2,c3⟩:=setCells_whole vs (m*2) w cur hw
 exact ⟨cur',c1,by omega,by omega,fun i hi=>by rw [c3 _ (by omega),c3 _ (by omega)];exact h3 i (by omega)⟩
theorem run_clear_ens {w:World} {g d n:Nat} {f:Nat→En} (h:RowF w g d n f) (k m c:Nat) (hk:k+m=n) (hm:0<m) (ty:TypeId) :
  (Builtin.clear_ #[124] ty #[.slice (some ⟨g,k*2,none⟩) m c]).run Tryz.prog w=.ok (.tuple #[]) (w.setCells g (k*2) (Builtin.zeroCells #[.int .u64 0,.int .u32 0] m).toList):=by
 have hlen:(Builtin.zeroCells #[.int .u64 0,.int .u32 0] m).toList.length=m*2:=by simp [Builtin.zeroCells]
 have hone:∀ v ∈ (Builtin.zeroCells #[.int .u64 0,.int .u32 0] m).toList,v.oneCell'=true:=fun v hv=>by
  simp only [Builtin.zeroCells,Array.mem_toList_iff,Array.mem_map] at hv
  obtain ⟨j,_,rfl⟩:=hv
  have:j % 2=0 ∨ j % 2=1:=by omega
  rcases this with e|e
  ·show ((#[Value.int .u64 0,Value.int .u32 0]:Array Value)[j % 2]!).oneCell'=true
   rw [e];rfl
  ·show ((#[Value.int .u64 0,Value.int .u32 0]:Array Value)[j % 2]!).oneCell'=true
   rw [e];rfl
 have hst:=run_storeCells_cells (P:=Tryz.prog) g (k*2) (Builtin.zeroCells #[.int .u64 0,.int .u32 0] m).toList 0 w (fun j hj=>by
   rw [hlen] at hj
   have hc:=h.cell (i:=k+j / 2) (by omega)
   by_cases e:j % 2=0
   ·rw [show k*2+0+j=(k+j / 2)*2 by omega,hc.1];rfl
   ·rw [show k*2+0+j=(k+j / 2)*2+1 by omega,hc.2];rfl) (fun j _=>h.free _) hone
 simp only [Nat.add_zero] at hst
 obtain ⟨m',rfl⟩:∃ m',m=m'+1:=⟨m - 1,by omega⟩
 have hz:=Tryz.zeroValue129
 have hu:=run_underlying Tryz.underlying124
 simp [Builtin.clear_,hu,hz]
 rw [show (Value.agg #[Value.int .u64 0,Value.int .u32 0]).cells=#[.int .u64 0,.int .u32 0] from rfl,hst]
 rfl
end
section
open Go.RowKit Go.Lib
theorem enEqlT (a b:En) (w:World):(binOp .eql 129 (.agg #[.int .u64 (a.hash:Int),.int .u32 (a.at_:Int)]) (.agg #[.int .u64 (b.hash:Int),.int .u32 (b.at_:Int)])).run Tryz.prog w=.ok (.bool (decide (a=b))) w:=by
 by_cases h1:a.hash=b.hash
 ·by_cases h2:a.at_=b.at_
  ·have hd:decide (a=b)=true:=decide_eq_true (En.ext' h1 h2)
   rw [hd]
   simp [go_sem,h1,h2]
  ·have hd:decide (a=b)=false:=decide_eq_false (fun h=>h2 (by rw [h]))
   rw [hd]
   have e:((a.at_:Int) == (b.at_:Int))=false:=by rw [beq_eq_false_iff_ne];omega
   simp [go_sem,h1,e]
 ·have hd:decide (a=b)=false:=decide_eq_false (fun h=>h1 (by rw [h]))
  rw [hd]
  have e:((a.hash:Int) == (b.hash:Int))=false:=by rw [beq_eq_false_iff_ne];omega
  simp [go_sem,e]
theorem enNeqT (a b:En) (w:World):(binOp .neq 129 (.agg #[.int .u64 (a.hash:Int),.int .u32 (a.at_:Int)]) (.agg #[.int .u64 (b.hash:Int),.int .u32 (b.at_:Int)])).run Tryz.prog w=.ok (.bool (decide (a ≠ b))) w:=by
 by_cases h1:a.hash=b.hash
 ·by_cases h2:a.at_=b.at_
  ·have hd:decide (a ≠ b)=false:=decide_eq_false (fun h=>h (En.ext' h1 h2))
   rw [hd]
   simp [go_sem,h1,h2]
  ·have hd:decide (a ≠ b)=true:=decide_eq_true (fun h=>h2 (by rw [h]))
   rw [hd]
   have e:((a.at_:Int) == (b.at_:Int))=false:=by rw [beq_eq_false_iff_ne];omega
   simp [go_sem,h1,e]
 ·have hd:decide (a ≠ b)=true:=decide_eq_true (fun h=>h1 (by rw [h]))
  rw [hd]
  have e:((a.hash:Int) == (b.hash:Int))=false:=by rw [beq_eq_false_iff_ne];omega
  simp [go_sem,e]
theorem cellDrewN {w:World} {a:Addr} {v:Value} (h:w.cell? a=some v) (n:Nat):(w.drewN n).cell? a=some v:=h
def Compacted (A:Array En) (g d:Nat) (w:World) (e:Ending) (w':World):Prop :=
 ∃ m,m=(compactUpTo A A.size).length∧e=.returned (.slice (some ⟨g,0,none⟩) m d)∧RowF w' g d m (fun i=>(compactUpTo A A.size).getD i En.none)∧Keeps (Just g) w w'
theorem all_kept {A:Array En} (h:∀ j,j<A.size→keeps A j=true):compactUpTo A A.size=A.toList:=by
 rw [compactUpTo_all A _ h,range_map_get]
theorem getD_arr (A:Array En) (i:Nat) (hi:i<A.size):A.toList.getD i En.none=A[i]!:=by
 rw [List.getD_eq_getElem?_getD,Array.getElem?_toList,Array.getElem?_eq_getElem hi,getElem!_pos A i hi]
 rfl
theorem Compacted.all {A:Array En} {g d:Nat} {w w':World} (h:∀ j,j<A.size→keeps A j=true) (hr:RowF w' g d A.size (fun i=>A[i]!)) (hk:Keeps (Just g) w w'):Compacted A g d w (.returned (.slice (some ⟨g,0,none⟩) A.size d)) w':=by
 refine ⟨A.size,by rw [all_kept h];simp,rfl,?_,hk⟩
 rw [all_kept h]
 exact hr.congr (Nat.le_refl _) (fun i hi=>(getD_arr A i hi).symm)
set_option maxHeartbeats 4000000 in
set_option maxRecDepth 10000 in
theorem compact_own (g d n:Nat) (A:Array En) (hn:n=A.size) (w:World) (h:RowF w g d n (fun i=>A[i]!)) (_hd:d≤9223372036854775807) (hn9:n≤1000000) :
  Calls Tryz.prog 128 #[.slice (some ⟨g,0,none⟩) n d] w (Compacted A g d w):=by
 have hnd:n≤d:=h.le
 have HR:=hid h
 have HN:=hid hn
 clear h hn
 by_cases h2:n<2
 ·have h2d:decide ((n:Int)<2)=true:=decide_eq_true (by omega)
  have h2e:decide (n<2)=true:=decide_eq_true h2
  go_enter Tryz.func128,Tryz.ntmps128
  go_wp2_with fail
  go_ret
  have hn:=HN.out
  subst hn
  exact Compacted.all (fun j hj=>keeps_lt_one A j (by omega)) HR.out (Keeps.refl _ _)
 ·have h2d:decide ((n:Int)<2)=false:=decide_eq_false (by omega)
  have h2e:decide (n<2)=false:=decide_eq_false h2
  go_enter Tryz.func128,Tryz.ntmps128
  go_wp2_with fail
  go_loopw [3] (fun i wr=>∃ k:Nat,k+1≤n∧i=.int .i64 ((k+1:Nat):Int)∧Hid (∀ j,j<k+1→keeps A j=true)∧Hid (Keeps NoBlock w wr)) (fun i _=>n - (intOf i).toNat)
  case atStart=>exact ⟨0,by omega,rfl,hid (keeps_lt_one A),hid (Keeps.refl _ _)⟩
  case round =>
   obtain ⟨k,hk,rfl,HA,HK⟩:=hrel
   by_cases hlt:k+1<n
   ·have hdk:decide (((k+1:Nat):Int)<(n:Int))=true:=decide_eq_true (by omega)
    have hdk2:decide ((k:Int)+1<(n:Int))=true:=decide_eq_true (by omega)
    have hdk3:decide (k+1<n)=true:=decide_eq_true hlt
    have c0:=((HR.out.keep HK.out (fun h=>h)).cell hlt).1
    have c1:=((HR.out.keep HK.out (fun h=>h)).cell hlt).2
    have e0:=((HR.out.keep HK.out (fun h=>h)).cell (i:=k) (by omega)).1
    have e1:=((HR.out.keep HK.out (fun h=>h)).cell (i:=k) (by omega)).2
    have hne:=fun w=>enEqlT A[k+1]! A[k]! w
    obtain ⟨x,hx⟩:∃ x,x=A[k+1]!:=⟨_,rfl⟩
    obtain ⟨y,hy⟩:∃ y,y=A[k]!:=⟨_,rfl⟩
    simp only [← hx,← hy] at c0 c1 e0 e1 hne
    have HX:=hid hx
    have HY:=hid hy
    clear hx hy
    have hkn:(k:Int)<(n:Int):=by omega
    have hkn3:(k:Int)+1<(n:Int):=by omega
    have hk3:(0:Int)≤(k:Int)+1:=by omega
    have hk4:((k:Int)+1).toNat=k+1:=by omega
    have w1:IntKind.i64.wrap (k:Int)=(k:Int):=by rw [IntKind.wrap_i64];omega
    have hk0:(0:Int)≤(k:Int):=by omega
    by_cases hxy:x=y
    ·have HE:=hid hxy
     rw [decide_eq_true hxy] at hne
     clear hxy
     go_wp2_with fail
     go_quiet (fail)
     go_wp2_with fail
     obtain ⟨W,hW⟩:∃ W,W=wr.drewN nq:=⟨_,rfl⟩
     have HK1:Hid (Keeps NoBlock w W):=hid (by rw [hW];exact HK.out.drewN _)
     rw [← hW]
     clear hW
     have HKn:Hid (keeps A (k+1)=false):=hid (keeps_neg (by omega) (by rw [show k+1 - 1=k by omega,← HX.out,← HY.out];exact HE.out))
     have HI0:Hid (CompInv A (k+1+(0+1)) (k+1) A):=hid (CompInv.start HA.out HKn.out)
     obtain ⟨q,hq⟩:∃ q,q=k+1:=⟨_,rfl⟩
     obtain ⟨M,hM⟩:∃ M,M=n - q:=⟨_,rfl⟩
     obtain ⟨D,hD⟩:∃ D,D=d - q:=⟨_,rfl⟩
     rw [← hq] at hlt HI0
     simp only [← hq]
     rw [← hM,← hD]
     have hqM:q+M=n:=by omega
     have hqD:q+D=d:=by omega
     have HQM:=hid hqM
     have HQD:=hid hqD
     have HQ1:=hid (show 1≤M by omega)
     clear c0 c1 e0 e1 hne HX HY HE HKn HA hk hk0 w1 hk4 hk3 hkn3 hkn hdk hdk2 hdk3 hq hM hD hqM hqD hlt HK
     go_loopw [3,5] (fun s3 s5 wz=>∃ (kk k2:Nat) (dk:Array En),s3=.int .i64 (kk:Int)∧s5=.int .i64 ((k2+1:Nat):Int)∧k2+1≤M∧Hid (RowF wz g d n (fun i=>dk[i]!))∧Hid (CompInv A (q+(k2+1)) kk dk)∧Hid (Keeps (Just g) w wz)) (fun _ s5 _=>M - (intOf s5).toNat)
     case atStart=>exact ⟨q,0,A,rfl,rfl,HQ1.out,hid (HR.out.keep HK1.out (fun h=>h)),HI0,hid (HK1.out.wider (fun _ _ h=>h.elim))⟩
     case round =>
      obtain ⟨kk,k2,dk,rfl,rfl,hk2,HR2,HI,HK2⟩:=hrel
      have hM9:M≤1000000:=by have:=HQM.out;omega
      have hsz:=HI.out.size
      have hlt0:=HI.out.lt
      have hkn:kk<n:=by have:=HQM.out;omega
      by_cases hlt:k2+1<M
      ·have d1:decide (((k2+1:Nat):Int)<(M:Int))=true:=decide_eq_true (by omega)
       have d2:decide ((k2:Int)+1<(M:Int))=true:=decide_eq_true (by omega)
       have d3:decide (k2+1<M)=true:=decide_eq_true hlt
       have c:=HR2.out.cell (i:=q+(k2+1)) (by have:=HQM.out;omega)
       have e:=HR2.out.cell (i:=q+k2) (by have:=HQM.out;omega)
       have o:=HR2.out.cell (i:=kk) hkn
       have hne:=fun w=>enNeqT A[q+(k2+1)]! A[q+k2]! w
       rw [show (q+(k2+1))*2=q*2+(k2+1)*2 by omega,HI.out.high (q+(k2+1)) (by omega)] at c
       rw [show (q+k2)*2=q*2+k2*2 by omega,HI.out.high (q+k2) (by omega)] at e
       obtain ⟨x,hx⟩:∃ x,x=A[q+(k2+1)]!:=⟨_,rfl⟩
       obtain ⟨y,hy⟩:∃ y,y=A[q+k2]!:=⟨_,rfl⟩
       obtain ⟨v,hv⟩:∃ v,v=dk[kk]!:=⟨_,rfl⟩
       rw [← hx] at c hne
       rw [← hy] at e hne
       rw [← hv] at o
       have HX:=hid hx
       have HY:=hid hy
       obtain ⟨c0,c1⟩:=c
       obtain ⟨e0,e1⟩:=e
       obtain ⟨o0,o1⟩:=o
       clear hx hy hv
       have HKn:=hid hkn
       have HSz:=hid hsz
       clear hsz hlt0
       have b1:(k2:Int)<(M:Int):=by omega
       have b2:(k2:Int)+1<(M:Int):=by omega
       have b3:(0:Int)≤(k2:Int)+1:=by omega
       have b4:((k2:Int)+1).toNat=k2+1:=by omega
       have w1:IntKind.i64.wrap (k2:Int)=(k2:Int):=by rw [IntKind.wrap_i64];have:=HQM.out;omega
       have b5:(0:Int)≤(k2:Int):=by omega
       have b6:(kk:Int)<(n:Int):=by omega
       by_cases hxy:x=y
       ·have HE:=hid hxy
        rw [decide_eq_false (fun h=>h hxy)] at hne
        clear hxy o0 o1
        go_wp2_with fail
        go_quiet (fail)
        go_wp2_with fail
        go_roundw
        case rel =>
         refine ⟨kk,k2+1,dk,rfl,by go_num,by omega,hid (by first|exact HR2.out|exact HR2.out.drew),hid ?_,hid (by first|exact HK2.out.drewN _|exact HK2.out)⟩
         exact HI.out.skip (keeps_neg (by omega) (by rw [show q+(k2+1) - 1=q+k2 by omega,← HX.out,← HY.out];exact HE.out))
        case measure=>simp [intOf];omega
       ·have HE:=hid hxy
        rw [decide_eq_true hxy] at hne
        clear hxy
        go_wp2_with fail
        go_quiet (fail)
        obtain ⟨W2,hW2⟩:∃ W2,W2=wr.drewN nq:=⟨_,rfl⟩
        have HR3:Hid (RowF W2 g d n (fun i=>dk[i]!)):=hid (by rw [hW2];exact HR2.out)
        have HK3:Hid (Keeps (Just g) w W2):=hid (by rw [hW2];exact HK2.out.drewN _)
        have t0:=cellDrewN c0 nq
        have t1:=cellDrewN c1 nq
        have r0:=cellDrewN o0 nq
        have r1:=cellDrewN o1 nq
        rw [← hW2] at t0 t1 r0 r1 ⊢
        clear hW2 c0 c1 e0 e1 o0 o1
        have f0:=HR3.out.free (kk*2)
        have f1:=HR3.out.free (kk*2+1)
        have HRn:=hid (HR3.out.put HKn.out x)
        have HKx:=hid (keepsPut HK3.out (.inl (Just.self g)) (kk*2) (kk*2+1) (.int .u64 (x.hash:Int)) (.int .u32 (x.at_:Int)))
        go_wp2_with fail
        go_roundw
        case rel =>
         refine ⟨kk+1,k2+1,dk.setIfInBounds kk x,by go_num,by go_num,by omega,hid ?_,hid ?_,hid (by first|exact HKx.out|exact HKx.out.drew)⟩
         ·refine RowF.congr (by first|exact HRn.out|exact HRn.out.drew) (Nat.le_refl _) (fun i hi=>?_)
          have hkd:kk<dk.size:=by have:=HKn.out;have:=HSz.out;have:=HN.out;omega
          by_cases e:i=kk
          ·subst e
           rw [if_pos rfl,Go.Sort.getElem!_set_same dk i x hkd]
          ·rw [if_neg e,Go.Sort.getElem!_set_other dk kk i x e]
         ·have h:=HI.out.keep (by have:=HN.out;have:=HQM.out;omega) (keeps_pos (by rw [show q+(k2+1) - 1=q+k2 by omega,← HX.out,← HY.out];exact HE.out))
          rw [← HX.out] at h
          exact h
        case measure=>simp [intOf];omega
      ·have d1:decide (((k2+1:Nat):Int)<(M:Int))=false:=decide_eq_false (by omega)
       have d2:decide ((k2:Int)+1<(M:Int))=false:=decide_eq_false (by omega)
       have d3:decide (k2+1<M)=false:=decide_eq_false hlt
       have hall:q+(k2+1)=A.size:=by have:=HN.out;have:=HQM.out;omega
       have HI2:Hid (CompInv A A.size kk dk):=hid (by rw [← hall];exact HI.out)
       have hcl:=fun ty=>run_clear_ens HR2.out kk (n - kk) (d - kk) (by omega) (by omega) ty
       have HRc:=hid (HR2.out.setCells kk (by omega) (Builtin.zeroCells #[.int .u64 0,.int .u32 0] (n - kk)).toList)
       have HKc:=hid (setCells_keeps (g:=g) (.inl (Just.self g)) (Builtin.zeroCells #[.int .u64 0,.int .u32 0] (n - kk)).toList (kk*2) _ HK2.out)
       obtain ⟨V,hV⟩:∃ V,V=wr.setCells g (kk*2) (Builtin.zeroCells #[.int .u64 0,.int .u32 0] (n - kk)).toList:=⟨_,rfl⟩
       rw [← hV] at HRc HKc
       simp only [← hV] at hcl
       have b6:(kk:Int)≤(n:Int):=by omega
       have b7:kk≤n:=by omega
       have b8:kk≤d:=by omega
       have b9:(kk:Int)≤(d:Int):=by omega
       clear hV hall hsz hlt0 HI
       go_wp2_with fail
       go_ret
       refine ⟨kk,HI2.out.len.symm,rfl,?_,HKc.out⟩
       refine HRc.out.congr (Nat.le_refl _) (fun i hi=>?_)
       rw [List.getD_eq_getElem?_getD,HI2.out.low i hi]
       rfl
    ·have HE:=hid hxy
     rw [decide_eq_false hxy] at hne
     clear hxy
     go_wp2_with fail
     go_quiet (fail)
     go_wp2_with fail
     go_roundw
     case rel =>
      refine ⟨k+1,by omega,by go_num,hid (fun j hj=>?_),hid (by first|exact HK.out.drewN _|exact HK.out)⟩
      by_cases e:j=k+1
      ·subst e
       exact keeps_pos (by rw [show k+1 - 1=k by omega,← HX.out,← HY.out];exact HE.out)
      ·exact HA.out j (by omega)
     case measure=>simp [intOf];omega
   ·have hdk:decide (((k+1:Nat):Int)<(n:Int))=false:=decide_eq_false (by omega)
    have hdk2:decide ((k:Int)+1<(n:Int))=false:=decide_eq_false (by omega)
    have hdk3:decide (k+1<n)=false:=decide_eq_false hlt
    go_wp2_with fail
    go_ret
    have hn:=HN.out
    subst hn
    exact Compacted.all (fun j hj=>HA.out j (by omega)) (HR.out.keep HK.out (fun h=>h)) (HK.out.wider (fun _ _ h=>h.elim))
end
end Go.Proofs.YtehkjkcnigknkaaGreat

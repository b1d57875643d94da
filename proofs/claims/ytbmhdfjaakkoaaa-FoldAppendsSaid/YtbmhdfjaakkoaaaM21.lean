/-
  FoStabN; FoInsLay; FoStab; FoSortN; RowR.
-/
import Derived.Test.YtbmhdfjaakkoaaaProg
import Derived.Shelf.SlSortCmp.InsertionK
import Derived.OwnWalk
import Derived.Lib.Hide
import Derived.Test.YtbmhdfjaakkoaaaM04
import Derived.Test.YtbmhdfjaakkoaaaM15
import Derived.Test.YtbmhdfjaakkoaaaM20
namespace Go.Proofs.Ytbmhdfjaakkoaaa
open Lib (hid)
section
open Go.Sort
theorem insInner_perm (lt:Tg→Tg→Bool) (a:Nat):∀ (j:Nat) (d:Array Tg),a≤j→j<d.size→PermIn a (j+1) d (insInner lt a j d)
 | 0,d,_,_=>by
  unfold insInner
  exact permIn_refl _ _ _
 | j+1,d,ha,hj=>by
  unfold insInner
  split
  ·rename_i hc
   simp only [Bool.and_eq_true,decide_eq_true_eq] at hc
   have h1:=insInner_perm lt a j (swp d (j+1) j) (by omega) (by rw [size_swp];omega)
   exact permIn_trans _ _ _ _ _ (swp_permIn d a (j+1+1) (j+1) j ha (by omega) (by omega) (by omega) (by omega)) (permIn_mono _ _ _ _ _ _ (Nat.le_refl _) (by omega) (by rw [size_swp];omega) h1)
  ·exact permIn_refl _ _ _
theorem insInner_same (a:Nat):∀ (j:Nat) (d:Array Tg),j<d.size→(∀ i,a≤i→i<j→d[i]!.t<d[j]!.t)→insInner (ltOf cmpT) a j d=insInner ltT a j d
 | 0,d,_,_=>rfl
 | j+1,d,hj,ht=>by
  unfold insInner
  by_cases ha:j+1 > a
  ·have e:ltOf cmpT d[j+1]! d[j]! = ltT d[j+1]! d[j]!:=by
    have h:=cmp_later (ht j (by omega) (by omega))
    unfold ltOf
    by_cases hc:cmpT d[j+1]! d[j]!<0
    ·rw [decide_eq_true hc,h.1 hc]
    ·rw [decide_eq_false hc]
     exact (Bool.eq_false_iff.2 (fun h2=>hc (h.2 h2))).symm
   rw [e,insInner_same a j (swp d (j+1) j) (by rw [size_swp];omega) (fun i h1 h2=>by
    rw [swp_right d (j+1) j (by omega),swp_other d (j+1) j i (by omega) (by omega)]
    exact ht i h1 (by omega))]
  ·have e:decide (j+1 > a)=false:=decide_eq_false ha
   rw [e]
   rfl
theorem insOuter_same (a b:Nat):∀ (n i:Nat) (d:Array Tg),b - i=n→a<i→b≤d.size→(∀ p q,a≤p→p<i→i≤q→q<b→d[p]!.t<d[q]!.t)→(∀ p q,i≤p→p<q→q<b→d[p]!.t<d[q]!.t)→insOuter (ltOf cmpT) a b i d=insOuter ltT a b i d
 | 0,i,d,hn,_,_,_,_=>by
  rw [insOuter,if_neg (by omega),insOuter,if_neg (by omega)]
 | n+1,i,d,hn,ha,hb,h1,h2=>by
  have hlt:i<b:=by omega
  rw [insOuter.eq_1 (ltOf cmpT) a b i d,if_pos hlt,insOuter.eq_1 ltT a b i d,if_pos hlt,insInner_same a i d (by omega) (fun p hp hpi=>h1 p i hp hpi (Nat.le_refl _) hlt)]
  have hP:=insInner_perm ltT a i d (by omega) (by omega)
  have hv:∀ q,i+1≤q→(insInner ltT a i d)[q]! = d[q]!:=fun q hq=>hP.2.1 q (.inr hq)
  refine insOuter_same a b n (i+1) _ (by omega) (by omega) (by rw [hP.1];exact hb) (fun p q hp hpi hq hqb=>?_) (fun p q hp hpq hq=>?_)
  ·rw [hv q hq]
   exact permIn_all d _ a (i+1) (fun x=>x.t<d[q]!.t) (by omega) hP (fun k hk hki=>by
    by_cases e:k=i
    ·rw [e];exact h2 i q (Nat.le_refl _) (by omega) hqb
    ·exact h1 k q hk (by omega) (by omega) hqb) p hp hpi
  ·rw [hv q (by omega),hv p hp]
   exact h2 p q (by omega) hpq hq
theorem ins_part {d:Array Tg} {a b:Nat} (hab:a≤b) (hb:b≤d.size) (ht:∀ p q,a≤p→p<q→q<b→d[p]!.t<d[q]!.t) :
  PermIn a b d (insertionSort (ltOf cmpT) d a b)∧RunT (insertionSort (ltOf cmpT) d a b) a b:=by
 have e:insertionSort (ltOf cmpT) d a b=insertionSort ltT d a b:=by
  unfold insertionSort
  exact insOuter_same a b _ _ d rfl (by omega) hb (fun p q h1 h2 h3 h4=>ht p q h1 (by omega) h4) (fun p q h1 h2 h3=>ht p q (by omega) h2 h3)
 rw [e]
 exact insertionSort_holds swoT d a b hab hb
structure Lv (d:Array Tg) (bs N:Nat):Prop where
 srt:∀ i j,i<j→j<N→i / bs=j / bs→ltT d[j]! d[i]! = false
 tag:∀ i,i<N→d[i]!.t / bs=i / bs
structure Md (d:Array Tg) (bs N a:Nat):Prop where
 done:∀ i j,i<j→j<a→i / (2*bs)=j / (2*bs)→ltT d[j]! d[i]! = false
 rest:∀ i j,a≤i→i<j→j<N→i / bs=j / bs→ltT d[j]! d[i]! = false
 tag2:∀ i,i<N→d[i]!.t / (2*bs)=i / (2*bs)
 tag1:∀ i,a≤i→i<N→d[i]!.t / bs=i / bs
theorem div_two (t bs:Nat):t / (2*bs)=t / bs / 2:=by rw [Nat.div_div_eq_div_mul,Nat.mul_comm 2 bs]
theorem Md.start {d:Array Tg} {bs N:Nat} (h:Lv d bs N):Md d bs N 0 :=
 ⟨fun i j _ h2=>by omega,fun i j _ h2 h3=>h.srt i j h2 h3,fun i hi=>by rw [div_two,div_two,h.tag i hi],fun i _ hi=>h.tag i hi⟩
theorem div_at {x bs q i:Nat} (hx:x=bs*q) (h1:x≤i) (h2:i<x+bs):i / bs=q:=by
 refine Nat.div_eq_of_lt_le ?_ ?_
 ·rw [Nat.mul_comm];omega
 ·rw [Nat.mul_comm,Nat.mul_add,Nat.mul_one];omega
theorem Md.runs {d:Array Tg} {bs N q x b:Nat} (h:Md d bs N (2*x)) (hx:x=bs*q) (hb:b≤N) (hb2:b≤2*x+2*bs) (hm:2*x+bs<b):RunT d (2*x) (2*x+bs)∧RunT d (2*x+bs) b∧TagsT d (2*x) (2*x+bs) b:=by
 have hx2:2*x=bs*(2*q):=by rw [hx,Nat.mul_left_comm]
 have hx3:2*x+bs=bs*(2*q+1):=by rw [Nat.mul_add,Nat.mul_one,← hx2]
 refine ⟨fun i j h1 h2 h3=>h.rest i j h1 h2 (by omega) ?_,fun i j h1 h2 h3=>h.rest i j (by omega) h2 (by omega) ?_,fun i j h1 h2 h3 h4=>?_⟩
 ·rw [div_at hx2 h1 (by omega),div_at hx2 (by omega) h3]
 ·rw [div_at hx3 h1 (by omega),div_at hx3 (by omega) (by omega)]
 ·have e1:=h.tag1 i h1 (by omega)
  have e2:=h.tag1 j (by omega) (by omega)
  rw [div_at hx2 h1 h2] at e1
  rw [div_at hx3 h3 (by omega)] at e2
  by_cases hc:d[i]!.t<d[j]!.t
  ·exact hc
  ·have:=Nat.div_le_div_right (c:=bs) (Nat.le_of_not_lt hc)
   omega
theorem Md.single {d:Array Tg} {bs N q x:Nat} (h:Md d bs N (2*x)) (hx:x=bs*q) (hN:N≤2*x+bs):RunT d (2*x) N:=fun i j h1 h2 h3=>by
 have hx2:2*x=bs*(2*q):=by rw [hx,Nat.mul_left_comm]
 exact h.rest i j h1 h2 h3 (by rw [div_at hx2 h1 (by omega),div_at hx2 (by omega) (by omega)])
theorem Md.next {d d':Array Tg} {bs N q x b:Nat} (h:Md d bs N (2*x)) (hx:x=bs*q) (hb:b≤N) (hb2:b≤2*x+2*bs) (hab:2*x≤b) (hs:N≤d.size) (hP:PermIn (2*x) b d d') (hR:RunT d' (2*x) b):Md d' bs N b:=by
 have hx4:2*x=(2*bs)*q:=by rw [hx,Nat.mul_assoc]
 have v1:∀ i,i<2*x→d'[i]! = d[i]!:=fun i hi=>hP.2.1 i (.inl hi)
 have v2:∀ i,b≤i→d'[i]! = d[i]!:=fun i hi=>hP.2.1 i (.inr hi)
 refine ⟨fun i j h1 h2 h3=>?_,fun i j h1 h2 h3 h4=>?_,fun i hi=>?_,fun i h1 h2=>?_⟩
 ·by_cases c1:j<2*x
  ·rw [v1 i (by omega),v1 j c1];exact h.done i j h1 c1 h3
  ·by_cases c2:2*x≤i
   ·exact hR i j c2 h1 h2
   ·rw [div_at hx4 (by omega:2*x≤j) (by omega)] at h3
    have:i / (2*bs)<q:=Nat.div_lt_of_lt_mul (by rw [← hx4];omega)
    omega
 ·rw [v2 i h1,v2 j (by omega)];exact h.rest i j (by omega) h2 h3 h4
 ·by_cases c1:i<2*x
  ·rw [v1 i c1];exact h.tag2 i hi
  ·by_cases c2:i<b
   ·rw [div_at hx4 (by omega:2*x≤i) (by omega)]
    exact tags_perm (d:=d) (by omega) hP (fun t=>t / (2*bs)=q) (fun k h1 h2=>by rw [h.tag2 k (by omega),div_at hx4 h1 (by omega)]) i (by omega) c2
   ·rw [v2 i (by omega)];exact h.tag2 i hi
 ·rw [v2 i h1];exact h.tag1 i (by omega) h2
theorem Md.end {d:Array Tg} {bs N:Nat} (h:Md d bs N N):Lv d (2*bs) N:=⟨fun i j h1 h2 h3=>h.done i j h1 h2 h3,h.tag2⟩
theorem Lv.all {d:Array Tg} {bs N:Nat} (h:Lv d bs N) (hN:N≤bs):RunT d 0 N:=fun i j _ h2 h3=>h.srt i j h2 h3 (by rw [Nat.div_eq_of_lt (by omega),Nat.div_eq_of_lt (by omega)])
structure In20 (d0 d:Array Tg) (N a:Nat):Prop where
 perm:PermIn 0 N d0 d
 srt:∀ i j,i<j→j<a→i / 20=j / 20→ltT d[j]! d[i]! = false
 tag:∀ i,i<N→d[i]!.t / 20=i / 20
 rest:∀ i,a≤i→d[i]! = d0[i]!
theorem In20.start {d0:Array Tg} {N:Nat} (ht:∀ i,i<N→d0[i]!.t=i):In20 d0 d0 N 0:=⟨permIn_refl _ _ _,fun i j _ h2=>by omega,fun i hi=>by rw [ht i hi],fun _ _=>rfl⟩
theorem In20.next {d0 d:Array Tg} {N a b q:Nat} (ht:∀ i,i<N→d0[i]!.t=i) (h:In20 d0 d N a) (ha:a=20*q) (hab:a≤b) (hb:b≤N) (hb2:b≤a+20) (hs:N≤d0.size):In20 d0 (insertionSort (ltOf cmpT) d a b) N b:=by
 have hsz:d.size=d0.size:=h.perm.1
 obtain ⟨hP,hR⟩:=ins_part (d:=d) hab (by omega) (fun p q h1 h2 h3=>by rw [h.rest p h1,h.rest q (by omega),ht p (by omega),ht q (by omega)];exact h2)
 have v1:∀ i,i<a→(insertionSort (ltOf cmpT) d a b)[i]! = d[i]!:=fun i hi=>hP.2.1 i (.inl hi)
 have v2:∀ i,b≤i→(insertionSort (ltOf cmpT) d a b)[i]! = d[i]!:=fun i hi=>hP.2.1 i (.inr hi)
 refine ⟨permIn_trans _ _ _ _ _ h.perm (permIn_mono _ _ _ _ _ _ (Nat.zero_le _) hb (by omega) hP),fun i j h1 h2 h3=>?_,fun i hi=>?_,fun i hi=>by rw [v2 i hi];exact h.rest i (by omega)⟩
 ·by_cases c1:j<a
  ·rw [v1 i (by omega),v1 j c1];exact h.srt i j h1 c1 h3
  ·by_cases c2:a≤i
   ·exact hR i j c2 h1 h2
   ·omega
 ·by_cases c1:i<a
  ·rw [v1 i c1];exact h.tag i hi
  ·by_cases c2:i<b
   ·have:=tags_perm (d:=d) (by omega) hP (fun t=>t / 20=q) (fun k h1 h2=>by rw [h.tag k (by omega)];omega) i (by omega) c2
    omega
   ·rw [v2 i (by omega)];exact h.tag i hi
theorem In20.end {d0 d:Array Tg} {N:Nat} (h:In20 d0 d N N):Lv d 20 N:=⟨fun i j h1 h2 h3=>h.srt i j h1 h2 h3,h.tag⟩
end
section
open Go.Shelf Go.RowKit Go.Lib Go.Sort
def insLay_ren:Go.Shelf.Ren:=⟨fun|20=>43|n=>n,fun|24=>30|22=>22|3=>3|25=>52|4=>4|0=>0|n=>n,fun|n=>n⟩
theorem insLay:SlLaysF0.n20 Try.prog insLay_ren:={
 mixed:=by kernel_rfl
 f20:=⟨Try.f43.name,by decide,Try.func43.trans (congrArg some (by kernel_rfl))⟩
 t0:=Try.underlying0
 a0:=Try.isAgg0
 z0:=Try.sizeOf0
 v0:=Try.zeroValue0
 t3:=Try.underlying3
 a3:=Try.isAgg3
 z3:=Try.sizeOf3
 v3:=Try.zeroValue3
 t4:=Try.underlying4
 a4:=Try.isAgg4
 z4:=Try.sizeOf4
 v4:=Try.zeroValue4
 t22:=Try.underlying22
 a22:=Try.isAgg22
 z22:=Try.sizeOf22
 v22:=Try.zeroValue22
 t25:=Try.underlying52
 a25:=Try.isAgg52
 z25:=Try.sizeOf52
 v25:=Try.zeroValue52 }
end
section
open Go.RowKit Go.Lib Go.Sort Go.Shelf
theorem ins_own (cap N:Nat) (w0:World) (g:Nat) (d0:Array Tg) (R:RowK encT 4 w0 g 0 d0) (hN:N=d0.size) (hN9:N≤100000) (a b:Nat) (dk:Array Tg) (hs:dk.size=d0.size) (hab:a≤b) (hb:b≤N) (W:World) (hW:SWK encT 4 w0 g 0 dk W) :
  Calls Try.prog 43 #[.slice (some ⟨g,0,none⟩) N cap,.int .i64 (a:Int),.int .i64 (b:Int),bySeqV] W fun e w' =>
   e=.returned (.tuple #[])∧SWK encT 4 w0 g 0 (insertionSort (ltOf cmpT) dk a b) w':=by
 have eg:∀ args w,(callFunc 29 args).run Try.prog w=.ok (.enter 29 args) w:=enters_of Try.func29 (by kernel_rfl) rfl
 have hcon:=AnyQ.insertionSortCmpFunc insLay 4 Try.isAgg30 Try.sizeOf30 encT encT_len encT_one cmpT 29 #[] g 0 cap a b dk W eg (cmpLaysT g 0 dk.size W) (hW.holds R.hblk R.hH hs) (hW.lt R.hblk) hab (by omega) (by omega)
 rw [show dk.size=N by omega] at hcon
 refine Calls.mono hcon ?_
 rintro e w' ⟨rfl,n,os,rfl⟩
 refine ⟨rfl,hW.on R.hblk n _ os ?_⟩
 have hsz:∀ (lt:Tg→Tg→Bool) (n i:Nat) (d:Array Tg),b - i=n→a<i→b≤d.size→(insOuter lt a b i d).size=d.size:=by
  intro lt n
  induction n with
  | zero=>intro i d h1 h2 h3;rw [insOuter,if_neg (by omega)]
  | succ n ih =>
   intro i d h1 h2 h3
   have hp:=insInner_perm lt a i d (by omega) (by omega)
   rw [insOuter,if_pos (by omega),ih (i+1) _ (by omega) (by omega) (by rw [hp.1];exact h3),hp.1]
 exact hsz _ _ _ _ rfl (by omega) (by omega)
set_option maxHeartbeats 4000000 in
set_option maxRecDepth 100000 in
theorem stable_own (cap N:Nat) (w0:World) (g:Nat) (d0:Array Tg) (R:RowK encT 4 w0 g 0 d0) (hN:N=d0.size) (hN9:N≤100000) (ht:∀ i,i<N→d0[i]!.t=i) :
  Calls Try.prog 38 #[.slice (some ⟨g,0,none⟩) N cap,.int .i64 (N:Int),bySeqV] w0 (Merged4 w0 g 0 N d0):=by
 have HIns:=hid (fun a b dk hs hab hb W hW=>ins_own cap N w0 g d0 R hN hN9 a b dk hs hab hb W hW)
 have HSym:=hid (fun a m b dk W hL hs ham hmb hb h1 h2 hT hW=>sym_own cap N w0 g d0 R hN hN9 (N+1) a m b dk W hL hs ham hmb hb h1 h2 hT hW)
 have HW0:=hid (SWK.start R.hH)
 have HN:=hid hN
 have HT:=hid ht
 clear R hN ht
 go_enter Try.func38,Try.ntmps38
 go_wp2_with fail
 go_loopw [7,8] (fun u v wr=>∃ (q a b:Nat) (d:Array Tg),u=.int .i64 (a:Int)∧v=.int .i64 (b:Int)∧a≤20*q∧20*q≤a∧b≤a+20∧a+20≤b∧a≤N∧Hid (In20 d0 d N a)∧Hid (SWK encT 4 w0 g 0 d wr)) (fun u _ _=>N - (intOf u).toNat)
 case atStart=>exact ⟨0,0,20,d0,rfl,rfl,by omega,by omega,by omega,by omega,by omega,hid (In20.start HT.out),HW0⟩
 case round =>
  obtain ⟨q,a,b,d,rfl,rfl,ha1,ha2,hb1,hb2,haN,HI,HSW⟩:=hrel
  have HD:=hid (show d.size=d0.size from HI.out.perm.1)
  by_cases hlt:b≤N
  ·have hd:decide ((b:Int)≤(N:Int))=true:=decide_eq_true (by omega)
   have HC:=hid (HIns.out a b d HD.out (by omega) hlt _ HSW.out)
   have HI2:=hid (HI.out.next HT.out (show a=20*q by omega) (by omega) hlt hb1 (by rw [← HN.out];exact Nat.le_refl _))
   obtain ⟨c,hc1,hc2⟩:∃ c,c≤b+20∧b+20≤c:=⟨b+20,by omega,by omega⟩
   have w1:IntKind.i64.wrap ((b:Int)+20)=(c:Int):=by rw [IntKind.wrap_i64];omega
   clear HIns HSym
   go_wp2_with fail
   refine HC.out.mono ?_
   rintro e w1 ⟨rfl,hsw⟩
   have HS2:=hid hsw
   clear hsw HC
   go_wp2_with fail
   exact ⟨⟨q+1,b,c,_,rfl,rfl,by omega,by omega,by omega,by omega,hlt,HI2,HS2⟩,by simp [intOf];omega⟩
  ·have hd:decide ((b:Int)≤(N:Int))=false:=decide_eq_false (by omega)
   have HC:=hid (HIns.out a N d HD.out haN (Nat.le_refl _) _ HSW.out)
   have HI2:=hid (HI.out.next HT.out (show a=20*q by omega) haN (Nat.le_refl _) (by omega) (by rw [← HN.out];exact Nat.le_refl _))
   clear HIns HI
   go_wp2_with fail
   refine HC.out.mono ?_
   rintro e w1 ⟨rfl,hsw⟩
   have HS2:=hid hsw
   clear hsw HC
   go_wp2_with fail
   go_loopw [6] (fun u wr=>∃ (bs:Nat) (d:Array Tg),u=.int .i64 (bs:Int)∧20≤bs∧bs≤2*N+20∧Hid (PermIn 0 N d0 d)∧Hid (Lv d bs N)∧Hid (SWK encT 4 w0 g 0 d wr)) (fun u _=>2*N+20 - (intOf u).toNat)
   case atStart=>exact ⟨20,_,rfl,Nat.le_refl _,by omega,hid HI2.out.perm,hid HI2.out.end,HS2⟩
   case round =>
    obtain ⟨bs,d1,rfl,hbs,hbs9,HP,HL,HSW1⟩:=hrel
    by_cases hlt1:bs<N
    ·have hd1:decide ((bs:Int)<(N:Int))=true:=decide_eq_true (by omega)
     obtain ⟨B,hB1,hB2⟩:∃ B,B≤2*bs∧2*bs≤B:=⟨2*bs,by omega,by omega⟩
     have w2:IntKind.i64.wrap (2*(bs:Int))=(B:Int):=by rw [IntKind.wrap_i64];omega
     have w3:IntKind.i64.wrap ((bs:Int)*2)=(B:Int):=by rw [IntKind.wrap_i64];omega
     go_wp2_with fail
     go_loopw [7,8] (fun u v wr=>∃ (q x a b:Nat) (d:Array Tg),u=.int .i64 (a:Int)∧v=.int .i64 (b:Int)∧a≤2*x∧2*x≤a∧b≤a+B∧a+B≤b∧a≤N∧Hid (x=bs*q)∧Hid (PermIn 0 N d0 d)∧Hid (Md d bs N (2*x))∧Hid (SWK encT 4 w0 g 0 d wr)) (fun u _ _=>N - (intOf u).toNat)
     case atStart=>exact ⟨0,0,0,B,d1,rfl,rfl,by omega,by omega,by omega,by omega,by omega,hid (by simp),HP,hid (Md.start HL.out),HSW1⟩
     case round =>
      obtain ⟨q,x,a,b,d2,rfl,rfl,ha1,ha2,hb1,hb2,haN,HX,HP2,HM,HSW2⟩:=hrel
      have HD2:=hid (show d2.size=d0.size from HP2.out.1)
      have HN2:=hid (show N≤d2.size by rw [HD2.out,← HN.out];exact Nat.le_refl _)
      obtain ⟨m,hm1,hm2⟩:∃ m,m≤a+bs∧a+bs≤m:=⟨a+bs,by omega,by omega⟩
      have w4:IntKind.i64.wrap ((a:Int)+(bs:Int))=(m:Int):=by rw [IntKind.wrap_i64];omega
      have hax:2*x=a:=by omega
      by_cases hlt2:b≤N
      ·as_aux_lemma =>
       have hd2:decide ((b:Int)≤(N:Int))=true:=decide_eq_true (by omega)
       obtain ⟨c,hc1,hc2⟩:∃ c,c≤b+B∧b+B≤c:=⟨b+B,by omega,by omega⟩
       have w5:IntKind.i64.wrap ((b:Int)+(B:Int))=(c:Int):=by rw [IntKind.wrap_i64];omega
       obtain ⟨h1,h2,h3⟩:=HM.out.runs HX.out hlt2 (by omega) (by omega)
       rw [show 2*x+bs=m by omega,hax] at h1 h3
       rw [show 2*x+bs=m by omega] at h2
       have HC:=hid (HSym.out a m b d2 _ (by omega) HD2.out (by omega) (by omega) hlt2 h1 h2 h3 HSW2.out)
       have HNx:=hid (fun (d':Array Tg) (hP:PermIn a b d2 d') (hR:RunT d' a b)=>show Md d' bs N b from HM.out.next HX.out hlt2 (by omega) (by omega) HN2.out (by rw [hax];exact hP) (by rw [hax];exact hR))
       clear h1 h2 h3 HSym hax
       go_wp2_with fail
       refine HC.out.mono ?_
       rintro e w1 ⟨rfl,d',h4,h5,h6⟩
       have HQ:=hid (show PermIn 0 N d0 d'∧Md d' bs N b∧SWK encT 4 w0 g 0 d' w1 from ⟨permIn_trans _ _ _ _ _ HP2.out (permIn_mono _ _ _ _ _ _ (Nat.zero_le _) hlt2 HN2.out h4),HNx.out d' h4 h5,h6⟩)
       clear h4 h5 h6 HC HNx
       go_wp2_with fail
       exact ⟨⟨q+1,x+bs,b,c,d',rfl,rfl,by omega,by omega,by omega,by omega,hlt2,hid (by rw [HX.out,Nat.mul_add,Nat.mul_one]),hid HQ.out.1,hid (by rw [show 2*(x+bs)=b by omega];exact HQ.out.2.1),hid HQ.out.2.2⟩,by simp [intOf];omega⟩
      ·as_aux_lemma =>
       have hd2:decide ((b:Int)≤(N:Int))=false:=decide_eq_false (by omega)
       by_cases hlt3:m<N
       ·have hd3:decide ((m:Int)<(N:Int))=true:=decide_eq_true (by omega)
        obtain ⟨h1,h2,h3⟩:=HM.out.runs (b:=N) HX.out (Nat.le_refl _) (by omega) (by omega)
        rw [show 2*x+bs=m by omega,hax] at h1 h3
        rw [show 2*x+bs=m by omega] at h2
        have HC:=hid (HSym.out a m N d2 _ (by omega) HD2.out (by omega) hlt3 (Nat.le_refl _) h1 h2 h3 HSW2.out)
        have HNx:=hid (fun (d':Array Tg) (hP:PermIn a N d2 d') (hR:RunT d' a N)=>show Lv d' (2*bs) N from (HM.out.next HX.out (Nat.le_refl _) (by omega) (by omega) HN2.out (by rw [hax];exact hP) (by rw [hax];exact hR)).end)
        clear h1 h2 h3 HSym hax
        go_wp2_with fail
        refine HC.out.mono ?_
        rintro e w1 ⟨rfl,d',h4,h5,h6⟩
        have HQ:=hid (show PermIn 0 N d0 d'∧Lv d' (2*bs) N∧SWK encT 4 w0 g 0 d' w1 from ⟨permIn_trans _ _ _ _ _ HP2.out (permIn_mono _ _ _ _ _ _ (Nat.zero_le _) (Nat.le_refl _) HN2.out h4),HNx.out d' h4 h5,h6⟩)
        clear h4 h5 h6 HC HNx
        go_wp2_with fail
        exact ⟨⟨B,d',rfl,by omega,by omega,hid HQ.out.1,hid (by rw [show B=2*bs by omega];exact HQ.out.2.1),hid HQ.out.2.2⟩,by simp [intOf];omega⟩
       ·have hd3:decide ((m:Int)<(N:Int))=false:=decide_eq_false (by omega)
        have h1:=HM.out.single HX.out (by omega)
        have HQ:=hid (HM.out.next HX.out (Nat.le_refl _) (by omega) (by omega) HN2.out (permIn_refl _ _ _) h1).end
        clear h1 HSym hax
        go_wp2_with fail
        exact ⟨⟨B,d2,rfl,by omega,by omega,HP2,hid (by rw [show B=2*bs by omega];exact HQ.out),HSW2⟩,by simp [intOf];omega⟩
    ·have hd1:decide ((bs:Int)<(N:Int))=false:=decide_eq_false (by omega)
     go_wp2_with fail
     go_end0
     exact ⟨rfl,d1,HP.out,HL.out.all (by omega),HSW1.out⟩
end
section
open Go.Sort
def insR (r:Rec):List Rec→List Rec
 | []=>[r]
 | x :: O=>if x.seq=r.seq then x :: O else if r.seq<x.seq then r :: x :: O else x :: insR r O
theorem seq_done (r:Rec):∀ (O P:List Rec),O.foldl (seqStep r) (true,P)=(true,P ++ O)
 | [],P=>by simp
 | x :: O,P=>by
  rw [List.foldl_cons]
  have e:seqStep r (true,P) x=(true,P ++ [x]):=by simp [seqStep]
  rw [e,seq_done r O,List.append_assoc]
  rfl
theorem seq_go (r:Rec):∀ (O P:List Rec),insEnd r (O.foldl (seqStep r) (false,P))=P ++ insR r O
 | [],P=>by simp [insEnd,insR]
 | x :: O,P=>by
  rw [List.foldl_cons]
  unfold insR
  by_cases h1:x.seq=r.seq
  ·have e:seqStep r (false,P) x=(true,P ++ [x]):=by simp [seqStep,h1]
   rw [e,seq_done,if_pos h1]
   simp [insEnd]
  ·rw [if_neg h1]
   by_cases h2:r.seq<x.seq
   ·have e:seqStep r (false,P) x=(true,P ++ [r] ++ [x]):=by simp [seqStep,h1,h2]
    rw [e,seq_done,if_pos h2]
    simp [insEnd]
   ·have e:seqStep r (false,P) x=(false,P ++ [x]):=by simp [seqStep,h1,h2]
    rw [e,seq_go r O,if_neg h2,List.append_assoc]
    rfl
theorem insS_eq (O:List Rec) (r:Rec):insS O r=insR r O:=by
 unfold insS
 rw [seq_go,List.nil_append]
abbrev RiseS (O:List Rec):Prop:=O.Pairwise fun a b=>a.seq<b.seq
theorem insR_mem (r:Rec):∀ {O:List Rec},RiseS O→∀ y,y ∈ insR r O ↔ y ∈ O ∨ (y=r∧∀ x ∈ O,x.seq ≠ r.seq)
 | [],_,y=>by simp [insR]
 | x :: O,h,y=>by
  obtain ⟨h1,h2⟩:=List.pairwise_cons.1 h
  unfold insR
  by_cases c1:x.seq=r.seq
  ·rw [if_pos c1]
   constructor
   ·intro hy;exact .inl hy
   ·rintro (hy|⟨rfl,hy⟩)
    ·exact hy
    ·exact absurd c1 (hy x (by simp))
  ·rw [if_neg c1]
   by_cases c2:r.seq<x.seq
   ·rw [if_pos c2,List.mem_cons]
    constructor
    ·rintro (rfl|hy)
     ·refine .inr ⟨rfl,fun z hz=>?_⟩
      rcases List.mem_cons.1 hz with rfl|hz
      ·omega
      ·have:=h1 z hz;omega
     ·exact .inl hy
    ·rintro (hy|⟨rfl,_⟩)
     ·exact .inr hy
     ·exact .inl rfl
   ·rw [if_neg c2,List.mem_cons,insR_mem r h2,List.mem_cons]
    constructor
    ·rintro (rfl|hy|⟨rfl,hy⟩)
     ·exact .inl (.inl rfl)
     ·exact .inl (.inr hy)
     ·refine .inr ⟨rfl,fun z hz=>?_⟩
      rcases List.mem_cons.1 hz with rfl|hz
      ·exact c1
      ·exact hy z hz
    ·rintro ((rfl|hy)|⟨rfl,hy⟩)
     ·exact .inl rfl
     ·exact .inr (.inl hy)
     ·exact .inr (.inr ⟨rfl,fun z hz=>hy z (List.mem_cons_of_mem _ hz)⟩)
theorem insR_rise (r:Rec):∀ {O:List Rec},RiseS O→RiseS (insR r O)
 | [],_=>by simp [insR]
 | x :: O,h=>by
  obtain ⟨h1,h2⟩:=List.pairwise_cons.1 h
  unfold insR
  by_cases c1:x.seq=r.seq
  ·rw [if_pos c1];exact h
  ·rw [if_neg c1]
   by_cases c2:r.seq<x.seq
   ·rw [if_pos c2]
    refine List.pairwise_cons.2 ⟨fun z hz=>?_,h⟩
    rcases List.mem_cons.1 hz with rfl|hz
    ·exact c2
    ·have:=h1 z hz;omega
   ·rw [if_neg c2]
    refine List.pairwise_cons.2 ⟨fun z hz=>?_,insR_rise r h2⟩
    rcases (insR_mem r h2 z).1 hz with hz|⟨rfl,_⟩
    ·exact h1 z hz
    ·omega
def FirstS (l:List Rec) (y:Rec):Prop:=∃ i,i<l.length∧l.getD i Rec.none=y∧∀ j,j<i→(l.getD j Rec.none).seq ≠ y.seq
theorem getD_app_left {l:List Rec} {r:Rec} {j:Nat} (h:j<l.length):(l ++ [r]).getD j Rec.none=l.getD j Rec.none:=by
 rw [List.getD_eq_getElem?_getD,List.getD_eq_getElem?_getD,List.getElem?_append_left h]
theorem getD_app_last {l:List Rec} {r:Rec}:(l ++ [r]).getD l.length Rec.none=r:=by
 rw [List.getD_eq_getElem?_getD,List.getElem?_append_right (Nat.le_refl _)]
 simp
theorem firstS_seq {l:List Rec}:∀ {j:Nat},j<l.length→∃ y,FirstS l y∧y.seq=(l.getD j Rec.none).seq:=fun {j} hj=>by
 induction j using Nat.strongRecOn with
 | ind j ih =>
  by_cases h:∃ i,i<j∧(l.getD i Rec.none).seq=(l.getD j Rec.none).seq
  ·obtain ⟨i,hi,e⟩:=h
   obtain ⟨y,h1,h2⟩:=ih i hi (by omega)
   exact ⟨y,h1,by rw [h2,e]⟩
  ·exact ⟨_,⟨j,hj,rfl,fun i hi e=>h ⟨i,hi,e⟩⟩,rfl⟩
theorem sorted_chars (l:List Rec):RiseS (sortedF l)∧∀ y,y ∈ sortedF l ↔ FirstS l y:=by
 have go:∀ l:List Rec,RiseS (sortedF l.reverse)∧∀ y,y ∈ sortedF l.reverse ↔ FirstS l.reverse y:=by
  intro l
  induction l with
  | nil =>
   refine ⟨by simp [sortedF],fun y=>?_⟩
   constructor
   ·intro h;simp [sortedF] at h
   ·rintro ⟨i,hi,_⟩;simp at hi
  | cons r l ih =>
   obtain ⟨h1,h2⟩:=ih
   rw [List.reverse_cons]
   have e:sortedF (l.reverse ++ [r])=insR r (sortedF l.reverse):=by
    unfold sortedF
    rw [List.foldl_append,List.foldl_cons,List.foldl_nil,insS_eq]
   rw [e]
   refine ⟨insR_rise r h1,fun y=>?_⟩
   rw [insR_mem r h1,h2]
   have hl:(l.reverse ++ [r]).length=l.reverse.length+1:=by simp
   constructor
   ·rintro (⟨i,hi,rfl,hj⟩|⟨rfl,hx⟩)
    ·exact ⟨i,by omega,getD_app_left hi,fun j hj'=>by rw [getD_app_left (by omega)];exact hj j hj'⟩
    ·refine ⟨l.reverse.length,by omega,getD_app_last,fun j hj e=>?_⟩
     rw [getD_app_left hj] at e
     obtain ⟨z,hz,hs⟩:=firstS_seq hj
     exact hx z ((h2 z).2 hz) (by rw [hs,e])
   ·rintro ⟨i,hi,hy,hj⟩
    by_cases c:i<l.reverse.length
    ·rw [getD_app_left c] at hy
     exact .inl ⟨i,c,hy,fun j hj'=>by have:=hj j hj';rwa [getD_app_left (by omega)] at this⟩
    ·obtain rfl:i=l.reverse.length:=by omega
     rw [getD_app_last] at hy
     subst hy
     refine .inr ⟨rfl,fun x hx e=>?_⟩
     obtain ⟨j,hj',rfl,_⟩:=(h2 x).1 hx
     have:=hj j hj'
     rw [getD_app_left hj'] at this
     exact this e
 have:=go l.reverse
 rwa [List.reverse_reverse] at this
theorem riseS_only:∀ {l m:List Rec},RiseS l→RiseS m→(∀ x,x ∈ l ↔ x ∈ m)→l=m
 | [],[],_,_,_=>rfl
 | [],b :: m,_,_,h=>by have:=(h b).2 List.mem_cons_self;simp at this
 | a :: l,[],_,_,h=>by have:=(h a).1 List.mem_cons_self;simp at this
 | a :: l,b :: m,hl,hm,h=>by
  obtain ⟨a1,a2⟩:=List.pairwise_cons.1 hl
  obtain ⟨b1,b2⟩:=List.pairwise_cons.1 hm
  have hab:a=b:=by
   rcases List.mem_cons.1 ((h a).1 List.mem_cons_self) with e|e
   ·exact e
   ·rcases List.mem_cons.1 ((h b).2 List.mem_cons_self) with f|f
    ·exact f.symm
    ·have:=b1 a e
     have:=a1 b f
     omega
  subst hab
  rw [riseS_only a2 b2 fun x=>?_]
  constructor
  ·intro hx
   rcases List.mem_cons.1 ((h x).1 (List.mem_cons_of_mem _ hx)) with e|e
   ·subst e;exact absurd (a1 x hx) (Nat.lt_irrefl _)
   ·exact e
  ·intro hx
   rcases List.mem_cons.1 ((h x).2 (List.mem_cons_of_mem _ hx)) with e|e
   ·subst e;exact absurd (b1 x hx) (Nat.lt_irrefl _)
   ·exact e
def keepS (A:Nat→Rec) (j:Nat):Bool:=decide (j=0 ∨ (A j).seq ≠ (A (j - 1)).seq)
def compS (A:Nat→Rec) (m:Nat):List Rec:=((List.range m).filter (keepS A)).map A
theorem compS_succ (A:Nat→Rec) (m:Nat):compS A (m+1)=compS A m ++ (if keepS A m=true then [A m] else []):=by
 unfold compS
 rw [List.range_succ,List.filter_append,List.map_append]
 congr 1
 by_cases h:keepS A m=true
 ·rw [if_pos h];simp [h]
 ·rw [if_neg h];simp [h]
theorem compS_mem (A:Nat→Rec) (m:Nat) (y:Rec):y ∈ compS A m ↔ ∃ j,j<m∧keepS A j=true∧A j=y:=by
 unfold compS
 rw [List.mem_map]
 constructor
 ·rintro ⟨j,hj,e⟩
  obtain ⟨h1,h2⟩:=List.mem_filter.1 hj
  exact ⟨j,List.mem_range.1 h1,h2,e⟩
 ·rintro ⟨j,h1,h2,e⟩
  exact ⟨j,List.mem_filter.2 ⟨List.mem_range.2 h1,h2⟩,e⟩
theorem compS_rise (A:Nat→Rec):∀ m,(∀ i j,i<j→j<m→(A i).seq≤(A j).seq)→RiseS (compS A m)
 | 0,_=>by simp [compS]
 | m+1,h=>by
  rw [compS_succ]
  refine List.pairwise_append.2 ⟨compS_rise A m (fun i j h1 h2=>h i j h1 (by omega)),by split <;> simp,fun x hx y hy=>?_⟩
  by_cases hk:keepS A m=true
  ·rw [if_pos hk,List.mem_singleton] at hy
   subst hy
   obtain ⟨j,hj,_,rfl⟩:=(compS_mem A m x).1 hx
   rcases of_decide_eq_true hk with h0|h0
   ·omega
   ·have a1:(A j).seq≤(A (m - 1)).seq:=by
     by_cases e:j=m - 1
     ·rw [e];exact Nat.le_refl _
     ·exact h j (m - 1) (by omega) (by omega)
    have a2:=h (m - 1) m (by omega) (by omega)
    omega
  ·rw [if_neg hk] at hy
   simp at hy
theorem compS_sorted (l:List Rec) (d0 d:Array Tg) (h0:d0.size=l.length) (hv:∀ i,i<l.length→d0[i]! = ⟨l.getD i Rec.none,i⟩) (hP:PermIn 0 l.length d0 d) (hR:RunT d 0 l.length):compS (fun i=>d[i]!.r) l.length=sortedF l:=by
 obtain ⟨s1,s2⟩:=sorted_chars l
 have hall:∀ i,i<l.length→d[i]!.t<l.length∧d[i]!.r=l.getD d[i]!.t Rec.none:=fun i hi =>
  permIn_all d0 d 0 l.length (fun x=>x.t<l.length∧x.r=l.getD x.t Rec.none) (by omega) hP (fun j _ hj=>by rw [hv j hj];exact ⟨hj,rfl⟩) i (Nat.zero_le _) hi
 have hnd:∀ i j,i<j→j<l.length→d[i]!.t ≠ d[j]!.t:=by
  have hp:=hP.2.2
  have e0:(d0.extract 0 l.length).toList.map Tg.t=List.range l.length:=by
   apply List.ext_getElem
   ·simp [h0]
   ·intro i h1 h2
    have hi:i<l.length:=by simpa using h2
    have:=hv i hi
    rw [getElem!_pos d0 i (by omega)] at this
    simp [this]
  have hnd:((d.extract 0 l.length).toList.map Tg.t).Nodup:=by
   have h1:((d.extract 0 l.length).toList.map Tg.t).Perm (List.range l.length):=by rw [← e0];exact hp.map Tg.t
   exact h1.nodup_iff.2 List.nodup_range
  intro i j hij hj e
  have hs:d.size=l.length:=by rw [hP.1,h0]
  have hpw:=List.pairwise_iff_getElem.1 hnd i j (by simp [hs];omega) (by simp [hs];omega) hij
  apply hpw
  rw [getElem!_pos d i (by omega),getElem!_pos d j (by omega)] at e
  simpa using e
 have hex:∀ i,i<l.length→∃ j,j<l.length∧d[j]! = ⟨l.getD i Rec.none,i⟩:=fun i hi=>by
  have hs:d.size=l.length:=by rw [hP.1,h0]
  have hm:(⟨l.getD i Rec.none,i⟩:Tg) ∈ (d0.extract 0 l.length).toList:=by
   rw [List.mem_iff_getElem]
   refine ⟨i,by simp [h0];exact hi,?_⟩
   have:=hv i hi
   rw [getElem!_pos d0 i (by omega)] at this
   simp [this]
  have hm2:=hP.2.2.mem_iff.2 hm
  obtain ⟨j,hj,e⟩:=List.mem_iff_getElem.1 hm2
  have hj':j<l.length:=by simp [hs] at hj;omega
  refine ⟨j,hj',?_⟩
  rw [getElem!_pos d j (by omega)]
  simpa using e
 have hle:∀ i j,i<j→j<l.length→d[i]!.r.seq≤d[j]!.r.seq:=fun i j h1 h2=>by
  have:=ltT_false.1 (hR i j (Nat.zero_le _) h1 h2)
  omega
 refine riseS_only (compS_rise _ _ (fun i j h1 h2=>hle i j h1 h2)) s1 (fun y=>?_)
 rw [compS_mem,s2]
 constructor
 ·rintro ⟨j,hj,hk,rfl⟩
  obtain ⟨ht,hr⟩:=hall j hj
  refine ⟨d[j]!.t,ht,hr.symm,fun i hi e=>?_⟩
  obtain ⟨q,hq,eq⟩:=hex i (by omega)
  have hlt:ltT d[q]! d[j]! = true:=ltT_true.2 (.inr ⟨by rw [eq];exact e,by rw [eq];exact hi⟩)
  have hqj:q<j:=by
   by_cases c:q<j
   ·exact c
   ·by_cases c2:q=j
    ·rw [c2,swoT.irrefl] at hlt;cases hlt
    ·have:=hR j q (Nat.zero_le _) (by omega) hq
     rw [this] at hlt;cases hlt
  rcases of_decide_eq_true hk with h0|h0
  ·omega
  ·have a1:=hle (j - 1) j (by omega) hj
   have a2:d[q]!.r.seq≤d[j - 1]!.r.seq:=by
    by_cases c:q=j - 1
    ·rw [c];exact Nat.le_refl _
    ·exact hle q (j - 1) (by omega) (by omega)
   have a3:d[q]!.r.seq=d[j]!.r.seq:=by rw [eq];exact e
   have h0':d[j]!.r.seq ≠ d[j - 1]!.r.seq:=h0
   exact h0' (by omega)
 ·rintro ⟨i,hi,rfl,hf⟩
  obtain ⟨j,hj,e⟩:=hex i hi
  refine ⟨j,hj,decide_eq_true ?_,by show d[j]!.r=_;rw [e]⟩
  by_cases c:j=0
  ·exact .inl c
  ·refine .inr (fun e2=>?_)
   have e3:d[j]!.r.seq=d[j - 1]!.r.seq:=e2
   have h1:=ltT_false.1 (hR (j - 1) j (Nat.zero_le _) (by omega) hj)
   have h2:=hnd (j - 1) j (by omega) hj
   obtain ⟨ht,hr⟩:=hall (j - 1) (by omega)
   have hti:d[j - 1]!.t<i:=by
    have e4:d[j]!.t=i:=by rw [e]
    omega
   refine hf _ hti ?_
   rw [← hr,← e3,e]
end
section
open Go.RowKit
def RowR (wr:World) (g d n:Nat) (f:Nat→Rec):Prop :=
 ∃ cur,Whole wr g 30 cur∧cur.size=d*4∧n≤d∧∀ i,i<n→∀ q,q<4→cur[i*4+q]?=(rcFour (f i))[q]?
theorem RowR.lt {wr:World} {g d n:Nat} {f:Nat→Rec} (h:RowR wr g d n f):g<wr.heap.size:=by
 obtain ⟨cur,hw,_⟩:=h
 exact hw.lt
theorem RowR.le {wr:World} {g d n:Nat} {f:Nat→Rec} (h:RowR wr g d n f):n≤d:=by
 obtain ⟨cur,_,_,h,_⟩:=h
 exact h
theorem RowR.cell {wr:World} {g d n:Nat} {f:Nat→Rec} (h:RowR wr g d n f) {i:Nat} (hi:i<n) :
  wr.cell? ⟨g,i*4,none⟩=some (.bool (f i).del)∧wr.cell? ⟨g,i*4+1,none⟩=some (.int .u64 ((f i).seq:Int))∧wr.cell? ⟨g,i*4+2,none⟩=some (.string (strOfNums (f i).key))∧wr.cell? ⟨g,i*4+3,none⟩=some (.string (strOfNums (f i).val)):=by
 obtain ⟨cur,hw,_,_,hc⟩:=h
 exact ⟨hw.cell _ (hc i hi 0 (by decide)),hw.cell _ (hc i hi 1 (by decide)),hw.cell _ (hc i hi 2 (by decide)),hw.cell _ (hc i hi 3 (by decide))⟩
theorem RowR.free {wr:World} {g d n:Nat} {f:Nat→Rec} (h:RowR wr g d n f) (i:Nat):wr.frozen? ⟨g,i,none⟩=false:=by
 obtain ⟨cur,hw,_⟩:=h
 exact hw.free i
theorem RowR.keep {w w':World} {g d n:Nat} {f:Nat→Rec} (h:RowR w g d n f) {S:Nat→Prop} (hk:Keeps S w w') (hs:¬ S g):RowR w' g d n f:=by
 obtain ⟨cur,hw,h1⟩:=h
 exact ⟨cur,hw.keep hk hs,h1⟩
theorem RowR.drew {w:World} {g d n:Nat} {f:Nat→Rec} (h:RowR w g d n f):RowR w.drew g d n f:=h
theorem RowR.congr {w:World} {g d n m:Nat} {f f':Nat→Rec} (h:RowR w g d n f) (hm:m≤n) (he:∀ i,i<m→f i=f' i):RowR w g d m f':=by
 obtain ⟨cur,hw,h1,h2,h3⟩:=h
 exact ⟨cur,hw,h1,by omega,fun i hi=>by rw [← he i hi];exact h3 i (by omega)⟩
theorem RowR.put {w:World} {g d n:Nat} {f:Nat→Rec} (h:RowR w g d n f) {k:Nat} (hk:k<n) (x:Rec) :
  RowR ((((w.setCell ⟨g,k*4,none⟩ (.bool x.del)).setCell ⟨g,k*4+1,none⟩ (.int .u64 (x.seq:Int))).setCell ⟨g,k*4+2,none⟩ (.string (strOfNums x.key))).setCell ⟨g,k*4+3,none⟩ (.string (strOfNums x.val))) g d n (fun i=>if i=k then x else f i):=by
 obtain ⟨cur,hw,h1,h2,h3⟩:=h
 refine ⟨_,(((hw.set _ _).set _ _).set _ _).set _ _,by simpa using h1,h2,fun i hi q hq=>?_⟩
 dsimp only
 have hq4:q=0 ∨ q=1 ∨ q=2 ∨ q=3:=by omega
 by_cases e:i=k
 ·subst e
  rw [if_pos rfl]
  rcases hq4 with rfl|rfl|rfl|rfl
  ·rw [Array.getElem?_setIfInBounds_ne (by omega),Array.getElem?_setIfInBounds_ne (by omega),Array.getElem?_setIfInBounds_ne (by omega)]
   exact (Array.getElem?_setIfInBounds_self_of_lt (i:=i*4) (by omega)).trans rfl
  ·rw [Array.getElem?_setIfInBounds_ne (by omega),Array.getElem?_setIfInBounds_ne (by omega),Array.getElem?_setIfInBounds_self_of_lt (by simp;omega)];rfl
  ·rw [Array.getElem?_setIfInBounds_ne (by omega),Array.getElem?_setIfInBounds_self_of_lt (by simp;omega)];rfl
  ·rw [Array.getElem?_setIfInBounds_self_of_lt (by simp;omega)];rfl
 ·rw [if_neg e,Array.getElem?_setIfInBounds_ne (by omega),Array.getElem?_setIfInBounds_ne (by omega),Array.getElem?_setIfInBounds_ne (by omega),Array.getElem?_setIfInBounds_ne (by omega)]
  exact h3 i hi q hq
theorem keepsPut4 {S:Nat→Prop} {a b:World} (h:Keeps S a b) {g:Nat} (hg:S g ∨ a.heap.size≤g) (i:Nat) (u v x y:Value):Keeps S a ((((b.setCell ⟨g,i,none⟩ u).setCell ⟨g,i+1,none⟩ v).setCell ⟨g,i+2,none⟩ x).setCell ⟨g,i+3,none⟩ y):=(((h.set hg u).set hg v).set hg x).set hg y
theorem RowR.ofOwn {w:World} {base g n d:Nat} {l:List Rec} (h:w.ownsRow base 30 4 (.slice (some ⟨g,0,none⟩) n d) n (rcFlat l)) (hn:n=l.length) :
  RowR w g d n (fun i=>l.getD i Rec.none)∧base≤g∧d≤maxLen:=by
 rcases h with ⟨hl,⟨h0,_⟩|⟨g',cap,cur,hv,hb,hg,h1,h2,h3,h4⟩⟩
 ·simp at h0
 ·simp only [Value.slice.injEq,Option.some.injEq,Addr.mk.injEq,and_true,true_and] at hv
  obtain ⟨rfl,rfl⟩:=hv
  refine ⟨⟨cur,hg,h3,h1,fun i hi q hq=>?_⟩,hb,h2⟩
  have h5:=rcFlat_at l i q (by omega) hq
  rw [← h4,List.getElem?_take_of_lt (by omega)] at h5
  simpa using h5
theorem RowR.own {w:World} {base g n d:Nat} {f:Nat→Rec} (h:RowR w g d n f) {l:List Rec} (hl:l.length≤n) (he:∀ i,i<l.length→l.getD i Rec.none=f i) (hb:base≤g) (hd:d≤maxLen) :
  w.ownsRow base 30 4 (.slice (some ⟨g,0,none⟩) l.length d) l.length (rcFlat l):=by
 obtain ⟨cur,hw,h1,h2,h3⟩:=h
 refine ⟨rcFlat_len l,.inr ⟨g,d,cur,rfl,hb,hw,by omega,hd,h1,?_⟩⟩
 apply List.ext_getElem?
 intro j
 by_cases hj:j<l.length*4
 ·rw [List.getElem?_take_of_lt hj]
  have hi:j / 4<l.length:=by omega
  have h4:=h3 (j / 4) (by omega) (j % 4) (by omega)
  rw [← he (j / 4) hi,← rcFlat_at l (j / 4) (j % 4) hi (by omega),show j / 4*4+j % 4=j by omega] at h4
  simpa using h4
 ·rw [List.getElem?_eq_none (by rw [List.length_take];omega),List.getElem?_eq_none (by rw [rcFlat_len];omega)]
theorem setCells_wholeR {g:Nat} {t:TypeId}:∀ (vs:List Value) (o:Nat) (w:World) (cur:Array Value),Whole w g t cur→∃ cur',Whole (w.setCells g o vs) g t cur'∧cur'.size=cur.size∧∀ i,i<o→cur'[i]?=cur[i]?
 | [],_,_,cur,h=>⟨cur,h,rfl,fun _ _=>rfl⟩
 | v :: vs,o,w,cur,h=>by
  obtain ⟨cur',h1,h2,h3⟩:=setCells_wholeR vs (o+1) _ _ (h.set o v)
  exact ⟨cur',h1,by rw [h2];simp,fun i hi=>by rw [h3 i (by omega),Array.getElem?_setIfInBounds_ne (by omega)]⟩
theorem setCells_keepsR {S:Nat→Prop} {a:World} {g:Nat} (hg:S g ∨ a.heap.size≤g):∀ (vs:List Value) (o:Nat) (b:World),Keeps S a b→Keeps S a (b.setCells g o vs)
 | [],_,_,h=>h
 | v :: vs,o,_,h=>setCells_keepsR hg vs (o+1) _ (h.set hg v)
theorem RowR.setCells {w:World} {g d n:Nat} {f:Nat→Rec} (h:RowR w g d n f) (m:Nat) (hm:m≤n) (vs:List Value):RowR (w.setCells g (m*4) vs) g d m f:=by
 obtain ⟨cur,hw,h1,h2,h3⟩:=h
 obtain ⟨cur',c1,c2,c3⟩:=setCells_wholeR vs (m*4) w cur hw
 exact ⟨cur',c1,by omega,by omega,fun i hi q hq=>by rw [c3 _ (by omega)];exact h3 i (by omega) q hq⟩
theorem run_clear_recs {w:World} {g d n:Nat} {f:Nat→Rec} (h:RowR w g d n f) (k m c:Nat) (hk:k+m=n) (hm:0<m) (ty:TypeId) :
  (Builtin.clear_ #[22] ty #[.slice (some ⟨g,k*4,none⟩) m c]).run Try.prog w=.ok (.tuple #[]) (w.setCells g (k*4) (Builtin.zeroCells #[.bool false,.int .u64 0,.string ⟨#[]⟩,.string ⟨#[]⟩] m).toList):=by
 have hlen:(Builtin.zeroCells #[.bool false,.int .u64 0,.string ⟨#[]⟩,.string ⟨#[]⟩] m).toList.length=m*4:=by simp [Builtin.zeroCells]
 have hone:∀ v ∈ (Builtin.zeroCells #[.bool false,.int .u64 0,.string ⟨#[]⟩,.string ⟨#[]⟩] m).toList,v.oneCell'=true:=fun v hv=>by
  simp only [Builtin.zeroCells,Array.mem_toList_iff,Array.mem_map] at hv
  obtain ⟨j,_,rfl⟩:=hv
  have:j % 4=0 ∨ j % 4=1 ∨ j % 4=2 ∨ j % 4=3:=by omega
  show ((#[Value.bool false,Value.int .u64 0,Value.string ⟨#[]⟩,Value.string ⟨#[]⟩]:Array Value)[j % 4]!).oneCell'=true
  rcases this with e|e|e|e <;> (rw [e];rfl)
 have hst:=run_storeCells_cells (P:=Try.prog) g (k*4) (Builtin.zeroCells #[.bool false,.int .u64 0,.string ⟨#[]⟩,.string ⟨#[]⟩] m).toList 0 w (fun j hj=>by
   rw [hlen] at hj
   obtain ⟨c0,c1,c2,c3⟩:=h.cell (i:=k+j / 4) (by omega)
   have:j % 4=0 ∨ j % 4=1 ∨ j % 4=2 ∨ j % 4=3:=by omega
   rcases this with e|e|e|e
   ·rw [show k*4+0+j=(k+j / 4)*4 by omega,c0];rfl
   ·rw [show k*4+0+j=(k+j / 4)*4+1 by omega,c1];rfl
   ·rw [show k*4+0+j=(k+j / 4)*4+2 by omega,c2];rfl
   ·rw [show k*4+0+j=(k+j / 4)*4+3 by omega,c3];rfl) (fun j _=>h.free _) hone
 simp only [Nat.add_zero] at hst
 obtain ⟨m',rfl⟩:∃ m',m=m'+1:=⟨m - 1,by omega⟩
 have hz:=Try.zeroValue30
 have hu:=run_underlying Try.underlying22
 simp [Builtin.clear_,hu,hz]
 rw [show (Value.agg #[Value.bool false,.int .u64 0,.string ⟨#[]⟩,.string ⟨#[]⟩]).cells=#[.bool false,.int .u64 0,.string ⟨#[]⟩,.string ⟨#[]⟩] from rfl,hst]
 rfl
end
end Go.Proofs.Ytbmhdfjaakkoaaa

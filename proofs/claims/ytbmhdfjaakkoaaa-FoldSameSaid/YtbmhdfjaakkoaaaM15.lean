/-
  FoRoWalk; Swap; Grown; FoSymN; FoCmp; FoSymN2.
-/
import Derived.Deep.RegionHeld3
import Derived.BigQuiet
import Derived.Sort.Grow
import Derived.Sort.LotA
import Derived.Shelf.SlSortCmp.InsertionK
import Derived.Lib.Hide
import Derived.Test.YtbmhdfjaakkoaaaM01
import Derived.Test.YtbmhdfjaakkoaaaM04
import Derived.Test.YtbmhdfjaakkoaaaM07
import Derived.Test.YtbmhdfjaakkoaaaM08
namespace Go.Proofs.Ytbmhdfjaakkoaaa
open Lib (hid)
section
open Go.RowKit
theorem same_new {q1 q2:Option Addr} {m1 d1 m2 d2:Nat} {l:List Rec} {w:World} (h1:InR w q1 m1 d1 l) (h2:InR w q2 m2 d2 l) (h9:m1≤1000000):Calls Try.prog 14 #[.slice q1 m1 d1,.slice q2 m2 d2] w fun e w'=>e=.returned (.bool true)∧Keeps NoBlock w w':=by
 have h:=same16_ref q1 m1 d1 l q2 m2 d2 l h1.len h2.len h9 h1.fine h2.fine w h1.at_ h2.at_
 rw [decide_eq_true rfl] at h
 exact h
set_option maxHeartbeats 16000000 in
set_option maxRecDepth 10000 in
theorem foldrows_walk (HA:FoAtOk) (HLi:FoLiveOk) (HCo:FoCompactOk) (HSo:FoSortedOk) (p:Option Addr) (n c:Nat) (l:List Rec) (w:World) (hn:n=l.length) (hc:n≤c) (hc':c≤9223372036854775807) (hbare:p=none→n=0∧c=0) (hf:∀ r ∈ l,r.Fine) (hb:∀ r ∈ l,r.key.length≤9223372036854775807∧r.val.length≤9223372036854775807) (hl:RecsAt w p l) :
  Calls Try.prog 4 #[.slice p n c] w fun e w'=>e=.returned (.bool true)∧Keeps NoBlock w w':=by
 have HLv:=hid (fun w=>lives18_true HA w)
 have HFw:=hid (fun (w:World) hl=>few_any p n c l 60 300 60 300 rfl rfl hn (by omega) hb w hl)
 have HL:=hid hl
 by_cases hfe:fewR l 60 300=true
 rotate_left
 ·rw [Bool.not_eq_true] at hfe
  rw [hfe] at HFw
  clear hfe hn hf hb hl HA hbare HLi HCo HSo
  go_enter Try.func4,Try.ntmps4
  go_wp2_with fail
  refine (HLv.out _).mono ?_
  rintro e w1 ⟨rfl,hk⟩
  have HK:=hid hk
  have HL:=hid (HL.out.keep hk (fun _ _ h=>h))
  clear hk
  go_wp2_with fail
  refine (HFw.out _ HL.out).mono ?_
  rintro e w2 ⟨rfl,hk⟩
  have HK:=hid (HK.out.trans hk)
  clear hk
  go_wp2_with fail
  refine (HLv.out _).mono ?_
  rintro e w3 ⟨rfl,hk⟩
  have HK:=hid (HK.out.trans hk)
  clear hk
  go_wp2_with fail
  go_ret
  exact ⟨rfl,HK.out⟩
 obtain ⟨hlen,hlit⟩:=few_rows18 hfe
 rw [hfe] at HFw
 have HI:=hid (show InR w p n c l from ⟨hn,hc,hc',hf,fun r hr=>by have:=(hlit r hr).1;omega,fun r hr=>by have:=(hlit r hr).2;omega,hl⟩)
 have hn60:n≤60:=by omega
 have HN:=hid hn
 have HBr:=hid hbare
 have HO1:=hid (fun W q m d (h:InR W q m d l)=>HLi.live q m d l W h (by have:=h.len;omega))
 have HO2:=hid (fun W q m d (h:InR W q m d l)=>HCo.compact q m d l W h (by have:=h.len;omega))
 have HO3:=hid (fun W q m d (h:InR W q m d l)=>HSo.sorted q m d l W h (by have:=h.len;omega))
 have HR1:=hid (fun W (h:InR W p n c l)=>live18_ref p n c l (by omega) W h)
 have HR2:=hid (fun W (h:InR W p n c l)=>compact18_ref p n c l (by omega) W h)
 have HR3:=hid (fun W (h:InR W p n c l)=>sorted18_ref p n c l (by omega) W h)
 have HSm:=hid (fun W q1 m1 d1 q2 m2 d2 k (h1:InR W q1 m1 d1 k) (h2:InR W q2 m2 d2 k) (h9:m1≤1000000)=>same_new h1 h2 h9)
 have HM1:=hid (And.intro (fun (r:Rec) (h:r ∈ liveF l)=>liveF_mem h) (show (liveF l).length≤60 by have:=liveF_length l;omega))
 have HM2:=hid (And.intro (fun (r:Rec) (h:r ∈ compactF l)=>compactF_mem h) (show (compactF l).length≤60 by have:=compactF_length l;omega))
 have HM3:=hid (And.intro (fun (r:Rec) (h:r ∈ sortedF l)=>sortedF_mem h) (show (sortedF l).length≤60 by have:=sortedF_length l;omega))
 clear hfe hn hf hb hl HA hlit HL hbare HLi HCo HSo hlen
 go_enter Try.func4,Try.ntmps4
 go_wp2_with fail
 refine (HLv.out _).mono ?_
 rintro e w1 ⟨rfl,hk⟩
 have HK:=hid hk
 have HI:=hid (HI.out.keep hk)
 clear hk
 go_wp2_with fail
 refine (HFw.out _ HI.out.at_).mono ?_
 rintro e w2 ⟨rfl,hk⟩
 have HK:=hid (HK.out.trans hk)
 have HI:=hid (HI.out.keep hk)
 clear hk HFw HLv
 have HW2:=hid (RecsSoFar.made w2)
 have hka:Keeps NoBlock w2 (w2.alloc (.cells #[] 30)):=(Keeps.refl NoBlock w2).alloc _
 have HI2:=hid (HI.out.at_.keep hka (fun _ _ h=>h))
 clear hka
 go_wp2_with (at_builtin;refine wpList_append_recs rfl _ _ rfl _ [] rfl HW2.out p n c l rfl HBr.out HN.out HI2.out (by simp;omega) ?_)
 intro v3 w3 h3 _
 obtain ⟨qO,mO,dO,rfl,hIO,hk⟩:=h3.new.inR HI.out (fun r h=>h)
 have HK:=hid (HK.out.trans hk)
 have HI:=hid (HI.out.keep hk)
 have HIO:=hid hIO
 clear hk hIO h3 HW2 HI2
 go_wp2_with fail
 refine (HO1.out _ _ _ _ HIO.out).mono ?_
 rintro e wa1 ⟨v,rfl,hnew⟩
 obtain ⟨q1,m1,d1,rfl,hI1,hk⟩:=hnew.inR HI.out HM1.out.1
 have HK:=hid (HK.out.trans hk)
 have HI:=hid (HI.out.keep hk)
 have HIO:=hid (HIO.out.keep hk)
 have HI1:=hid hI1
 have hm1:m1≤60:=by rw [hI1.len];exact HM1.out.2
 clear hk hI1 hnew
 go_wp2_with fail
 refine (HR1.out _ HI.out).mono ?_
 rintro e wb1 ⟨v,rfl,hnew⟩
 obtain ⟨q2,m2,d2,rfl,hI2,hk⟩:=hnew.inR HI.out HM1.out.1
 have HK:=hid (HK.out.trans hk)
 have HI:=hid (HI.out.keep hk)
 have HIO:=hid (HIO.out.keep hk)
 have HI1:=hid (HI1.out.keep hk)
 have HI2:=hid hI2
 clear hk hI2 hnew
 go_wp2_with fail
 refine (HSm.out _ _ _ _ _ _ _ _ HI1.out HI2.out (by omega)).mono ?_
 rintro e wc1 ⟨rfl,hk⟩
 have HK:=hid (HK.out.trans hk)
 have HI:=hid (HI.out.keep hk)
 have HIO:=hid (HIO.out.keep hk)
 clear hk HI1 HI2 hm1
 go_wp2_with fail
 refine (HO2.out _ _ _ _ HIO.out).mono ?_
 rintro e wa2 ⟨v,rfl,hnew⟩
 obtain ⟨q1,m1,d1,rfl,hI1,hk⟩:=hnew.inR HI.out HM2.out.1
 have HK:=hid (HK.out.trans hk)
 have HI:=hid (HI.out.keep hk)
 have HIO:=hid (HIO.out.keep hk)
 have HI1:=hid hI1
 have hm1:m1≤60:=by rw [hI1.len];exact HM2.out.2
 clear hk hI1 hnew
 go_wp2_with fail
 refine (HR2.out _ HI.out).mono ?_
 rintro e wb2 ⟨v,rfl,hnew⟩
 obtain ⟨q2,m2,d2,rfl,hI2,hk⟩:=hnew.inR HI.out HM2.out.1
 have HK:=hid (HK.out.trans hk)
 have HI:=hid (HI.out.keep hk)
 have HIO:=hid (HIO.out.keep hk)
 have HI1:=hid (HI1.out.keep hk)
 have HI2:=hid hI2
 clear hk hI2 hnew
 go_wp2_with fail
 refine (HSm.out _ _ _ _ _ _ _ _ HI1.out HI2.out (by omega)).mono ?_
 rintro e wc2 ⟨rfl,hk⟩
 have HK:=hid (HK.out.trans hk)
 have HI:=hid (HI.out.keep hk)
 have HIO:=hid (HIO.out.keep hk)
 clear hk HI1 HI2 hm1
 go_wp2_with fail
 refine (HO3.out _ _ _ _ HIO.out).mono ?_
 rintro e wa3 ⟨v,rfl,hnew⟩
 obtain ⟨q1,m1,d1,rfl,hI1,hk⟩:=hnew.inR HI.out HM3.out.1
 have HK:=hid (HK.out.trans hk)
 have HI:=hid (HI.out.keep hk)
 have HIO:=hid (HIO.out.keep hk)
 have HI1:=hid hI1
 have hm1:m1≤60:=by rw [hI1.len];exact HM3.out.2
 clear hk hI1 hnew
 go_wp2_with fail
 refine (HR3.out _ HI.out).mono ?_
 rintro e wb3 ⟨v,rfl,hnew⟩
 obtain ⟨q2,m2,d2,rfl,hI2,hk⟩:=hnew.inR HI.out HM3.out.1
 have HK:=hid (HK.out.trans hk)
 have HI:=hid (HI.out.keep hk)
 have HIO:=hid (HIO.out.keep hk)
 have HI1:=hid (HI1.out.keep hk)
 have HI2:=hid hI2
 clear hk hI2 hnew
 go_wp2_with fail
 refine (HSm.out _ _ _ _ _ _ _ _ HI1.out HI2.out (by omega)).mono ?_
 rintro e wc3 ⟨rfl,hk⟩
 have HK:=hid (HK.out.trans hk)
 have HI:=hid (HI.out.keep hk)
 have HIO:=hid (HIO.out.keep hk)
 clear hk HI1 HI2 hm1
 have hmO:mO≤60:=by rw [HIO.out.len,← HN.out];exact hn60
 go_wp2_with fail
 refine (HSm.out _ _ _ _ _ _ _ _ HIO.out HI.out (by omega)).mono ?_
 rintro e wd ⟨rfl,hk⟩
 have HK:=hid (HK.out.trans hk)
 clear hk
 go_wp2_with fail
 go_ret
 exact ⟨rfl,HK.out⟩
end
section
open Go.RowKit
end
section
open Go.RowKit Go.Sort
def Grown (w w':World):Prop:=∃ q os,w'=grow (w.drewN q) os
theorem Grown.refl (w:World):Grown w w:=⟨0,#[],by rw [grow_empty];rfl⟩
theorem Grown.drewN {w w':World} (h:Grown w w') (n:Nat):Grown w (w'.drewN n):=by
 obtain ⟨q,os,rfl⟩:=h
 exact ⟨q+n,os,by show grow ((w.drewN q).drewN n) os=_;rw [World.drewN_drewN]⟩
theorem Grown.drew {w w':World} (h:Grown w w'):Grown w w'.drew:=h.drewN 1
theorem Grown.alloc {w w':World} (h:Grown w w') (o:Obj):Grown w (w'.alloc o):=by
 obtain ⟨q,os,rfl⟩:=h
 exact ⟨q,os ++ #[o],by rw [alloc_eq_grow,grow_grow]⟩
theorem Grown.trans {a b c:World} (h:Grown a b) (g:Grown b c):Grown a c:=by
 obtain ⟨q,os,rfl⟩:=h
 obtain ⟨q',os',rfl⟩:=g
 exact ⟨q+q',os ++ os',by show grow (grow ((a.drewN q).drewN q') os) os'=_;rw [grow_grow,World.drewN_drewN]⟩
theorem Grown.keeps {w w':World} (h:Grown w w'):Keeps NoBlock w w':=by
 obtain ⟨q,os,rfl⟩:=h
 refine ⟨rfl,rfl,rfl,by simp [grow],fun k hk _=>?_⟩
 show ((w.drewN q).heap ++ os)[k]?=_
 rw [Array.getElem?_append_left (by show k<w.heap.size;exact hk)]
 rfl
def cmpN (x y:Nat):Int:=if x<y then -1 else if y<x then 1 else 0
theorem nan64_own (x:Nat) (w:World):Calls Try.prog 39 #[.int .u64 (x:Int)] w fun e w'=>e=.returned (.bool false)∧w'=w:=by
 have h:((x:Int) != (x:Int))=false:=by simp
 go_enter Try.func39,Try.ntmps39
 go_wp2_with fail
 go_ret
 exact ⟨rfl,rfl⟩
set_option maxHeartbeats 1000000 in
theorem cmp64_own (x y:Nat) (w:World):Calls Try.prog 30 #[.int .u64 (x:Int),.int .u64 (y:Int)] w fun e w'=>e=.returned (.int .i64 (cmpN x y))∧w'=w:=by
 have HA:=hid (fun w=>nan64_own x w)
 have HB:=hid (fun w=>nan64_own y w)
 unfold cmpN
 by_cases h1:x<y
 ·rw [if_pos h1]
  have d1:decide ((x:Int)<(y:Int))=true:=decide_eq_true (by omega)
  have d2:decide (x<y)=true:=decide_eq_true h1
  go_enter Try.func30,Try.ntmps30
  go_wp2_with fail
  refine (HA.out _).mono ?_
  rintro e w1 ⟨rfl,rfl⟩
  go_wp2_with fail
  refine (HB.out _).mono ?_
  rintro e w1 ⟨rfl,rfl⟩
  go_wp2_with fail
  go_ret
  exact ⟨rfl,rfl⟩
 ·rw [if_neg h1]
  have d1:decide ((x:Int)<(y:Int))=false:=decide_eq_false (by omega)
  have d2:decide (x<y)=false:=decide_eq_false h1
  by_cases h2:y<x
  ·rw [if_pos h2]
   have d3:decide ((y:Int)<(x:Int))=true:=decide_eq_true (by omega)
   have d4:decide (y<x)=true:=decide_eq_true h2
   go_enter Try.func30,Try.ntmps30
   go_wp2_with fail
   refine (HA.out _).mono ?_
   rintro e w1 ⟨rfl,rfl⟩
   go_wp2_with fail
   refine (HB.out _).mono ?_
   rintro e w1 ⟨rfl,rfl⟩
   go_wp2_with fail
   go_ret
   exact ⟨rfl,rfl⟩
  ·rw [if_neg h2]
   have d3:decide ((y:Int)<(x:Int))=false:=decide_eq_false (by omega)
   have d4:decide (y<x)=false:=decide_eq_false h2
   go_enter Try.func30,Try.ntmps30
   go_wp2_with fail
   refine (HA.out _).mono ?_
   rintro e w1 ⟨rfl,rfl⟩
   go_wp2_with fail
   refine (HB.out _).mono ?_
   rintro e w1 ⟨rfl,rfl⟩
   go_wp2_with fail
   go_ret
   exact ⟨rfl,rfl⟩
end
section
open Go.Sort
structure Tg where
 r:Rec
 t:Nat
instance:Inhabited Tg:=⟨⟨Rec.none,0⟩⟩
def ltT (x y:Tg):Bool:=decide (x.r.seq<y.r.seq ∨ (x.r.seq=y.r.seq∧x.t<y.t))
theorem ltT_true {x y:Tg}:ltT x y=true ↔ (x.r.seq<y.r.seq ∨ (x.r.seq=y.r.seq∧x.t<y.t)):=decide_eq_true_iff
theorem ltT_false {x y:Tg}:ltT x y=false ↔ ¬ (x.r.seq<y.r.seq ∨ (x.r.seq=y.r.seq∧x.t<y.t)):=decide_eq_false_iff_not
theorem swoT:SWO ltT where
 irrefl x:=ltT_false.2 (by omega)
 trans x y z h1 h2:=by
  rw [ltT_true] at *
  omega
 ntrans x y z h1 h2:=by
  rw [ltT_false] at *
  omega
def TagsT (d:Array Tg) (a m b:Nat):Prop:=∀ i j,a≤i→i<m→m≤j→j<b→d[i]!.t<d[j]!.t
abbrev RunT (d:Array Tg) (a b:Nat):Prop:=SortedIn ltT a b d
def rotF (f:Nat→Tg) (s m e x:Nat):Tg:=if s≤x∧x<s+(e - m) then f (x+(m - s)) else if s+(e - m)≤x∧x<e then f (x - (e - m)) else f x
def swF (f:Nat→Tg) (a b n x:Nat):Tg:=if a≤x∧x<a+n then f (x+(b - a)) else if b≤x∧x<b+n then f (x - (b - a)) else f x
theorem swF_zero (f:Nat→Tg) (a b x:Nat):swF f a b 0 x=f x:=by
 unfold swF
 rw [if_neg (by omega),if_neg (by omega)]
theorem swF_succ (f:Nat→Tg) (a b n:Nat) (hab:a+(n+1)≤b) (x:Nat):swF f a b (n+1) x=(if x=a+n then swF f a b n (b+n) else if x=b+n then swF f a b n (a+n) else swF f a b n x):=by
 unfold swF
 by_cases h1:x=a+n
 ·subst h1
  rw [if_pos rfl,if_pos (by omega),if_neg (by omega),if_neg (by omega)]
  congr 1;omega
 ·by_cases h2:x=b+n
  ·subst h2
   rw [if_neg h1,if_pos rfl,if_neg (by omega),if_pos (by omega),if_neg (by omega),if_neg (by omega)]
   congr 1;omega
  ·rw [if_neg h1,if_neg h2]
   by_cases h3:a≤x∧x<a+n
   ·rw [if_pos h3,if_pos (by omega)]
   ·by_cases h4:b≤x∧x<b+n
    ·rw [if_neg (by omega),if_pos (by omega),if_neg h3,if_pos h4]
    ·rw [if_neg (by omega),if_neg (by omega),if_neg h3,if_neg h4]
theorem rot_same (f:Nat→Tg) (m i x:Nat) (hi:i≤m):rotF f (m - i) m (m+i) x=swF f (m - i) m i x:=by
 unfold rotF swF
 by_cases h1:m - i≤x∧x<m - i+(m+i - m)
 ·rw [if_pos h1,if_pos (by omega)]
 ·by_cases h2:m - i+(m+i - m)≤x∧x<m+i
  ·rw [if_neg h1,if_pos h2,if_neg (by omega),if_pos (by omega)]
   congr 1;omega
  ·rw [if_neg h1,if_neg h2,if_neg (by omega),if_neg (by omega)]
theorem rot_left (f g:Nat→Tg) (m i j:Nat) (hi:i≤m) (hij:j<i) (hj:0<j) (hg:∀ x,g x=swF f (m - i) m j x) (x:Nat):rotF g (m - (i - j)) m (m+j) x=rotF f (m - i) m (m+j) x:=by
 unfold rotF
 by_cases h1:x<m - i
 ·rw [if_neg (by omega),if_neg (by omega),if_neg (by omega),if_neg (by omega),hg]
  unfold swF
  rw [if_neg (by omega),if_neg (by omega)]
 ·by_cases h2:x<m - i+j
  ·rw [if_neg (by omega),if_neg (by omega),if_pos (by omega),hg]
   unfold swF
   rw [if_pos (by omega)]
  ·by_cases h3:x<m+j
   ·by_cases h4:x<m - (i - j)+j
    ·rw [if_pos (by omega),if_neg (by omega),if_pos (by omega),hg]
     unfold swF
     rw [if_neg (by omega),if_pos (by omega)]
     congr 1;omega
    ·rw [if_neg (by omega),if_pos (by omega),if_neg (by omega),if_pos (by omega),hg]
     unfold swF
     rw [if_neg (by omega),if_neg (by omega)]
   ·rw [if_neg (by omega),if_neg (by omega),if_neg (by omega),if_neg (by omega),hg]
    unfold swF
    rw [if_neg (by omega),if_neg (by omega)]
theorem rot_right (f g:Nat→Tg) (m i j:Nat) (hi:i≤m) (hij:i<j) (hi0:0<i) (hg:∀ x,g x=swF f (m - i) (m+j - i) i x) (x:Nat):rotF g (m - i) m (m+(j - i)) x=rotF f (m - i) m (m+j) x:=by
 unfold rotF
 by_cases h1:x<m - i
 ·rw [if_neg (by omega),if_neg (by omega),if_neg (by omega),if_neg (by omega),hg]
  unfold swF
  rw [if_neg (by omega),if_neg (by omega)]
 ·by_cases h2:x<m - i+(j - i)
  ·rw [if_pos (by omega),if_pos (by omega),hg]
   unfold swF
   rw [if_neg (by omega),if_neg (by omega)]
  ·by_cases h3:x<m+(j - i)
   ·rw [if_neg (by omega),if_pos (by omega),if_pos (by omega),hg]
    unfold swF
    rw [if_pos (by omega)]
    congr 1;omega
   ·by_cases h4:x<m+j
    ·rw [if_neg (by omega),if_neg (by omega),if_neg (by omega),if_pos (by omega),hg]
     unfold swF
     rw [if_neg (by omega),if_pos (by omega)]
     congr 1;omega
    ·rw [if_neg (by omega),if_neg (by omega),if_neg (by omega),if_neg (by omega),hg]
     unfold swF
     rw [if_neg (by omega),if_neg (by omega)]
theorem sym_halves {d d':Array Tg} {a m b s e mid:Nat} (hR1:RunT d a m) (hR2:RunT d m b) (hT:TagsT d a m b) (ha:a≤s) (hs:s≤m) (hm:m≤e) (he:e≤b) (hmid:s+(e - m)=mid)
  (hd:∀ x,d'[x]! = rotF (fun x=>d[x]!) s m e x) (hlo:s=a ∨ e=b ∨ ltT d[e]! d[s - 1]! = false) (hhi:e=m ∨ s=m ∨ ltT d[s]! d[e - 1]! = false) :
  (RunT d' a s∧RunT d' s mid∧TagsT d' a s mid)∧(RunT d' mid e∧RunT d' e b∧TagsT d' mid e b)∧∀ i j,a≤i→i<mid→mid≤j→j<b→ltT d'[j]! d'[i]! = false:=by
 have v1:∀ x,x<s→d'[x]! = d[x]!:=fun x hx=>by rw [hd];unfold rotF;rw [if_neg (by omega),if_neg (by omega)]
 have v2:∀ x,s≤x→x<mid→d'[x]! = d[x+(m - s)]!:=fun x h1 h2=>by rw [hd];unfold rotF;rw [if_pos (by omega)]
 have v3:∀ x,mid≤x→x<e→d'[x]! = d[x - (e - m)]!:=fun x h1 h2=>by rw [hd];unfold rotF;rw [if_neg (by omega),if_pos (by omega)]
 have v4:∀ x,e≤x→d'[x]! = d[x]!:=fun x hx=>by rw [hd];unfold rotF;rw [if_neg (by omega),if_neg (by omega)]
 have le_refl:∀ x:Tg,ltT x x=false:=swoT.irrefl
 have r1:∀ i j,a≤i→i≤j→j<m→ltT d[j]! d[i]! = false:=fun i j h1 h2 h3=>by
  by_cases h:i=j
  ·rw [h];exact le_refl _
  ·exact hR1 i j h1 (by omega) h3
 have r2:∀ i j,m≤i→i≤j→j<b→ltT d[j]! d[i]! = false:=fun i j h1 h2 h3=>by
  by_cases h:i=j
  ·rw [h];exact le_refl _
  ·exact hR2 i j h1 (by omega) h3
 refine ⟨⟨fun i j h1 h2 h3=>?_,fun i j h1 h2 h3=>?_,fun i j h1 h2 h3 h4=>?_⟩,⟨fun i j h1 h2 h3=>?_,fun i j h1 h2 h3=>?_,fun i j h1 h2 h3 h4=>?_⟩,fun i j h1 h2 h3 h4=>?_⟩
 ·rw [v1 i (by omega),v1 j (by omega)];exact hR1 i j h1 h2 (by omega)
 ·rw [v2 i (by omega) (by omega),v2 j (by omega) (by omega)];exact hR2 _ _ (by omega) (by omega) (by omega)
 ·rw [v1 i (by omega),v2 j (by omega) (by omega)];exact hT _ _ h1 (by omega) (by omega) (by omega)
 ·rw [v3 i (by omega) (by omega),v3 j (by omega) (by omega)];exact hR1 _ _ (by omega) (by omega) (by omega)
 ·rw [v4 i (by omega),v4 j (by omega)];exact hR2 i j (by omega) h2 h3
 ·rw [v3 i (by omega) (by omega),v4 j (by omega)];exact hT _ _ (by omega) (by omega) (by omega) (by omega)
 ·by_cases c1:i<s
  ·rw [v1 i c1]
   by_cases c2:j<e
   ·rw [v3 j h3 c2];exact r1 _ _ h1 (by omega) (by omega)
   ·rw [v4 j (by omega)]
    rcases hlo with h|h|h
    ·omega
    ·omega
    ·exact swoT.ntrans _ _ _ (swoT.ntrans _ _ _ (r2 e j (by omega) (by omega) h4) h) (r1 i (s - 1) h1 (by omega) (by omega))
  ·rw [v2 i (by omega) h2]
   by_cases c2:j<e
   ·rw [v3 j h3 c2]
    rcases hhi with h|h|h
    ·omega
    ·omega
    ·exact swoT.ntrans _ _ _ (swoT.ntrans _ _ _ (r1 s (j - (e - m)) (by omega) (by omega) (by omega)) h) (r2 (i+(m - s)) (e - 1) (by omega) (by omega) (by omega))
   ·rw [v4 j (by omega)];exact r2 _ _ (by omega) (by omega) h4
theorem join_runs {d:Array Tg} {a mid b:Nat} (h1:RunT d a mid) (h2:RunT d mid b) (hc:∀ i j,a≤i→i<mid→mid≤j→j<b→ltT d[j]! d[i]! = false):RunT d a b:=fun i j hi hij hj=>by
 by_cases c1:j<mid
 ·exact h1 i j hi hij c1
 ·by_cases c2:i<mid
  ·exact hc i j hi c2 (by omega) hj
  ·exact h2 i j (by omega) hij hj
theorem cross_perm {d d1 d2:Array Tg} {a mid b:Nat} (hm:mid≤b) (hb:b≤d.size) (p1:PermIn a mid d d1) (p2:PermIn mid b d1 d2) (hc:∀ i j,a≤i→i<mid→mid≤j→j<b→ltT d[j]! d[i]! = false) :
  ∀ i j,a≤i→i<mid→mid≤j→j<b→ltT d2[j]! d2[i]! = false:=by
 intro i j h1 h2 h3 h4
 rw [p2.2.1 i (Or.inl h2)]
 have e1:∀ j,mid≤j→j<b→∀ i,a≤i→i<mid→ltT d1[j]! d1[i]! = false:=fun j hj hjb=>by
  rw [p1.2.1 j (Or.inr hj)]
  exact permIn_all d d1 a mid (fun x=>ltT d[j]! x=false) (Nat.le_trans hm hb) p1 (fun i h1 h2=>hc i j h1 h2 hj hjb)
 exact permIn_all d1 d2 mid b (fun x=>ltT x d1[i]! = false) (by rw [p1.1];exact hb) p2 (fun j h3 h4=>e1 j h3 h4 i h1 h2) j h3 h4
theorem tags_perm {d d':Array Tg} {a b:Nat} (hb:b≤d.size) (p:PermIn a b d d') (P:Nat→Prop) (h:∀ i,a≤i→i<b→P d[i]!.t):∀ i,a≤i→i<b→P d'[i]!.t :=
 permIn_all d d' a b (fun x=>P x.t) hb p h
end
section
open Go.RowKit Go.Lib Go.Sort Go.Shelf
def cmpT (x y:Tg):Int:=cmpN x.r.seq y.r.seq
theorem cmpT_less {x y:Tg}:cmpT x y<0 ↔ x.r.seq<y.r.seq:=by
 unfold cmpT cmpN
 split
 ·rename_i h;exact ⟨fun _=>h,fun _=>by decide⟩
 ·rename_i h
  split
  ·exact ⟨fun h2=>absurd h2 (by decide),fun h2=>absurd h2 h⟩
  ·exact ⟨fun h2=>absurd h2 (by decide),fun h2=>absurd h2 h⟩
theorem cmp_later {x y:Tg} (h:x.t<y.t):cmpT y x<0 ↔ ltT y x=true:=by
 rw [cmpT_less,ltT_true]
 omega
theorem cmp_later_lt {x y:Tg} (hc:cmpT y x<0):ltT x y=false:=by
 rw [cmpT_less] at hc
 rw [ltT_false]
 omega
theorem cmp_later_ge {x y:Tg} (h:x.t<y.t) (hc:¬ cmpT y x<0):ltT y x=false:=by
 rw [cmpT_less] at hc
 rw [ltT_false]
 omega
def encT (x:Tg):List Value:=[.bool x.r.del,.int .u64 (x.r.seq:Int),.string (strOfNums x.r.key),.string (strOfNums x.r.val)]
theorem encT_len (x:Tg):(encT x).length=4:=rfl
theorem encT_one (x:Tg):∀ v ∈ encT x,v.oneCell'=true:=by
 intro v hv
 simp [encT] at hv
 rcases hv with rfl|rfl|rfl|rfl <;> rfl
set_option maxHeartbeats 2000000 in
set_option maxRecDepth 10000 in
theorem bySeq_grown (a b:Rec) (w:World) :
  Calls Try.prog 29 #[recV a,recV b] w fun e w'=>e=.returned (.int .i64 (cmpN a.seq b.seq))∧Grown w w':=by
 have HC:=hid (fun w=>cmp64_own a.seq b.seq w)
 have HG:=hid (((Grown.refl w).alloc (.cells #[.bool a.del,.int .u64 (a.seq:Int),.string (strOfNums a.key),.string (strOfNums a.val)] 30)).alloc (.cells #[.bool b.del,.int .u64 (b.seq:Int),.string (strOfNums b.key),.string (strOfNums b.val)] 30))
 unfold recV
 go_enter Try.func29,Try.ntmps29
 go_wp2_with fail
 refine (HC.out _).mono ?_
 rintro e w1 ⟨rfl,rfl⟩
 go_wp2_with fail
 go_ret
 exact ⟨rfl,HG.out⟩
set_option maxHeartbeats 2000000 in
set_option maxRecDepth 10000 in
theorem oneSeq_grown (a b:Rec) (w:World) :
  Calls Try.prog 32 #[recV a,recV b] w fun e w'=>e=.returned (.bool (decide (a.seq=b.seq)))∧Grown w w':=by
 have HG:=hid (((Grown.refl w).alloc (.cells #[.bool a.del,.int .u64 (a.seq:Int),.string (strOfNums a.key),.string (strOfNums a.val)] 30)).alloc (.cells #[.bool b.del,.int .u64 (b.seq:Int),.string (strOfNums b.key),.string (strOfNums b.val)] 30))
 unfold recV
 by_cases h:a.seq=b.seq
 ·have hd:decide ((a.seq:Int)=(b.seq:Int))=true:=decide_eq_true (by omega)
  have hb:((a.seq:Int) == (b.seq:Int))=true:=by simp [h]
  rw [decide_eq_true h]
  clear h
  go_enter Try.func32,Try.ntmps32
  go_wp2_with fail
  go_ret
  exact ⟨rfl,HG.out⟩
 ·have hd:decide ((a.seq:Int)=(b.seq:Int))=false:=decide_eq_false (by omega)
  have hb:((a.seq:Int) == (b.seq:Int))=false:=by rw [beq_eq_false_iff_ne];omega
  rw [decide_eq_false h]
  clear h
  go_enter Try.func32,Try.ntmps32
  go_wp2_with fail
  go_ret
  exact ⟨rfl,HG.out⟩
theorem cmpLaysT (blk off size:Nat) (w:World):CmpLays Try.prog 29 #[] encT 4 cmpT blk off size w :=
 fun _ _ _ _ x y=>bySeq_grown x.r y.r _
end
section
open Go.Sort
theorem rot_none (f:Nat→Tg) (s m x:Nat):rotF f s m m x=f x:=by
 unfold rotF
 by_cases h:s≤x∧x<m
 ·rw [if_neg (by omega),if_pos (by omega)];congr 1;omega
 ·rw [if_neg (by omega),if_neg (by omega)]
theorem rot_none2 (f:Nat→Tg) (m e x:Nat):rotF f m m e x=f x:=by
 unfold rotF
 by_cases h:m≤x∧x<m+(e - m)
 ·rw [if_pos h];congr 1;omega
 ·rw [if_neg h,if_neg (by omega)]
theorem rot_up (f:Nat→Tg) (a k x:Nat) (ha:a≤k):rotF f a (a+1) (k+2) x=if x=k then rotF f a (a+1) (k+1) (k+1) else if x=k+1 then rotF f a (a+1) (k+1) k else rotF f a (a+1) (k+1) x:=by
 unfold rotF
 by_cases h1:x=k
 ·subst h1
  rw [if_pos rfl,if_pos (by omega),if_neg (by omega),if_neg (by omega)]
  congr 1;omega
 ·by_cases h2:x=k+1
  ·subst h2
   rw [if_neg h1,if_pos rfl,if_neg (by omega),if_pos (by omega),if_neg (by omega),if_pos (by omega)]
   congr 1;omega
  ·rw [if_neg h1,if_neg h2]
   by_cases h3:a≤x∧x<k
   ·rw [if_pos (by omega),if_pos (by omega)]
   ·rw [if_neg (by omega),if_neg (by omega),if_neg (by omega),if_neg (by omega)]
theorem rot_down (f:Nat→Tg) (m k x:Nat) (hk:k+1≤m):rotF f k m (m+1) x=if x=k+1 then rotF f (k+1) m (m+1) k else if x=k then rotF f (k+1) m (m+1) (k+1) else rotF f (k+1) m (m+1) x:=by
 unfold rotF
 by_cases h1:x=k+1
 ·subst h1
  rw [if_pos rfl,if_neg (by omega),if_pos (by omega),if_neg (by omega),if_neg (by omega)]
  congr 1;omega
 ·by_cases h2:x=k
  ·subst h2
   rw [if_neg h1,if_pos rfl,if_pos (by omega),if_pos (by omega)]
   congr 1;omega
  ·rw [if_neg h1,if_neg h2]
   by_cases h3:k≤x∧x<k+(m+1 - m)
   ·omega
   ·by_cases h4:k+(m+1 - m)≤x∧x<m+1
    ·rw [if_neg h3,if_pos h4,if_neg (by omega),if_pos (by omega)]
    ·rw [if_neg h3,if_neg h4,if_neg (by omega),if_neg (by omega)]
theorem one_left {d d':Array Tg} {a b i:Nat} (hR2:RunT d (a+1) b) (hT:TagsT d a (a+1) b) (hi:a+1≤i) (hib:i≤b)
  (hd:∀ x,d'[x]! = rotF (fun x=>d[x]!) a (a+1) i x) (hlo:i=a+1 ∨ cmpT d[i - 1]! d[a]!<0) (hhi:i=b ∨ ¬ cmpT d[i]! d[a]!<0):RunT d' a b:=by
 have hR1:RunT d a (a+1):=fun p q h1 h2 h3=>by omega
 obtain ⟨⟨_,hL,_⟩,⟨_,hE,_⟩,hC⟩:=sym_halves (s:=a) (e:=i) (mid:=i - 1) hR1 hR2 hT (Nat.le_refl _) (by omega) hi hib (by omega) hd (.inl rfl) (by
  rcases hlo with h|h
  ·exact .inl h
  ·exact .inr (.inr (cmp_later_lt h)))
 refine join_runs hL (fun p q h1 h2 h3=>?_) hC
 by_cases hp:i≤p
 ·exact hE p q hp h2 h3
 ·obtain rfl:p=i - 1:=by omega
  have e1:d'[i - 1]! = d[a]!:=by
   rw [hd];unfold rotF
   rw [if_neg (by omega),if_pos (by omega)]
   congr 1;omega
  have e2:d'[q]! = d[q]!:=by
   rw [hd];unfold rotF
   rw [if_neg (by omega),if_neg (by omega)]
  rw [e1,e2]
  rcases hhi with h|h
  ·omega
  ·have h0:=cmp_later_ge (hT a i (Nat.le_refl _) (by omega) hi (by omega)) h
   by_cases hq:q=i
   ·rw [hq];exact h0
   ·exact swoT.ntrans _ _ _ (hR2 i q hi (by omega) h3) h0
theorem one_right {d d':Array Tg} {a m i:Nat} (hR1:RunT d a m) (hT:TagsT d a m (m+1)) (hi:a≤i) (him:i≤m)
  (hd:∀ x,d'[x]! = rotF (fun x=>d[x]!) i m (m+1) x) (hlo:i=a ∨ ¬ cmpT d[m]! d[i - 1]!<0) (hhi:i=m ∨ cmpT d[m]! d[i]!<0):RunT d' a (m+1):=by
 have hR2:RunT d m (m+1):=fun p q h1 h2 h3=>by omega
 obtain ⟨⟨hA,_,_⟩,⟨hM,_,_⟩,hC⟩:=sym_halves (s:=i) (e:=m+1) (mid:=i+1) hR1 hR2 hT hi him (by omega) (Nat.le_refl _) (by omega) hd (.inr (.inl rfl)) (by
  rcases hhi with h|h
  ·exact .inr (.inl h)
  ·exact .inr (.inr (cmp_later_lt h)))
 refine join_runs (fun p q h1 h2 h3=>?_) hM hC
 by_cases hq:q<i
 ·exact hA p q h1 h2 hq
 ·obtain rfl:q=i:=by omega
  have e1:d'[q]! = d[m]!:=by
   rw [hd];unfold rotF
   rw [if_pos (by omega)]
   congr 1;omega
  have e2:d'[p]! = d[p]!:=by
   rw [hd];unfold rotF
   rw [if_neg (by omega),if_neg (by omega)]
  rw [e1,e2]
  rcases hlo with h|h
  ·omega
  ·have h0:=cmp_later_ge (hT (q - 1) m (by omega) (by omega) (Nat.le_refl _) (by omega)) h
   by_cases hp:p=q - 1
   ·rw [hp];exact h0
   ·exact swoT.ntrans _ _ _ h0 (hR1 p (q - 1) h1 (by omega) (by omega))
end
end Go.Proofs.Ytbmhdfjaakkoaaa

/-
  TextGet; TextPut; VarLen; RecOwn; RecBody; CobsLaws.
-/
import Derived.Lib.BitFns
import Derived.Lib.Walk
import Derived.Lib.Strings
import Derived.Lib.Slices
import Derived.Lib.Small
import Derived.Deep.RegionHeld3
import Derived.Lib.SlBytesConst
import Derived.Lib.Hide
import Derived.Test.YtehkjkcnigknkaaGreatV01
import Derived.Test.YtehkjkcnigknkaaGreatV02
import Derived.Test.YtehkjkcnigknkaaGreatV05
import Derived.Test.YtehkjkcnigknkaaGreatV07
import Derived.Test.YtehkjkcnigknkaaGreatV11
import Derived.Test.YtehkjkcnigknkaaGreatV12
import Derived.Test.YtehkjkcnigknkaaGreatV21
import Derived.Test.YtehkjkcnigknkaaGreatV24
namespace Go.Proofs.YtehkjkcnigknkaaGreat
open Lib (hid)
section
open Go.RowKit
theorem bound_any (n:Nat) (z:Int) (hz:z=n) (hn:n≤9223372036854775807) (w:World) :
  Calls Tryz.prog 176 #[.int .i64 z] w fun e w'=>e=.returned (.int .u64 (n:Int))∧w=w':=by
 subst hz
 have hw:IntKind.u64.wrap (n:Int)=n:=by rw [IntKind.wrap_u64];omega
 by_cases h0:n=0
 ·subst h0
  go_enter Tryz.func176,Tryz.ntmps176
  go_wp2_with fail
  go_ret
  exact ⟨rfl,rfl⟩
 ·have h1:1≤n:=by omega
  go_enter Tryz.func176,Tryz.ntmps176
  go_wp2_with fail
  all_goals
   go_ret
   exact ⟨by first|rfl|simp [hw],rfl⟩
def TextPost (k:Nat) (p:Option Addr) (N c a:Nat) (t:VT) (w:World) (e:Ending) (w':World):Prop :=
 Keeps (Just k) w w'∧((t.e=0∧e=.returned (.string (strOfNums t.t))∧CurB w' k p N c (a+t.n) true 0) ∨ (t.e ≠ 0∧e=.panicked (given k)∧CurB w' k p N c (a+t.n) true t.e))
theorem vtext_by (xs:List Int) (l m:Nat) (t:VR) (ht:t=vget xs):vtext xs l m=if t.e ≠ 0 then ⟨t.e,t.n,[]⟩
 else if (m:Int)<t.x then ⟨3,t.n,[]⟩
 else if t.x<(l:Int) then ⟨4,t.n,[]⟩
 else if (xs.drop t.n).length<t.x.toNat then ⟨2,t.n,[]⟩
 else ⟨0,t.n+t.x.toNat,(xs.drop t.n).take t.x.toNat⟩:=by subst ht;rfl
set_option maxHeartbeats 2000000 in
set_option maxRecDepth 10000 in
theorem gettext_any (k:Nat) (p:Option Addr) (xs:List Int) (N c a l m:Nat) (zl zm:Int) (hzl:zl=(l:Int)) (hzm:zm=(m:Int)) (hl4:l≤1000000) (hm9:m≤100000000) (w:World) (hx:N=xs.length) (h:CurB w k p N c a true 0) (hb:Bytes8 w p xs) (ho:Octets xs) (hp:0<xs.length→∀ q,p=some q→q.block ≠ k)
  (hn:a≤N) (hN:N≤c) (hN9:N≤140737488355328) (hc:c≤9223372036854775807) :
  Calls Tryz.prog 145 #[.pointer (some ⟨k,0,none⟩),.int .i64 zl,.int .i64 zm] w (TextPost k p N c a (vtext (xs.drop a) l m) w):=by
 subst hzl hzm
 have hg:=get_any k p xs N c a w hx h hb ho hp hn hN hc
 obtain ⟨t,ht⟩:∃ t,t=vget (xs.drop a):=⟨_,rfl⟩
 have htn:t.n≤N - a:=by
  rw [ht,hx,← List.length_drop]
  exact vread_n 10 true _
 have htx:t.e=0→0≤t.x∧t.x<18446744073709551616:=fun he=>by
  have:=vread_bound 9 true (xs.drop a) (ho.drop a) (by rw [ht] at he;exact he)
  rw [ht]
  exact this
 rw [vtext_by _ l m t ht]
 rw [← ht] at hg
 have HG:=hid hg;have HB:=hid hb;have HP:=hid hp;have HX:=hid hx
 have HBl:=hid (fun w=>bound_any l l rfl (by omega) w)
 have HBm:=hid (fun w=>bound_any m m rfl (by omega) w)
 have HC:=hid hc;have HN:=hid hN
 clear hg ht h hb ho hp hx hc hN
 by_cases he:t.e=0
 ·obtain ⟨hx0,hx1⟩:=htx he
  rw [if_neg (by simpa using he)]
  clear htx
  obtain ⟨te,tn,tx⟩:=t
  simp only at he htn hx0 hx1 ⊢ HG
  subst he
  obtain ⟨X,rfl⟩:∃ X:Nat,tx=(X:Int):=⟨tx.toNat,by omega⟩
  have hx1':X<18446744073709551616:=by omega
  have hlen:((xs.drop a).drop tn).length=N - (a+tn):=by rw [List.drop_drop,List.length_drop,HX.out]
  rw [hlen]
  clear hlen
  simp only [Int.toNat_natCast]
  have HG:=hid (HG.out.mono fun e w1 (h:GetPost k p N c a ⟨0,tn,(X:Int)⟩ w e w1)=>show e=.returned (.int .u64 (X:Int))∧CurB w1 k p N c (a+tn) true 0∧Keeps (Just k) w w1 by
   obtain ⟨hk,⟨_,rfl,hcur⟩|⟨he,_,_⟩⟩:=h
   ·exact ⟨rfl,hcur,hk⟩
   ·exact absurd rfl he)
  by_cases hm:(m:Int)<(X:Int)
  ·rw [if_pos hm]
   have hmn:m<X:=by omega
   have hd:decide ((X:Int) > m)=true:=by simp;omega
   go_enter Tryz.func145,Tryz.ntmps145
   go_wp2_with fail
   refine HG.out.mono ?_
   rintro e w1 ⟨rfl,hcur,hk⟩
   have HK:=hid hk;have HCu:=hid hcur
   clear hk hcur HG
   go_wp2_with fail
   refine (HBm.out _).mono ?_
   rintro e w2 ⟨rfl,rfl⟩
   go_wp2_with fail
   refine (fail_at k p N c (a+tn) 3 _ HCu.out (by decide)).mono ?_
   rintro e w2 ⟨rfl,hcur,hk⟩
   exact ⟨rfl,HK.out.trans hk,.inr ⟨by simp,rfl,hcur⟩⟩
  ·rw [if_neg hm]
   have hmn:X≤m:=by omega
   clear hx1 hx1'
   by_cases hl:(X:Int)<(l:Int)
   ·rw [if_pos hl]
    have hln:X<l:=by omega
    go_enter Tryz.func145,Tryz.ntmps145
    go_wp2_with fail
    refine HG.out.mono ?_
    rintro e w1 ⟨rfl,hcur,hk⟩
    have HK:=hid hk;have HCu:=hid hcur
    clear hk hcur HG
    go_wp2_with fail
    refine (HBm.out _).mono ?_
    rintro e w2 ⟨rfl,rfl⟩
    go_wp2_with fail
    refine (HBl.out _).mono ?_
    rintro e w2 ⟨rfl,rfl⟩
    go_wp2_with fail
    refine (fail_at k p N c (a+tn) 4 _ HCu.out (by decide)).mono ?_
    rintro e w2 ⟨rfl,hcur,hk⟩
    exact ⟨rfl,HK.out.trans hk,.inr ⟨by simp,rfl,hcur⟩⟩
   ·rw [if_neg hl]
    have hln:l≤X:=by omega
    have hw:IntKind.i64.wrap (X:Int)=X:=by rw [IntKind.wrap_i64];omega
    by_cases hs:N - (a+tn)<X
    ·rw [if_pos hs]
     go_enter Tryz.func145,Tryz.ntmps145
     go_wp2_with fail
     refine HG.out.mono ?_
     rintro e w1 ⟨rfl,hcur,hk⟩
     have HK:=hid hk;have HCu:=hid hcur
     clear hk hcur HG
     go_wp2_with fail
     refine (HBm.out _).mono ?_
     rintro e w2 ⟨rfl,rfl⟩
     go_wp2_with fail
     refine (HBl.out _).mono ?_
     rintro e w2 ⟨rfl,rfl⟩
     go_wp2_with fail
     refine (take_short k p N c (a+tn) (X:Int) _ HCu.out (by omega) (by omega) (by omega)).mono ?_
     rintro e w2 ⟨rfl,hcur,hk⟩
     exact ⟨rfl,HK.out.trans hk,.inr ⟨by simp,rfl,hcur⟩⟩
    ·rw [if_neg hs]
     go_enter Tryz.func145,Tryz.ntmps145
     go_wp2_with fail
     refine HG.out.mono ?_
     rintro e w1 ⟨rfl,hcur,hk⟩
     have HK:=hid hk;have HCu:=hid hcur
     have HB1:=hid (HB.out.keepPos hk (fun h0 q hq=>HP.out h0 q hq))
     clear hk hcur HG
     go_wp2_with fail
     refine (HBm.out _).mono ?_
     rintro e w2 ⟨rfl,rfl⟩
     go_wp2_with fail
     refine (HBl.out _).mono ?_
     rintro e w2 ⟨rfl,rfl⟩
     go_wp2_with fail
     refine (take_at k p xs N c (a+tn) X (X:Int) _ HX.out (by omega) HCu.out HB1.out HP.out (by omega) HN.out (by omega) HC.out).mono ?_
     rintro e w2 ⟨v,rfl,⟨q,d,rfl,hd,hd',hbv,hq,hk⟩,hcur⟩
     have hcv:=textOf q X d ((xs.drop (a+tn)).take X) w2 (by rw [List.length_take,List.length_drop];have:=HX.out;omega) hbv
     have HK2:=hid (HK.out.trans hk);have HC2:=hid hcur
     clear hk hcur hbv hq HK HCu
     go_wp2_with fail
     go_ret
     refine ⟨HK2.out,.inl ⟨rfl,?_,?_⟩⟩
     ·rw [List.drop_drop]
      rfl
     ·rw [← Nat.add_assoc]
      exact HC2.out
 ·rw [if_pos (by simpa using he)]
  clear htx
  go_enter Tryz.func145,Tryz.ntmps145
  go_wp2_with fail
  refine HG.out.mono ?_
  rintro e w1 ⟨hk,⟨he',_,_⟩|⟨he',rfl,hcur⟩⟩
  ·exact absurd he' he
  ·exact ⟨rfl,hk,.inr ⟨he,rfl,hcur⟩⟩
end
section
open Go.RowKit
set_option maxHeartbeats 800000 in
set_option maxRecDepth 10000 in
theorem puttext_any (base g:Nat) (xs t:List Int) (w:World) (h:BufAt w base g xs) (hb:base≤g) (hs:base≤w.heap.size) (ho:Octets t) (ht:t.length≤100000000) (hx:xs.length≤1000000000) :
  Calls Tryz.prog 116 #[.pointer (some ⟨g,0,none⟩),.string (strOfNums t)] w fun e w'=>e=.returned (.tuple #[])∧BufAt w' base g (xs ++ textB t)∧Below base w w':=by
 have HP:=hid (fun z hz=>put_any base g xs t.length z hz w h hs (by omega) (by omega))
 have hten:=vnum_ten (x:=t.length) (by omega)
 have hsz:=str_size t
 have hcv:=run_str_bytes t
 have HR:=hid (fun W q c (h:BufAt W base g (xs ++ vnum t.length)) (hs:base≤W.heap.size) (hy:Bytes8 W (some q) t)=>bufRaw_some base g (xs ++ vnum t.length) t q t.length c W h rfl hy hb hs (by rw [List.length_append];omega))
 have HB:=hid (fun W=>bytesWorld_bytes W 5 t ho)
 unfold textB
 rw [← List.append_assoc]
 obtain ⟨L,hL⟩:∃ L,L=t.length:=⟨_,rfl⟩
 rw [← hL] at hsz hcv HP HR ht ⊢
 clear h ho hten hx hL
 go_enter Tryz.func116,Tryz.ntmps116
 go_wp2_with fail
 refine (HP.out _ (by first|rfl|omega|(rw [IntKind.wrap_u64'];omega))).mono ?_
 rintro e w1 ⟨rfl,hbuf,hk⟩
 have HBu:=hid hbuf;have HK:=hid hk
 clear hbuf hk HP
 go_wp2_with fail
 have hk2:=HK.out.trans (bytesWorld_keeps (OnBuf base g) w1 5 (strOfNums t))
 have hbuf2:BufAt (Lib.bytesWorld w1 5 (strOfNums t)) base g (xs ++ vnum L):=HBu.out.keepO (bytesWorld_keeps NoBlock w1 5 (strOfNums t)) (fun h=>h) (fun _ _ _ _ h=>h)
 refine (HR.out _ _ _ hbuf2 (by rw [Lib.bytesWorld_size];have:=hk2.size;have:=HK.out.size;omega) (HB.out _)).mono ?_
 rintro e w2 ⟨rfl,hbuf,hbel⟩
 have HL2:=hid ((onBuf_below hk2 hb hs).trans hbel);have HB2:=hid hbuf
 clear hbuf hbel hk2 hbuf2 HR HB HBu HK
 go_wp2_with fail
 go_returns
 exact ⟨rfl,HB2.out,HL2.out⟩
end
section
open Go.RowKit
end
section
open Go.RowKit
theorem str_none {xs:List Int} (h:xs.length=0):strOfNums xs=⟨#[]⟩:=by
 obtain rfl:xs=[]:=List.length_eq_zero_iff.1 h
 rfl
theorem str_some {xs:List Int} (h:0<xs.length):(strOfNums xs).toList.isEmpty=false:=by
 rw [ByteArray.toList_eq]
 cases xs with
 | nil=>simp at h
 | cons a r=>simp [strOfNums]
set_option maxHeartbeats 1600000 in
set_option maxRecDepth 10000 in
theorem check_own (r:Rec) (h1:r.key.length≤140737488355328) (h2:r.val.length≤140737488355328) (w:World) :
  Calls Tryz.prog 87 #[recV r] w fun e w'=>e=.returned (.int .i64 (checkR r))∧Keeps NoBlock w w':=by
 obtain ⟨del,seq,key,val⟩:=r
 simp only at h1 h2
 have hk:=str_size key
 have hv:=str_size val
 have hdef:checkR ⟨del,seq,key,val⟩=if key.length=0 then 4 else if 4096<key.length then 3 else if del=true∧0<val.length then 4 else if 1048576<val.length then 3 else 0:=rfl
 rw [hdef]
 have hv0:=fun h=>str_none (xs:=val) h
 have hv1:=fun h=>str_some (xs:=val) h
 unfold recV
 simp only
 clear hdef
 obtain ⟨K,hK⟩:∃ K,K=key.length:=⟨_,rfl⟩
 obtain ⟨V,hV⟩:∃ V,V=val.length:=⟨_,rfl⟩
 rw [← hK] at h1 hk ⊢
 rw [← hV] at h2 hv hv0 hv1 ⊢
 clear hK hV
 by_cases c1:K=0
 ·rw [if_pos c1]
  subst c1
  clear hv0 hv1
  go_enter Tryz.func87,Tryz.ntmps87
  go_wp2_with fail
  go_ret
  exact ⟨rfl,(Keeps.refl _ _).alloc _⟩
 ·rw [if_neg c1]
  have d1:decide ((K:Int)<1)=false:=decide_eq_false (by omega)
  by_cases c2:4096<K
  ·rw [if_pos c2]
   have d2:decide ((4096:Int)<(K:Int))=true:=decide_eq_true (by omega)
   clear hv0 hv1
   go_enter Tryz.func87,Tryz.ntmps87
   go_wp2_with fail
   go_ret
   exact ⟨rfl,(Keeps.refl _ _).alloc _⟩
  ·rw [if_neg c2]
   have d2:decide ((4096:Int)<(K:Int))=false:=decide_eq_false (by omega)
   cases del with
   | true =>
    by_cases c3:0<V
    ·rw [if_pos ⟨rfl,c3⟩]
     have e3:=hv1 c3
     clear hv0 hv1
     go_enter Tryz.func87,Tryz.ntmps87
     go_wp2_with fail
     go_ret
     exact ⟨rfl,(Keeps.refl _ _).alloc _⟩
    ·obtain rfl:V=0:=by omega
     rw [if_neg (by simp),if_neg (by decide)]
     rw [hv0 rfl]
     clear hv0 hv1 hv
     go_enter Tryz.func87,Tryz.ntmps87
     go_wp2_with fail
     go_ret
     exact ⟨rfl,(Keeps.refl _ _).alloc _⟩
   | false =>
    rw [if_neg (by simp)]
    clear hv0 hv1
    by_cases c4:1048576<V
    ·rw [if_pos c4]
     have d4:decide ((1048576:Int)<(V:Int))=true:=decide_eq_true (by omega)
     go_enter Tryz.func87,Tryz.ntmps87
     go_wp2_with fail
     go_ret
     exact ⟨rfl,(Keeps.refl _ _).alloc _⟩
    ·rw [if_neg c4]
     have d4:decide ((1048576:Int)<(V:Int))=false:=decide_eq_false (by omega)
     go_enter Tryz.func87,Tryz.ntmps87
     go_wp2_with fail
     go_ret
     exact ⟨rfl,(Keeps.refl _ _).alloc _⟩
theorem kind_own (r:Rec) (w:World) :
  Calls Tryz.prog 115 #[recV r] w fun e w'=>e=.returned (.int .u8 (if r.del then 3 else 2))∧Keeps NoBlock w w':=by
 obtain ⟨del,seq,key,val⟩:=r
 unfold recV
 simp only
 cases del
 all_goals
  go_enter Tryz.func115,Tryz.ntmps115
  go_wp2_with fail
  go_ret
  exact ⟨rfl,(Keeps.refl _ _).alloc _⟩
def GonePost (k:Nat) (p:Option Addr) (N c:Nat) (w:World):List Int→Ending→World→Prop
 | [],e,w'=>e=.panicked (given k)∧CurB w' k p N c 0 true 2∧Keeps (Just k) w w'
 | b :: _,e,w'=>Keeps (Just k) w w'∧CurB w' k p N c 1 true (if b ≠ 2∧b ≠ 3 then 4 else 0)∧e=if b ≠ 2∧b ≠ 3 then .panicked (given k) else .returned (.bool (b == 3))
set_option maxHeartbeats 1600000 in
theorem gone_own (k:Nat) (p:Option Addr) (xs:List Int) (N c:Nat) (w:World) (hx:N=xs.length) (h:CurB w k p N c 0 true 0) (hb:Bytes8 w p xs) (ho:Octets xs) (hp:0<xs.length→∀ q,p=some q→q.block ≠ k) (hN:N≤c) (hc:c≤9223372036854775807) :
  Calls Tryz.prog 143 #[.pointer (some ⟨k,0,none⟩)] w (GonePost k p N c w xs):=by
 cases xs with
 | nil =>
  have HS:=hid (byte_short k p N c 0 w h (by omega) (by simp at hx;omega) (by omega))
  clear h hb ho hp hN hc hx
  go_enter Tryz.func143,Tryz.ntmps143
  go_wp2_with fail
  refine HS.out.mono ?_
  rintro e w' ⟨rfl,hcur,hk⟩
  exact ⟨rfl,rfl,hcur,hk⟩
 | cons b r =>
  have HB:=hid (byte_at k p (b :: r) N c 0 w hx h hb ho hp (by simp at hx;omega) hN hc)
  rw [List.getD_cons_zero] at HB
  clear h hb ho hp hN hc hx
  by_cases h2:b=2
  ·subst h2
   go_enter Tryz.func143,Tryz.ntmps143
   go_wp2_with fail
   refine HB.out.mono ?_
   rintro e w' ⟨rfl,hcur,hk⟩
   have HC:=hid hcur;have HK:=hid hk
   clear hcur hk HB
   go_wp2_with fail
   go_ret
   exact ⟨HK.out,HC.out,rfl⟩
  ·by_cases h3:b=3
   ·subst h3
    clear h2
    go_enter Tryz.func143,Tryz.ntmps143
    go_wp2_with fail
    refine HB.out.mono ?_
    rintro e w' ⟨rfl,hcur,hk⟩
    have HC:=hid hcur;have HK:=hid hk
    clear hcur hk HB
    go_wp2_with fail
    go_ret
    exact ⟨HK.out,HC.out,rfl⟩
   ·have hc4:b ≠ 2∧b ≠ 3:=⟨h2,h3⟩
    have e2:(b != 2)=true:=by simp [h2]
    have e3:(b != 3)=true:=by simp [h3]
    go_enter Tryz.func143,Tryz.ntmps143
    go_wp2_with fail
    refine HB.out.mono ?_
    rintro e w' ⟨rfl,hcur,hk⟩
    have HC:=hid hcur;have HK:=hid hk
    clear hcur hk HB
    go_wp2_with fail
    refine (fail_at k p N c (0+1) 4 _ HC.out (by decide)).mono ?_
    rintro e w2 ⟨rfl,hcur,hk⟩
    refine ⟨rfl,HK.out.trans hk,?_,?_⟩
    ·rw [if_pos hc4]
     exact hcur
    ·rw [if_pos hc4]
end
section
open Go.RowKit
theorem Keeps.ofBelowAt {B:Nat} {a b:World} (h:Below B a b):Keeps (fun k=>B≤k) a b:=⟨h.os,h.tape,h.output,h.size,fun k _ hn=>h.block k (by omega)⟩
theorem Keeps.onBuf {B g:Nat} {a b:World} (h:Keeps (OnBuf B g) a b) (hB:B≤g):Keeps (fun k=>B≤k) a b:=h.wider (fun k _ hk=>by rcases hk with rfl|hk <;> omega)
theorem textB_len (t:List Int) (ht:t.length≤2000000):(textB t).length≤2000010:=by
 unfold textB
 rw [List.length_append]
 have:=vnum_ten (x:=t.length) (by omega)
 omega
set_option maxHeartbeats 4000000 in
set_option maxRecDepth 10000 in
theorem body_own (r:Rec) (w:World) (hmod:r.Modest):Calls Tryz.prog 88 #[recV r] w fun e w'=>∃ v,e=.returned (.tuple #[v,.int .i64 (checkR r)])∧NewBytes w (bodyE r) v w':=by
 have hf:=hmod.fine
 have h1:=hmod.key
 have h2:=hmod.val
 have HC:=hid (fun w=>check_own r (by omega) (by omega) w)
 have HKd:=hid (fun w=>kind_own r w)
 by_cases hc:checkR r=0
 ·have hbe:bodyE r=bodyR r:=by unfold bodyE;rw [if_pos hc]
  rw [hbe,hc]
  rw [hc] at HC
  clear hbe hc hmod
  obtain ⟨del,seq,key,val⟩:=r
  have h64:=hf.seq
  have ok:=hf.key
  have ov:=hf.val
  simp only at h1 h2 h64 ok ov
  have lk:=textB_len key h1
  have lv:=textB_len val h2
  have ln:=vnum_ten h64
  have hdef:bodyR ⟨del,seq,key,val⟩=(((([] ++ [if del then 3 else 2]) ++ vnum seq) ++ textB key) ++ if del then [] else textB val):=by
   cases del <;> simp [bodyR]
  rw [hdef]
  clear hdef
  unfold recV at HC HKd ⊢
  simp only at HC HKd ⊢
  have HPn:=hid (fun base g xs w h hs hx=>put_any base g xs seq (seq:Int) rfl w h hs hx h64)
  have HPk:=hid (fun base g xs w h hb hs hx=>puttext_any base g xs key w h hb hs ok (by omega) hx)
  have HPv:=hid (fun base g xs w h hb hs hx=>puttext_any base g xs val w h hb hs ov (by omega) hx)
  have hlv:(vnum seq).length≤10:=ln
  obtain ⟨V,hV⟩:∃ V,V=vnum seq:=⟨_,rfl⟩
  obtain ⟨K,hK⟩:∃ K,K=textB key:=⟨_,rfl⟩
  obtain ⟨X,hX⟩:∃ X,X=textB val:=⟨_,rfl⟩
  rw [← hV] at HPn hlv ⊢
  rw [← hK] at HPk lk ⊢
  rw [← hX] at HPv lv ⊢
  clear hV hK hX ln hf ok ov h64
  cases del
  ·simp only [if_false,Bool.false_eq_true] at HKd ⊢
   go_enter Tryz.func88,Tryz.ntmps88
   go_wp2_with fail
   refine (HC.out _).mono ?_
   rintro e w1 ⟨rfl,hk⟩
   have HR:Hid (RecAt w1 w.heap.size _):=hid (RecAt.ofWhole (r:=⟨_,seq,key,val⟩) ((Whole.new w _ _).keep hk (fun h=>h)))
   have HK:=hid (((Keeps.refl NoBlock w).alloc _).trans hk)
   have hsz1:w.heap.size+1≤w1.heap.size:=by have:=hk.size;simpa using this
   obtain ⟨c0,c1,c2,c3⟩:=HR.out
   have hwa:Keeps NoBlock w1 (w1.alloc (.cells #[.slice none 0 0] 145)):=(Keeps.refl NoBlock w1).alloc _
   have HRa:Hid (Whole (w1.alloc (.cells #[.slice none 0 0] 145)) w.heap.size 48 (recCells ⟨_,seq,key,val⟩)):=hid (((Whole.new w _ _).keep hk (fun h=>h)).keep hwa (fun h=>h))
   obtain ⟨b0,b1,b2,b3⟩:=RecAt.ofWhole HRa.out
   clear hk hwa
   go_wp2_with fail
   refine (HKd.out _).mono ?_
   rintro e w2 ⟨rfl,hk⟩
   have hb0:BufAt w2 w1.heap.size w1.heap.size []:=(bufNewB w1 w1.heap.size).keepO hk (fun h=>h) (fun _ _ _ _ h=>h)
   have HQ2:=hid (((Keeps.refl (fun i=>w1.heap.size≤i) w1).alloc (.cells #[.slice none 0 0] 145)).trans (hk.wider (S':=fun i=>w1.heap.size≤i) (fun _ _ h=>h.elim)))
   have HR2:Hid (Whole w2 w.heap.size 48 (recCells ⟨_,seq,key,val⟩)):=hid (HRa.out.keep hk (fun h=>h))
   have HB2:=hid hb0
   clear hk hb0
   go_wp2_with fail
   refine (bufByteK w1.heap.size w1.heap.size [] _ _ HB2.out (by have:=HQ2.out.size;omega) (by simp)).mono ?_
   rintro e w3 ⟨rfl,hb3,hk⟩
   have hk3:=hk.onBuf (Nat.le_refl _)
   have HQ3:=hid (HQ2.out.trans hk3)
   have HR3:Hid (Whole w3 w.heap.size 48 (recCells ⟨_,seq,key,val⟩)):=hid (HR2.out.keep hk3 (by omega))
   have HB3:=hid hb3
   obtain ⟨x0,x1,x2,x3⟩:=RecAt.ofWhole HR3.out
   clear hk hk3 hb3 HB2 HQ2 HR2
   go_wp2_with fail
   refine (HPn.out _ _ _ _ HB3.out (by have:=HQ3.out.size;omega) (by simp)).mono ?_
   rintro e w4 ⟨rfl,hb4,hk⟩
   have hk4:=hk.onBuf (Nat.le_refl _)
   have HQ4:=hid (HQ3.out.trans hk4)
   have HR4:Hid (Whole w4 w.heap.size 48 (recCells ⟨_,seq,key,val⟩)):=hid (HR3.out.keep hk4 (by omega))
   have HB4:=hid hb4
   obtain ⟨y0,y1,y2,y3⟩:=RecAt.ofWhole HR4.out
   clear hk hk4 hb4 HB3 HQ3 HR3
   go_wp2_with fail
   refine (HPk.out _ _ _ _ HB4.out (Nat.le_refl _) (by have:=HQ4.out.size;omega) (by simp;omega)).mono ?_
   rintro e w5 ⟨rfl,hb5,hk⟩
   have hk5:=Keeps.ofBelowAt hk
   have HQ5:=hid (HQ4.out.trans hk5)
   have HR5:Hid (Whole w5 w.heap.size 48 (recCells ⟨_,seq,key,val⟩)):=hid (HR4.out.keep hk5 (by omega))
   have HB5:=hid hb5
   obtain ⟨z0,z1,z2,z3⟩:=RecAt.ofWhole HR5.out
   clear hk hk5 hb5 HB4 HQ4 HR4
   go_wp2_with fail
   refine (HPv.out _ _ _ _ HB5.out (Nat.le_refl _) (by have:=HQ5.out.size;omega) (by simp;omega)).mono ?_
   rintro e w6 ⟨rfl,hb6,hk⟩
   have hk6:=Keeps.ofBelowAt hk
   have HQ6:=hid (HQ5.out.trans hk6)
   have HB6:=hid hb6
   clear hk hk6 hb6 HB5 HQ5 HR5
   go_wp2_with fail
   refine (bufBytes w1.heap.size w1.heap.size _ _ HB6.out (by simp;omega)).mono ?_
   rintro e w9 ⟨v,rfl,q,d,rfl,hd,hd',hby,hq,hk⟩
   have HQ9:=hid (HQ6.out.trans (hk.wider (S':=fun i=>w1.heap.size≤i) (fun _ _ h=>h.elim)))
   have HBy:=hid hby
   clear hk hby hq
   go_wp2_with fail
   refine bodyPost_ret (results_tmp2 rfl _ _ _) rfl ?_
   refine ⟨_,rfl,q,_,d,rfl,by simp;try omega,by simp at hd ⊢;omega,hd',fun h0=>?_,HBy.out,HK.out.then HQ9.out (fun i hi h=>by omega)⟩
   obtain ⟨a,ha,_⟩:=HBy.out (by simp)
   rw [h0] at ha
   simp at ha
  ·simp only [if_true,List.append_nil] at HKd ⊢
   go_enter Tryz.func88,Tryz.ntmps88
   go_wp2_with fail
   refine (HC.out _).mono ?_
   rintro e w1 ⟨rfl,hk⟩
   have HR:Hid (RecAt w1 w.heap.size _):=hid (RecAt.ofWhole (r:=⟨_,seq,key,val⟩) ((Whole.new w _ _).keep hk (fun h=>h)))
   have HK:=hid (((Keeps.refl NoBlock w).alloc _).trans hk)
   have hsz1:w.heap.size+1≤w1.heap.size:=by have:=hk.size;simpa using this
   obtain ⟨c0,c1,c2,c3⟩:=HR.out
   have hwa:Keeps NoBlock w1 (w1.alloc (.cells #[.slice none 0 0] 145)):=(Keeps.refl NoBlock w1).alloc _
   have HRa:Hid (Whole (w1.alloc (.cells #[.slice none 0 0] 145)) w.heap.size 48 (recCells ⟨_,seq,key,val⟩)):=hid (((Whole.new w _ _).keep hk (fun h=>h)).keep hwa (fun h=>h))
   obtain ⟨b0,b1,b2,b3⟩:=RecAt.ofWhole HRa.out
   clear hk hwa
   go_wp2_with fail
   refine (HKd.out _).mono ?_
   rintro e w2 ⟨rfl,hk⟩
   have hb0:BufAt w2 w1.heap.size w1.heap.size []:=(bufNewB w1 w1.heap.size).keepO hk (fun h=>h) (fun _ _ _ _ h=>h)
   have HQ2:=hid (((Keeps.refl (fun i=>w1.heap.size≤i) w1).alloc (.cells #[.slice none 0 0] 145)).trans (hk.wider (S':=fun i=>w1.heap.size≤i) (fun _ _ h=>h.elim)))
   have HR2:Hid (Whole w2 w.heap.size 48 (recCells ⟨_,seq,key,val⟩)):=hid (HRa.out.keep hk (fun h=>h))
   have HB2:=hid hb0
   clear hk hb0
   go_wp2_with fail
   refine (bufByteK w1.heap.size w1.heap.size [] _ _ HB2.out (by have:=HQ2.out.size;omega) (by simp)).mono ?_
   rintro e w3 ⟨rfl,hb3,hk⟩
   have hk3:=hk.onBuf (Nat.le_refl _)
   have HQ3:=hid (HQ2.out.trans hk3)
   have HR3:Hid (Whole w3 w.heap.size 48 (recCells ⟨_,seq,key,val⟩)):=hid (HR2.out.keep hk3 (by omega))
   have HB3:=hid hb3
   obtain ⟨x0,x1,x2,x3⟩:=RecAt.ofWhole HR3.out
   clear hk hk3 hb3 HB2 HQ2 HR2
   go_wp2_with fail
   refine (HPn.out _ _ _ _ HB3.out (by have:=HQ3.out.size;omega) (by simp)).mono ?_
   rintro e w4 ⟨rfl,hb4,hk⟩
   have hk4:=hk.onBuf (Nat.le_refl _)
   have HQ4:=hid (HQ3.out.trans hk4)
   have HR4:Hid (Whole w4 w.heap.size 48 (recCells ⟨_,seq,key,val⟩)):=hid (HR3.out.keep hk4 (by omega))
   have HB4:=hid hb4
   obtain ⟨y0,y1,y2,y3⟩:=RecAt.ofWhole HR4.out
   clear hk hk4 hb4 HB3 HQ3 HR3
   go_wp2_with fail
   refine (HPk.out _ _ _ _ HB4.out (Nat.le_refl _) (by have:=HQ4.out.size;omega) (by simp;omega)).mono ?_
   rintro e w5 ⟨rfl,hb5,hk⟩
   have hk5:=Keeps.ofBelowAt hk
   have HQ5:=hid (HQ4.out.trans hk5)
   have HR5:Hid (Whole w5 w.heap.size 48 (recCells ⟨_,seq,key,val⟩)):=hid (HR4.out.keep hk5 (by omega))
   have HB5:=hid hb5
   obtain ⟨z0,z1,z2,z3⟩:=RecAt.ofWhole HR5.out
   clear hk hk5 hb5 HB4 HQ4 HR4
   go_wp2_with fail
   refine (bufBytes w1.heap.size w1.heap.size _ _ HB5.out (by simp;omega)).mono ?_
   rintro e w9 ⟨v,rfl,q,d,rfl,hd,hd',hby,hq,hk⟩
   have HQ9:=hid (HQ5.out.trans (hk.wider (S':=fun i=>w1.heap.size≤i) (fun _ _ h=>h.elim)))
   have HBy:=hid hby
   clear hk hby hq
   go_wp2_with fail
   refine bodyPost_ret (results_tmp2 rfl _ _ _) rfl ?_
   refine ⟨_,rfl,q,_,d,rfl,by simp;try omega,by simp at hd ⊢;omega,hd',fun h0=>?_,HBy.out,HK.out.then HQ9.out (fun i hi h=>by omega)⟩
   obtain ⟨a,ha,_⟩:=HBy.out (by simp)
   rw [h0] at ha
   simp at ha
 ·have hbe:bodyE r=[]:=by unfold bodyE;rw [if_neg hc]
  rw [hbe]
  obtain ⟨z,hz⟩:∃ z,z=checkR r:=⟨_,rfl⟩
  rw [← hz] at HC hc ⊢
  clear hbe hz hmod hf h1 h2 HKd
  obtain ⟨del,seq,key,val⟩:=r
  unfold recV at HC ⊢
  simp only at HC ⊢
  go_enter Tryz.func88,Tryz.ntmps88
  go_wp2_with fail
  refine (HC.out _).mono ?_
  rintro e w1 ⟨rfl,hk⟩
  have HR:Hid (RecAt w1 w.heap.size _):=hid (RecAt.ofWhole (r:=⟨del,seq,key,val⟩) ((Whole.new w _ _).keep hk (fun h=>h)))
  have HK:=hid (((Keeps.refl NoBlock w).alloc _).trans hk)
  obtain ⟨c0,c1,c2,c3⟩:=HR.out
  clear hk
  go_wp2_with fail
  refine bodyPost_ret (results_tmp2 rfl _ _ _) rfl ?_
  exact ⟨_,rfl,.ofNil _ _ HK.out⟩
end
section
open Go.RowKit
theorem Bytes8.ofNew1 (w:World) (t:TypeId) (f:Nat × Nat) (a:Int):Bytes8 (w.alloc (.cells #[.int .u8 a] t f)) (some ⟨w.heap.size,0,none⟩) [a]:=fun _=>by
 refine ⟨_,rfl,fun i hi=>?_⟩
 have:i=0:=by simp at hi;omega
 subst this
 rw [addZero]
 exact cell_new _ _ _ _ _ rfl
end
end Go.Proofs.YtehkjkcnigknkaaGreat

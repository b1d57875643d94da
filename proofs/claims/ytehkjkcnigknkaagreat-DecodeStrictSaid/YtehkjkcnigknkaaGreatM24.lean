/-
  TextPut; VarLen; RecOwn; RecBody; CobsLaws; CobsGrp.
-/
import Derived.Lib.BitFns
import Derived.Lib.Walk
import Derived.Lib.Strings
import Derived.Lib.Slices
import Derived.Lib.Small
import Derived.Deep.RegionHeld3
import Derived.Lib.SlBytesConst
import Derived.Lib.BytesEntry
import Derived.Lib.Hide
import Derived.Test.YtehkjkcnigknkaaGreatM01
import Derived.Test.YtehkjkcnigknkaaGreatM02
import Derived.Test.YtehkjkcnigknkaaGreatM05
import Derived.Test.YtehkjkcnigknkaaGreatM07
import Derived.Test.YtehkjkcnigknkaaGreatM11
import Derived.Test.YtehkjkcnigknkaaGreatM12
import Derived.Test.YtehkjkcnigknkaaGreatM23
namespace Go.Proofs.YtehkjkcnigknkaaGreat
open Lib (hid)
section
open Go.RowKit
set_option maxHeartbeats 800000 in
set_option maxRecDepth 10000 in
theorem puttext_any (base g:Nat) (xs t:List Int) (w:World) (h:BufAt w base g xs) (hb:base≤g) (hs:base≤w.heap.size) (ho:Octets t) (ht:t.length≤100000000) (hx:xs.length≤1000000000) :
  Calls Tryz.prog 116 #[.pointer (some ⟨g,0,none⟩),.string (strOfNums t)] w fun e w'=>e=.returned (.tuple #[])∧BufAt w' base g (xs ++ textB t)∧Below base w w':=by
 have HP:=hid (fun z hz=>put_any base g xs t.length z hz w h hs (by omega) (by omega))
 have hten:=vnum_ten (x:=t.length) (by omega)
 have hsz:=str_size t
 have hcv:=run_str_bytes t
 have HR:=hid (fun W q c (h:BufAt W base g (xs ++ vnum t.length)) (hs:base≤W.heap.size) (hy:Bytes8 W (some q) t)=>bufRaw_some base g (xs ++ vnum t.length) t q t.length c W h rfl hy hb hs (by rw [List.length_append];omega))
 have HB:=hid (fun W=>bytesWorld_bytes W 5 t ho)
 unfold textB
 rw [← List.append_assoc]
 obtain ⟨L,hL⟩:∃ L,L=t.length:=⟨_,rfl⟩
 rw [← hL] at hsz hcv HP HR ht ⊢
 clear h ho hten hx hL
 go_enter Tryz.func116,Tryz.ntmps116
 go_wp2_with fail
 refine (HP.out _ (by first|rfl|omega|(rw [IntKind.wrap_u64'];omega))).mono ?_
 rintro e w1 ⟨rfl,hbuf,hk⟩
 have HBu:=hid hbuf;have HK:=hid hk
 clear hbuf hk HP
 go_wp2_with fail
 have hk2:=HK.out.trans (bytesWorld_keeps (OnBuf base g) w1 5 (strOfNums t))
 have hbuf2:BufAt (Lib.bytesWorld w1 5 (strOfNums t)) base g (xs ++ vnum L):=HBu.out.keepO (bytesWorld_keeps NoBlock w1 5 (strOfNums t)) (fun h=>h) (fun _ _ _ _ h=>h)
 refine (HR.out _ _ _ hbuf2 (by rw [Lib.bytesWorld_size];have:=hk2.size;have:=HK.out.size;omega) (HB.out _)).mono ?_
 rintro e w2 ⟨rfl,hbuf,hbel⟩
 have HL2:=hid ((onBuf_below hk2 hb hs).trans hbel);have HB2:=hid hbuf
 clear hbuf hbel hk2 hbuf2 HR HB HBu HK
 go_wp2_with fail
 go_returns
 exact ⟨rfl,HB2.out,HL2.out⟩
end
section
open Go.RowKit
end
section
open Go.RowKit
theorem str_none {xs:List Int} (h:xs.length=0):strOfNums xs=⟨#[]⟩:=by
 obtain rfl:xs=[]:=List.length_eq_zero_iff.1 h
 rfl
theorem str_some {xs:List Int} (h:0<xs.length):(strOfNums xs).toList.isEmpty=false:=by
 rw [ByteArray.toList_eq]
 cases xs with
 | nil=>simp at h
 | cons a r=>simp [strOfNums]
set_option maxHeartbeats 1600000 in
set_option maxRecDepth 10000 in
theorem check_own (r:Rec) (h1:r.key.length≤140737488355328) (h2:r.val.length≤140737488355328) (w:World) :
  Calls Tryz.prog 87 #[recV r] w fun e w'=>e=.returned (.int .i64 (checkR r))∧Keeps NoBlock w w':=by
 obtain ⟨del,seq,key,val⟩:=r
 simp only at h1 h2
 have hk:=str_size key
 have hv:=str_size val
 have hdef:checkR ⟨del,seq,key,val⟩=if key.length=0 then 4 else if 4096<key.length then 3 else if del=true∧0<val.length then 4 else if 1048576<val.length then 3 else 0:=rfl
 rw [hdef]
 have hv0:=fun h=>str_none (xs:=val) h
 have hv1:=fun h=>str_some (xs:=val) h
 unfold recV
 simp only
 clear hdef
 obtain ⟨K,hK⟩:∃ K,K=key.length:=⟨_,rfl⟩
 obtain ⟨V,hV⟩:∃ V,V=val.length:=⟨_,rfl⟩
 rw [← hK] at h1 hk ⊢
 rw [← hV] at h2 hv hv0 hv1 ⊢
 clear hK hV
 by_cases c1:K=0
 ·rw [if_pos c1]
  subst c1
  clear hv0 hv1
  go_enter Tryz.func87,Tryz.ntmps87
  go_wp2_with fail
  go_ret
  exact ⟨rfl,(Keeps.refl _ _).alloc _⟩
 ·rw [if_neg c1]
  have d1:decide ((K:Int)<1)=false:=decide_eq_false (by omega)
  by_cases c2:4096<K
  ·rw [if_pos c2]
   have d2:decide ((4096:Int)<(K:Int))=true:=decide_eq_true (by omega)
   clear hv0 hv1
   go_enter Tryz.func87,Tryz.ntmps87
   go_wp2_with fail
   go_ret
   exact ⟨rfl,(Keeps.refl _ _).alloc _⟩
  ·rw [if_neg c2]
   have d2:decide ((4096:Int)<(K:Int))=false:=decide_eq_false (by omega)
   cases del with
   | true =>
    by_cases c3:0<V
    ·rw [if_pos ⟨rfl,c3⟩]
     have e3:=hv1 c3
     clear hv0 hv1
     go_enter Tryz.func87,Tryz.ntmps87
     go_wp2_with fail
     go_ret
     exact ⟨rfl,(Keeps.refl _ _).alloc _⟩
    ·obtain rfl:V=0:=by omega
     rw [if_neg (by simp),if_neg (by decide)]
     rw [hv0 rfl]
     clear hv0 hv1 hv
     go_enter Tryz.func87,Tryz.ntmps87
     go_wp2_with fail
     go_ret
     exact ⟨rfl,(Keeps.refl _ _).alloc _⟩
   | false =>
    rw [if_neg (by simp)]
    clear hv0 hv1
    by_cases c4:1048576<V
    ·rw [if_pos c4]
     have d4:decide ((1048576:Int)<(V:Int))=true:=decide_eq_true (by omega)
     go_enter Tryz.func87,Tryz.ntmps87
     go_wp2_with fail
     go_ret
     exact ⟨rfl,(Keeps.refl _ _).alloc _⟩
    ·rw [if_neg c4]
     have d4:decide ((1048576:Int)<(V:Int))=false:=decide_eq_false (by omega)
     go_enter Tryz.func87,Tryz.ntmps87
     go_wp2_with fail
     go_ret
     exact ⟨rfl,(Keeps.refl _ _).alloc _⟩
theorem kind_own (r:Rec) (w:World) :
  Calls Tryz.prog 115 #[recV r] w fun e w'=>e=.returned (.int .u8 (if r.del then 3 else 2))∧Keeps NoBlock w w':=by
 obtain ⟨del,seq,key,val⟩:=r
 unfold recV
 simp only
 cases del
 all_goals
  go_enter Tryz.func115,Tryz.ntmps115
  go_wp2_with fail
  go_ret
  exact ⟨rfl,(Keeps.refl _ _).alloc _⟩
def GonePost (k:Nat) (p:Option Addr) (N c:Nat) (w:World):List Int→Ending→World→Prop
 | [],e,w'=>e=.panicked (given k)∧CurB w' k p N c 0 true 2∧Keeps (Just k) w w'
 | b :: _,e,w'=>Keeps (Just k) w w'∧CurB w' k p N c 1 true (if b ≠ 2∧b ≠ 3 then 4 else 0)∧e=if b ≠ 2∧b ≠ 3 then .panicked (given k) else .returned (.bool (b == 3))
set_option maxHeartbeats 1600000 in
theorem gone_own (k:Nat) (p:Option Addr) (xs:List Int) (N c:Nat) (w:World) (hx:N=xs.length) (h:CurB w k p N c 0 true 0) (hb:Bytes8 w p xs) (ho:Octets xs) (hp:0<xs.length→∀ q,p=some q→q.block ≠ k) (hN:N≤c) (hc:c≤9223372036854775807) :
  Calls Tryz.prog 143 #[.pointer (some ⟨k,0,none⟩)] w (GonePost k p N c w xs):=by
 cases xs with
 | nil =>
  have HS:=hid (byte_short k p N c 0 w h (by omega) (by simp at hx;omega) (by omega))
  clear h hb ho hp hN hc hx
  go_enter Tryz.func143,Tryz.ntmps143
  go_wp2_with fail
  refine HS.out.mono ?_
  rintro e w' ⟨rfl,hcur,hk⟩
  exact ⟨rfl,rfl,hcur,hk⟩
 | cons b r =>
  have HB:=hid (byte_at k p (b :: r) N c 0 w hx h hb ho hp (by simp at hx;omega) hN hc)
  rw [List.getD_cons_zero] at HB
  clear h hb ho hp hN hc hx
  by_cases h2:b=2
  ·subst h2
   go_enter Tryz.func143,Tryz.ntmps143
   go_wp2_with fail
   refine HB.out.mono ?_
   rintro e w' ⟨rfl,hcur,hk⟩
   have HC:=hid hcur;have HK:=hid hk
   clear hcur hk HB
   go_wp2_with fail
   go_ret
   exact ⟨HK.out,HC.out,rfl⟩
  ·by_cases h3:b=3
   ·subst h3
    clear h2
    go_enter Tryz.func143,Tryz.ntmps143
    go_wp2_with fail
    refine HB.out.mono ?_
    rintro e w' ⟨rfl,hcur,hk⟩
    have HC:=hid hcur;have HK:=hid hk
    clear hcur hk HB
    go_wp2_with fail
    go_ret
    exact ⟨HK.out,HC.out,rfl⟩
   ·have hc4:b ≠ 2∧b ≠ 3:=⟨h2,h3⟩
    have e2:(b != 2)=true:=by simp [h2]
    have e3:(b != 3)=true:=by simp [h3]
    go_enter Tryz.func143,Tryz.ntmps143
    go_wp2_with fail
    refine HB.out.mono ?_
    rintro e w' ⟨rfl,hcur,hk⟩
    have HC:=hid hcur;have HK:=hid hk
    clear hcur hk HB
    go_wp2_with fail
    refine (fail_at k p N c (0+1) 4 _ HC.out (by decide)).mono ?_
    rintro e w2 ⟨rfl,hcur,hk⟩
    refine ⟨rfl,HK.out.trans hk,?_,?_⟩
    ·rw [if_pos hc4]
     exact hcur
    ·rw [if_pos hc4]
end
section
open Go.RowKit
theorem Keeps.ofBelowAt {B:Nat} {a b:World} (h:Below B a b):Keeps (fun k=>B≤k) a b:=⟨h.os,h.tape,h.output,h.size,fun k _ hn=>h.block k (by omega)⟩
theorem Keeps.onBuf {B g:Nat} {a b:World} (h:Keeps (OnBuf B g) a b) (hB:B≤g):Keeps (fun k=>B≤k) a b:=h.wider (fun k _ hk=>by rcases hk with rfl|hk <;> omega)
theorem textB_len (t:List Int) (ht:t.length≤2000000):(textB t).length≤2000010:=by
 unfold textB
 rw [List.length_append]
 have:=vnum_ten (x:=t.length) (by omega)
 omega
set_option maxHeartbeats 4000000 in
set_option maxRecDepth 10000 in
theorem body_own (r:Rec) (w:World) (hmod:r.Modest):Calls Tryz.prog 88 #[recV r] w fun e w'=>∃ v,e=.returned (.tuple #[v,.int .i64 (checkR r)])∧NewBytes w (bodyE r) v w':=by
 have hf:=hmod.fine
 have h1:=hmod.key
 have h2:=hmod.val
 have HC:=hid (fun w=>check_own r (by omega) (by omega) w)
 have HKd:=hid (fun w=>kind_own r w)
 by_cases hc:checkR r=0
 ·have hbe:bodyE r=bodyR r:=by unfold bodyE;rw [if_pos hc]
  rw [hbe,hc]
  rw [hc] at HC
  clear hbe hc hmod
  obtain ⟨del,seq,key,val⟩:=r
  have h64:=hf.seq
  have ok:=hf.key
  have ov:=hf.val
  simp only at h1 h2 h64 ok ov
  have lk:=textB_len key h1
  have lv:=textB_len val h2
  have ln:=vnum_ten h64
  have hdef:bodyR ⟨del,seq,key,val⟩=(((([] ++ [if del then 3 else 2]) ++ vnum seq) ++ textB key) ++ if del then [] else textB val):=by
   cases del <;> simp [bodyR]
  rw [hdef]
  clear hdef
  unfold recV at HC HKd ⊢
  simp only at HC HKd ⊢
  have HPn:=hid (fun base g xs w h hs hx=>put_any base g xs seq (seq:Int) rfl w h hs hx h64)
  have HPk:=hid (fun base g xs w h hb hs hx=>puttext_any base g xs key w h hb hs ok (by omega) hx)
  have HPv:=hid (fun base g xs w h hb hs hx=>puttext_any base g xs val w h hb hs ov (by omega) hx)
  have hlv:(vnum seq).length≤10:=ln
  obtain ⟨V,hV⟩:∃ V,V=vnum seq:=⟨_,rfl⟩
  obtain ⟨K,hK⟩:∃ K,K=textB key:=⟨_,rfl⟩
  obtain ⟨X,hX⟩:∃ X,X=textB val:=⟨_,rfl⟩
  rw [← hV] at HPn hlv ⊢
  rw [← hK] at HPk lk ⊢
  rw [← hX] at HPv lv ⊢
  clear hV hK hX ln hf ok ov h64
  cases del
  ·simp only [if_false,Bool.false_eq_true] at HKd ⊢
   go_enter Tryz.func88,Tryz.ntmps88
   go_wp2_with fail
   refine (HC.out _).mono ?_
   rintro e w1 ⟨rfl,hk⟩
   have HR:Hid (RecAt w1 w.heap.size _):=hid (RecAt.ofWhole (r:=⟨_,seq,key,val⟩) ((Whole.new w _ _).keep hk (fun h=>h)))
   have HK:=hid (((Keeps.refl NoBlock w).alloc _).trans hk)
   have hsz1:w.heap.size+1≤w1.heap.size:=by have:=hk.size;simpa using this
   obtain ⟨c0,c1,c2,c3⟩:=HR.out
   have hwa:Keeps NoBlock w1 (w1.alloc (.cells #[.slice none 0 0] 145)):=(Keeps.refl NoBlock w1).alloc _
   have HRa:Hid (Whole (w1.alloc (.cells #[.slice none 0 0] 145)) w.heap.size 48 (recCells ⟨_,seq,key,val⟩)):=hid (((Whole.new w _ _).keep hk (fun h=>h)).keep hwa (fun h=>h))
   obtain ⟨b0,b1,b2,b3⟩:=RecAt.ofWhole HRa.out
   clear hk hwa
   go_wp2_with fail
   refine (HKd.out _).mono ?_
   rintro e w2 ⟨rfl,hk⟩
   have hb0:BufAt w2 w1.heap.size w1.heap.size []:=(bufNewB w1 w1.heap.size).keepO hk (fun h=>h) (fun _ _ _ _ h=>h)
   have HQ2:=hid (((Keeps.refl (fun i=>w1.heap.size≤i) w1).alloc (.cells #[.slice none 0 0] 145)).trans (hk.wider (S':=fun i=>w1.heap.size≤i) (fun _ _ h=>h.elim)))
   have HR2:Hid (Whole w2 w.heap.size 48 (recCells ⟨_,seq,key,val⟩)):=hid (HRa.out.keep hk (fun h=>h))
   have HB2:=hid hb0
   clear hk hb0
   go_wp2_with fail
   refine (bufByteK w1.heap.size w1.heap.size [] _ _ HB2.out (by have:=HQ2.out.size;omega) (by simp)).mono ?_
   rintro e w3 ⟨rfl,hb3,hk⟩
   have hk3:=hk.onBuf (Nat.le_refl _)
   have HQ3:=hid (HQ2.out.trans hk3)
   have HR3:Hid (Whole w3 w.heap.size 48 (recCells ⟨_,seq,key,val⟩)):=hid (HR2.out.keep hk3 (by omega))
   have HB3:=hid hb3
   obtain ⟨x0,x1,x2,x3⟩:=RecAt.ofWhole HR3.out
   clear hk hk3 hb3 HB2 HQ2 HR2
   go_wp2_with fail
   refine (HPn.out _ _ _ _ HB3.out (by have:=HQ3.out.size;omega) (by simp)).mono ?_
   rintro e w4 ⟨rfl,hb4,hk⟩
   have hk4:=hk.onBuf (Nat.le_refl _)
   have HQ4:=hid (HQ3.out.trans hk4)
   have HR4:Hid (Whole w4 w.heap.size 48 (recCells ⟨_,seq,key,val⟩)):=hid (HR3.out.keep hk4 (by omega))
   have HB4:=hid hb4
   obtain ⟨y0,y1,y2,y3⟩:=RecAt.ofWhole HR4.out
   clear hk hk4 hb4 HB3 HQ3 HR3
   go_wp2_with fail
   refine (HPk.out _ _ _ _ HB4.out (Nat.le_refl _) (by have:=HQ4.out.size;omega) (by simp;omega)).mono ?_
   rintro e w5 ⟨rfl,hb5,hk⟩
   have hk5:=Keeps.ofBelowAt hk
   have HQ5:=hid (HQ4.out.trans hk5)
   have HR5:Hid (Whole w5 w.heap.size 48 (recCells ⟨_,seq,key,val⟩)):=hid (HR4.out.keep hk5 (by omega))
   have HB5:=hid hb5
   obtain ⟨z0,z1,z2,z3⟩:=RecAt.ofWhole HR5.out
   clear hk hk5 hb5 HB4 HQ4 HR4
   go_wp2_with fail
   refine (HPv.out _ _ _ _ HB5.out (Nat.le_refl _) (by have:=HQ5.out.size;omega) (by simp;omega)).mono ?_
   rintro e w6 ⟨rfl,hb6,hk⟩
   have hk6:=Keeps.ofBelowAt hk
   have HQ6:=hid (HQ5.out.trans hk6)
   have HB6:=hid hb6
   clear hk hk6 hb6 HB5 HQ5 HR5
   go_wp2_with fail
   refine (bufBytes w1.heap.size w1.heap.size _ _ HB6.out (by simp;omega)).mono ?_
   rintro e w9 ⟨v,rfl,q,d,rfl,hd,hd',hby,hq,hk⟩
   have HQ9:=hid (HQ6.out.trans (hk.wider (S':=fun i=>w1.heap.size≤i) (fun _ _ h=>h.elim)))
   have HBy:=hid hby
   clear hk hby hq
   go_wp2_with fail
   refine bodyPost_ret (results_tmp2 rfl _ _ _) rfl ?_
   refine ⟨_,rfl,q,_,d,rfl,by simp;try omega,by simp at hd ⊢;omega,hd',fun h0=>?_,HBy.out,HK.out.then HQ9.out (fun i hi h=>by omega)⟩
   obtain ⟨a,ha,_⟩:=HBy.out (by simp)
   rw [h0] at ha
   simp at ha
  ·simp only [if_true,List.append_nil] at HKd ⊢
   go_enter Tryz.func88,Tryz.ntmps88
   go_wp2_with fail
   refine (HC.out _).mono ?_
   rintro e w1 ⟨rfl,hk⟩
   have HR:Hid (RecAt w1 w.heap.size _):=hid (RecAt.ofWhole (r:=⟨_,seq,key,val⟩) ((Whole.new w _ _).keep hk (fun h=>h)))
   have HK:=hid (((Keeps.refl NoBlock w).alloc _).trans hk)
   have hsz1:w.heap.size+1≤w1.heap.size:=by have:=hk.size;simpa using this
   obtain ⟨c0,c1,c2,c3⟩:=HR.out
   have hwa:Keeps NoBlock w1 (w1.alloc (.cells #[.slice none 0 0] 145)):=(Keeps.refl NoBlock w1).alloc _
   have HRa:Hid (Whole (w1.alloc (.cells #[.slice none 0 0] 145)) w.heap.size 48 (recCells ⟨_,seq,key,val⟩)):=hid (((Whole.new w _ _).keep hk (fun h=>h)).keep hwa (fun h=>h))
   obtain ⟨b0,b1,b2,b3⟩:=RecAt.ofWhole HRa.out
   clear hk hwa
   go_wp2_with fail
   refine (HKd.out _).mono ?_
   rintro e w2 ⟨rfl,hk⟩
   have hb0:BufAt w2 w1.heap.size w1.heap.size []:=(bufNewB w1 w1.heap.size).keepO hk (fun h=>h) (fun _ _ _ _ h=>h)
   have HQ2:=hid (((Keeps.refl (fun i=>w1.heap.size≤i) w1).alloc (.cells #[.slice none 0 0] 145)).trans (hk.wider (S':=fun i=>w1.heap.size≤i) (fun _ _ h=>h.elim)))
   have HR2:Hid (Whole w2 w.heap.size 48 (recCells ⟨_,seq,key,val⟩)):=hid (HRa.out.keep hk (fun h=>h))
   have HB2:=hid hb0
   clear hk hb0
   go_wp2_with fail
   refine (bufByteK w1.heap.size w1.heap.size [] _ _ HB2.out (by have:=HQ2.out.size;omega) (by simp)).mono ?_
   rintro e w3 ⟨rfl,hb3,hk⟩
   have hk3:=hk.onBuf (Nat.le_refl _)
   have HQ3:=hid (HQ2.out.trans hk3)
   have HR3:Hid (Whole w3 w.heap.size 48 (recCells ⟨_,seq,key,val⟩)):=hid (HR2.out.keep hk3 (by omega))
   have HB3:=hid hb3
   obtain ⟨x0,x1,x2,x3⟩:=RecAt.ofWhole HR3.out
   clear hk hk3 hb3 HB2 HQ2 HR2
   go_wp2_with fail
   refine (HPn.out _ _ _ _ HB3.out (by have:=HQ3.out.size;omega) (by simp)).mono ?_
   rintro e w4 ⟨rfl,hb4,hk⟩
   have hk4:=hk.onBuf (Nat.le_refl _)
   have HQ4:=hid (HQ3.out.trans hk4)
   have HR4:Hid (Whole w4 w.heap.size 48 (recCells ⟨_,seq,key,val⟩)):=hid (HR3.out.keep hk4 (by omega))
   have HB4:=hid hb4
   obtain ⟨y0,y1,y2,y3⟩:=RecAt.ofWhole HR4.out
   clear hk hk4 hb4 HB3 HQ3 HR3
   go_wp2_with fail
   refine (HPk.out _ _ _ _ HB4.out (Nat.le_refl _) (by have:=HQ4.out.size;omega) (by simp;omega)).mono ?_
   rintro e w5 ⟨rfl,hb5,hk⟩
   have hk5:=Keeps.ofBelowAt hk
   have HQ5:=hid (HQ4.out.trans hk5)
   have HR5:Hid (Whole w5 w.heap.size 48 (recCells ⟨_,seq,key,val⟩)):=hid (HR4.out.keep hk5 (by omega))
   have HB5:=hid hb5
   obtain ⟨z0,z1,z2,z3⟩:=RecAt.ofWhole HR5.out
   clear hk hk5 hb5 HB4 HQ4 HR4
   go_wp2_with fail
   refine (bufBytes w1.heap.size w1.heap.size _ _ HB5.out (by simp;omega)).mono ?_
   rintro e w9 ⟨v,rfl,q,d,rfl,hd,hd',hby,hq,hk⟩
   have HQ9:=hid (HQ5.out.trans (hk.wider (S':=fun i=>w1.heap.size≤i) (fun _ _ h=>h.elim)))
   have HBy:=hid hby
   clear hk hby hq
   go_wp2_with fail
   refine bodyPost_ret (results_tmp2 rfl _ _ _) rfl ?_
   refine ⟨_,rfl,q,_,d,rfl,by simp;try omega,by simp at hd ⊢;omega,hd',fun h0=>?_,HBy.out,HK.out.then HQ9.out (fun i hi h=>by omega)⟩
   obtain ⟨a,ha,_⟩:=HBy.out (by simp)
   rw [h0] at ha
   simp at ha
 ·have hbe:bodyE r=[]:=by unfold bodyE;rw [if_neg hc]
  rw [hbe]
  obtain ⟨z,hz⟩:∃ z,z=checkR r:=⟨_,rfl⟩
  rw [← hz] at HC hc ⊢
  clear hbe hz hmod hf h1 h2 HKd
  obtain ⟨del,seq,key,val⟩:=r
  unfold recV at HC ⊢
  simp only at HC ⊢
  go_enter Tryz.func88,Tryz.ntmps88
  go_wp2_with fail
  refine (HC.out _).mono ?_
  rintro e w1 ⟨rfl,hk⟩
  have HR:Hid (RecAt w1 w.heap.size _):=hid (RecAt.ofWhole (r:=⟨del,seq,key,val⟩) ((Whole.new w _ _).keep hk (fun h=>h)))
  have HK:=hid (((Keeps.refl NoBlock w).alloc _).trans hk)
  obtain ⟨c0,c1,c2,c3⟩:=HR.out
  clear hk
  go_wp2_with fail
  refine bodyPost_ret (results_tmp2 rfl _ _ _) rfl ?_
  exact ⟨_,rfl,.ofNil _ _ HK.out⟩
end
section
open Go.RowKit
theorem Bytes8.ofNew1 (w:World) (t:TypeId) (f:Nat × Nat) (a:Int):Bytes8 (w.alloc (.cells #[.int .u8 a] t f)) (some ⟨w.heap.size,0,none⟩) [a]:=fun _=>by
 refine ⟨_,rfl,fun i hi=>?_⟩
 have:i=0:=by simp at hi;omega
 subst this
 rw [addZero]
 exact cell_new _ _ _ _ _ rfl
end
section
theorem takeWhile_all {xs:List Int} (h:∀ b ∈ xs,b ≠ 0):xs.takeWhile (fun b=>decide (b ≠ 0))=xs:=by
 induction xs with
 | nil=>rfl
 | cons b r ih =>
  rw [List.takeWhile_cons_of_pos (by simpa using h b List.mem_cons_self),ih (fun x hx=>h x (List.mem_cons_of_mem _ hx))]
def firstN (xs:List Int):Nat:=((xs.take 254).takeWhile (fun b=>decide (b ≠ 0))).length
theorem firstN_le (xs:List Int):firstN xs≤xs.length:=by
 unfold firstN
 have h:=(List.takeWhile_prefix (l:=xs.take 254) (fun b=>decide (b ≠ 0))).length_le
 rw [List.length_take] at h
 omega
theorem firstN_full (xs:List Int):firstN xs≤254:=by
 unfold firstN
 have h:=(List.takeWhile_prefix (l:=xs.take 254) (fun b=>decide (b ≠ 0))).length_le
 rw [List.length_take] at h
 omega
def groupsOf (xs:List Int):List (List Int) :=
 xs.take (firstN xs) :: if h:firstN xs=xs.length then [] else groupsOf (xs.drop (if firstN xs<254 then firstN xs+1 else firstN xs))
termination_by xs.length
decreasing_by
 have:=firstN_le xs
 rw [List.length_drop]
 split <;> omega
theorem groupsOf_end {xs:List Int} (h:firstN xs=xs.length):groupsOf xs=[xs.take (firstN xs)]:=by
 rw [groupsOf,dif_pos h]
theorem groupsOf_more {xs:List Int} (h:firstN xs ≠ xs.length):groupsOf xs=xs.take (firstN xs) :: groupsOf (xs.drop (if firstN xs<254 then firstN xs+1 else firstN xs)):=by
 rw [groupsOf,dif_neg h]
def told:List (List Int)→List Int
 | []=>[]
 | g :: gs=>(((g.length+1:Nat):Int) :: g) ++ told gs
theorem told_snoc:∀ (gs:List (List Int)) (g:List Int),told (gs ++ [g])=told gs ++ (((g.length+1:Nat):Int) :: g)
 | [],g=>by simp [told]
 | h :: gs,g=>by simp [told,told_snoc gs g]
theorem told_len:∀ (gs:List (List Int)),(∀ g ∈ gs,g.length≤254)→(told gs).length≤255*gs.length
 | [],_=>by simp [told]
 | g :: gs,h=>by
  have h1:=h g List.mem_cons_self
  have h2:=told_len gs (fun x hx=>h x (List.mem_cons_of_mem _ hx))
  simp only [told,List.length_append,List.length_cons]
  omega
theorem firstN_solid {xs:List Int} (h:∀ b ∈ xs,b ≠ 0) (hl:xs.length≤254):firstN xs=xs.length:=by
 unfold firstN
 rw [List.take_of_length_le hl,takeWhile_all h]
theorem firstN_nought {now r:List Int} (h:∀ b ∈ now,b ≠ 0) (hl:now.length<254):firstN (now ++ 0 :: r)=now.length:=by
 unfold firstN
 rw [List.take_append,List.take_of_length_le (by omega),List.takeWhile_append_of_pos (fun b hb=>decide_eq_true (h b hb))]
 obtain ⟨k,hk⟩:∃ k,254 - now.length=k+1:=⟨254 - now.length - 1,by omega⟩
 rw [hk]
 simp
theorem firstN_long {now r:List Int} (h:∀ b ∈ now,b ≠ 0) (hl:now.length=254):firstN (now ++ r)=254:=by
 unfold firstN
 rw [List.take_append,List.take_of_length_le (by omega),hl]
 simp only [Nat.sub_self,List.take_zero,List.append_nil]
 rw [takeWhile_all h,hl]
theorem stuffGo_groups:∀ (r now:List Int),now.length<254→(∀ b ∈ now,b ≠ 0)→stuffGo now false r=told (groupsOf (now ++ r))
 | [],now,hl,hn=>by
  rw [List.append_nil,groupsOf_end (firstN_solid hn (by omega)),firstN_solid hn (by omega),List.take_length]
  simp [stuffGo,told]
 | b :: r,now,hl,hn=>by
  unfold stuffGo
  by_cases hb:b=0
  ·subst hb
   rw [if_pos rfl,groupsOf_more (by rw [firstN_nought hn hl];simp),firstN_nought hn hl,if_pos hl,stuffGo_groups r [] (by decide) (by simp)]
   rw [show (now ++ 0 :: r).drop (now.length+1)=r by rw [List.drop_append];simp]
   simp [told]
  ·have hn':∀ x ∈ now ++ [b],x ≠ 0:=fun x hx=>by
    rcases List.mem_append.1 hx with h|h
    ·exact hn x h
    ·rw [List.mem_singleton.1 h];exact hb
   rw [if_neg hb,show now ++ b :: r=(now ++ [b]) ++ r by simp]
   by_cases h254:now.length+1=254
   ·have hl':(now ++ [b]).length=254:=by simpa using h254
    rw [if_pos h254]
    cases r with
    | nil =>
     rw [List.append_nil,groupsOf_end (firstN_solid hn' (by omega)),firstN_solid hn' (by omega),List.take_length]
     have e:(((now ++ [b]).length+1:Nat):Int)=255:=by rw [hl'];rfl
     simp only [stuffGo,told,e,List.append_nil]
     simp
    | cons c r =>
     have hf:=firstN_long (r:=c :: r) hn' hl'
     have e:((((now ++ [b]).length)+1:Nat):Int)=255:=by rw [hl'];rfl
     have ht:stuffGo [] true (c :: r)=stuffGo [] false (c :: r):=by simp [stuffGo]
     rw [groupsOf_more (by rw [hf];simp at hl' ⊢;omega),hf,if_neg (by decide),ht,stuffGo_groups (c :: r) [] (by decide) (by simp)]
     rw [show ((now ++ [b]) ++ c :: r).take 254=now ++ [b] by rw [← hl',List.take_left],show ((now ++ [b]) ++ c :: r).drop 254=c :: r by rw [← hl',List.drop_left]]
     simp only [told,e,List.nil_append]
   ·rw [if_neg h254,stuffGo_groups r (now ++ [b]) (by simp;omega) hn']
theorem stuff_groups (xs:List Int):stuff xs=told (groupsOf xs):=by
 have:=stuffGo_groups xs [] (by decide) (by simp)
 simpa [stuff] using this
theorem index_none {xs:List Int} (h:∀ b ∈ xs,b ≠ 0) (ho:Octets xs):Lib.indexByte (Lib.bytesOf xs) 0=-1:=by
 induction xs with
 | nil=>rfl
 | cons b r ih =>
  have hb:=ho b List.mem_cons_self
  have hz:=h b List.mem_cons_self
  have e:(UInt8.ofNat b.toNat == 0)=false:=by
   have:UInt8.ofNat b.toNat ≠ 0:=fun e=>by
    have:=congrArg UInt8.toNat e
    simp at this
    omega
   simpa using this
  have ih:=ih (fun x hx=>h x (List.mem_cons_of_mem _ hx)) (fun x hx=>ho x (List.mem_cons_of_mem _ hx))
  simp only [Lib.bytesOf,List.map_cons,Lib.indexByte,e] at ih ⊢
  simp [ih]
theorem index_some {now r:List Int} (h:∀ b ∈ now,b ≠ 0) (ho:Octets now):Lib.indexByte (Lib.bytesOf (now ++ 0 :: r)) 0=(now.length:Int):=by
 induction now with
 | nil=>rfl
 | cons b q ih =>
  have hb:=ho b List.mem_cons_self
  have hz:=h b List.mem_cons_self
  have e:(UInt8.ofNat b.toNat == 0)=false:=by
   have:UInt8.ofNat b.toNat ≠ 0:=fun e=>by
    have:=congrArg UInt8.toNat e
    simp at this
    omega
   simpa using this
  have ih:=ih (fun x hx=>h x (List.mem_cons_of_mem _ hx)) (fun x hx=>ho x (List.mem_cons_of_mem _ hx))
  simp only [Lib.bytesOf,List.map_append,List.map_cons,List.cons_append,Lib.indexByte,e] at ih ⊢
  rw [ih]
  have:((q.length:Int) == -1)=false:=by simp
  simp [this]
def nought (xs:List Int):Int:=if 0 ∈ xs then ((xs.takeWhile (fun b=>decide (b ≠ 0))).length:Int) else -1
theorem split_nought {xs:List Int} (h:0 ∈ xs):∃ r,xs=xs.takeWhile (fun b=>decide (b ≠ 0)) ++ 0 :: r:=by
 induction xs with
 | nil=>simp at h
 | cons b q ih =>
  by_cases hb:b=0
  ·subst hb
   exact ⟨q,by simp⟩
  ·obtain ⟨r,hr⟩:=ih (by rcases List.mem_cons.1 h with h|h;exact absurd h.symm hb;exact h)
   refine ⟨r,?_⟩
   rw [List.takeWhile_cons_of_pos (by simpa using hb),List.cons_append,← hr]
theorem takeWhile_ne {xs:List Int}:∀ b ∈ xs.takeWhile (fun b=>decide (b ≠ 0)),b ≠ 0:=fun b hb=>by
 have h:(xs.takeWhile (fun b=>decide (b ≠ 0))).all (fun b=>decide (b ≠ 0))=true:=List.all_takeWhile
 exact of_decide_eq_true (List.all_eq_true.1 h b hb)
theorem index_nought {xs:List Int} (ho:Octets xs):Lib.indexByte (Lib.bytesOf xs) 0=nought xs:=by
 unfold nought
 by_cases h:0 ∈ xs
 ·rw [if_pos h]
  obtain ⟨r,hr⟩:=split_nought h
  have:=index_some (now:=xs.takeWhile (fun b=>decide (b ≠ 0))) (r:=r) takeWhile_ne (fun b hb=>ho b ((List.takeWhile_prefix _).subset hb))
  rw [← hr] at this
  exact this
 ·rw [if_neg h]
  exact index_none (fun b hb e=>h (e ▸ hb)) ho
theorem firstN_nought_some {xs:List Int} (h:0 ∈ xs.take 254):nought (xs.take 254)=(firstN xs:Int):=by
 unfold nought
 rw [if_pos h]
 rfl
theorem firstN_nought_none {xs:List Int} (h:0 ∉ xs.take 254):nought (xs.take 254)=-1∧firstN xs=(xs.take 254).length:=by
 unfold nought firstN
 rw [if_neg h,takeWhile_all (fun b hb e=>h (e ▸ hb))]
 exact ⟨rfl,rfl⟩
end
end Go.Proofs.YtehkjkcnigknkaaGreat

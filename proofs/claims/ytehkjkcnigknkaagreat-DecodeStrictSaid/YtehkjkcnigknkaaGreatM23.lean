/-
  FenByIn; BufK; FenOwn; RecLaws; TextGet; StrBytes.
-/
import Derived.Lib.ConvBytes
import Derived.Lib.Hide
import Derived.Test.YtehkjkcnigknkaaGreatM01
import Derived.Test.YtehkjkcnigknkaaGreatM02
import Derived.Test.YtehkjkcnigknkaaGreatM03
import Derived.Test.YtehkjkcnigknkaaGreatM05
import Derived.Test.YtehkjkcnigknkaaGreatM06
import Derived.Test.YtehkjkcnigknkaaGreatM09
import Derived.Test.YtehkjkcnigknkaaGreatM10
import Derived.Test.YtehkjkcnigknkaaGreatM13
import Derived.Test.YtehkjkcnigknkaaGreatM16
import Derived.Test.YtehkjkcnigknkaaGreatM19
namespace Go.Proofs.YtehkjkcnigknkaaGreat
open Lib (hid)
section
open Go.RowKit
end
section
open Go.RowKit
def InLoopK (base g:Nat) (xs:List Int) (x:Int) (w:World) (k:Nat) (wr:World):Prop:=BufAt wr base g (xs ++ digits x k)∧Keeps (OnBuf base g) w wr
set_option maxHeartbeats 800000 in
theorem bufNumberK (base g:Nat) (xs:List Int) (x:Int) (n:Nat) (z:Int) (hz:z=n) (w:World) (h:BufAt w base g xs) (hs:base≤w.heap.size) (hx:xs.length+n≤140737488355328) (hn:n≤8) (_x0:0≤x) (x1:x<18446744073709551616) :
  Calls Tryz.prog 133 #[.pointer (some ⟨g,0,none⟩),.int .u64 x,.int .i64 z] w (BufOkK base g (xs ++ digits x n) w):=by
 subst hz
 have H:=hid h;have HX:=hid hx;have HX1:=hid x1
 clear h hx x1
 go_enter Tryz.func133,Tryz.ntmps133
 go_wp2_with fail
 go_loopw [9] (fun i wr=>∃ k:Nat,k≤n∧i=.int .i64 k∧InLoopK base g xs x w k wr) (fun i _=>n - (intOf i).toNat)
 case atStart=>exact ⟨0,Nat.zero_le _,rfl,by simpa [digits] using H.out,Keeps.refl _ _⟩
 case round =>
  obtain ⟨k,hk,rfl,hin⟩:=hrel
  have HI:=hid hin
  clear hin
  by_cases hlt:k<n
  ·go_wp2_with fail
   refine (bufByteK base g (xs ++ digits x k) _ _ HI.out.1 (by have:=HI.out.2.size;omega) (by have:=HX.out;simp [digits_length];omega)).mono ?_
   rintro e w2 ⟨rfl,hbuf,hbel⟩
   have HB:=hid hbuf;have HL:=hid (HI.out.2.trans hbel)
   clear hbuf hbel
   go_wp2_with fail
   go_roundw
   case rel =>
    refine ⟨k+1,by omega,by go_num,?_,HL.out⟩
    have:=HB.out
    rw [List.append_assoc] at this
    exact this
   case measure=>simp [intOf];omega
  ·go_wp2_with fail
   go_ret
   obtain rfl:k=n:=by omega
   exact ⟨rfl,HI.out.1,HI.out.2⟩
theorem bufFourK (base g:Nat) (xs:List Int) (x:Int) (w:World) (h:BufAt w base g xs) (hs:base≤w.heap.size) (hx:xs.length+4≤140737488355328) (x0:0≤x) (x1:x<4294967296) :
  Calls Tryz.prog 121 #[.pointer (some ⟨g,0,none⟩),.int .u32 x] w (BufOkK base g (xs ++ digits x 4) w):=by
 have H:=hid h
 clear h
 go_enter Tryz.func121,Tryz.ntmps121
 go_wp2_with fail
 refine (bufNumberK base g xs _ 4 _ (by rfl) _ H.out hs hx (by omega) (by omega) (by omega)).mono ?_
 rintro e w2 ⟨rfl,hbuf,hbel⟩
 have HB:=hid hbuf;have HL:=hid hbel
 clear hbuf hbel
 go_wp2_with fail
 go_ret
 exact ⟨rfl,HB.out,HL.out⟩
end
section
open Go.RowKit
set_option maxHeartbeats 1000000 in
theorem fcount_own (n:Int) (w:World) (h0:-1000000000≤n) (h1:n≤1000000000) :
  Calls Tryz.prog 155 #[.int .i64 n] w fun e w'=>e=.returned (.int .i64 (countF n:Int))∧Keeps NoBlock w w':=by
 by_cases hz:n≤0
 ·have hd:decide (n≤0)=true:=decide_eq_true hz
  have e:countF n=0:=by unfold countF;omega
  rw [e]
  clear e
  go_enter Tryz.func155,Tryz.ntmps155
  go_wp2_with fail
  go_ret
  exact ⟨rfl,Keeps.refl _ _⟩
 ·obtain ⟨m,rfl⟩:∃ m:Nat,n=(m:Int)+1:=⟨n.toNat - 1,by omega⟩
  have hd:decide ((m:Int)+1≤0)=false:=decide_eq_false hz
  have e:countF ((m:Int)+1)=m / 16+1:=by unfold countF;omega
  have hq:((m:Int)).tdiv 16=((m / 16:Nat):Int):=by rw [Int.tdiv_eq_ediv_of_nonneg (by omega)];omega
  have hq2:(m:Int) / 16=((m / 16:Nat):Int):=by omega
  obtain ⟨k,hk⟩:∃ k,k=m / 16:=⟨_,rfl⟩
  rw [← hk] at hq hq2 e
  have hk9:k≤1000000000:=by omega
  rw [e]
  have hs:(m:Int)+1 - 1=(m:Int):=by omega
  clear hk e
  go_enter Tryz.func155,Tryz.ntmps155
  go_wp2_with fail
  go_ret
  exact ⟨by go_num,Keeps.refl _ _⟩
theorem textF_takeO {l:List Nat} {j:Nat} (hj:j<l.length):textF (l.take (j+1))=textF (l.take j) ++ digits ((l.getD j 0:Nat):Int) 8:=by
 have e:l.take (j+1)=l.take j ++ [l.getD j 0]:=by rw [List.take_succ_eq_append_getElem hj];simp [hj]
 rw [e,textF_snoc]
end
section
open Go.RowKit
structure Rec.Modest (r:Rec):Prop where
 fine:r.Fine
 key:r.key.length≤2000000
 val:r.val.length≤2000000
def bodyE (r:Rec):List Int:=if checkR r=0 then bodyR r else []
structure RisesOk:Prop where
 rising:∀ (p:Option Addr) (n c:Nat) (l:List Rec) (w:World),n=l.length→n≤c→c≤9223372036854775807→n≤1000000→(∀ r ∈ l,r.Modest)→RecsAt w p l →
  Calls Tryz.prog 56 #[.slice p n c] w fun e w'=>e=.returned (.int .i64 (risingR l))∧Keeps NoBlock w w'
end
section
open Go.RowKit
theorem bound_any (n:Nat) (z:Int) (hz:z=n) (hn:n≤9223372036854775807) (w:World) :
  Calls Tryz.prog 176 #[.int .i64 z] w fun e w'=>e=.returned (.int .u64 (n:Int))∧w=w':=by
 subst hz
 have hw:IntKind.u64.wrap (n:Int)=n:=by rw [IntKind.wrap_u64];omega
 by_cases h0:n=0
 ·subst h0
  go_enter Tryz.func176,Tryz.ntmps176
  go_wp2_with fail
  go_ret
  exact ⟨rfl,rfl⟩
 ·have h1:1≤n:=by omega
  go_enter Tryz.func176,Tryz.ntmps176
  go_wp2_with fail
  all_goals
   go_ret
   exact ⟨by first|rfl|simp [hw],rfl⟩
def TextPost (k:Nat) (p:Option Addr) (N c a:Nat) (t:VT) (w:World) (e:Ending) (w':World):Prop :=
 Keeps (Just k) w w'∧((t.e=0∧e=.returned (.string (strOfNums t.t))∧CurB w' k p N c (a+t.n) true 0) ∨ (t.e ≠ 0∧e=.panicked (given k)∧CurB w' k p N c (a+t.n) true t.e))
theorem vtext_by (xs:List Int) (l m:Nat) (t:VR) (ht:t=vget xs):vtext xs l m=if t.e ≠ 0 then ⟨t.e,t.n,[]⟩
 else if (m:Int)<t.x then ⟨3,t.n,[]⟩
 else if t.x<(l:Int) then ⟨4,t.n,[]⟩
 else if (xs.drop t.n).length<t.x.toNat then ⟨2,t.n,[]⟩
 else ⟨0,t.n+t.x.toNat,(xs.drop t.n).take t.x.toNat⟩:=by subst ht;rfl
set_option maxHeartbeats 2000000 in
set_option maxRecDepth 10000 in
theorem gettext_any (k:Nat) (p:Option Addr) (xs:List Int) (N c a l m:Nat) (zl zm:Int) (hzl:zl=(l:Int)) (hzm:zm=(m:Int)) (hl4:l≤1000000) (hm9:m≤100000000) (w:World) (hx:N=xs.length) (h:CurB w k p N c a true 0) (hb:Bytes8 w p xs) (ho:Octets xs) (hp:0<xs.length→∀ q,p=some q→q.block ≠ k)
  (hn:a≤N) (hN:N≤c) (hN9:N≤140737488355328) (hc:c≤9223372036854775807) :
  Calls Tryz.prog 145 #[.pointer (some ⟨k,0,none⟩),.int .i64 zl,.int .i64 zm] w (TextPost k p N c a (vtext (xs.drop a) l m) w):=by
 subst hzl hzm
 have hg:=get_any k p xs N c a w hx h hb ho hp hn hN hc
 obtain ⟨t,ht⟩:∃ t,t=vget (xs.drop a):=⟨_,rfl⟩
 have htn:t.n≤N - a:=by
  rw [ht,hx,← List.length_drop]
  exact vread_n 10 true _
 have htx:t.e=0→0≤t.x∧t.x<18446744073709551616:=fun he=>by
  have:=vread_bound 9 true (xs.drop a) (ho.drop a) (by rw [ht] at he;exact he)
  rw [ht]
  exact this
 rw [vtext_by _ l m t ht]
 rw [← ht] at hg
 have HG:=hid hg;have HB:=hid hb;have HP:=hid hp;have HX:=hid hx
 have HBl:=hid (fun w=>bound_any l l rfl (by omega) w)
 have HBm:=hid (fun w=>bound_any m m rfl (by omega) w)
 have HC:=hid hc;have HN:=hid hN
 clear hg ht h hb ho hp hx hc hN
 by_cases he:t.e=0
 ·obtain ⟨hx0,hx1⟩:=htx he
  rw [if_neg (by simpa using he)]
  clear htx
  obtain ⟨te,tn,tx⟩:=t
  simp only at he htn hx0 hx1 ⊢ HG
  subst he
  obtain ⟨X,rfl⟩:∃ X:Nat,tx=(X:Int):=⟨tx.toNat,by omega⟩
  have hx1':X<18446744073709551616:=by omega
  have hlen:((xs.drop a).drop tn).length=N - (a+tn):=by rw [List.drop_drop,List.length_drop,HX.out]
  rw [hlen]
  clear hlen
  simp only [Int.toNat_natCast]
  have HG:=hid (HG.out.mono fun e w1 (h:GetPost k p N c a ⟨0,tn,(X:Int)⟩ w e w1)=>show e=.returned (.int .u64 (X:Int))∧CurB w1 k p N c (a+tn) true 0∧Keeps (Just k) w w1 by
   obtain ⟨hk,⟨_,rfl,hcur⟩|⟨he,_,_⟩⟩:=h
   ·exact ⟨rfl,hcur,hk⟩
   ·exact absurd rfl he)
  by_cases hm:(m:Int)<(X:Int)
  ·rw [if_pos hm]
   have hmn:m<X:=by omega
   have hd:decide ((X:Int) > m)=true:=by simp;omega
   go_enter Tryz.func145,Tryz.ntmps145
   go_wp2_with fail
   refine HG.out.mono ?_
   rintro e w1 ⟨rfl,hcur,hk⟩
   have HK:=hid hk;have HCu:=hid hcur
   clear hk hcur HG
   go_wp2_with fail
   refine (HBm.out _).mono ?_
   rintro e w2 ⟨rfl,rfl⟩
   go_wp2_with fail
   refine (fail_at k p N c (a+tn) 3 _ HCu.out (by decide)).mono ?_
   rintro e w2 ⟨rfl,hcur,hk⟩
   exact ⟨rfl,HK.out.trans hk,.inr ⟨by simp,rfl,hcur⟩⟩
  ·rw [if_neg hm]
   have hmn:X≤m:=by omega
   clear hx1 hx1'
   by_cases hl:(X:Int)<(l:Int)
   ·rw [if_pos hl]
    have hln:X<l:=by omega
    go_enter Tryz.func145,Tryz.ntmps145
    go_wp2_with fail
    refine HG.out.mono ?_
    rintro e w1 ⟨rfl,hcur,hk⟩
    have HK:=hid hk;have HCu:=hid hcur
    clear hk hcur HG
    go_wp2_with fail
    refine (HBm.out _).mono ?_
    rintro e w2 ⟨rfl,rfl⟩
    go_wp2_with fail
    refine (HBl.out _).mono ?_
    rintro e w2 ⟨rfl,rfl⟩
    go_wp2_with fail
    refine (fail_at k p N c (a+tn) 4 _ HCu.out (by decide)).mono ?_
    rintro e w2 ⟨rfl,hcur,hk⟩
    exact ⟨rfl,HK.out.trans hk,.inr ⟨by simp,rfl,hcur⟩⟩
   ·rw [if_neg hl]
    have hln:l≤X:=by omega
    have hw:IntKind.i64.wrap (X:Int)=X:=by rw [IntKind.wrap_i64];omega
    by_cases hs:N - (a+tn)<X
    ·rw [if_pos hs]
     go_enter Tryz.func145,Tryz.ntmps145
     go_wp2_with fail
     refine HG.out.mono ?_
     rintro e w1 ⟨rfl,hcur,hk⟩
     have HK:=hid hk;have HCu:=hid hcur
     clear hk hcur HG
     go_wp2_with fail
     refine (HBm.out _).mono ?_
     rintro e w2 ⟨rfl,rfl⟩
     go_wp2_with fail
     refine (HBl.out _).mono ?_
     rintro e w2 ⟨rfl,rfl⟩
     go_wp2_with fail
     refine (take_short k p N c (a+tn) (X:Int) _ HCu.out (by omega) (by omega) (by omega)).mono ?_
     rintro e w2 ⟨rfl,hcur,hk⟩
     exact ⟨rfl,HK.out.trans hk,.inr ⟨by simp,rfl,hcur⟩⟩
    ·rw [if_neg hs]
     go_enter Tryz.func145,Tryz.ntmps145
     go_wp2_with fail
     refine HG.out.mono ?_
     rintro e w1 ⟨rfl,hcur,hk⟩
     have HK:=hid hk;have HCu:=hid hcur
     have HB1:=hid (HB.out.keepPos hk (fun h0 q hq=>HP.out h0 q hq))
     clear hk hcur HG
     go_wp2_with fail
     refine (HBm.out _).mono ?_
     rintro e w2 ⟨rfl,rfl⟩
     go_wp2_with fail
     refine (HBl.out _).mono ?_
     rintro e w2 ⟨rfl,rfl⟩
     go_wp2_with fail
     refine (take_at k p xs N c (a+tn) X (X:Int) _ HX.out (by omega) HCu.out HB1.out HP.out (by omega) HN.out (by omega) HC.out).mono ?_
     rintro e w2 ⟨v,rfl,⟨q,d,rfl,hd,hd',hbv,hq,hk⟩,hcur⟩
     have hcv:=textOf q X d ((xs.drop (a+tn)).take X) w2 (by rw [List.length_take,List.length_drop];have:=HX.out;omega) hbv
     have HK2:=hid (HK.out.trans hk);have HC2:=hid hcur
     clear hk hcur hbv hq HK HCu
     go_wp2_with fail
     go_ret
     refine ⟨HK2.out,.inl ⟨rfl,?_,?_⟩⟩
     ·rw [List.drop_drop]
      rfl
     ·rw [← Nat.add_assoc]
      exact HC2.out
 ·rw [if_pos (by simpa using he)]
  clear htx
  go_enter Tryz.func145,Tryz.ntmps145
  go_wp2_with fail
  refine HG.out.mono ?_
  rintro e w1 ⟨hk,⟨he',_,_⟩|⟨he',rfl,hcur⟩⟩
  ·exact absurd he' he
  ·exact ⟨rfl,hk,.inr ⟨he,rfl,hcur⟩⟩
end
section
open Go.RowKit
theorem bytesWorld_keeps (S:Nat→Prop) (w:World) (e:TypeId) (s:ByteArray):Keeps S w (Lib.bytesWorld w e s) :=
 ⟨rfl,rfl,rfl,by rw [Lib.bytesWorld_size];omega,fun k hk _=>Lib.bytesWorld_at_old w e s k hk⟩
theorem bytesWorld_bytes (w:World) (e:TypeId) (xs:List Int) (ho:Octets xs):Bytes8 (Lib.bytesWorld w e (strOfNums xs)) (some ⟨w.heap.size,0,none⟩) xs:=fun _=>⟨_,rfl,fun i hi=>by
 rw [show (⟨w.heap.size,0,none⟩:Addr).add i=⟨w.heap.size,i,none⟩ by
  unfold Addr.add
  split
  ·rename_i h
   subst h
   rfl
  ·simp]
 rw [Lib.bytesWorld_cell w e _ i (by rw [str_size];exact hi)]
 have hb:=ho (xs.getD i 0) (by rw [List.getD_eq_getElem?_getD,List.getElem?_eq_getElem hi];exact List.getElem_mem hi)
 have e1:(strOfNums xs).data.toList.getD i 0=UInt8.ofNat (xs.getD i 0).toNat:=by
  simp [strOfNums,List.getD_eq_getElem?_getD,hi]
 rw [e1]
 have e2:((UInt8.ofNat (xs.getD i 0).toNat).toNat:Int)=xs.getD i 0:=by
  simp only [UInt8.toNat_ofNat']
  omega
 rw [e2]⟩
theorem run_str_bytes (xs:List Int) (w:World) :
  (convert 9 29 (.string (strOfNums xs))).run Tryz.prog w=.ok (.slice (some ⟨w.heap.size,0,none⟩) xs.length (grownCap w xs.length 0 5)) (Lib.bytesWorld w 5 (strOfNums xs)):=by
 have h:=Lib.run_convert_string_bytes (P:=Tryz.prog) w 9 29 5 (strOfNums xs) Tryz.underlying9 Tryz.underlying29 Tryz.underlying5
 rw [str_size] at h
 exact h
end
end Go.Proofs.YtehkjkcnigknkaaGreat

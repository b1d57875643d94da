/-
  CurF; TabByIn; ThinRef; WideRef; ThinRefSum; WideBegin.
-/
import Derived.Deep.RegionHeld3
import Derived.Deep.CutRange
import Derived.Deep.DeepCutAuto
import Derived.StillTailTactics
import Derived.Lib.Hide
import Derived.Test.YtehkjkcnigknkaaGreatV01
import Derived.Test.YtehkjkcnigknkaaGreatV03
import Derived.Test.YtehkjkcnigknkaaGreatV04
import Derived.Test.YtehkjkcnigknkaaGreatV05
namespace Go.Proofs.YtehkjkcnigknkaaGreat
open Lib (hid)
section
open Go.RowKit
theorem end_whole (k:Nat) (p:Option Addr) (N c:Nat) (y:Int) (w:World) (h:CurB w k p N c N true y) (hc:(N:Int)≤9223372036854775807) :
  Calls Tryz.prog 146 #[.pointer (some ⟨k,0,none⟩)] w fun e w'=>e=.returned (.tuple #[])∧CurB w' k p N c N true y∧Keeps NoBlock w w':=by
 have H:=hid h;clear h
 go_enter Tryz.func146,Tryz.ntmps146
 go_wp2_with fail
 refine (left_at k p N c N y _ H.out (Nat.le_refl _) hc).mono ?_
 rintro e w' ⟨rfl,m,rfl⟩
 go_wp2_with fail
 go_returns
 exact ⟨rfl,Whole.drewN H.out m,(Keeps.refl _ _).drewN m⟩
theorem end_more (k:Nat) (p:Option Addr) (N c a:Nat) (w:World) (h:CurB w k p N c a true 0) (ha:a<N) (hc:(N:Int)≤9223372036854775807) :
  Calls Tryz.prog 146 #[.pointer (some ⟨k,0,none⟩)] w fun e w'=>e=.panicked (given k)∧CurB w' k p N c a true 3∧Keeps (Just k) w w':=by
 have H:=hid h;clear h
 have hlt:(0:Int)<(N:Int) - (a:Int):=by omega
 go_enter Tryz.func146,Tryz.ntmps146
 go_wp2_with fail
 refine (left_at k p N c a 0 _ H.out (by omega) hc).mono ?_
 rintro e w' ⟨rfl,m,rfl⟩
 go_wp2_with fail
 refine (fail_at k p N c a 3 _ (Whole.drewN H.out m) (by decide)).mono ?_
 rintro e w2 ⟨rfl,hcur,hk⟩
 exact ⟨rfl,rfl,hcur,((Keeps.refl (Just k) w).drewN m).trans hk⟩
end
section
open Go.RowKit
end
section
open Go.RowKit
theorem half_half (x:Int) (k:Nat):x / 2 ^ k / 2=x / 2 ^ (k+1):=by
 have hp:(0:Int)<2 ^ k:=Int.pow_pos (by decide)
 rw [Int.pow_succ,Int.ediv_ediv,if_neg (fun h=>absurd h.1 (by omega)),Int.sub_zero]
def row4 (kd:IntKind) (v:Nat→Int):Array Value:=#[.int kd (v 0),.int kd (v 1),.int kd (v 2),.int kd (v 3)]
theorem row4_get {kd:IntKind} {v:Nat→Int} {k:Nat} (hk:k<4):(row4 kd v)[k]?=some (.int kd (v k)):=by
 have:k=0 ∨ k=1 ∨ k=2 ∨ k=3:=by omega
 rcases this with rfl|rfl|rfl|rfl <;> rfl
theorem row4_set {kd:IntKind} {v:Nat→Int} {k:Nat} (hk:k<4) (x:Int):(row4 kd v).setIfInBounds k (.int kd x)=row4 kd (upd v k x):=by
 have:k=0 ∨ k=1 ∨ k=2 ∨ k=3:=by omega
 rcases this with rfl|rfl|rfl|rfl <;> rfl
end
section
open Go.RowKit
set_option maxHeartbeats 800000 in
set_option maxRecDepth 10000 in
theorem wturn_ref (x y:Int) (n:Nat) (hn:n<64) (hy:y=n) (h:U64 x) (w:World) :
  Calls Tryz.prog 73 #[.int .u64 x,.int .i64 y] w fun e w'=>e=.returned (.int .u64 (wrot n x))∧w=w':=by
 have HH:=hid h
 have hx0:=h.1
 have hx1:=h.2
 have HZ:=hid (wrot_zero h)
 clear h
 subst hy
 go_enter Tryz.func73,Tryz.ntmps73
 go_wp2
 go_loop [0,7] (fun r i=>∃ k:Nat,k≤n∧i=.int .i64 (k:Int)∧r=.int .u64 (wrot k x)) (fun _ i=>((n:Int) - intOf i).toNat)
 case atStart=>exact ⟨0,Nat.zero_le _,rfl,by rw [HZ.out]⟩
 case round =>
  obtain ⟨k,hk,rfl,rfl⟩:=hrel
  by_cases hlt:k<n
  ·have hb:=wrot_bound (n:=k) (by omega) HH.out
   have hb0:=hb.1
   have hb1:=hb.2
   have hs:=wrot_step (n:=k) (by omega) HH.out
   have hsb:=wrot_bound (n:=k+1) (by omega) HH.out
   rw [← hs] at hsb
   have hmod:=Int.emod_eq_of_lt hsb.1 hsb.2
   have HS:=hid hs
   have HM:=hid hmod
   clear hb hs hsb hmod
   obtain ⟨r,hr⟩:∃ r,r=wrot k x:=⟨_,rfl⟩
   rw [← hr] at hb0 hb1 HS HM ⊢
   clear hr
   go_wp2
   go_round
   case rel =>
    refine ⟨k+1,by omega,rfl,congrArg (Value.int IntKind.u64) ?_⟩
    rw [IntKind.wrap_u64,IntKind.wrap_u64,HM.out,HS.out]
   case measure=>simp [intOf];omega
  ·obtain rfl:k=n:=by omega
   go_wp2
   go_ret
   exact ⟨rfl,rfl⟩
set_option maxHeartbeats 800000 in
set_option maxRecDepth 10000 in
theorem wmix_ref (x y:Int) (n:Nat) (hn:n<64) (hy:y=n) (h:U64 x) (w:World) :
  Calls Tryz.prog 74 #[.int .u64 x,.int .i64 y] w fun e w'=>e=.returned (.int .u64 (down n x))∧w=w':=by
 have HH:=hid h
 have hx0:=h.1
 have hx1:=h.2
 clear h
 subst hy
 go_enter Tryz.func74,Tryz.ntmps74
 go_wp2
 go_loop [5,8] (fun r i=>∃ k:Nat,k≤n∧i=.int .i64 (k:Int)∧r=.int .u64 (x / 2 ^ k)) (fun _ i=>((n:Int) - intOf i).toNat)
 case atStart=>exact ⟨0,Nat.zero_le _,rfl,by simp⟩
 case round =>
  obtain ⟨k,hk,rfl,rfl⟩:=hrel
  have HD:=hid (wdown_of n HH.out)
  have HS:=hid (half_half x k)
  have hb0:0≤x / 2 ^ k:=Int.ediv_nonneg hx0 (Int.le_of_lt (Int.pow_pos (by decide)))
  have hb1:x / 2 ^ k<18446744073709551616:=Int.lt_of_le_of_lt (Int.ediv_le_self _ hx0) hx1
  obtain ⟨r,hr⟩:∃ r,r=x / 2 ^ k:=⟨_,rfl⟩
  rw [← hr] at hb0 hb1 HS ⊢
  by_cases hlt:k<n
  ·clear hr
   go_wp2
   go_round
   case rel =>
    refine ⟨k+1,by omega,rfl,congrArg (Value.int IntKind.u64) ?_⟩
    rw [← HS.out]
   case measure=>simp [intOf];omega
  ·obtain rfl:k=n:=by omega
   rw [← hr] at HD
   clear hr
   go_wp2
   go_ret
   rw [HD.out]
   exact ⟨rfl,rfl⟩
set_option maxHeartbeats 800000 in
set_option maxRecDepth 10000 in
theorem winto_ref (x y:Int) (h:U64 x) (hy:U64 y) (w:World) :
  Calls Tryz.prog 71 #[.int .u64 x,.int .u64 y] w fun e w'=>e=.returned (.int .u64 (win x y))∧w=w':=by
 have hm:=wmod_bound (x+IntKind.u64.wrap (y*14029467366897019727))
 have hr:=wrot_bound (n:=31) (by decide) hm
 have HT:=hid (wturn_ref _ 31 31 (by decide) rfl hm)
 have h0:=h.1;have h1:=h.2;have h2:=hy.1;have h3:=hy.2;have h4:=hr.1;have h5:=hr.2
 have he:win x y=IntKind.u64.wrap (wrot 31 (IntKind.u64.wrap (x+IntKind.u64.wrap (y*14029467366897019727)))*11400714785074694791):=rfl
 have HE:=hid he
 clear h hy hm hr he
 rw [HE.out]
 obtain ⟨z,hz⟩:∃ z,z=wrot 31 (IntKind.u64.wrap (x+IntKind.u64.wrap (y*14029467366897019727))):=⟨_,rfl⟩
 rw [← hz] at h4 h5 HT ⊢
 clear hz HE
 go_enter Tryz.func71,Tryz.ntmps71
 go_wp2_with fail
 refine (HT.out _).mono ?_
 rintro e w' ⟨rfl,rfl⟩
 go_wp2_with fail
 go_ret
 exact ⟨rfl,rfl⟩
end
section
open Go.RowKit
end
section
open Go.RowKit
set_option maxHeartbeats 2000000 in
set_option maxRecDepth 10000 in
theorem wbegin_ref (s:Int) (xs:List Int) (hs:U64 s) (ho:Octets xs) (w:World) :
  Calls Tryz.prog 70 #[.int .u64 s,.string (strOfNums xs)] w fun e w'=>e=.returned (.tuple #[.int .u64 (wmerged (wnums (wseed s) xs (xs.length / 32)) 4),.string (strOfNums (wleft xs))])∧Keeps NoBlock w w':=by
 obtain ⟨n,hn⟩:∃ n,n=xs.length:=⟨_,rfl⟩
 have h0:=hs.1
 have h1:=hs.2
 have HS:=hid hs
 have HO:=hid ho
 have HN:=hid hn
 have HB:=hid (fun k j (hj:j<4)=>wnums_bound (fun j _=>wseed_bound hs j) xs k j hj)
 have hdd:strOfNums (wleft xs)=strOfNums (xs.drop (32*(n / 32))):=by rw [hn];rfl
 rw [hdd,← hn]
 clear hs ho hn hdd
 go_enter Tryz.func70,Tryz.ntmps70
 go_wp2_with fail
 go_loopw [1] (fun s1 wr=>∃ k:Nat,32*k≤n∧s1=.string (strOfNums (xs.drop (32*k)))∧Whole wr w.heap.size 175 (row4 .u64 (wnums (wseed s) xs k))∧Keeps NoBlock w wr) (fun s1 _=>strSize s1)
 case atStart =>
  exact ⟨0,Nat.zero_le _,rfl,Whole.new _ _ _,(Keeps.refl _ _).alloc _⟩
 case round =>
  obtain ⟨k,hk32,rfl,hwh,hk⟩:=hrel
  have HK:=hid hk
  clear hk
  obtain ⟨ys,hyd⟩:∃ ys,ys=xs.drop (32*k):=⟨_,rfl⟩
  have hyo:Octets ys:=by rw [hyd];exact HO.out.drop _
  have hyl:ys.length=n - 32*k:=by rw [hyd,List.length_drop,HN.out]
  obtain ⟨v,hv⟩:∃ v,v=wnums (wseed s) xs k:=⟨_,rfl⟩
  have HV:Hid (∀ j,j<4→U64 (v j)):=hid (by rw [hv];exact fun j hj=>HB.out k j hj)
  have hnx:wnums (wseed s) xs (k+1)=wtaken v ys 4:=by rw [hv,hyd];rfl
  have hdx:ys.drop 32=xs.drop (32*(k+1)):=by rw [hyd,List.drop_drop];rfl
  rw [← hv] at hwh
  rw [← hyd]
  have HW:=hid hwh
  have HY:=hid hyo
  have HNX:=hid hnx
  have HDX:=hid hdx
  have HVD:=hid hv
  have HYD:=hid hyd
  have hys:(strOfNums ys).size=ys.length:=str_size ys
  obtain ⟨m,hm⟩:∃ m,m=ys.length:=⟨_,rfl⟩
  have HM:=hid hm
  have HYL:=hid (hm.trans hyl)
  rw [← hm] at hys
  have hmn:m≤n:=by omega
  clear hm hyo hnx hdx hv hyd hyl hwh
  by_cases h32:32≤m
  ·have hdm:decide ((32:Int)≤(m:Int))=true:=decide_eq_true (by omega)
   go_wp2_with fail
   obtain ⟨W1,rfl⟩:∃ W1,W1=wr:=⟨_,rfl⟩
   go_loopw [29] (fun i wr=>∃ j:Nat,j≤4∧i=.int .i64 (j:Int)∧Whole wr w.heap.size 175 (row4 .u64 (wtaken v ys j))∧Keeps (Just w.heap.size) W1 wr) (fun i _=>4 - (intOf i).toNat)
   case atStart=>exact ⟨0,by omega,rfl,by rw [wtaken_zero];exact HW.out,Keeps.refl _ _⟩
   case round =>
    obtain ⟨j,hj4,rfl,hwk,hkk⟩:=hrel
    have HWk:=hid hwk
    have HKk:=hid hkk
    clear hkk
    by_cases hlt4:j<4
    ·have c0:=hwk.cell j (row4_get hlt4)
     have f0:=hwk.free j
     have hub:=wtaken_bound HV.out ys j j hlt4
     have HVl:=hid (fun w=>value_ref ((ys.drop (8*j)).take 8) ((HY.out.drop _).take _) (by simp;omega) w)
     have HI:=hid (fun w=>winto_ref (wtaken v ys j j) (four8 ys j) hub (four8_bound HY.out j) w)
     clear hwk hub
     go_wp2_with fail
     have ha1:(0:Int)≤(j:Int):=by omega
     have ha2:(j:Int)<4:=by omega
     have ha3:(8:Int)*(j:Int)+8≤(m:Int):=by omega
     have ha4:(0:Int)≤8*(j:Int):=by omega
     have ha6:8*(j:Int)≤8*(j:Int)+8:=by omega
     have ha5:(0:Int)≤8*(j:Int)+8:=by omega
     have hw1:IntKind.i64.wrap (8*(j:Int))=8*(j:Int):=by rw [IntKind.wrap_i64];omega
     have hw2:IntKind.i64.wrap (8*(j:Int)+8)=8*(j:Int)+8:=by rw [IntKind.wrap_i64];omega
     have hex:(strOfNums ys).extract (8*(j:Int)).toNat (8*(j:Int)+8).toNat=strOfNums ((ys.drop (8*j)).take 8):=str_piece ys _ _ _ _ (by omega) (by omega)
     go_still_tail 14,(by kernel_rfl)
     still_call ((HVl.out _).mono fun e w5 h=>⟨h.1,h.2.symm⟩)
     still_call ((HI.out _).mono fun e w5 h=>⟨h.1,h.2.symm⟩)
     still_step
     refine wpStill_nil ?_
     change wpList _ _ _ _ _ wr.drew
     obtain ⟨W2,hW2⟩:∃ W2,W2=wr.drew:=⟨_,rfl⟩
     rw [← hW2]
     have hw2f:W2.frozen? ⟨w.heap.size,j,none⟩=false:=by rw [hW2];exact f0
     have hw2c:W2.cell? ⟨w.heap.size,j,none⟩=some (.int .u64 (wtaken v ys j j)):=by rw [hW2];exact c0
     have HW2:=hid hW2
     clear c0 f0 hW2
     go_wp2_with fail
     go_roundw
     case rel =>
      refine ⟨j+1,by omega,rfl,?_,?_⟩
      ·rw [← wtaken_succ,← row4_set hlt4,HW2.out]
       exact HWk.out.set j _
      ·rw [HW2.out]
       exact HKk.out.drew.setIn (Just.self _) _ _
     case measure=>simp [intOf];omega
    ·obtain rfl:j=4:=by omega
     have HKk2:=hid (HK.out.then HKk.out (fun i hi h=>by unfold Just at h;omega))
     have hd16:=str_drop ys 32
     rw [hys] at hd16
     have HD16:=hid hd16
     clear hd16 hwk
     go_wp2_with fail
     go_roundw
     case rel =>
      refine ⟨k+1,by have:=HYL.out;omega,by rw [HD16.out,HDX.out],by rw [HNX.out];exact HWk.out,HKk2.out⟩
     case measure =>
      rw [HD16.out,strSize_of,strSize_of,List.length_drop]
      have:=HM.out
      omega
  ·have hkn:k=n / 32:=by have:=HYL.out;omega
   have c0:=HW.out.cell 0 (row4_get (by decide))
   have c1:=HW.out.cell 1 (row4_get (by decide))
   have c2:=HW.out.cell 2 (row4_get (by decide))
   have c3:=HW.out.cell 3 (row4_get (by decide))
   have HT0:=hid (fun w=>wturn_ref (v 0) 1 1 (by decide) rfl (HV.out 0 (by decide)) w)
   have HT1:=hid (fun w=>wturn_ref (v 1) 7 7 (by decide) rfl (HV.out 1 (by decide)) w)
   have HT2:=hid (fun w=>wturn_ref (v 2) 12 12 (by decide) rfl (HV.out 2 (by decide)) w)
   have HT3:=hid (fun w=>wturn_ref (v 3) 18 18 (by decide) rfl (HV.out 3 (by decide)) w)
   have HKN:=hid hkn
   have HMg:Hid (∀ j,wmerged v j=wmerged (wnums (wseed s) xs k) j):=hid (by rw [HVD.out];exact fun _=>rfl)
   clear hkn
   go_wp2_with fail
   refine wp_region_still_lit (by kernel_rfl) (by kernel_rfl) ?_
   still_step
   still_step
   still_call ((HT0.out _).mono fun e w5 h=>⟨h.1,h.2.symm⟩)
   still_step
   still_step
   still_call ((HT1.out _).mono fun e w5 h=>⟨h.1,h.2.symm⟩)
   still_step
   still_step
   still_step
   still_call ((HT2.out _).mono fun e w5 h=>⟨h.1,h.2.symm⟩)
   still_step
   still_step
   still_step
   still_call ((HT3.out _).mono fun e w5 h=>⟨h.1,h.2.symm⟩)
   still_step
   still_step
   refine wpStill_nil ?_
   go_wp2_with fail
   have HWd:Hid (Whole wr.drew w.heap.size 175 (row4 .u64 v)):=hid HW.out
   have HKd:=hid HK.out.drew
   clear c0 c1 c2 c3
   change Code.wp _ _ _ _ wr.drew
   obtain ⟨W3,hW3⟩:∃ W3,W3=wr.drew:=⟨_,rfl⟩
   rw [← hW3] at HWd HKd ⊢
   clear hW3
   go_loop [10,64] (fun h i=>∃ j:Nat,j≤4∧i=.int .i64 (j:Int)∧h=.int .u64 (wmerged v j)) (fun _ i=>4 - (intOf i).toNat)
   case atStart=>exact ⟨0,by omega,rfl,rfl⟩
   case round =>
    obtain ⟨j,hj4,rfl,rfl⟩:=hrel
    by_cases hlt4:j<4
    ·have c0:=HWd.out.cell j (row4_get hlt4)
     have HI:=hid (fun w=>winto_ref 0 (v j) ⟨by decide,by decide⟩ (HV.out j hlt4) w)
     have ha1:(0:Int)≤(j:Int):=by omega
     have ha2:(j:Int)<4:=by omega
     go_wp2_with fail
     refine (HI.out _).mono ?_
     rintro e w' ⟨rfl,rfl⟩
     go_wp2_with fail
     go_round
     case rel=>exact ⟨j+1,by omega,rfl,rfl⟩
     case measure=>simp [intOf];omega
    ·obtain rfl:j=4:=by omega
     go_wp2_with fail
     exact bodyPost_ret (v:=.tuple #[.int .u64 (wmerged v 4),.string (strOfNums ys)]) (by simp [results,Tryz.results70,go_sem]) rfl ⟨by rw [HMg.out,HYD.out,HKN.out],HKd.out⟩
end
end Go.Proofs.YtehkjkcnigknkaaGreat

/-
  WideRefSum; TextEq; Ref2; Set3; VarPut; RecRef.
-/
import Derived.Deep.CutRange
import Derived.Deep.DeepCutAuto
import Derived.Deep.Cut
import Derived.Deep.RegionHeld3
import Derived.Lib.Bytes
import Derived.Lib.Hide
import Derived.Test.YtehkjkcnigknkaaGreatM01
import Derived.Test.YtehkjkcnigknkaaGreatM02
import Derived.Test.YtehkjkcnigknkaaGreatM04
import Derived.Test.YtehkjkcnigknkaaGreatM05
import Derived.Test.YtehkjkcnigknkaaGreatM06
namespace Go.Proofs.YtehkjkcnigknkaaGreat
open Lib (hid)
section
open Go.RowKit
set_option maxHeartbeats 2000000 in
set_option maxRecDepth 10000 in
theorem wsum_ref (s:Int) (xs:List Int) (hs:U64 s) (ho:Octets xs) (hl:xs.length≤140737488355328) (w:World) :
  Calls Tryz.prog 45 #[.int .u64 s,.string (strOfNums xs)] w fun e w'=>e=.returned (.int .u64 (wxxh s xs))∧Keeps NoBlock w w':=by
 have hss:(strOfNums xs).size=xs.length:=str_size xs
 have HBeg:=hid (fun w=>wbegin_ref s xs hs ho w)
 obtain ⟨n,hn⟩:∃ n,n=xs.length:=⟨_,rfl⟩
 have h0:=hs.1
 have h1:=hs.2
 have HO:=hid ho
 have HN:=hid hn
 rw [← hn] at hss hl
 clear hs ho hn
 go_enter Tryz.func45,Tryz.ntmps45
 go_upto_if 17 with (fail)
 go_cut [1,6] (fun s1 s6 wx=>s1=.string (strOfNums (wleft xs))∧s6=.int .u64 (wblocks s xs)∧Keeps NoBlock w wx)
 case first =>
  by_cases hlt:32≤n
  ·have hdn:decide ((32:Int)≤(n:Int))=true:=decide_eq_true (by omega)
   have hwb:wblocks s xs=wmerged (wnums (wseed s) xs (xs.length / 32)) 4:=by
    unfold wblocks
    rw [if_neg (by have:=HN.out;omega)]
   have HWB:=hid hwb
   obtain ⟨B,hB⟩:∃ B,B=wmerged (wnums (wseed s) xs (xs.length / 32)) 4:=⟨_,rfl⟩
   rw [← hB] at HBeg HWB
   clear hB hwb
   go_wp2_with fail
   refine (HBeg.out _).mono ?_
   rintro e w1 ⟨rfl,hk⟩
   have HK:=hid hk
   clear hk
   go_wp2_with fail
   go_meet
   case rel=>exact ⟨rfl,by rw [HWB.out],HK.out⟩
  ·have hwb:wblocks s xs=IntKind.u64.wrap (s+2870177450012600261):=by
    unfold wblocks
    rw [if_pos (by have:=HN.out;omega)]
   have hwl:wleft xs=xs:=by
    unfold wleft
    rw [show xs.length / 32=0 by have:=HN.out;omega]
    rfl
   have HWB:=hid hwb
   have HWL:=hid hwl
   clear hwb hwl HBeg
   go_wp2_with fail
   go_meet
   case rel=>exact ⟨by rw [HWL.out],by rw [HWB.out],Keeps.refl _ _⟩
 case rest =>
  obtain ⟨rfl,rfl,hk⟩:=hcut
  have HK:=hid hk
  have hspec:wxxh s xs=wend (weights (IntKind.u64.wrap (wblocks s xs+(xs.length:Int))) (wleft xs)):=rfl
  have hB0:=wblocks_bound s xs
  have hL2:=wleft_length xs
  have hLo:=HO.out.wleft
  obtain ⟨B,hB⟩:∃ B,B=wblocks s xs:=⟨_,rfl⟩
  obtain ⟨L,hL⟩:∃ L,L=wleft xs:=⟨_,rfl⟩
  rw [← hB] at hB0 hspec ⊢
  rw [← hL] at hL2 hLo hspec ⊢
  rw [← HN.out] at hspec hL2
  have hln:L.length≤31:=by omega
  have HS0:=hid hspec
  have HLo:=hid hLo
  have HLn:=hid hln
  have B0:=hB0.1
  have B1:=hB0.2
  clear hB hL hB0 hL2 hLo hspec hk HO h0 h1 hss HBeg hln
  go_wp2_with fail
  obtain ⟨h1,hh1⟩:∃ h1,h1=IntKind.u64.wrap (B+(n:Int)):=⟨_,rfl⟩
  have hb1:=wmod_bound (B+(n:Int))
  rw [← hh1] at hb1 HS0 ⊢
  have HB1:=hid hb1
  clear hh1 B0 B1 hb1
  obtain ⟨W0,rfl⟩:∃ W0,W0=wc:=⟨_,rfl⟩
  go_loop [1,6] (fun s1 s6=>∃ (h:Int) (ys:List Int),s1=.string (strOfNums ys)∧s6=.int .u64 h∧Hid (U64 h)∧Hid (Octets ys)∧ys.length≤31∧Hid (weights h ys=weights h1 L)) (fun s1 _=>strSize s1)
  case atStart=>exact ⟨_,L,rfl,rfl,HB1,HLo,HLn.out,hid rfl⟩
  case round =>
   obtain ⟨h,ys,rfl,rfl,hu,hy,hyl,ht⟩:=hrel
   have hys:(strOfNums ys).size=ys.length:=str_size ys
   obtain ⟨m,hm⟩:∃ m,m=ys.length:=⟨_,rfl⟩
   have HM:=hid hm
   rw [← hm] at hyl hys
   clear hm
   have hu0:=hu.out.1
   have hu1:=hu.out.2
   by_cases h8:8≤m
   ·have hdm:decide ((8:Int)≤(m:Int))=true:=decide_eq_true (by omega)
    have hex:(strOfNums ys).extract 0 8=strOfNums ((ys.drop (8*0)).take 8):=str_piece ys _ _ _ _ rfl rfl
    have hd8:=str_drop ys 8
    rw [hys] at hd8
    have HV:=hid (fun w=>value_ref ((ys.drop (8*0)).take 8) ((hy.out.drop _).take _) (by simp;omega) w)
    obtain ⟨y,hyd⟩:∃ y,y=four8 ys 0:=⟨_,rfl⟩
    have hyb:=four8_bound hy.out 0
    rw [show le ((ys.drop (8*0)).take 8)=four8 ys 0 from rfl,← hyd] at HV
    rw [← hyd] at hyb
    have HI:=hid (fun w=>winto_ref 0 y ⟨by decide,by decide⟩ hyb w)
    have HT:=hid (fun w=>wturn_ref (xr h (win 0 y)) 27 27 (by decide) rfl (xr_bound _ _) w)
    have HG:=hid (weights_go (h:=h) (xs:=ys) (by have:=HM.out;omega))
    rw [← hyd] at HG
    have he:weight h y=IntKind.u64.wrap (IntKind.u64.wrap (wrot 27 (xr h (win 0 y))*11400714785074694791)+9650029242287828579):=rfl
    have HE:=hid he
    clear hyd hyb he
    go_wp2_with fail
    refine (HV.out _).mono ?_
    rintro e w' ⟨rfl,rfl⟩
    go_wp2_with fail
    refine (HI.out _).mono ?_
    rintro e w' ⟨rfl,rfl⟩
    go_wp2_with fail
    refine (HT.out _).mono ?_
    rintro e w' ⟨rfl,rfl⟩
    go_wp2_with fail
    go_round
    case rel =>
     refine ⟨_,ys.drop 8,rfl,rfl,hid ?_,hid (hy.out.drop 8),by rw [List.length_drop];have:=HM.out;omega,hid ?_⟩
     ·exact wmod_bound _
     ·rw [← HE.out,← HG.out]
      exact ht.out
    case measure =>
     show strSize (.string (strOfNums (ys.drop 8)))<strSize (.string (strOfNums ys))
     rw [strSize_of,strSize_of,List.length_drop]
     have:=HM.out
     omega
   ·have HG:=hid (weights_end (h:=h) (xs:=ys) (by have:=HM.out;omega))
    obtain ⟨T,hT⟩:∃ T,T=weights h1 L:=⟨_,rfl⟩
    rw [← hT] at HS0 ht
    rw [HG.out] at ht
    clear hT
    have hdm:decide ((8:Int)≤(m:Int))=false:=decide_eq_false (by omega)
    go_wp2_with fail
    obtain ⟨h2,rfl⟩:∃ h2,h2=h:=⟨_,rfl⟩
    go_loop [1,6] (fun s1 s6=>∃ (h:Int) (zs:List Int),s1=.string (strOfNums zs)∧s6=.int .u64 h∧Hid (U64 h)∧Hid (Octets zs)∧zs.length≤7∧Hid (wfours h zs=T)) (fun s1 _=>strSize s1)
    case atStart=>exact ⟨_,ys,rfl,rfl,hu,hy,by have:=HM.out;omega,ht⟩
    case round =>
     clear hdm hys HM hyl h8 HG hu hy ht hu0 hu1
     obtain ⟨h,zs,rfl,rfl,hu,hy,hyl,ht⟩:=hrel
     have hys:(strOfNums zs).size=zs.length:=str_size zs
     obtain ⟨m,hm⟩:∃ m,m=zs.length:=⟨_,rfl⟩
     have HM:=hid hm
     rw [← hm] at hyl hys
     clear hm
     have hu0:=hu.out.1
     have hu1:=hu.out.2
     by_cases h4:4≤m
     ·have hdm:decide ((4:Int)≤(m:Int))=true:=decide_eq_true (by omega)
      have hex:(strOfNums zs).extract 0 4=strOfNums ((zs.drop (4*0)).take 4):=str_piece zs _ _ _ _ rfl rfl
      have hd8:=str_drop zs 4
      rw [hys] at hd8
      have HV:=hid (fun w=>value_ref ((zs.drop (4*0)).take 4) ((hy.out.drop _).take _) (by simp;omega) w)
      obtain ⟨y,hyd⟩:∃ y,y=four4 zs 0:=⟨_,rfl⟩
      rw [show le ((zs.drop (4*0)).take 4)=four4 zs 0 from rfl,← hyd] at HV
      have HT:=hid (fun w=>wturn_ref (xr h (IntKind.u64.wrap (y*11400714785074694791))) 23 23 (by decide) rfl (xr_bound _ _) w)
      have HG:=hid (wfours_go (h:=h) (xs:=zs) (by have:=HM.out;omega))
      rw [← hyd] at HG
      have he:wfour h y=IntKind.u64.wrap (IntKind.u64.wrap (wrot 23 (xr h (IntKind.u64.wrap (y*11400714785074694791)))*14029467366897019727)+1609587929392839161):=rfl
      have HE:=hid he
      clear hyd he
      go_wp2_with fail
      refine (HV.out _).mono ?_
      rintro e w' ⟨rfl,rfl⟩
      go_wp2_with fail
      refine (HT.out _).mono ?_
      rintro e w' ⟨rfl,rfl⟩
      go_wp2_with fail
      go_round
      case rel =>
       refine ⟨_,zs.drop 4,rfl,rfl,hid ?_,hid (hy.out.drop 4),by rw [List.length_drop];have:=HM.out;omega,hid ?_⟩
       ·exact wmod_bound _
       ·rw [← HE.out,← HG.out]
        exact ht.out
      case measure =>
       show strSize (.string (strOfNums (zs.drop 4)))<strSize (.string (strOfNums zs))
       rw [strSize_of,strSize_of,List.length_drop]
       have:=HM.out
       omega
     ·have HG:=hid (wfours_end (h:=h) (xs:=zs) (by have:=HM.out;omega))
      rw [HG.out] at ht
      have hdm:decide ((4:Int)≤(m:Int))=false:=decide_eq_false (by omega)
      go_wp2_with fail
      go_loop [6,8] (fun s6 i=>∃ k:Nat,k≤m∧i=.int .i64 (k:Int)∧s6=.int .u64 ((zs.take k).foldl wone h)) (fun _ i=>m - (intOf i).toNat)
      case atStart=>exact ⟨0,Nat.zero_le _,rfl,rfl⟩
      case round =>
       obtain ⟨k,hk,rfl,rfl⟩:=hrel
       have hfb:=fold_wone (zs.take k) h hu.out
       by_cases hlt:k<m
       ·have HN2:=hid (fold_wnext zs h k (by have:=HM.out;omega))
        have hsg:=str_get zs hy.out k (by have:=HM.out;omega)
        have hgb:=hy.out.getD k
        obtain ⟨q,hq⟩:∃ q,q=(zs.take k).foldl wone h:=⟨_,rfl⟩
        obtain ⟨b,hb⟩:∃ b,b=zs.getD k 0:=⟨_,rfl⟩
        rw [← hq] at hfb HN2 ⊢
        rw [← hb] at hgb HN2 hsg
        have hq0:=hfb.1
        have hq1:=hfb.2
        have hb0:=hgb.1
        have hb1:=hgb.2
        have HT:=hid (fun w=>wturn_ref (xr q (IntKind.u64.wrap (b*2870177450012600261))) 11 11 (by decide) rfl (xr_bound _ _) w)
        have he:wone q b=IntKind.u64.wrap (wrot 11 (xr q (IntKind.u64.wrap (b*2870177450012600261)))*11400714785074694791):=rfl
        have HE:=hid he
        clear hq hb hfb hgb he
        have hdk:decide ((k:Int)<(m:Int))=true:=decide_eq_true (by omega)
        go_wp2_with fail
        refine (HT.out _).mono ?_
        rintro e w' ⟨rfl,rfl⟩
        go_wp2_with fail
        exact ⟨⟨k+1,by omega,rfl,by rw [HN2.out,HE.out]⟩,by simp [intOf];omega⟩
       ·obtain rfl:k=m:=by omega
        rw [List.take_of_length_le (Nat.le_of_eq HM.out.symm),ht.out] at hfb ⊢
        have HX1:=hid (fun w=>wmix_ref T 33 33 (by decide) rfl hfb w)
        have HX2:=hid (fun w=>wmix_ref (IntKind.u64.wrap (down 33 T*14029467366897019727)) 29 29 (by decide) rfl (wmod_bound _) w)
        have HX3:=hid (fun w=>wmix_ref (IntKind.u64.wrap (down 29 (IntKind.u64.wrap (down 33 T*14029467366897019727))*1609587929392839161)) 32 32 (by decide) rfl (wmod_bound _) w)
        have hend:wend T=down 32 (IntKind.u64.wrap (down 29 (IntKind.u64.wrap (down 33 T*14029467366897019727))*1609587929392839161)):=rfl
        rw [hend] at HS0
        clear hend hfb
        go_wp2_with fail
        refine (HX1.out _).mono ?_
        rintro e w' ⟨rfl,rfl⟩
        go_wp2_with fail
        refine (HX2.out _).mono ?_
        rintro e w' ⟨rfl,rfl⟩
        go_wp2_with fail
        refine (HX3.out _).mono ?_
        rintro e w' ⟨rfl,rfl⟩
        go_wp2_with fail
        go_ret
        exact ⟨by rw [HS0.out];rfl,HK.out⟩
end
section
open Go.RowKit
theorem strOf_inj {xs ys:List Int} (hx:Octets xs) (hy:Octets ys) (h:strOfNums xs=strOfNums ys):xs=ys:=by
 have e:(strOfNums xs).data.toList=(strOfNums ys).data.toList:=by rw [h]
 rw [strOfNums_data,strOfNums_data] at e
 have hm:∀ {zs:List Int},Octets zs→(zs.map fun n=>UInt8.ofNat n.toNat).map (fun u=>((u.toNat:Nat):Int))=zs:=fun {zs} hz=>by
  rw [List.map_map]
  conv=>rhs;rw [← List.map_id zs]
  exact List.map_congr_left fun z hzm=>by
   have:=hz z hzm
   simp [UInt8.toNat_ofNat']
   omega
 rw [← hm hx,← hm hy,e]
theorem text_beq (a b:ByteArray):(a.toList == b.toList)=decide (a=b):=by
 rw [Bool.eq_iff_iff,beq_iff_eq,decide_eq_true_iff,ByteArray.toList_eq,ByteArray.toList_eq]
 exact ⟨fun h=>ByteArray.ext (Array.toList_inj.1 h),fun h=>by rw [h]⟩
end
section
open Go.RowKit
def refOut (xs:List Int) (a:Int) (t:VR):Value:=.tuple #[rdr (xs.drop t.n) (a+t.n) t.e,.int .u64 (if t.e=0 then t.x else 0)]
structure RState2 (xs:List Int) (a:Int) (B R:Nat) (w:World) (i X:Nat) (wr:World):Prop where
 rd:Whole wr B 163 #[.string (strOfNums (xs.drop i)),.int .i64 (a+i),.int .i64 0]
 res:Whole wr R 163 #[.string { data:=#[] },.int .i64 0,.int .i64 0]
 keep:Keeps NoBlock w wr
 lt:X<2 ^ (7*i)
 vr:vget xs=(vread (9 - i+1) (i == 0) (xs.drop i)).up i X
 i9:i≤9
 le:i≤xs.length
section
variable {xs:List Int} {a:Int} {B R:Nat} {w:World} {i X:Nat} {wr:World}
theorem RState2.short (h:RState2 xs a B R w i X wr) (hs:¬ i<xs.length):refOut xs a (vget xs)=.tuple #[rdr (xs.drop i) (a+i) 2,.int .u64 0]:=by
 have hd:xs.drop i=[]:=List.drop_eq_nil_of_le (by omega)
 rw [h.vr,hd,vread]
 simp [VR.up,refOut,hd]
theorem RState2.wrong (h:RState2 xs a B R w i X wr) (hs:i<xs.length) (y b:Int) (hb:b=xs.getD i 0) (hy:(y=3∧i=9∧1<b) ∨ (y=4∧¬ (i=9∧1<b)∧0<i∧b=0)):refOut xs a (vget xs)=.tuple #[rdr (xs.drop (i+1)) (a+i+1) y,.int .u64 0]:=by
 have hd:=drop_cons (xs:=xs) (n:=i) hs
 rw [← hb] at hd
 have hi9:=h.i9
 have e2:vget xs=⟨y,i+1,X+2 ^ (7*i)*0⟩:=by
  rw [h.vr,hd,vread]
  rcases hy with ⟨rfl,rfl,h1⟩|⟨rfl,h0,h1,h2⟩
  ·rw [if_pos ⟨by omega,h1⟩]
   simp [VR.up,Nat.add_comm]
  ·rw [if_neg (by omega),if_pos ⟨beq_false_of_ne (by omega),h2⟩]
   simp [VR.up,Nat.add_comm]
 rw [e2]
 have hy0:¬ y=0:=by rcases hy with ⟨rfl,_⟩|⟨rfl,_⟩ <;> simp
 simp only [refOut,if_neg hy0]
 rw [show a+((i+1:Nat):Int)=a+i+1 by omega]
theorem RState2.last (h:RState2 xs a B R w i X wr) (hs:i<xs.length) (b:Int) (hb:b=xs.getD i 0) (h9:¬ (i=9∧1<b)) (h0:¬ (0<i∧b=0)) (h1:b<128):refOut xs a (vget xs)=.tuple #[rdr (xs.drop (i+1)) (a+i+1) 0,.int .u64 (X+2 ^ (7*i)*b)]:=by
 have hd:=drop_cons (xs:=xs) (n:=i) hs
 rw [← hb] at hd
 have hi9:=h.i9
 have e2:vget xs=⟨0,i+1,X+2 ^ (7*i)*b⟩:=by
  rw [h.vr,hd,vread,if_neg (by omega),if_neg (fun hh=>h0 ⟨Nat.pos_of_ne_zero (by simpa using hh.1),hh.2⟩),if_pos h1]
  simp [VR.up,Nat.add_comm]
 rw [e2]
 simp only [refOut]
 rw [show a+((i+1:Nat):Int)=a+i+1 by omega]
 rfl
theorem RState2.more (h:RState2 xs a B R w i X wr) (hs:i<xs.length) (b:Int) (hb:b=xs.getD i 0) (h9:i≤8) (h0:128≤b) (h1:b<256) {w2:World}
  (hrd:Whole w2 B 163 #[.string (strOfNums (xs.drop (i+1))),.int .i64 (a+i+1),.int .i64 0]) (hres:Whole w2 R 163 #[.string { data:=#[] },.int .i64 0,.int .i64 0]) (hk:Keeps NoBlock w w2):RState2 xs a B R w (i+1) (X+2 ^ (7*i)*(b.toNat % 128)) w2:=by
 have hd:=drop_cons (xs:=xs) (n:=i) hs
 rw [← hb] at hd
 have hp:2 ^ (7*(i+1))=128*2 ^ (7*i):=by rw [show 7*(i+1)=7+7*i by omega,Nat.pow_add]
 refine ⟨by rw [show a+((i+1:Nat):Int)=a+i+1 by omega];exact hrd,hres,hk,?_,?_,by omega,by omega⟩
 ·have:=h.lt
  have h2:2 ^ (7*i)*(b.toNat % 128)≤2 ^ (7*i)*127:=Nat.mul_le_mul_left _ (by omega)
  omega
 ·rw [h.vr,hd,vread,if_neg (by omega),if_neg (by omega),if_neg (by omega)]
  have e1:9 - i=9 - (i+1)+1:=by omega
  rw [show ((i+1 == 0):Bool)=false from by simp,← e1]
  simp only [VR.up,VR.mk.injEq,true_and]
  refine ⟨by omega,?_⟩
  have e2:((2:Int) ^ (7*(i+1)))=128*2 ^ (7*i):=by rw [show 7*(i+1)=7+7*i by omega,Int.pow_add];rfl
  have e3:((X+2 ^ (7*i)*(b.toNat % 128):Nat):Int)=X+2 ^ (7*i)*(b - 128):=by
   push_cast
   congr 2
   omega
  rw [e2,e3,Int.mul_add,Int.mul_assoc,Int.add_assoc,Int.mul_left_comm]
end
theorem acc_group (X P i:Nat) (b:Int) (b0:0≤b) (b1:b<256) (hX:X<2 ^ (7*i)) (hP:P=2 ^ (7*i)) (hi:i≤9) (h9:i=9→b≤1) :
  IntKind.u64.wrap ((X:Int)+IntKind.u64.wrap (b % 128*(P:Int)))=((X+2 ^ (7*i)*(b.toNat % 128):Nat):Int):=by
 rw [← hP] at hX ⊢
 have hm:(b % 128*(P:Int))=((P*(b.toNat % 128):Nat):Int):=by
  push_cast
  rw [Int.mul_comm]
  congr 1
  omega
 have hp:P*(b.toNat % 128)≤9223372036854775808:=by
  by_cases h:i=9
  ·subst h
   have:=h9 rfl
   have h1:b.toNat % 128≤1:=by omega
   have h2:P*(b.toNat % 128)≤P*1:=Nat.mul_le_mul_left _ h1
   rw [hP] at h2 ⊢
   exact Nat.le_trans h2 (by decide)
  ·have h1:P≤2 ^ 56:=by rw [hP];exact Nat.pow_le_pow_right (by omega) (by omega)
   have h2:P*(b.toNat % 128)≤2 ^ 56*127:=Nat.mul_le_mul h1 (by omega)
   exact Nat.le_trans h2 (by decide)
 have hq:P≤9223372036854775808:=by
  have h1:P≤2 ^ 63:=by rw [hP];exact Nat.pow_le_pow_right (by omega) (by omega)
  exact h1
 rw [hm,IntKind.wrap_u64,IntKind.wrap_u64]
 omega
theorem acc_last (X P i:Nat) (b:Int) (b0:0≤b) (b1:b<128) (hX:X<2 ^ (7*i)) (hP:P=2 ^ (7*i)) (hi:i≤9) (h9:i=9→b≤1) :
  IntKind.u64.wrap ((X:Int)+IntKind.u64.wrap (b % 128*(P:Int)))=X+2 ^ (7*i)*b:=by
 rw [acc_group X P i b b0 (by omega) hX hP hi h9]
 push_cast
 congr 2
 omega
theorem acc_pow (P i:Nat) (hP:P=2 ^ (7*i)) (hi:i≤8):IntKind.u64.wrap ((P:Int)*128)=((2 ^ (7*(i+1)):Nat):Int):=by
 have e:2 ^ (7*(i+1))=P*128:=by rw [hP,show 7*(i+1)=7*i+7 by omega,Nat.pow_add]
 have h1:P≤2 ^ 56:=by rw [hP];exact Nat.pow_le_pow_right (by omega) (by omega)
 rw [e,IntKind.wrap_u64]
 omega
set_option maxHeartbeats 4000000 in
set_option maxRecDepth 10000 in
theorem get_ref (xs:List Int) (a:Int) (hl:xs.length≤140737488355328) (ha:0≤a∧a+xs.length≤140737488355328) (ho:Octets xs) (w:World) :
  Calls Tryz.prog 97 #[rdr xs a 0] w fun e w'=>e=.returned (refOut xs a (vget xs))∧Keeps NoBlock w w':=by
 have HL:=hid hl;have HA:=hid ha;have HO:=hid ho
 clear hl ha ho
 unfold rdr
 go_enter Tryz.func97,Tryz.ntmps97
 go_wp2_with fail
 go_loopw [4,5,9] (fun x q v wr=>∃ (i X P:Nat),x=.int .u64 X∧q=.int .u64 P∧v=.int .i64 i∧i≤9∧Hid (P=2 ^ (7*i))∧RState2 xs a w.heap.size (w.heap.size+1) w i X wr) (fun _ _ v _=>10 - (intOf v).toNat)
 case atStart=>exact ⟨0,0,1,rfl,rfl,rfl,by omega,hid rfl,⟨by simpa using (Whole.new w _ _).alloc _,Whole.newAt _ _ _ _ (by simp),((Keeps.refl _ _).alloc _).alloc _,by decide,by simp [VR.up,vget],by omega,by omega⟩⟩
 case round =>
  obtain ⟨i,X,P,rfl,rfl,rfl,hi9,HP,hst⟩:=hrel
  have c0:=hst.rd.cell 0 rfl
  have c1:=hst.rd.cell 1 rfl
  have c2:=hst.rd.cell 2 rfl
  simp only [List.getElem_toArray,List.getElem_cons_zero,List.getElem_cons_succ] at c0 c1 c2
  have HS:=hid hst
  clear hst
  by_cases hs:i<xs.length
  ·have HG:=hid (get1_ref (xs.drop i) (a+i) 1 1 rfl (by omega) (by rw [List.length_drop];omega) (by omega) (by rw [List.length_drop];have:=HL.out;omega) (by have:=HA.out;omega) (HO.out.drop i))
   obtain ⟨b,hbd⟩:∃ b,b=xs.getD i 0:=⟨_,rfl⟩
   have hb0:0≤b∧b<256:=by rw [hbd];exact HO.out.getD _
   have htk:le ((xs.drop i).take 1)=b:=by
    rw [drop_cons hs,← hbd]
    simp [le]
   rw [htk,List.drop_drop,show ((1:Nat):Int)=1 from rfl] at HG
   unfold rdr at HG
   obtain ⟨b0,b1⟩:=hb0
   have HBd:=hid hbd
   clear hbd htk
   go_wp2_with fail
   refine (HG.out _).mono ?_
   rintro e w1 ⟨rfl,hk⟩
   have hrd1:=HS.out.rd.keep hk (fun h=>h)
   have hre1:=HS.out.res.keep hk (fun h=>h)
   have hkw1:=HS.out.keep.trans hk
   clear hk HG
   obtain ⟨W,hW⟩:∃ W,W=w1.alloc (.cells #[.string (strOfNums (xs.drop (i+1))),.int .i64 (a+i+1),.int .i64 0] 163):=⟨_,rfl⟩
   have hW1:Whole W w.heap.size 163 #[.string (strOfNums (xs.drop i)),.int .i64 (a+i),.int .i64 0]:=by rw [hW];exact hrd1.alloc _
   have hW2:Whole W (w.heap.size+1) 163 #[.string { data:=#[] },.int .i64 0,.int .i64 0]:=by rw [hW];exact hre1.alloc _
   have hW3:Whole W w1.heap.size 163 #[.string (strOfNums (xs.drop (i+1))),.int .i64 (a+i+1),.int .i64 0]:=by rw [hW];exact Whole.new _ _ _
   have hkW:Keeps NoBlock w W:=by rw [hW];exact hkw1.alloc _
   have d0:=hW1.cell 0 rfl
   have d1:=hW1.cell 1 rfl
   have d2:=hW1.cell 2 rfl
   have f0:=hW1.free 0
   have f1:=hW1.free 1
   have f2:=hW1.free 2
   have s0:=hW3.cell 0 rfl
   have s1:=hW3.cell 1 rfl
   have s2:=hW3.cell 2 rfl
   simp only [List.getElem_toArray,List.getElem_cons_zero,List.getElem_cons_succ] at d0 d1 d2 s0 s1 s2
   have HW1:=hid hW1;have HW2:=hid hW2;have HkW:=hid hkW
   clear hrd1 hre1 hkw1 hW1 hW2 hW3 hkW c0 c1 c2
   go_upto_region 7 with (fail)
   rw [← hW]
   clear hW
   go_upto_region 8 with (fail)
   obtain ⟨V,hV⟩:∃ V,V=((W.setCell ⟨w.heap.size,0,none⟩ (.string (strOfNums (xs.drop (i+1))))).setCell ⟨w.heap.size,1,none⟩ (.int .i64 (a+i+1))).setCell ⟨w.heap.size,2,none⟩ (.int .i64 0):=⟨_,rfl⟩
   rw [← hV]
   have hV1:Whole V w.heap.size 163 #[.string (strOfNums (xs.drop (i+1))),.int .i64 (a+i+1),.int .i64 0]:=by rw [hV];exact ((HW1.out.set 0 _).set 1 _).set 2 _
   have hV2:Whole V (w.heap.size+1) 163 #[.string { data:=#[] },.int .i64 0,.int .i64 0]:=by rw [hV];exact (((HW2.out.setOther (by simp) _).setOther (by simp) _).setOther (by simp) _)
   have hkV:Keeps NoBlock w V:=by rw [hV];exact ((HkW.out.setNew (Nat.le_refl _) 0 _).setNew (Nat.le_refl _) 1 _).setNew (Nat.le_refl _) 2 _
   have HV1:=hid hV1;have HV2:=hid hV2;have HkV:=hid hkV
   have c0:=hV1.cell 0 rfl
   have c1:=hV1.cell 1 rfl
   have c2:=hV1.cell 2 rfl
   have r0:=hV2.cell 0 rfl
   have r1:=hV2.cell 1 rfl
   have r2:=hV2.cell 2 rfl
   have g0:=hV2.free 0
   have g1:=hV2.free 1
   have g2:=hV2.free 2
   simp only [List.getElem_toArray,List.getElem_cons_zero,List.getElem_cons_succ] at c0 c1 c2 r0 r1 r2
   clear hV1 hV2 hkV hV d0 d1 d2 f0 f1 f2 s0 s1 s2 HW1 HW2 HkW
   have HLt:=hid (And.intro HS.out.lt HP.out)
   by_cases h9:i=9
   ·by_cases k1:1<b
    ·subst h9
     have HF:=hid (fail_ref (xs.drop (9+1)) (a+(9:Nat)+1) 3)
     have HOut:=hid (HS.out.wrong hs 3 b HBd.out (.inl ⟨rfl,rfl,k1⟩))
     unfold rdr at HF
     clear HBd HLt
     go_wp2_with fail
     refine (HF.out _).mono ?_
     rintro e w4 ⟨rfl,hk⟩
     have hR:=HV2.out.keep hk (fun h=>h)
     have HK:=hid (HkV.out.trans hk)
     have q0:=hR.cell 0 rfl
     have q1:=hR.cell 1 rfl
     have q2:=hR.cell 2 rfl
     have p0:=hR.free 0
     have p1:=hR.free 1
     have p2:=hR.free 2
     simp only [List.getElem_toArray,List.getElem_cons_zero,List.getElem_cons_succ] at q0 q1 q2
     clear hk hR
     go_wp2_with fail
     rw [HOut.out]
     exact bodyPost_ret (v:=.tuple #[rdr (xs.drop (9+1)) (a+(9:Nat)+1) 3,.int .u64 0]) (by simp [results,Tryz.results97,go_sem,rdr,q0,q1,q2]) rfl ⟨rfl,((HK.out.setNew (by omega) 0 _).setNew (by omega) 1 _).setNew (by omega) 2 _⟩
    ·by_cases k0:b=0
     ·subst h9
      subst k0
      have HF:=hid (fail_ref (xs.drop (9+1)) (a+(9:Nat)+1) 4)
      have HOut:=hid (HS.out.wrong hs 4 0 HBd.out (.inr ⟨rfl,by omega,by omega,rfl⟩))
      unfold rdr at HF
      clear HBd HLt
      go_wp2_with fail
      refine (HF.out _).mono ?_
      rintro e w4 ⟨rfl,hk⟩
      have hR:=HV2.out.keep hk (fun h=>h)
      have HK:=hid (HkV.out.trans hk)
      have q0:=hR.cell 0 rfl
      have q1:=hR.cell 1 rfl
      have q2:=hR.cell 2 rfl
      have p0:=hR.free 0
      have p1:=hR.free 1
      have p2:=hR.free 2
      simp only [List.getElem_toArray,List.getElem_cons_zero,List.getElem_cons_succ] at q0 q1 q2
      clear hk hR
      go_wp2_with fail
      rw [HOut.out]
      exact bodyPost_ret (v:=.tuple #[rdr (xs.drop (9+1)) (a+(9:Nat)+1) 4,.int .u64 0]) (by simp [results,Tryz.results97,go_sem,rdr,q0,q1,q2]) rfl ⟨rfl,((HK.out.setNew (by omega) 0 _).setNew (by omega) 1 _).setNew (by omega) 2 _⟩
     ·subst h9
      have HOut:=hid (HS.out.last hs b HBd.out (by omega) (by omega) (by omega))
      have HNum:=hid (acc_last X P 9 b b0 (by omega) HLt.out.1 HLt.out.2 (by omega) (fun _=>by omega))
      clear HBd
      go_wp2_with fail
      rw [HOut.out]
      refine bodyPost_ret (v:=.tuple #[rdr (xs.drop (9+1)) (a+(9:Nat)+1) 0,.int .u64 (X+2 ^ (7*9)*b)]) ?_ rfl ⟨rfl,((HkV.out.setNew (by omega) 0 _).setNew (by omega) 1 _).setNew (by omega) 2 _⟩
      rw [← HNum.out]
      simp [results,Tryz.results97,go_sem,rdr,r0,r1,r2]
   ·by_cases k0:b=0
    ·by_cases hi0:i=0
     ·subst hi0
      subst k0
      have HOut:=hid (HS.out.last hs 0 HBd.out (by omega) (by omega) (by omega))
      have HNum:=hid (show IntKind.u64.wrap (X:Int)=X+2 ^ (7*0)*0 by have:=HLt.out.1;rw [IntKind.wrap_u64];simp at this;subst this;rfl)
      clear HBd
      go_wp2_with fail
      rw [HOut.out]
      refine bodyPost_ret (v:=.tuple #[rdr (xs.drop (0+1)) (a+(0:Nat)+1) 0,.int .u64 (X+2 ^ (7*0)*0)]) ?_ rfl ⟨rfl,?_⟩
      ·rw [← HNum.out]
       simp [results,Tryz.results97,go_sem,rdr,r0,r1,r2]
      ·exact ((HkV.out.setNew (by omega) 0 _).setNew (by omega) 1 _).setNew (by omega) 2 _
     ·subst k0
      have hi1:0<i:=by omega
      have HF:=hid (fail_ref (xs.drop (i+1)) (a+(i:Nat)+1) 4)
      have HOut:=hid (HS.out.wrong hs 4 0 HBd.out (.inr ⟨rfl,by omega,by omega,rfl⟩))
      unfold rdr at HF
      clear HBd HLt
      go_wp2_with fail
      refine (HF.out _).mono ?_
      rintro e w4 ⟨rfl,hk⟩
      have hR:=HV2.out.keep hk (fun h=>h)
      have HK:=hid (HkV.out.trans hk)
      have q0:=hR.cell 0 rfl
      have q1:=hR.cell 1 rfl
      have q2:=hR.cell 2 rfl
      have p0:=hR.free 0
      have p1:=hR.free 1
      have p2:=hR.free 2
      simp only [List.getElem_toArray,List.getElem_cons_zero,List.getElem_cons_succ] at q0 q1 q2
      clear hk hR
      go_wp2_with fail
      rw [HOut.out]
      exact bodyPost_ret (v:=.tuple #[rdr (xs.drop (i+1)) (a+(i:Nat)+1) 4,.int .u64 0]) (by simp [results,Tryz.results97,go_sem,rdr,q0,q1,q2]) rfl ⟨rfl,((HK.out.setNew (by omega) 0 _).setNew (by omega) 1 _).setNew (by omega) 2 _⟩
    ·by_cases k2:b<128
     ·have HOut:=hid (HS.out.last hs b HBd.out (by omega) (by omega) (by omega))
      have HNum:=hid (acc_last X P i b b0 (by omega) HLt.out.1 HLt.out.2 (by omega) (fun _=>by omega))
      clear HBd
      go_wp2_with fail
      rw [HOut.out]
      refine bodyPost_ret (v:=.tuple #[rdr (xs.drop (i+1)) (a+(i:Nat)+1) 0,.int .u64 (X+2 ^ (7*i)*b)]) ?_ rfl ⟨rfl,((HkV.out.setNew (by omega) 0 _).setNew (by omega) 1 _).setNew (by omega) 2 _⟩
      rw [← HNum.out]
      simp [results,Tryz.results97,go_sem,rdr,r0,r1,r2]
     ·have HMore:=hid (HS.out.more hs b HBd.out (by omega) (by omega) b1 HV1.out HV2.out HkV.out)
      have HNum:=hid (acc_group X P i b b0 b1 HLt.out.1 HLt.out.2 (by omega) (fun _=>by omega))
      have HPow:=hid (acc_pow P i HLt.out.2 (by omega))
      clear HBd
      go_wp2_with fail
      go_roundw
      case rel=>exact ⟨i+1,_,_,congrArg (Value.int IntKind.u64) HNum.out,congrArg (Value.int IntKind.u64) HPow.out,by go_num,by omega,hid rfl,HMore.out⟩
      case measure=>simp [intOf];omega
  ·have HG:=hid (get1_ref_short (xs.drop i) (a+i) 1 1 rfl (by omega) (by rw [List.length_drop];omega))
   unfold rdr at HG
   go_wp2_with fail
   refine (HG.out _).mono ?_
   rintro e w1 ⟨rfl,hk⟩
   have hrd1:=HS.out.rd.keep hk (fun h=>h)
   have hre1:=HS.out.res.keep hk (fun h=>h)
   have hkw1:=HS.out.keep.trans hk
   clear hk HG
   obtain ⟨W,hW⟩:∃ W,W=w1.alloc (.cells #[.string (strOfNums (xs.drop i)),.int .i64 (a+i),.int .i64 2] 163):=⟨_,rfl⟩
   have hW1:Whole W w.heap.size 163 #[.string (strOfNums (xs.drop i)),.int .i64 (a+i),.int .i64 0]:=by rw [hW];exact hrd1.alloc _
   have hW2:Whole W (w.heap.size+1) 163 #[.string { data:=#[] },.int .i64 0,.int .i64 0]:=by rw [hW];exact hre1.alloc _
   have hW3:Whole W w1.heap.size 163 #[.string (strOfNums (xs.drop i)),.int .i64 (a+i),.int .i64 2]:=by rw [hW];exact Whole.new _ _ _
   have HkW:=hid (show Keeps NoBlock w W by rw [hW];exact hkw1.alloc _)
   have d0:=hW1.cell 0 rfl
   have d1:=hW1.cell 1 rfl
   have d2:=hW1.cell 2 rfl
   have f0:=hW1.free 0
   have f1:=hW1.free 1
   have f2:=hW1.free 2
   have s0:=hW3.cell 0 rfl
   have s1:=hW3.cell 1 rfl
   have s2:=hW3.cell 2 rfl
   have r0:=hW2.cell 0 rfl
   have r1:=hW2.cell 1 rfl
   have r2:=hW2.cell 2 rfl
   have g0:=hW2.free 0
   have g1:=hW2.free 1
   have g2:=hW2.free 2
   simp only [List.getElem_toArray,List.getElem_cons_zero,List.getElem_cons_succ] at d0 d1 d2 s0 s1 s2 r0 r1 r2
   have HOut:=hid (HS.out.short hs)
   clear hrd1 hre1 hkw1 hW1 hW2 hW3 c0 c1 c2
   go_upto_region 7 with (fail)
   rw [← hW]
   clear hW
   go_wp2_with fail
   rw [HOut.out]
   exact bodyPost_ret (v:=.tuple #[rdr (xs.drop i) (a+i) 2,.int .u64 0]) (by simp [results,Tryz.results97,go_sem,rdr,r0,r1,r2]) rfl ⟨rfl,(((((HkW.out.setNew (by omega) 0 _).setNew (by omega) 1 _).setNew (by omega) 2 _).setNew (by omega) 0 _).setNew (by omega) 1 _).setNew (by omega) 2 _⟩
end
section
open Go.RowKit
theorem Keeps.set3 {S:Nat→Prop} {a b:World} (h:Keeps S a b) {g:Nat} (hg:a.heap.size≤g) (x y z:Value):Keeps S a (((b.setCell ⟨g,0,none⟩ x).setCell ⟨g,1,none⟩ y).setCell ⟨g,2,none⟩ z) :=
 ((h.setNew hg 0 x).setNew hg 1 y).setNew hg 2 z
theorem Whole.other3 {w:World} {g h:Nat} {t:TypeId} {cs:Array Value} (hw:Whole w g t cs) (hn:g ≠ h) (x y z:Value):Whole (((w.setCell ⟨h,0,none⟩ x).setCell ⟨h,1,none⟩ y).setCell ⟨h,2,none⟩ z) g t cs :=
 ((hw.setOther (p:=⟨h,0,none⟩) hn x).setOther (p:=⟨h,1,none⟩) hn y).setOther (p:=⟨h,2,none⟩) hn z
theorem Whole.set3 {w:World} {g:Nat} {t:TypeId} {a b c:Value} (hw:Whole w g t #[a,b,c]) (x y z:Value):Whole (((w.setCell ⟨g,0,none⟩ x).setCell ⟨g,1,none⟩ y).setCell ⟨g,2,none⟩ z) g t #[x,y,z]:=by
 have:=((hw.set 0 x).set 1 y).set 2 z
 simpa using this
end
section
open Go.RowKit
def PutOk (base g:Nat) (xs:List Int) (w:World) (e:Ending) (w':World):Prop :=
 e=.returned (.tuple #[])∧BufAt w' base g xs∧Keeps (OnBuf base g) w w'
set_option maxRecDepth 10000 in
set_option maxHeartbeats 800000 in
theorem put_any (base g:Nat) (xs:List Int) (x:Nat) (z:Int) (hz:z=x) (w:World) (h:BufAt w base g xs) (hs:base≤w.heap.size) (hx:xs.length+10≤140737488355328) (h64:x<18446744073709551616) :
  Calls Tryz.prog 80 #[.pointer (some ⟨g,0,none⟩),.int .u64 z] w (PutOk base g (xs ++ vnum x) w):=by
 subst hz
 have HT:=hid (vnum_ten h64)
 have H:=hid h;have HX:=hid hx;have H64:=hid h64
 clear h hx h64
 go_enter Tryz.func80,Tryz.ntmps80
 go_wp2_with fail
 go_loopw [1] (fun v wr=>∃ (y:Nat) (pre:List Int),v=.int .u64 y∧y≤x∧Hid (pre ++ vnum y=vnum x)∧BufAt wr base g (xs ++ pre)∧Keeps (OnBuf base g) w wr) (fun v _=>(intOf v).toNat)
 case atStart=>exact ⟨x,[],rfl,Nat.le_refl _,hid rfl,by simpa using H.out,Keeps.refl _ _⟩
 case round =>
  obtain ⟨y,pre,rfl,hyx,hpre,hbuf,hbel⟩:=hrel
  have HB:=hid hbuf;have HL:=hid hbel
  clear hbuf hbel
  have hlen:xs.length+pre.length+1≤140737488355328:=by
   have e:=congrArg List.length hpre.out
   rw [List.length_append] at e
   have:=HT.out;have:=HX.out;have:=vnum_pos y
   omega
  have HLen:=hid hlen
  clear hlen
  by_cases hlt:y<128
  ·go_wp2_with fail
   refine (bufByteK base g (xs ++ pre) _ _ HB.out (by have:=HL.out.size;omega) (by have:=HLen.out;simp;omega)).mono ?_
   rintro e w2 ⟨rfl,hbuf,hbel⟩
   have HB2:=hid hbuf;have HL2:=hid (HL.out.trans hbel)
   clear hbuf hbel
   go_wp2_with fail
   go_returns
   refine ⟨rfl,?_,HL2.out⟩
   have:=HB2.out
   have e:=hpre.out
   rw [vnum_small hlt] at e
   rw [← e,← List.append_assoc]
   first|exact this|(have e2:IntKind.u8.wrap (y:Int)=y:=by (rw [IntKind.wrap_u8'];omega));(rw [e2] at this;exact this)
  ·go_wp2_with fail
   refine (bufByteK base g (xs ++ pre) _ _ HB.out (by have:=HL.out.size;omega) (by have:=HLen.out;simp;omega)).mono ?_
   rintro e w2 ⟨rfl,hbuf,hbel⟩
   have HB2:=hid hbuf;have HL2:=hid (HL.out.trans hbel)
   clear hbuf hbel
   go_wp2_with fail
   go_roundw
   case rel =>
    refine ⟨y / 128,pre ++ [((128+y % 128:Nat):Int)],?_,by omega,hid ?_,?_,HL2.out⟩
    ·go_num
    ·have e:=hpre.out
     rw [vnum_big hlt] at e
     rw [← e,List.append_assoc]
     rfl
    ·have:=HB2.out
     rw [← IntKind.wrap_u8',more_seven] at this
     rw [← List.append_assoc]
     exact this
   case measure=>simp [intOf];omega
theorem one_conv {v:Int} {W:World} {g:Nat} {t:TypeId} (h:Whole W g t #[.int .u8 v]):(convert 29 9 (.slice (some ⟨g,0,none⟩) 1 1)).run Tryz.prog W=.ok (.string (strOfNums [v])) W :=
 textOf _ 1 1 [v] _ rfl (h.bytes [v] (fun i hi=>by
  match i,hi with
  | 0,_=>rfl))
theorem vnum_conv (v:Int) (w:World):(convert 29 9 (.slice (some ⟨w.heap.size,0,none⟩) 1 1)).run Tryz.prog (w.alloc (.cells #[.int .u8 v] 5))=.ok (.string (strOfNums [v])) (w.alloc (.cells #[.int .u8 v] 5)) :=
 one_conv (Whole.new w _ _)
theorem vnum_convD (v:Int) (w:World):(convert 29 9 (.slice (some ⟨w.heap.size,0,none⟩) 1 1)).run Tryz.prog (w.alloc (.cells #[.int .u8 v] 5)).drew=.ok (.string (strOfNums [v])) (w.alloc (.cells #[.int .u8 v] 5)).drew :=
 one_conv (W:=(w.alloc (.cells #[.int .u8 v] 5)).drew) (show Whole _ _ 5 _ from Whole.new w _ _)
theorem vnum_conv_keep {v:Int} {w w1:World} (h:Keeps NoBlock (w.alloc (.cells #[.int .u8 v] 5)).drew w1) :
  (convert 29 9 (.slice (some ⟨w.heap.size,0,none⟩) 1 1)).run Tryz.prog w1=.ok (.string (strOfNums [v])) w1∧(convert 29 9 (.slice (some ⟨w.heap.size,0,none⟩) 1 1)).run Tryz.prog w1.drew=.ok (.string (strOfNums [v])) w1.drew:=by
 have hw:Whole w1 w.heap.size 5 #[.int .u8 v]:=(show Whole (w.alloc (.cells #[.int .u8 v] 5)).drew _ _ _ from Whole.new w _ _).keep h (fun h=>h)
 exact ⟨one_conv hw,one_conv (show Whole w1.drew _ 5 _ from hw)⟩
set_option maxHeartbeats 800000 in
theorem num_bytes (x:Nat):∀ (z:Int),z=x→x<18446744073709551616→∀ (w:World),
  Calls Tryz.prog 69 #[.int .u64 z] w fun e w'=>e=.returned (.string (strOfNums (vnum x)))∧Keeps NoBlock w w':=by
 induction x using Nat.strongRecOn with
 | _ x ih =>
  intro z hz h64 w
  subst hz
  have hcv:=vnum_conv
  by_cases hlt:x<128
  ·clear ih
   have hi:(x:Int)<128:=by omega
   go_enter Tryz.func69,Tryz.ntmps69
   go_wp2_with fail
   go_ret
   refine ⟨?_,(Keeps.refl _ _).alloc _⟩
   rw [vnum_small hlt]
   rfl
  ·have hcd:=vnum_convD
   have hrec:=fun z hz w=>ih (x / 128) (by omega) z hz (by omega) w
   have HR:=hid hrec
   have hten:=vnum_ten (x:=x / 128) (by omega)
   clear ih hrec
   have hi:¬ (x:Int)<128:=by omega
   have hsz:∀ v:Int,¬ 9223372036854775807<(strOfNums [v]).size+(strOfNums (vnum (x / 128))).size:=fun v=>by simp only [str_size,List.length_cons,List.length_nil];omega
   have HQ:=hid (show IntKind.u64.wrap ((x:Int) / 128)=((x / 128:Nat):Int) by rw [IntKind.wrap_u64];omega)
   have HV:=hid (show IntKind.u8.wrap (IntKind.u64.wrap (128+(x:Int).tmod 128))=((128+x % 128:Nat):Int) by rw [Int.tmod_eq_emod_of_nonneg (by omega),IntKind.wrap_u64,IntKind.wrap_u8'];omega)
   clear h64
   go_enter Tryz.func69,Tryz.ntmps69
   go_wp2_with fail
   go_region_with (go_at_call 69;refine (HR.out _ HQ.out _).mono ?_;rintro e w1 ⟨rfl,hk⟩;first|(obtain ⟨hc1,hc2⟩:=vnum_conv_keep hk;have HK:=hid hk;clear hk)|(have HK:=hid hk;clear hk))
   all_goals
    go_wp2_with fail
    go_ret
    refine ⟨?_,?_⟩
    ·show Ending.returned (Value.string (strOfNums [IntKind.u8.wrap (IntKind.u64.wrap (128+(x:Int).tmod 128))] ++ strOfNums (vnum (x / 128))))=_
     rw [HV.out,str_append,vnum_big hlt]
     rfl
    ·first
      | exact (((Keeps.refl NoBlock w).alloc _).drew).trans HK.out
      | exact ((((Keeps.refl NoBlock w).alloc _).drew).trans HK.out).drew
      | exact (((Keeps.refl NoBlock w).drew).trans HK.out).alloc _
      | exact ((((Keeps.refl NoBlock w).drew).trans HK.out).alloc _).drew
      | exact ((((Keeps.refl NoBlock w).drew).trans HK.out).drew).alloc _
      | exact HK.out.alloc _
end
section
open Go.RowKit
def recV (r:Rec):Value:=.agg #[.bool r.del,.int .u64 (r.seq:Int),.string (strOfNums r.key),.string (strOfNums r.val)]
def recCells (r:Rec):Array Value:=#[.bool r.del,.int .u64 (r.seq:Int),.string (strOfNums r.key),.string (strOfNums r.val)]
set_option maxHeartbeats 800000 in
theorem check7_ref (r:Rec) (h1:r.key.length≤140737488355328) (h2:r.val.length≤140737488355328) (w:World) :
  Calls Tryz.prog 100 #[recV r] w fun e w'=>e=.returned (.int .i64 (checkR r))∧Keeps NoBlock w w':=by
 obtain ⟨del,seq,key,val⟩:=r
 simp only at h1 h2
 have hk:=str_size key
 have hv:=str_size val
 have hdef:checkR ⟨del,seq,key,val⟩=if key.length=0 then 4 else if 4096<key.length then 3 else if del=true∧0<val.length then 4 else if 1048576<val.length then 3 else 0:=rfl
 rw [hdef]
 unfold recV
 simp only
 clear hdef
 obtain ⟨K,hK⟩:∃ K,K=key.length:=⟨_,rfl⟩
 obtain ⟨V,hV⟩:∃ V,V=val.length:=⟨_,rfl⟩
 rw [← hK] at h1 hk ⊢
 rw [← hV] at h2 hv ⊢
 clear hK hV
 by_cases c1:K=0
 ·rw [if_pos c1]
  subst c1
  go_enter Tryz.func100,Tryz.ntmps100
  go_wp2_with fail
  go_ret
  exact ⟨rfl,(Keeps.refl _ _).alloc _⟩
 ·rw [if_neg c1]
  have d1:decide ((K:Int)=0)=false:=decide_eq_false (by omega)
  by_cases c2:4096<K
  ·rw [if_pos c2]
   have d2:decide ((4096:Int)<(K:Int))=true:=decide_eq_true (by omega)
   go_enter Tryz.func100,Tryz.ntmps100
   go_wp2_with fail
   go_ret
   exact ⟨rfl,(Keeps.refl _ _).alloc _⟩
  ·rw [if_neg c2]
   have d2:decide ((4096:Int)<(K:Int))=false:=decide_eq_false (by omega)
   cases del with
   | true =>
    by_cases c3:0<V
    ·rw [if_pos ⟨rfl,c3⟩]
     have d3:decide ((0:Int)<(V:Int))=true:=decide_eq_true (by omega)
     go_enter Tryz.func100,Tryz.ntmps100
     go_wp2_with fail
     go_ret
     exact ⟨rfl,(Keeps.refl _ _).alloc _⟩
    ·obtain rfl:V=0:=by omega
     rw [if_neg (by simp),if_neg (by decide)]
     go_enter Tryz.func100,Tryz.ntmps100
     go_wp2_with fail
     go_ret
     exact ⟨rfl,(Keeps.refl _ _).alloc _⟩
   | false =>
    rw [if_neg (by simp)]
    by_cases c4:1048576<V
    ·rw [if_pos c4]
     have d4:decide ((1048576:Int)<(V:Int))=true:=decide_eq_true (by omega)
     go_enter Tryz.func100,Tryz.ntmps100
     go_wp2_with fail
     go_ret
     exact ⟨rfl,(Keeps.refl _ _).alloc _⟩
    ·rw [if_neg c4]
     have d4:decide ((1048576:Int)<(V:Int))=false:=decide_eq_false (by omega)
     go_enter Tryz.func100,Tryz.ntmps100
     go_wp2_with fail
     go_ret
     exact ⟨rfl,(Keeps.refl _ _).alloc _⟩
set_option maxHeartbeats 800000 in
theorem text_ref (xs:List Int) (h:xs.length≤1000000000) (w:World) :
  Calls Tryz.prog 104 #[.string (strOfNums xs)] w fun e w'=>e=.returned (.string (strOfNums (textB xs)))∧Keeps NoBlock w w':=by
 have HN:=hid (fun w=>num_bytes xs.length (xs.length:Int) rfl (by omega) w)
 have hs:=str_size xs
 have hten:=vnum_ten (x:=xs.length) (by omega)
 have hap:=str_append (vnum xs.length) xs
 have hsv:=str_size (vnum xs.length)
 unfold textB
 obtain ⟨V,hV⟩:∃ V,V=vnum xs.length:=⟨_,rfl⟩
 rw [← hV] at HN hten hap hsv ⊢
 obtain ⟨L,hL⟩:∃ L,L=xs.length:=⟨_,rfl⟩
 rw [← hL] at HN hs h
 have hroom:¬ 9223372036854775807<V.length+L:=by omega
 clear hV hL
 go_enter Tryz.func104,Tryz.ntmps104
 go_wp2_with fail
 refine (HN.out _).mono ?_
 rintro e w1 ⟨rfl,hk⟩
 have HK:=hid hk
 clear hk
 go_wp2_with fail
 go_ret
 exact ⟨rfl,HK.out⟩
set_option maxHeartbeats 800000 in
theorem fail_gone (xs:List Int) (a y z:Int) (hy:¬ y=0) (w:World) :
  Calls Tryz.prog 130 #[rdr xs a y,.int .i64 z] w fun e w'=>e=.returned (rdr xs a y)∧Keeps NoBlock w w':=by
 unfold rdr
 go_enter Tryz.func130,Tryz.ntmps130
 go_wp2_with fail
 exact bodyPost_ret (v:=rdr xs a y) (by simp [results,Tryz.results130,go_sem,rdr]) rfl ⟨rfl,((Keeps.refl _ _).alloc _).alloc _⟩
theorem str_isnone (xs:List Int):(strOfNums xs).toList.isEmpty=xs.isEmpty:=by
 rw [Lib.strOfNums_toList]
 cases xs <;> rfl
def endE (xs:List Int) (y:Int):Int:=if y=0 then (if xs=[] then 0 else 3) else y
set_option maxHeartbeats 800000 in
theorem end_ref (xs:List Int) (a y:Int) (w:World) :
  Calls Tryz.prog 99 #[rdr xs a y] w fun e w'=>e=.returned (rdr xs a (endE xs y))∧Keeps NoBlock w w':=by
 by_cases hx:xs=[]
 ·subst hx
  have e:endE [] y=y:=by unfold endE;by_cases h:y=0 <;> simp [h]
  have hem:(strOfNums []).toList.isEmpty=true:=str_isnone []
  rw [e]
  unfold rdr
  go_enter Tryz.func99,Tryz.ntmps99
  go_wp2_with fail
  exact bodyPost_ret (v:=rdr [] a y) (by simp [results,Tryz.results99,go_sem,rdr]) rfl ⟨rfl,((Keeps.refl _ _).alloc _).alloc _⟩
 ·have HF:Hid (∀ w,Calls Tryz.prog 130 #[rdr xs a y,.int .i64 3] w fun e w'=>e=.returned (rdr xs a (endE xs y))∧Keeps NoBlock w w'):=hid (fun w=>by
   unfold endE
   by_cases h:y=0
   ·subst h
    rw [if_pos rfl,if_neg hx]
    exact fail_ref xs a 3 w
   ·rw [if_neg h]
    exact fail_gone xs a y 3 h w)
  obtain ⟨z,hz⟩:∃ z,z=endE xs y:=⟨_,rfl⟩
  rw [← hz] at HF ⊢
  clear hz
  unfold rdr at HF
  unfold rdr
  have hem:(strOfNums xs).toList.isEmpty=false:=by rw [str_isnone];cases xs with
   | nil=>exact absurd rfl hx
   | cons b r=>rfl
  go_enter Tryz.func99,Tryz.ntmps99
  go_wp2_with fail
  refine (HF.out _).mono ?_
  rintro e w1 ⟨rfl,hk⟩
  have hs:Whole w1 (w.heap.size+1) 163 #[.string { data:=#[] },.int .i64 0,.int .i64 0]:=(Whole.newAt _ _ _ _ (by simp)).keep hk (fun h=>h)
  have HK:=hid ((((Keeps.refl NoBlock w).alloc _).alloc _).trans hk)
  have c0:=hs.cell 0 rfl
  have c1:=hs.cell 1 rfl
  have c2:=hs.cell 2 rfl
  have f0:=hs.free 0
  have f1:=hs.free 1
  have f2:=hs.free 2
  simp only [List.getElem_toArray,List.getElem_cons_zero,List.getElem_cons_succ] at c0 c1 c2
  clear hk hs
  go_wp2_with fail
  exact bodyPost_ret (v:=rdr xs a z) (by simp [results,Tryz.results99,go_sem,rdr,c0,c1,c2]) rfl ⟨rfl,((HK.out.setNew (g:=w.heap.size+1) (by omega) 0 _).setNew (g:=w.heap.size+1) (by omega) 1 _).setNew (g:=w.heap.size+1) (by omega) 2 _⟩
set_option maxHeartbeats 2000000 in
set_option maxRecDepth 10000 in
theorem get1_gone (xs:List Int) (a y z:Int) (hy:¬ y=0) (w:World) :
  Calls Tryz.prog 129 #[rdr xs a y,.int .i64 z] w fun e w'=>e=.returned (.tuple #[rdr xs a y,.int .u64 0])∧Keeps NoBlock w w':=by
 have HT:=hid (take_ref_gone xs a y z hy)
 have HV:=hid (value_ref [] (fun b hb=>by simp at hb) (by simp))
 clear hy
 unfold rdr at *
 go_enter Tryz.func129,Tryz.ntmps129
 go_wp2_with fail
 refine (HT.out _).mono ?_
 rintro e w1 ⟨rfl,hk⟩
 have hb:Whole w1 (w.heap.size+1) 163 #[.string { data:=#[] },.int .i64 0,.int .i64 0]:=(Whole.newAt _ _ _ _ (by simp)).keep hk (fun h=>h)
 obtain ⟨W,hW⟩:∃ W,W=w1.alloc (.cells #[.string (strOfNums xs),.int .i64 a,.int .i64 y] 163):=⟨_,rfl⟩
 have hbW:Whole W (w.heap.size+1) 163 #[.string { data:=#[] },.int .i64 0,.int .i64 0]:=by rw [hW];exact hb.alloc _
 have hsW:Whole W w1.heap.size 163 #[.string (strOfNums xs),.int .i64 a,.int .i64 y]:=by rw [hW];exact Whole.new _ _ _
 have hkW:Keeps NoBlock w W:=by rw [hW];exact ((((Keeps.refl _ w).alloc _).alloc _).trans hk).alloc _
 have c0:=hbW.cell 0 rfl
 have c1:=hbW.cell 1 rfl
 have c2:=hbW.cell 2 rfl
 have f0:=hbW.free 0
 have f1:=hbW.free 1
 have f2:=hbW.free 2
 have d0:=hsW.cell 0 rfl
 have d1:=hsW.cell 1 rfl
 have d2:=hsW.cell 2 rfl
 simp only [List.getElem_toArray,List.getElem_cons_zero,List.getElem_cons_succ] at c0 c1 c2 d0 d1 d2
 have HK:=hid hkW
 clear hk HT hb hbW hsW hkW
 go_wp2_with fail
 rw [← hW]
 have HW:=hid hW
 clear hW
 go_region_with (go_at_call 72;refine (HV.out _).mono ?_;rintro e w2 ⟨rfl,rfl⟩)
 all_goals
  go_wp2_with fail
  refine bodyPost_ret (v:=.tuple #[rdr xs a y,.int .u64 0]) (by simp [results,Tryz.results129,go_sem,rdr,c0,c1,c2,le]) rfl ⟨rfl,?_⟩
  have hk3:=(((HK.out.setNew (g:=w.heap.size+1) (by omega) 0 (.string (strOfNums xs))).setNew (g:=w.heap.size+1) (by omega) 1 (.int .i64 a)).setNew (g:=w.heap.size+1) (by omega) 2 (.int .i64 y)).drew
  have hk4:=(((HK.out.drew.setNew (g:=w.heap.size+1) (by omega) 0 (.string (strOfNums xs))).setNew (g:=w.heap.size+1) (by omega) 1 (.int .i64 a)).setNew (g:=w.heap.size+1) (by omega) 2 (.int .i64 y))
  first|exact hk3|exact hk4|exact hk4.drew
set_option maxHeartbeats 2000000 in
set_option maxRecDepth 10000 in
theorem get_gone (xs:List Int) (a y:Int) (hy:¬ y=0) (w:World) :
  Calls Tryz.prog 97 #[rdr xs a y] w fun e w'=>e=.returned (.tuple #[rdr xs a y,.int .u64 0])∧Keeps NoBlock w w':=by
 have HG:=hid (fun w=>get1_gone xs a y 1 hy w)
 have hyb:(y != 0)=true:=by simpa using hy
 have hyc:(y == 0)=false:=by simpa using hy
 unfold rdr at HG
 unfold rdr
 go_enter Tryz.func97,Tryz.ntmps97
 go_wp2_with fail
 go_loopw [4,5,9] (fun x q v wr=>x=.int .u64 0∧q=.int .u64 1∧v=.int .i64 0∧Whole wr w.heap.size 163 #[.string (strOfNums xs),.int .i64 a,.int .i64 y]∧Whole wr (w.heap.size+1) 163 #[.string { data:=#[] },.int .i64 0,.int .i64 0]∧Keeps NoBlock w wr) (fun _ _ _ _=>0)
 case atStart=>exact ⟨rfl,rfl,rfl,(Whole.new w _ _).alloc _,Whole.newAt _ _ _ _ (by simp),((Keeps.refl _ _).alloc _).alloc _⟩
 case round =>
  obtain ⟨rfl,rfl,rfl,hb,hs,hk⟩:=hrel
  have c0:=hb.cell 0 rfl
  have c1:=hb.cell 1 rfl
  have c2:=hb.cell 2 rfl
  simp only [List.getElem_toArray,List.getElem_cons_zero,List.getElem_cons_succ] at c0 c1 c2
  have HB:=hid hb;have HS:=hid hs;have HK:=hid hk
  clear hb hs hk
  go_wp2_with fail
  refine (HG.out _).mono ?_
  rintro e w1 ⟨rfl,hk⟩
  have hb1:=HB.out.keep hk (fun h=>h)
  have hs1:=HS.out.keep hk (fun h=>h)
  have hk1:=HK.out.trans hk
  obtain ⟨W,hW⟩:∃ W,W=w1.alloc (.cells #[.string (strOfNums xs),.int .i64 a,.int .i64 y] 163):=⟨_,rfl⟩
  have hW1:Whole W w.heap.size 163 #[.string (strOfNums xs),.int .i64 a,.int .i64 y]:=by rw [hW];exact hb1.alloc _
  have hW2:Whole W (w.heap.size+1) 163 #[.string { data:=#[] },.int .i64 0,.int .i64 0]:=by rw [hW];exact hs1.alloc _
  have hW3:Whole W w1.heap.size 163 #[.string (strOfNums xs),.int .i64 a,.int .i64 y]:=by rw [hW];exact Whole.new _ _ _
  have hkW:Keeps NoBlock w W:=by rw [hW];exact hk1.alloc _
  have d0:=hW1.cell 0 rfl
  have d1:=hW1.cell 1 rfl
  have d2:=hW1.cell 2 rfl
  have f0:=hW1.free 0
  have f1:=hW1.free 1
  have f2:=hW1.free 2
  have s0:=hW3.cell 0 rfl
  have s1:=hW3.cell 1 rfl
  have s2:=hW3.cell 2 rfl
  have r0:=hW2.cell 0 rfl
  have r1:=hW2.cell 1 rfl
  have r2:=hW2.cell 2 rfl
  have g0:=hW2.free 0
  have g1:=hW2.free 1
  have g2:=hW2.free 2
  simp only [List.getElem_toArray,List.getElem_cons_zero,List.getElem_cons_succ] at d0 d1 d2 s0 s1 s2 r0 r1 r2
  have HkW:=hid hkW
  clear hb1 hs1 hk1 hW1 hW2 hW3 hkW c0 c1 c2 hk
  go_upto_region 7 with (fail)
  rw [← hW]
  clear hW
  go_wp2_with fail
  exact bodyPost_ret (v:=.tuple #[rdr xs a y,.int .u64 0]) (by simp [results,Tryz.results97,go_sem,rdr,r0,r1,r2]) rfl ⟨rfl,(HkW.out.set3 (Nat.le_refl _) _ _ _).set3 (by omega) _ _ _⟩
end
end Go.Proofs.YtehkjkcnigknkaaGreat

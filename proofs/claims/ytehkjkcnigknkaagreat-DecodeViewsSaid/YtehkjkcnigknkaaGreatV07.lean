/-
  WideRefSum; TextEq; Ref2; Set3; VarPut; RecRef.
-/
import Derived.Deep.CutRange
import Derived.Deep.DeepCutAuto
import Derived.Deep.Cut
import Derived.Deep.RegionHeld3
import Derived.Lib.Bytes
import Derived.Lib.Hide
import Derived.Test.YtehkjkcnigknkaaGreatV01
import Derived.Test.YtehkjkcnigknkaaGreatV02
import Derived.Test.YtehkjkcnigknkaaGreatV04
import Derived.Test.YtehkjkcnigknkaaGreatV05
import Derived.Test.YtehkjkcnigknkaaGreatV06
namespace Go.Proofs.YtehkjkcnigknkaaGreat
open Lib (hid)
section
open Go.RowKit
set_option maxHeartbeats 2000000 in
set_option maxRecDepth 10000 in
theorem wsum_ref (s:Int) (xs:List Int) (hs:U64 s) (ho:Octets xs) (hl:xs.length≤140737488355328) (w:World) :
  Calls Tryz.prog 45 #[.int .u64 s,.string (strOfNums xs)] w fun e w'=>e=.returned (.int .u64 (wxxh s xs))∧Keeps NoBlock w w':=by
 have hss:(strOfNums xs).size=xs.length:=str_size xs
 have HBeg:=hid (fun w=>wbegin_ref s xs hs ho w)
 obtain ⟨n,hn⟩:∃ n,n=xs.length:=⟨_,rfl⟩
 have h0:=hs.1
 have h1:=hs.2
 have HO:=hid ho
 have HN:=hid hn
 rw [← hn] at hss hl
 clear hs ho hn
 go_enter Tryz.func45,Tryz.ntmps45
 go_upto_if 17 with (fail)
 go_cut [1,6] (fun s1 s6 wx=>s1=.string (strOfNums (wleft xs))∧s6=.int .u64 (wblocks s xs)∧Keeps NoBlock w wx)
 case first =>
  by_cases hlt:32≤n
  ·have hdn:decide ((32:Int)≤(n:Int))=true:=decide_eq_true (by omega)
   have hwb:wblocks s xs=wmerged (wnums (wseed s) xs (xs.length / 32)) 4:=by
    unfold wblocks
    rw [if_neg (by have:=HN.out;omega)]
   have HWB:=hid hwb
   obtain ⟨B,hB⟩:∃ B,B=wmerged (wnums (wseed s) xs (xs.length / 32)) 4:=⟨_,rfl⟩
   rw [← hB] at HBeg HWB
   clear hB hwb
   go_wp2_with fail
   refine (HBeg.out _).mono ?_
   rintro e w1 ⟨rfl,hk⟩
   have HK:=hid hk
   clear hk
   go_wp2_with fail
   go_meet
   case rel=>exact ⟨rfl,by rw [HWB.out],HK.out⟩
  ·have hwb:wblocks s xs=IntKind.u64.wrap (s+2870177450012600261):=by
    unfold wblocks
    rw [if_pos (by have:=HN.out;omega)]
   have hwl:wleft xs=xs:=by
    unfold wleft
    rw [show xs.length / 32=0 by have:=HN.out;omega]
    rfl
   have HWB:=hid hwb
   have HWL:=hid hwl
   clear hwb hwl HBeg
   go_wp2_with fail
   go_meet
   case rel=>exact ⟨by rw [HWL.out],by rw [HWB.out],Keeps.refl _ _⟩
 case rest =>
  obtain ⟨rfl,rfl,hk⟩:=hcut
  have HK:=hid hk
  have hspec:wxxh s xs=wend (weights (IntKind.u64.wrap (wblocks s xs+(xs.length:Int))) (wleft xs)):=rfl
  have hB0:=wblocks_bound s xs
  have hL2:=wleft_length xs
  have hLo:=HO.out.wleft
  obtain ⟨B,hB⟩:∃ B,B=wblocks s xs:=⟨_,rfl⟩
  obtain ⟨L,hL⟩:∃ L,L=wleft xs:=⟨_,rfl⟩
  rw [← hB] at hB0 hspec ⊢
  rw [← hL] at hL2 hLo hspec ⊢
  rw [← HN.out] at hspec hL2
  have hln:L.length≤31:=by omega
  have HS0:=hid hspec
  have HLo:=hid hLo
  have HLn:=hid hln
  have B0:=hB0.1
  have B1:=hB0.2
  clear hB hL hB0 hL2 hLo hspec hk HO h0 h1 hss HBeg hln
  go_wp2_with fail
  obtain ⟨h1,hh1⟩:∃ h1,h1=IntKind.u64.wrap (B+(n:Int)):=⟨_,rfl⟩
  have hb1:=wmod_bound (B+(n:Int))
  rw [← hh1] at hb1 HS0 ⊢
  have HB1:=hid hb1
  clear hh1 B0 B1 hb1
  obtain ⟨W0,rfl⟩:∃ W0,W0=wc:=⟨_,rfl⟩
  go_loop [1,6] (fun s1 s6=>∃ (h:Int) (ys:List Int),s1=.string (strOfNums ys)∧s6=.int .u64 h∧Hid (U64 h)∧Hid (Octets ys)∧ys.length≤31∧Hid (weights h ys=weights h1 L)) (fun s1 _=>strSize s1)
  case atStart=>exact ⟨_,L,rfl,rfl,HB1,HLo,HLn.out,hid rfl⟩
  case round =>
   obtain ⟨h,ys,rfl,rfl,hu,hy,hyl,ht⟩:=hrel
   have hys:(strOfNums ys).size=ys.length:=str_size ys
   obtain ⟨m,hm⟩:∃ m,m=ys.length:=⟨_,rfl⟩
   have HM:=hid hm
   rw [← hm] at hyl hys
   clear hm
   have hu0:=hu.out.1
   have hu1:=hu.out.2
   by_cases h8:8≤m
   ·have hdm:decide ((8:Int)≤(m:Int))=true:=decide_eq_true (by omega)
    have hex:(strOfNums ys).extract 0 8=strOfNums ((ys.drop (8*0)).take 8):=str_piece ys _ _ _ _ rfl rfl
    have hd8:=str_drop ys 8
    rw [hys] at hd8
    have HV:=hid (fun w=>value_ref ((ys.drop (8*0)).take 8) ((hy.out.drop _).take _) (by simp;omega) w)
    obtain ⟨y,hyd⟩:∃ y,y=four8 ys 0:=⟨_,rfl⟩
    have hyb:=four8_bound hy.out 0
    rw [show le ((ys.drop (8*0)).take 8)=four8 ys 0 from rfl,← hyd] at HV
    rw [← hyd] at hyb
    have HI:=hid (fun w=>winto_ref 0 y ⟨by decide,by decide⟩ hyb w)
    have HT:=hid (fun w=>wturn_ref (xr h (win 0 y)) 27 27 (by decide) rfl (xr_bound _ _) w)
    have HG:=hid (weights_go (h:=h) (xs:=ys) (by have:=HM.out;omega))
    rw [← hyd] at HG
    have he:weight h y=IntKind.u64.wrap (IntKind.u64.wrap (wrot 27 (xr h (win 0 y))*11400714785074694791)+9650029242287828579):=rfl
    have HE:=hid he
    clear hyd hyb he
    go_wp2_with fail
    refine (HV.out _).mono ?_
    rintro e w' ⟨rfl,rfl⟩
    go_wp2_with fail
    refine (HI.out _).mono ?_
    rintro e w' ⟨rfl,rfl⟩
    go_wp2_with fail
    refine (HT.out _).mono ?_
    rintro e w' ⟨rfl,rfl⟩
    go_wp2_with fail
    go_round
    case rel =>
     refine ⟨_,ys.drop 8,rfl,rfl,hid ?_,hid (hy.out.drop 8),by rw [List.length_drop];have:=HM.out;omega,hid ?_⟩
     ·exact wmod_bound _
     ·rw [← HE.out,← HG.out]
      exact ht.out
    case measure =>
     show strSize (.string (strOfNums (ys.drop 8)))<strSize (.string (strOfNums ys))
     rw [strSize_of,strSize_of,List.length_drop]
     have:=HM.out
     omega
   ·have HG:=hid (weights_end (h:=h) (xs:=ys) (by have:=HM.out;omega))
    obtain ⟨T,hT⟩:∃ T,T=weights h1 L:=⟨_,rfl⟩
    rw [← hT] at HS0 ht
    rw [HG.out] at ht
    clear hT
    have hdm:decide ((8:Int)≤(m:Int))=false:=decide_eq_false (by omega)
    go_wp2_with fail
    obtain ⟨h2,rfl⟩:∃ h2,h2=h:=⟨_,rfl⟩
    go_loop [1,6] (fun s1 s6=>∃ (h:Int) (zs:List Int),s1=.string (strOfNums zs)∧s6=.int .u64 h∧Hid (U64 h)∧Hid (Octets zs)∧zs.length≤7∧Hid (wfours h zs=T)) (fun s1 _=>strSize s1)
    case atStart=>exact ⟨_,ys,rfl,rfl,hu,hy,by have:=HM.out;omega,ht⟩
    case round =>
     clear hdm hys HM hyl h8 HG hu hy ht hu0 hu1
     obtain ⟨h,zs,rfl,rfl,hu,hy,hyl,ht⟩:=hrel
     have hys:(strOfNums zs).size=zs.length:=str_size zs
     obtain ⟨m,hm⟩:∃ m,m=zs.length:=⟨_,rfl⟩
     have HM:=hid hm
     rw [← hm] at hyl hys
     clear hm
     have hu0:=hu.out.1
     have hu1:=hu.out.2
     by_cases h4:4≤m
     ·have hdm:decide ((4:Int)≤(m:Int))=true:=decide_eq_true (by omega)
      have hex:(strOfNums zs).extract 0 4=strOfNums ((zs.drop (4*0)).take 4):=str_piece zs _ _ _ _ rfl rfl
      have hd8:=str_drop zs 4
      rw [hys] at hd8
      have HV:=hid (fun w=>value_ref ((zs.drop (4*0)).take 4) ((hy.out.drop _).take _) (by simp;omega) w)
      obtain ⟨y,hyd⟩:∃ y,y=four4 zs 0:=⟨_,rfl⟩
      rw [show le ((zs.drop (4*0)).take 4)=four4 zs 0 from rfl,← hyd] at HV
      have HT:=hid (fun w=>wturn_ref (xr h (IntKind.u64.wrap (y*11400714785074694791))) 23 23 (by decide) rfl (xr_bound _ _) w)
      have HG:=hid (wfours_go (h:=h) (xs:=zs) (by have:=HM.out;omega))
      rw [← hyd] at HG
      have he:wfour h y=IntKind.u64.wrap (IntKind.u64.wrap (wrot 23 (xr h (IntKind.u64.wrap (y*11400714785074694791)))*14029467366897019727)+1609587929392839161):=rfl
      have HE:=hid he
      clear hyd he
      go_wp2_with fail
      refine (HV.out _).mono ?_
      rintro e w' ⟨rfl,rfl⟩
      go_wp2_with fail
      refine (HT.out _).mono ?_
      rintro e w' ⟨rfl,rfl⟩
      go_wp2_with fail
      go_round
      case rel =>
       refine ⟨_,zs.drop 4,rfl,rfl,hid ?_,hid (hy.out.drop 4),by rw [List.length_drop];have:=HM.out;omega,hid ?_⟩
       ·exact wmod_bound _
       ·rw [← HE.out,← HG.out]
        exact ht.out
      case measure =>
       show strSize (.string (strOfNums (zs.drop 4)))<strSize (.string (strOfNums zs))
       rw [strSize_of,strSize_of,List.length_drop]
       have:=HM.out
       omega
     ·have HG:=hid (wfours_end (h:=h) (xs:=zs) (by have:=HM.out;omega))
      rw [HG.out] at ht
      have hdm:decide ((4:Int)≤(m:Int))=false:=decide_eq_false (by omega)
      go_wp2_with fail
      go_loop [6,8] (fun s6 i=>∃ k:Nat,k≤m∧i=.int .i64 (k:Int)∧s6=.int .u64 ((zs.take k).foldl wone h)) (fun _ i=>m - (intOf i).toNat)
      case atStart=>exact ⟨0,Nat.zero_le _,rfl,rfl⟩
      case round =>
       obtain ⟨k,hk,rfl,rfl⟩:=hrel
       have hfb:=fold_wone (zs.take k) h hu.out
       by_cases hlt:k<m
       ·have HN2:=hid (fold_wnext zs h k (by have:=HM.out;omega))
        have hsg:=str_get zs hy.out k (by have:=HM.out;omega)
        have hgb:=hy.out.getD k
        obtain ⟨q,hq⟩:∃ q,q=(zs.take k).foldl wone h:=⟨_,rfl⟩
        obtain ⟨b,hb⟩:∃ b,b=zs.getD k 0:=⟨_,rfl⟩
        rw [← hq] at hfb HN2 ⊢
        rw [← hb] at hgb HN2 hsg
        have hq0:=hfb.1
        have hq1:=hfb.2
        have hb0:=hgb.1
        have hb1:=hgb.2
        have HT:=hid (fun w=>wturn_ref (xr q (IntKind.u64.wrap (b*2870177450012600261))) 11 11 (by decide) rfl (xr_bound _ _) w)
        have he:wone q b=IntKind.u64.wrap (wrot 11 (xr q (IntKind.u64.wrap (b*2870177450012600261)))*11400714785074694791):=rfl
        have HE:=hid he
        clear hq hb hfb hgb he
        have hdk:decide ((k:Int)<(m:Int))=true:=decide_eq_true (by omega)
        go_wp2_with fail
        refine (HT.out _).mono ?_
        rintro e w' ⟨rfl,rfl⟩
        go_wp2_with fail
        exact ⟨⟨k+1,by omega,rfl,by rw [HN2.out,HE.out]⟩,by simp [intOf];omega⟩
       ·obtain rfl:k=m:=by omega
        rw [List.take_of_length_le (Nat.le_of_eq HM.out.symm),ht.out] at hfb ⊢
        have HX1:=hid (fun w=>wmix_ref T 33 33 (by decide) rfl hfb w)
        have HX2:=hid (fun w=>wmix_ref (IntKind.u64.wrap (down 33 T*14029467366897019727)) 29 29 (by decide) rfl (wmod_bound _) w)
        have HX3:=hid (fun w=>wmix_ref (IntKind.u64.wrap (down 29 (IntKind.u64.wrap (down 33 T*14029467366897019727))*1609587929392839161)) 32 32 (by decide) rfl (wmod_bound _) w)
        have hend:wend T=down 32 (IntKind.u64.wrap (down 29 (IntKind.u64.wrap (down 33 T*14029467366897019727))*1609587929392839161)):=rfl
        rw [hend] at HS0
        clear hend hfb
        go_wp2_with fail
        refine (HX1.out _).mono ?_
        rintro e w' ⟨rfl,rfl⟩
        go_wp2_with fail
        refine (HX2.out _).mono ?_
        rintro e w' ⟨rfl,rfl⟩
        go_wp2_with fail
        refine (HX3.out _).mono ?_
        rintro e w' ⟨rfl,rfl⟩
        go_wp2_with fail
        go_ret
        exact ⟨by rw [HS0.out];rfl,HK.out⟩
end
section
open Go.RowKit
theorem strOf_inj {xs ys:List Int} (hx:Octets xs) (hy:Octets ys) (h:strOfNums xs=strOfNums ys):xs=ys:=by
 have e:(strOfNums xs).data.toList=(strOfNums ys).data.toList:=by rw [h]
 rw [strOfNums_data,strOfNums_data] at e
 have hm:∀ {zs:List Int},Octets zs→(zs.map fun n=>UInt8.ofNat n.toNat).map (fun u=>((u.toNat:Nat):Int))=zs:=fun {zs} hz=>by
  rw [List.map_map]
  conv=>rhs;rw [← List.map_id zs]
  exact List.map_congr_left fun z hzm=>by
   have:=hz z hzm
   simp [UInt8.toNat_ofNat']
   omega
 rw [← hm hx,← hm hy,e]
theorem text_beq (a b:ByteArray):(a.toList == b.toList)=decide (a=b):=by
 rw [Bool.eq_iff_iff,beq_iff_eq,decide_eq_true_iff,ByteArray.toList_eq,ByteArray.toList_eq]
 exact ⟨fun h=>ByteArray.ext (Array.toList_inj.1 h),fun h=>by rw [h]⟩
end
section
open Go.RowKit
def refOut (xs:List Int) (a:Int) (t:VR):Value:=.tuple #[rdr (xs.drop t.n) (a+t.n) t.e,.int .u64 (if t.e=0 then t.x else 0)]
structure RState2 (xs:List Int) (a:Int) (B R:Nat) (w:World) (i X:Nat) (wr:World):Prop where
 rd:Whole wr B 163 #[.string (strOfNums (xs.drop i)),.int .i64 (a+i),.int .i64 0]
 res:Whole wr R 163 #[.string { data:=#[] },.int .i64 0,.int .i64 0]
 keep:Keeps NoBlock w wr
 lt:X<2 ^ (7*i)
 vr:vget xs=(vread (9 - i+1) (i == 0) (xs.drop i)).up i X
 i9:i≤9
 le:i≤xs.length
section
variable {xs:List Int} {a:Int} {B R:Nat} {w:World} {i X:Nat} {wr:World}
theorem RState2.short (h:RState2 xs a B R w i X wr) (hs:¬ i<xs.length):refOut xs a (vget xs)=.tuple #[rdr (xs.drop i) (a+i) 2,.int .u64 0]:=by
 have hd:xs.drop i=[]:=List.drop_eq_nil_of_le (by omega)
 rw [h.vr,hd,vread]
 simp [VR.up,refOut,hd]
theorem RState2.wrong (h:RState2 xs a B R w i X wr) (hs:i<xs.length) (y b:Int) (hb:b=xs.getD i 0) (hy:(y=3∧i=9∧1<b) ∨ (y=4∧¬ (i=9∧1<b)∧0<i∧b=0)):refOut xs a (vget xs)=.tuple #[rdr (xs.drop (i+1)) (a+i+1) y,.int .u64 0]:=by
 have hd:=drop_cons (xs:=xs) (n:=i) hs
 rw [← hb] at hd
 have hi9:=h.i9
 have e2:vget xs=⟨y,i+1,X+2 ^ (7*i)*0⟩:=by
  rw [h.vr,hd,vread]
  rcases hy with ⟨rfl,rfl,h1⟩|⟨rfl,h0,h1,h2⟩
  ·rw [if_pos ⟨by omega,h1⟩]
   simp [VR.up,Nat.add_comm]
  ·rw [if_neg (by omega),if_pos ⟨beq_false_of_ne (by omega),h2⟩]
   simp [VR.up,Nat.add_comm]
 rw [e2]
 have hy0:¬ y=0:=by rcases hy with ⟨rfl,_⟩|⟨rfl,_⟩ <;> simp
 simp only [refOut,if_neg hy0]
 rw [show a+((i+1:Nat):Int)=a+i+1 by omega]
theorem RState2.last (h:RState2 xs a B R w i X wr) (hs:i<xs.length) (b:Int) (hb:b=xs.getD i 0) (h9:¬ (i=9∧1<b)) (h0:¬ (0<i∧b=0)) (h1:b<128):refOut xs a (vget xs)=.tuple #[rdr (xs.drop (i+1)) (a+i+1) 0,.int .u64 (X+2 ^ (7*i)*b)]:=by
 have hd:=drop_cons (xs:=xs) (n:=i) hs
 rw [← hb] at hd
 have hi9:=h.i9
 have e2:vget xs=⟨0,i+1,X+2 ^ (7*i)*b⟩:=by
  rw [h.vr,hd,vread,if_neg (by omega),if_neg (fun hh=>h0 ⟨Nat.pos_of_ne_zero (by simpa using hh.1),hh.2⟩),if_pos h1]
  simp [VR.up,Nat.add_comm]
 rw [e2]
 simp only [refOut]
 rw [show a+((i+1:Nat):Int)=a+i+1 by omega]
 rfl
theorem RState2.more (h:RState2 xs a B R w i X wr) (hs:i<xs.length) (b:Int) (hb:b=xs.getD i 0) (h9:i≤8) (h0:128≤b) (h1:b<256) {w2:World}
  (hrd:Whole w2 B 163 #[.string (strOfNums (xs.drop (i+1))),.int .i64 (a+i+1),.int .i64 0]) (hres:Whole w2 R 163 #[.string { data:=#[] },.int .i64 0,.int .i64 0]) (hk:Keeps NoBlock w w2):RState2 xs a B R w (i+1) (X+2 ^ (7*i)*(b.toNat % 128)) w2:=by
 have hd:=drop_cons (xs:=xs) (n:=i) hs
 rw [← hb] at hd
 have hp:2 ^ (7*(i+1))=128*2 ^ (7*i):=by rw [show 7*(i+1)=7+7*i by omega,Nat.pow_add]
 refine ⟨by rw [show a+((i+1:Nat):Int)=a+i+1 by omega];exact hrd,hres,hk,?_,?_,by omega,by omega⟩
 ·have:=h.lt
  have h2:2 ^ (7*i)*(b.toNat % 128)≤2 ^ (7*i)*127:=Nat.mul_le_mul_left _ (by omega)
  omega
 ·rw [h.vr,hd,vread,if_neg (by omega),if_neg (by omega),if_neg (by omega)]
  have e1:9 - i=9 - (i+1)+1:=by omega
  rw [show ((i+1 == 0):Bool)=false from by simp,← e1]
  simp only [VR.up,VR.mk.injEq,true_and]
  refine ⟨by omega,?_⟩
  have e2:((2:Int) ^ (7*(i+1)))=128*2 ^ (7*i):=by rw [show 7*(i+1)=7+7*i by omega,Int.pow_add];rfl
  have e3:((X+2 ^ (7*i)*(b.toNat % 128):Nat):Int)=X+2 ^ (7*i)*(b - 128):=by
   push_cast
   congr 2
   omega
  rw [e2,e3,Int.mul_add,Int.mul_assoc,Int.add_assoc,Int.mul_left_comm]
end
end
section
open Go.RowKit
end
section
open Go.RowKit
def PutOk (base g:Nat) (xs:List Int) (w:World) (e:Ending) (w':World):Prop :=
 e=.returned (.tuple #[])∧BufAt w' base g xs∧Keeps (OnBuf base g) w w'
set_option maxRecDepth 10000 in
set_option maxHeartbeats 800000 in
theorem put_any (base g:Nat) (xs:List Int) (x:Nat) (z:Int) (hz:z=x) (w:World) (h:BufAt w base g xs) (hs:base≤w.heap.size) (hx:xs.length+10≤140737488355328) (h64:x<18446744073709551616) :
  Calls Tryz.prog 80 #[.pointer (some ⟨g,0,none⟩),.int .u64 z] w (PutOk base g (xs ++ vnum x) w):=by
 subst hz
 have HT:=hid (vnum_ten h64)
 have H:=hid h;have HX:=hid hx;have H64:=hid h64
 clear h hx h64
 go_enter Tryz.func80,Tryz.ntmps80
 go_wp2_with fail
 go_loopw [1] (fun v wr=>∃ (y:Nat) (pre:List Int),v=.int .u64 y∧y≤x∧Hid (pre ++ vnum y=vnum x)∧BufAt wr base g (xs ++ pre)∧Keeps (OnBuf base g) w wr) (fun v _=>(intOf v).toNat)
 case atStart=>exact ⟨x,[],rfl,Nat.le_refl _,hid rfl,by simpa using H.out,Keeps.refl _ _⟩
 case round =>
  obtain ⟨y,pre,rfl,hyx,hpre,hbuf,hbel⟩:=hrel
  have HB:=hid hbuf;have HL:=hid hbel
  clear hbuf hbel
  have hlen:xs.length+pre.length+1≤140737488355328:=by
   have e:=congrArg List.length hpre.out
   rw [List.length_append] at e
   have:=HT.out;have:=HX.out;have:=vnum_pos y
   omega
  have HLen:=hid hlen
  clear hlen
  by_cases hlt:y<128
  ·go_wp2_with fail
   refine (bufByteK base g (xs ++ pre) _ _ HB.out (by have:=HL.out.size;omega) (by have:=HLen.out;simp;omega)).mono ?_
   rintro e w2 ⟨rfl,hbuf,hbel⟩
   have HB2:=hid hbuf;have HL2:=hid (HL.out.trans hbel)
   clear hbuf hbel
   go_wp2_with fail
   go_returns
   refine ⟨rfl,?_,HL2.out⟩
   have:=HB2.out
   have e:=hpre.out
   rw [vnum_small hlt] at e
   rw [← e,← List.append_assoc]
   first|exact this|(have e2:IntKind.u8.wrap (y:Int)=y:=by (rw [IntKind.wrap_u8'];omega));(rw [e2] at this;exact this)
  ·go_wp2_with fail
   refine (bufByteK base g (xs ++ pre) _ _ HB.out (by have:=HL.out.size;omega) (by have:=HLen.out;simp;omega)).mono ?_
   rintro e w2 ⟨rfl,hbuf,hbel⟩
   have HB2:=hid hbuf;have HL2:=hid (HL.out.trans hbel)
   clear hbuf hbel
   go_wp2_with fail
   go_roundw
   case rel =>
    refine ⟨y / 128,pre ++ [((128+y % 128:Nat):Int)],?_,by omega,hid ?_,?_,HL2.out⟩
    ·go_num
    ·have e:=hpre.out
     rw [vnum_big hlt] at e
     rw [← e,List.append_assoc]
     rfl
    ·have:=HB2.out
     rw [← IntKind.wrap_u8',more_seven] at this
     rw [← List.append_assoc]
     exact this
   case measure=>simp [intOf];omega
theorem one_conv {v:Int} {W:World} {g:Nat} {t:TypeId} (h:Whole W g t #[.int .u8 v]):(convert 29 9 (.slice (some ⟨g,0,none⟩) 1 1)).run Tryz.prog W=.ok (.string (strOfNums [v])) W :=
 textOf _ 1 1 [v] _ rfl (h.bytes [v] (fun i hi=>by
  match i,hi with
  | 0,_=>rfl))
theorem vnum_conv (v:Int) (w:World):(convert 29 9 (.slice (some ⟨w.heap.size,0,none⟩) 1 1)).run Tryz.prog (w.alloc (.cells #[.int .u8 v] 5))=.ok (.string (strOfNums [v])) (w.alloc (.cells #[.int .u8 v] 5)) :=
 one_conv (Whole.new w _ _)
theorem vnum_convD (v:Int) (w:World):(convert 29 9 (.slice (some ⟨w.heap.size,0,none⟩) 1 1)).run Tryz.prog (w.alloc (.cells #[.int .u8 v] 5)).drew=.ok (.string (strOfNums [v])) (w.alloc (.cells #[.int .u8 v] 5)).drew :=
 one_conv (W:=(w.alloc (.cells #[.int .u8 v] 5)).drew) (show Whole _ _ 5 _ from Whole.new w _ _)
theorem vnum_conv_keep {v:Int} {w w1:World} (h:Keeps NoBlock (w.alloc (.cells #[.int .u8 v] 5)).drew w1) :
  (convert 29 9 (.slice (some ⟨w.heap.size,0,none⟩) 1 1)).run Tryz.prog w1=.ok (.string (strOfNums [v])) w1∧(convert 29 9 (.slice (some ⟨w.heap.size,0,none⟩) 1 1)).run Tryz.prog w1.drew=.ok (.string (strOfNums [v])) w1.drew:=by
 have hw:Whole w1 w.heap.size 5 #[.int .u8 v]:=(show Whole (w.alloc (.cells #[.int .u8 v] 5)).drew _ _ _ from Whole.new w _ _).keep h (fun h=>h)
 exact ⟨one_conv hw,one_conv (show Whole w1.drew _ 5 _ from hw)⟩
set_option maxHeartbeats 800000 in
theorem num_bytes (x:Nat):∀ (z:Int),z=x→x<18446744073709551616→∀ (w:World),
  Calls Tryz.prog 69 #[.int .u64 z] w fun e w'=>e=.returned (.string (strOfNums (vnum x)))∧Keeps NoBlock w w':=by
 induction x using Nat.strongRecOn with
 | _ x ih =>
  intro z hz h64 w
  subst hz
  have hcv:=vnum_conv
  by_cases hlt:x<128
  ·clear ih
   have hi:(x:Int)<128:=by omega
   go_enter Tryz.func69,Tryz.ntmps69
   go_wp2_with fail
   go_ret
   refine ⟨?_,(Keeps.refl _ _).alloc _⟩
   rw [vnum_small hlt]
   rfl
  ·have hcd:=vnum_convD
   have hrec:=fun z hz w=>ih (x / 128) (by omega) z hz (by omega) w
   have HR:=hid hrec
   have hten:=vnum_ten (x:=x / 128) (by omega)
   clear ih hrec
   have hi:¬ (x:Int)<128:=by omega
   have hsz:∀ v:Int,¬ 9223372036854775807<(strOfNums [v]).size+(strOfNums (vnum (x / 128))).size:=fun v=>by simp only [str_size,List.length_cons,List.length_nil];omega
   have HQ:=hid (show IntKind.u64.wrap ((x:Int) / 128)=((x / 128:Nat):Int) by rw [IntKind.wrap_u64];omega)
   have HV:=hid (show IntKind.u8.wrap (IntKind.u64.wrap (128+(x:Int).tmod 128))=((128+x % 128:Nat):Int) by rw [Int.tmod_eq_emod_of_nonneg (by omega),IntKind.wrap_u64,IntKind.wrap_u8'];omega)
   clear h64
   go_enter Tryz.func69,Tryz.ntmps69
   go_wp2_with fail
   go_region_with (go_at_call 69;refine (HR.out _ HQ.out _).mono ?_;rintro e w1 ⟨rfl,hk⟩;first|(obtain ⟨hc1,hc2⟩:=vnum_conv_keep hk;have HK:=hid hk;clear hk)|(have HK:=hid hk;clear hk))
   all_goals
    go_wp2_with fail
    go_ret
    refine ⟨?_,?_⟩
    ·show Ending.returned (Value.string (strOfNums [IntKind.u8.wrap (IntKind.u64.wrap (128+(x:Int).tmod 128))] ++ strOfNums (vnum (x / 128))))=_
     rw [HV.out,str_append,vnum_big hlt]
     rfl
    ·first
      | exact (((Keeps.refl NoBlock w).alloc _).drew).trans HK.out
      | exact ((((Keeps.refl NoBlock w).alloc _).drew).trans HK.out).drew
      | exact (((Keeps.refl NoBlock w).drew).trans HK.out).alloc _
      | exact ((((Keeps.refl NoBlock w).drew).trans HK.out).alloc _).drew
      | exact ((((Keeps.refl NoBlock w).drew).trans HK.out).drew).alloc _
      | exact HK.out.alloc _
end
section
open Go.RowKit
def recV (r:Rec):Value:=.agg #[.bool r.del,.int .u64 (r.seq:Int),.string (strOfNums r.key),.string (strOfNums r.val)]
def recCells (r:Rec):Array Value:=#[.bool r.del,.int .u64 (r.seq:Int),.string (strOfNums r.key),.string (strOfNums r.val)]
set_option maxHeartbeats 800000 in
theorem text_ref (xs:List Int) (h:xs.length≤1000000000) (w:World) :
  Calls Tryz.prog 104 #[.string (strOfNums xs)] w fun e w'=>e=.returned (.string (strOfNums (textB xs)))∧Keeps NoBlock w w':=by
 have HN:=hid (fun w=>num_bytes xs.length (xs.length:Int) rfl (by omega) w)
 have hs:=str_size xs
 have hten:=vnum_ten (x:=xs.length) (by omega)
 have hap:=str_append (vnum xs.length) xs
 have hsv:=str_size (vnum xs.length)
 unfold textB
 obtain ⟨V,hV⟩:∃ V,V=vnum xs.length:=⟨_,rfl⟩
 rw [← hV] at HN hten hap hsv ⊢
 obtain ⟨L,hL⟩:∃ L,L=xs.length:=⟨_,rfl⟩
 rw [← hL] at HN hs h
 have hroom:¬ 9223372036854775807<V.length+L:=by omega
 clear hV hL
 go_enter Tryz.func104,Tryz.ntmps104
 go_wp2_with fail
 refine (HN.out _).mono ?_
 rintro e w1 ⟨rfl,hk⟩
 have HK:=hid hk
 clear hk
 go_wp2_with fail
 go_ret
 exact ⟨rfl,HK.out⟩
end
end Go.Proofs.YtehkjkcnigknkaaGreat

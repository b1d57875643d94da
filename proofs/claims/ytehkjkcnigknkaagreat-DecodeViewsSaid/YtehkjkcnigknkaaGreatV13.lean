/-
  RecRef3; RecRef4; RecRef5; FrRef; FrRef2; Swap.
-/
import Derived.Deep.RegionWith
import Derived.Deep.RegionHeld3
import Derived.BigQuiet
import Derived.Lib.Hide
import Derived.Test.YtehkjkcnigknkaaGreatV02
import Derived.Test.YtehkjkcnigknkaaGreatV03
import Derived.Test.YtehkjkcnigknkaaGreatV07
import Derived.Test.YtehkjkcnigknkaaGreatV11
import Derived.Test.YtehkjkcnigknkaaGreatV12
namespace Go.Proofs.YtehkjkcnigknkaaGreat
open Lib (hid)
section
open Go.RowKit
def RecAt (w:World) (g:Nat) (r:Rec):Prop :=
 w.cell? ⟨g,0,none⟩=some (.bool r.del)∧w.cell? ⟨g,1,none⟩=some (.int .u64 (r.seq:Int))∧w.cell? ⟨g,2,none⟩=some (.string (strOfNums r.key))∧w.cell? ⟨g,3,none⟩=some (.string (strOfNums r.val))
theorem RecAt.ofWhole {w:World} {g:Nat} {t:TypeId} {r:Rec} (h:Whole w g t (recCells r)):RecAt w g r :=
 ⟨h.cell 0 rfl,h.cell 1 rfl,h.cell 2 rfl,h.cell 3 rfl⟩
theorem str_cons (b:Int) (xs:List Int) (c:UInt8) (h:UInt8.ofNat b.toNat=c):(⟨#[c]⟩:ByteArray) ++ strOfNums xs=strOfNums (b :: xs):=by
 have e:(⟨#[c]⟩:ByteArray)=strOfNums [b]:=by
  apply ByteArray.ext
  simp [strOfNums,h]
 rw [e,str_append]
 rfl
set_option maxHeartbeats 4000000 in
set_option maxRecDepth 10000 in
theorem body7_ref (r:Rec) (hf:r.Fine) (h1:r.key.length≤100000000) (h2:r.val.length≤100000000) (w:World) :
  Calls Tryz.prog 75 #[recV r] w fun e w'=>e=.returned (.string (strOfNums (bodyR r)))∧Keeps NoBlock w w':=by
 obtain ⟨del,seq,key,val⟩:=r
 have h64:=hf.seq
 simp only at h1 h2 h64
 have HN:=hid (fun w=>num_bytes seq (seq:Int) rfl h64 w)
 have HT:=hid (fun (xs:List Int) (w:World) (h:xs=key ∨ xs=val)=>text_ref xs (by rcases h with rfl|rfl <;> omega) w)
 have hten:=vnum_ten h64
 have htk:(textB key).length≤100000010:=by
  unfold textB
  rw [List.length_append]
  have:=vnum_ten (x:=key.length) (by omega)
  omega
 have htv:(textB val).length≤100000010:=by
  unfold textB
  rw [List.length_append]
  have:=vnum_ten (x:=val.length) (by omega)
  omega
 cases del with
 | true =>
  have hdef:bodyR ⟨true,seq,key,val⟩=3 :: (vnum seq ++ textB key):=rfl
  rw [hdef]
  have HTK:=hid (fun w=>HT.out key w (.inl rfl))
  have a1:=str_cons 3 (vnum seq) 3 rfl
  have a2:=str_append (3 :: vnum seq) (textB key)
  have z1:=str_size (vnum seq)
  have z2:(strOfNums (3 :: vnum seq)).size=(vnum seq).length+1:=str_size (3 :: vnum seq)
  have z3:=str_size (textB key)
  rw [List.cons_append] at a2
  obtain ⟨V,hV⟩:∃ V,V=vnum seq:=⟨_,rfl⟩
  obtain ⟨TK,hTK⟩:∃ TK,TK=textB key:=⟨_,rfl⟩
  rw [← hV] at HN a1 a2 z1 z2 hten ⊢
  rw [← hTK] at HTK a2 z3 htk ⊢
  have zz:(⟨#[3]⟩:ByteArray).size=1:=rfl
  have r1:¬ 9223372036854775807<1+V.length:=by omega
  have r2:¬ 9223372036854775807<V.length+1+TK.length:=by omega
  have HB:=hid (Whole.new w 48 (recCells ⟨true,seq,key,val⟩))
  clear hdef hV hTK HT hf h1 h2 htv
  unfold recV
  simp only
  go_enter Tryz.func75,Tryz.ntmps75
  go_wp2_with fail
  obtain ⟨W,hW⟩:∃ W,W=w.alloc (.cells #[.bool true,.int .u64 (seq:Int),.string (strOfNums key),.string (strOfNums val)] 48):=⟨_,rfl⟩
  have HBW:Hid (Whole W w.heap.size 48 (recCells ⟨true,seq,key,val⟩)):=by rw [hW];exact HB
  have HK0:Hid (Keeps NoBlock w W):=hid (by rw [hW];exact (Keeps.refl _ _).alloc _)
  rw [← hW]
  clear hW HB
  have s0:=RecAt.ofWhole (w:=W.drew) HBW.out
  have sN:=RecAt.ofWhole HBW.out
  unfold RecAt at s0 sN
  go_region_held3 (fun w'=>w'.cell? ⟨w.heap.size,0,none⟩=some (.bool true)∧w'.cell? ⟨w.heap.size,1,none⟩=some (.int .u64 (seq:Int))∧w'.cell? ⟨w.heap.size,2,none⟩=some (.string (strOfNums key))∧w'.cell? ⟨w.heap.size,3,none⟩=some (.string (strOfNums val)))
   (first|exact s5|exact s0|exact sN)
   (first|(go_at_call 69;refine (HN.out _).mono ?_;rintro e w5 ⟨rfl,hk⟩;have HK0:=hid (HK0.out.trans (c:=w5) (by first|exact hk|exact hk.ofDrew|exact hk.ofDrewN));have HBW:=hid (HBW.out.keep (w':=w5) (S:=NoBlock) (by first|exact hk|exact hk.ofDrew|exact hk.ofDrewN) (fun h=>h));have s5:=RecAt.ofWhole HBW.out;unfold RecAt at s5;clear hk)|(go_at_call 104;refine (HTK.out _).mono ?_;rintro e w5 ⟨rfl,hk⟩;have HK0:=hid (HK0.out.trans (c:=w5) (by first|exact hk|exact hk.ofDrew|exact hk.ofDrewN));have HBW:=hid (HBW.out.keep (w':=w5) (S:=NoBlock) (by first|exact hk|exact hk.ofDrew|exact hk.ofDrewN) (fun h=>h));have s5:=RecAt.ofWhole HBW.out;unfold RecAt at s5;clear hk))
  all_goals
   go_wp2_with fail
   go_ret
   exact ⟨rfl,HK0.out⟩
 | false =>
  have hdef:bodyR ⟨false,seq,key,val⟩=2 :: (vnum seq ++ (textB key ++ textB val)):=by rw [← List.append_assoc];rfl
  rw [hdef]
  have HTK:=hid (fun w=>HT.out key w (.inl rfl))
  have HTV:=hid (fun w=>HT.out val w (.inr rfl))
  have a1:=str_cons 2 (vnum seq) 2 rfl
  have a2:=str_append (2 :: vnum seq) (textB key)
  have z1:=str_size (vnum seq)
  have z2:(strOfNums (2 :: vnum seq)).size=(vnum seq).length+1:=str_size (2 :: vnum seq)
  have z3:=str_size (textB key)
  have a3:=str_append (2 :: (vnum seq ++ textB key)) (textB val)
  have z4:(strOfNums (2 :: (vnum seq ++ textB key))).size=(vnum seq).length+(textB key).length+1:=by rw [str_size];simp
  have z5:=str_size (textB val)
  rw [List.cons_append] at a2 a3
  obtain ⟨V,hV⟩:∃ V,V=vnum seq:=⟨_,rfl⟩
  obtain ⟨TK,hTK⟩:∃ TK,TK=textB key:=⟨_,rfl⟩
  obtain ⟨TV,hTV⟩:∃ TV,TV=textB val:=⟨_,rfl⟩
  rw [← hV] at HN a1 a2 a3 z1 z2 z4 hten ⊢
  rw [← hTK] at HTK a2 a3 z3 z4 htk ⊢
  rw [← hTV] at HTV a3 z5 htv ⊢
  have zz:(⟨#[2]⟩:ByteArray).size=1:=rfl
  have r1:¬ 9223372036854775807<1+V.length:=by omega
  have r2:¬ 9223372036854775807<V.length+1+TK.length:=by omega
  have r3:¬ 9223372036854775807<V.length+TK.length+1+TV.length:=by omega
  have HB:=hid (Whole.new w 48 (recCells ⟨false,seq,key,val⟩))
  clear hdef hV hTK hTV HT hf h1 h2
  unfold recV
  simp only
  go_enter Tryz.func75,Tryz.ntmps75
  go_wp2_with fail
  obtain ⟨W,hW⟩:∃ W,W=w.alloc (.cells #[.bool false,.int .u64 (seq:Int),.string (strOfNums key),.string (strOfNums val)] 48):=⟨_,rfl⟩
  have HBW:Hid (Whole W w.heap.size 48 (recCells ⟨false,seq,key,val⟩)):=by rw [hW];exact HB
  have HK0:Hid (Keeps NoBlock w W):=hid (by rw [hW];exact (Keeps.refl _ _).alloc _)
  rw [← hW]
  clear hW HB
  have s0:=RecAt.ofWhole (w:=W.drew) HBW.out
  have sN:=RecAt.ofWhole HBW.out
  unfold RecAt at s0 sN
  go_region_held3 (fun w'=>w'.cell? ⟨w.heap.size,0,none⟩=some (.bool false)∧w'.cell? ⟨w.heap.size,1,none⟩=some (.int .u64 (seq:Int))∧w'.cell? ⟨w.heap.size,2,none⟩=some (.string (strOfNums key))∧w'.cell? ⟨w.heap.size,3,none⟩=some (.string (strOfNums val)))
   (first|exact s5|exact s0|exact sN)
   (first|(go_at_call 69;refine (HN.out _).mono ?_;rintro e w5 ⟨rfl,hk⟩;have HK0:=hid (HK0.out.trans (c:=w5) (by first|exact hk|exact hk.ofDrew|exact hk.ofDrewN));have HBW:=hid (HBW.out.keep (w':=w5) (S:=NoBlock) (by first|exact hk|exact hk.ofDrew|exact hk.ofDrewN) (fun h=>h));have s5:=RecAt.ofWhole HBW.out;unfold RecAt at s5;clear hk)|(go_at_call 104;(first|refine (HTK.out _).mono ?_|refine (HTV.out _).mono ?_);rintro e w5 ⟨rfl,hk⟩;have HK0:=hid (HK0.out.trans (c:=w5) (by first|exact hk|exact hk.ofDrew|exact hk.ofDrewN));have HBW:=hid (HBW.out.keep (w':=w5) (S:=NoBlock) (by first|exact hk|exact hk.ofDrew|exact hk.ofDrewN) (fun h=>h));have s5:=RecAt.ofWhole HBW.out;unfold RecAt at s5;clear hk))
  all_goals
   go_wp2_with fail
   go_ret
   exact ⟨rfl,HK0.out⟩
end
section
open Go.RowKit
theorem vtext_n (X:List Int) (l m:Nat):(vtext X l m).n≤X.length:=by
 have hn:(vget X).n≤X.length:=vread_n 10 true X
 unfold vtext
 split
 ·exact hn
 ·split
  ·exact hn
  ·split
   ·exact hn
   ·split
    ·exact hn
    ·rename_i h
     rw [List.length_drop] at h
     show (vget X).n+(vget X).x.toNat≤X.length
     omega
end
section
open Go.RowKit
end
section
open Go.RowKit
theorem u64_zero:U64 0:=by constructor <;> decide
set_option maxHeartbeats 800000 in
set_option maxRecDepth 10000 in
theorem seal9_ref (xs:List Int) (ho:Octets xs) (hl:xs.length≤10000000) (w:World) :
  Calls Tryz.prog 49 #[.string (strOfNums xs)] w fun e w'=>e=.returned (.string (strOfNums (sealN xs)))∧Keeps NoBlock w w':=by
 have HS:=hid (fun w=>wsum_ref 0 xs u64_zero ho (by omega) w)
 have hu:=wxxh_u64 0 xs
 have HN:=hid (fun w=>num_any (wxxh 0 xs) 8 8 rfl (by decide) hu.1 hu.2 w)
 have hol:(xs ++ sumB xs).length≤140737488355328:=by rw [List.length_append,sumB_length];omega
 have HT:=hid (fun w=>stuff_ref (xs ++ sumB xs) (ho.app (sumB_octets xs)) hol w)
 have a1:=str_append xs (sumB xs)
 have z1:=str_size xs
 have z2:=str_size (sumB xs)
 rw [sumB_length] at z2
 have a2:strOfNums (chunkN xs) ++ (⟨#[0]⟩:ByteArray)=strOfNums (sealN xs):=str_append (chunkN xs) [0]
 have z3:=str_size (chunkN xs)
 have hmost:=(seal_length xs).2
 have hlen:=(seal_length xs).1
 have z4:(⟨#[0]⟩:ByteArray).size=1:=rfl
 have hcl:(chunkN xs).length≤100000000:=by
  unfold sizeN mostOf at hmost
  rw [if_neg (by omega)] at hmost
  omega
 rw [show stuff (xs ++ sumB xs)=chunkN xs from rfl] at HT
 rw [show digits (wxxh 0 xs) 8=sumB xs from rfl] at HN
 obtain ⟨x,hx⟩:∃ x,x=wxxh 0 xs:=⟨_,rfl⟩
 rw [← hx] at HS HN
 obtain ⟨B,hB⟩:∃ B,B=sumB xs:=⟨_,rfl⟩
 rw [← hB] at HN HT a1 z2
 obtain ⟨C,hC⟩:∃ C,C=chunkN xs:=⟨_,rfl⟩
 rw [← hC] at HT a2 z3 hcl
 obtain ⟨F,hF⟩:∃ F,F=sealN xs:=⟨_,rfl⟩
 rw [← hF] at a2 ⊢
 obtain ⟨L,hL⟩:∃ L,L=xs.length:=⟨_,rfl⟩
 rw [← hL] at z1 hl
 obtain ⟨M,hM⟩:∃ M,M=C.length:=⟨_,rfl⟩
 rw [← hM] at z3 hcl
 have r1:¬ 9223372036854775807<L+8:=by omega
 have r2:¬ 9223372036854775807<M+1:=by omega
 clear hx hB hC hF hL hM hu hol hmost hlen ho
 go_enter Tryz.func49,Tryz.ntmps49
 go_wp2_with fail
 refine (HS.out _).mono ?_
 rintro e w1 ⟨rfl,hk⟩
 have HK:=hid hk
 clear hk
 go_wp2_with fail
 refine (HN.out _).mono ?_
 rintro e w2 ⟨rfl,hk⟩
 have HK:=hid (HK.out.trans hk)
 clear hk
 go_wp2_with fail
 refine (HT.out _).mono ?_
 rintro e w3 ⟨rfl,hk⟩
 have HK:=hid (HK.out.trans hk)
 clear hk
 go_wp2_with fail
 go_ret
 exact ⟨rfl,HK.out⟩
end
section
open Go.RowKit
theorem bodyR_length {r:Rec} (h:r.Fine) (h1:r.key.length≤2000000) (h2:r.val.length≤2000000):(bodyR r).length≤31+r.key.length+r.val.length:=by
 have a:=vnum_ten h.seq
 have b:=vnum_ten (x:=r.key.length) (by omega)
 have c:=vnum_ten (x:=r.val.length) (by omega)
 unfold bodyR textB
 split
 ·simp only [List.length_cons,List.length_append];omega
 ·simp only [List.length_cons,List.length_append];omega
set_option maxHeartbeats 800000 in
set_option maxRecDepth 10000 in
theorem record9_ref (r:Rec) (hf:r.Fine) (h1:r.key.length≤2000000) (h2:r.val.length≤2000000) (w:World) :
  Calls Tryz.prog 46 #[recV r] w fun e w'=>e=.returned (.string (strOfNums (sealN (bodyR r))))∧Keeps NoBlock w w':=by
 have HB:=hid (fun w=>body7_ref r hf (by omega) (by omega) w)
 have HS:=hid (fun w=>seal9_ref (bodyR r) (bodyR_octets hf) (by have:=bodyR_length hf h1 h2;omega) w)
 clear hf h1 h2
 unfold recV at *
 go_enter Tryz.func46,Tryz.ntmps46
 go_wp2_with fail
 refine (HB.out _).mono ?_
 rintro e w1 ⟨rfl,hk⟩
 have HK:=hid (((Keeps.refl NoBlock w).alloc _).trans hk)
 clear hk
 go_wp2_with fail
 refine (HS.out _).mono ?_
 rintro e w2 ⟨rfl,hk⟩
 have HK:=hid (HK.out.trans hk)
 clear hk
 go_wp2_with fail
 go_ret
 exact ⟨rfl,HK.out⟩
end
section
open Go.RowKit
theorem wpAnyH_swap {P:Program} {md:Region.Mode} {ops:Array Oper} {Q:Exit→Act→World→Prop} {S S':World→Prop} (h:∀ w,S' w→S w):∀ (fuel:Nat) (listed:Array Bool) (a:Act) (w:World),wpAnyH P md ops Q S' fuel listed a w→wpAnyH P md ops Q S fuel listed a w
 | 0,_,_,_,hh=>hh
 | fuel+1,_,_,_,hh=>⟨hh.1,fun i hi=>wpOp_mono (fun _ _ h'=>⟨h _ h'.1,wpAnyH_swap h fuel _ _ _ h'.2⟩) (hh.2 i hi)⟩
end
end Go.Proofs.YtehkjkcnigknkaaGreat

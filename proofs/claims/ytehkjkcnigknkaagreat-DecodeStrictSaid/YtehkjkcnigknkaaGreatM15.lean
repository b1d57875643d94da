/-
  SgScan; SgParse; PkRef; FenGet; Rows1; PkPlan.
-/
import Derived.Deep.Cut
import Derived.Lib.Hide
import Derived.Test.YtehkjkcnigknkaaGreatM03
import Derived.Test.YtehkjkcnigknkaaGreatM07
import Derived.Test.YtehkjkcnigknkaaGreatM08
import Derived.Test.YtehkjkcnigknkaaGreatM09
import Derived.Test.YtehkjkcnigknkaaGreatM10
import Derived.Test.YtehkjkcnigknkaaGreatM11
import Derived.Test.YtehkjkcnigknkaaGreatM13
import Derived.Test.YtehkjkcnigknkaaGreatM14
namespace Go.Proofs.YtehkjkcnigknkaaGreat
open Lib (hid)
section
theorem getR_only {ys:List Int} (ho:Octets ys) {r:Rec} (h:getR ys=(0,r)):r.Fine∧checkR r=0∧ys=chunkN (bodyR r):=by
 unfold getR at h
 by_cases h0:(openN ys).1=0
 ·rw [if_neg (by simpa using h0)] at h
  have ⟨h1,h2⟩:=open_only ho (b:=(openN ys).2) (by rw [← h0])
  have ⟨h3,h4,h5⟩:=readR_only h2 h
  exact ⟨h3,h4,by rw [h5];exact h1⟩
 ·rw [if_pos h0] at h
  exact absurd (Prod.mk.inj h).1 h0
theorem recsB_snoc (l:List Rec) (r:Rec):recsB (l ++ [r])=recsB l ++ recB r:=by
 unfold recsB
 rw [List.flatMap_append]
 simp
theorem recsB_many:∀ l:List Rec,l.length≤(recsB l).length
 | []=>by simp [recsB]
 | r :: l=>by
  have e:recsB (r :: l)=recB r ++ recsB l:=by unfold recsB;rw [List.flatMap_cons]
  have h1:=recsB_many l
  have h2:=recB_pos r
  rw [e,List.length_append,List.length_cons]
  omega
structure ScanSt (ys:List Int) (i:Nat) (z:Int) (l:List Rec):Prop where
 le:i≤ys.length
 at_:(z=-1∧l=[]∧scanS ys=recsTake ((chunksGo (ys.take i) (ys.drop i)).drop 1)) ∨ ∃ f:Nat,z=(f:Int)∧f≤i∧(recsB l).length≤f∧scanS ys=l ++ recsTake (chunksGo ((ys.take i).drop f) (ys.drop i))
 fine:∀ r ∈ l,r.Fine∧checkR r=0
theorem ScanSt.start (ys:List Int):ScanSt ys 0 (-1) []:=⟨Nat.zero_le _,.inl ⟨rfl,rfl,by simp [scanS]⟩,fun r hr=>by simp at hr⟩
theorem drop_all (ys:List Int) (i:Nat):(ys.take (i+1)).drop (i+1)=[]:=List.drop_eq_nil_of_le (by rw [List.length_take];omega)
theorem take_one {ys:List Int} {i:Nat} (hi:i<ys.length):ys.take (i+1)=ys.take i ++ [ys.getD i 0]:=by
 rw [List.take_succ_eq_append_getElem hi]
 simp [hi]
theorem ScanSt.other {ys:List Int} {i:Nat} {z:Int} {l:List Rec} (h:ScanSt ys i z l) (hi:i<ys.length) (hb:ys.getD i 0 ≠ 0):ScanSt ys (i+1) z l:=by
 have hd:=drop_cons_getD ys i hi
 refine ⟨by omega,?_,h.fine⟩
 rcases h.at_ with ⟨h1,h2,h3⟩|⟨f,h1,h2,h3,h4⟩
 ·refine .inl ⟨h1,h2,?_⟩
  rw [h3,hd,chunksGo,if_neg hb,take_one hi]
 ·refine .inr ⟨f,h1,by omega,h3,?_⟩
  rw [h4,hd,chunksGo,if_neg hb,take_one hi,List.drop_append_of_le_length (by rw [List.length_take];omega)]
theorem ScanSt.first {ys:List Int} {i:Nat} {l:List Rec} (h:ScanSt ys i (-1) l) (hi:i<ys.length) (hb:ys.getD i 0=0):ScanSt ys (i+1) ((i+1:Nat):Int) l:=by
 have hd:=drop_cons_getD ys i hi
 refine ⟨by omega,.inr ⟨i+1,rfl,Nat.le_refl _,?_,?_⟩,h.fine⟩
 ·rcases h.at_ with ⟨_,h2,_⟩|⟨f,h1,_⟩
  ·rw [h2];simp [recsB]
  ·omega
 ·rcases h.at_ with ⟨_,h2,h3⟩|⟨f,h1,_⟩
  ·rw [h3,hd,chunksGo,if_pos hb,h2,drop_all ys i]
   simp
  ·omega
theorem ScanSt.chunk {ys:List Int} {i f:Nat} {l:List Rec} (h:ScanSt ys i (f:Int) l) (hi:i<ys.length) (hb:ys.getD i 0=0) :
  f≤i∧(recsB l).length≤f∧scanS ys=l ++ recsTake (((ys.take i).drop f) :: chunksGo [] (ys.drop (i+1))):=by
 have hd:=drop_cons_getD ys i hi
 rcases h.at_ with ⟨h1,_⟩|⟨f',h1,h2,h3,h4⟩
 ·omega
 ·obtain rfl:f'=f:=by omega
  refine ⟨h2,h3,?_⟩
  rw [h4,hd,chunksGo,if_pos hb]
theorem ScanSt.good {ys:List Int} {i f:Nat} {l:List Rec} (h:ScanSt ys i (f:Int) l) (ho:Octets ys) (hi:i<ys.length) (hb:ys.getD i 0=0) (hg:(getR ((ys.take i).drop f)).1=0) :
  ScanSt ys (i+1) ((i+1:Nat):Int) (l ++ [(getR ((ys.take i).drop f)).2]):=by
 obtain ⟨h1,h2,h3⟩:=h.chunk hi hb
 have hoc:Octets ((ys.take i).drop f):=fun b hb=>ho b (List.mem_of_mem_take (List.mem_of_mem_drop hb))
 obtain ⟨g1,g2,g3⟩:=getR_only hoc (r:=(getR ((ys.take i).drop f)).2) (by rw [← hg])
 refine ⟨by omega,.inr ⟨i+1,rfl,Nat.le_refl _,?_,?_⟩,fun r hr=>?_⟩
 ·rw [recsB_snoc,List.length_append]
  have e:(recB (getR ((ys.take i).drop f)).2).length=((ys.take i).drop f).length+1:=by
   unfold recB
   rw [(seal_length _).1,← g3]
  rw [e,List.length_drop,List.length_take]
  omega
 ·rw [h3,recsTake,if_pos hg,List.append_assoc,drop_all ys i]
  rfl
 ·rcases List.mem_append.1 hr with hr|hr
  ·exact h.fine r hr
  ·obtain rfl:=List.mem_singleton.1 hr
   exact ⟨g1,g2⟩
theorem ScanSt.bad {ys:List Int} {i f:Nat} {l:List Rec} (h:ScanSt ys i (f:Int) l) (hi:i<ys.length) (hb:ys.getD i 0=0) (hg:(getR ((ys.take i).drop f)).1 ≠ 0):scanS ys=l∧(recsB l).length≤ys.length:=by
 obtain ⟨h1,h2,h3⟩:=h.chunk hi hb
 exact ⟨by rw [h3,recsTake,if_neg hg,List.append_nil],by omega⟩
theorem ScanSt.done {ys:List Int} {i:Nat} {z:Int} {l:List Rec} (h:ScanSt ys i z l) (hi:¬ i<ys.length):scanS ys=l∧(recsB l).length≤ys.length:=by
 have hd:ys.drop i=[]:=List.drop_eq_nil_of_le (by omega)
 have hle:=h.le
 rcases h.at_ with ⟨_,h2,h3⟩|⟨f,h1,h2,h3,h4⟩
 ·rw [h3,h2,hd]
  simp [chunksGo,recsTake,recsB]
 ·rw [h4,hd]
  exact ⟨by simp [chunksGo,recsTake],by omega⟩
theorem ScanSt.place {ys:List Int} {i:Nat} {z:Int} {l:List Rec} (h:ScanSt ys i z l):z=-1 ∨ ∃ f:Nat,z=(f:Int)∧f≤i:=by
 rcases h.at_ with ⟨h1,_⟩|⟨f,h1,h2,_⟩
 ·exact .inl h1
 ·exact .inr ⟨f,h1,h2⟩
end
section
open Go.RowKit
theorem recsB_octets {l:List Rec} (h:∀ r ∈ l,r.Fine):Octets (recsB l):=fun b hb=>by
 unfold recsB at hb
 obtain ⟨r,hr,hb⟩:=List.mem_flatMap.1 hb
 exact seal_octets (bodyR_octets (h r hr)) b hb
theorem outS_octets {e s n:Nat} (he:e<256) {l:List Rec} (h:∀ r ∈ l,r.Fine):Octets (outS e s n l):=(seal_octets (headB_octets he)).app (recsB_octets h)
theorem textS_octets {e s n:Nat} (he:e<256) {l:List Rec} (h:∀ r ∈ l,r.Fine) (b:Bool):Octets (textS e s n l b):=by
 unfold textS framesS
 refine ((outS_octets he h).app ?_).app (fun x hx=>?_)
 ·cases b with
  | false=>rw [if_neg (by simp)];exact fun x hx=>by simp at hx
  | true=>rw [if_pos rfl];unfold footS;exact seal_octets bodyFt_octets
 ·rw [(List.mem_replicate.1 hx).2]
  decide
theorem str_part (xs:List Int) (a b:Nat):(strOfNums xs).extract a b=strOfNums ((xs.drop a).take (b - a)):=by
 apply ByteArray.ext
 simp [strOfNums,List.map_drop,List.map_take]
theorem str_same {a b:List Int} (ha:Octets a) (hb:Octets b):((strOfNums a).toList == (strOfNums b).toList)=decide (a=b):=by
 rw [text_beq]
 congr 1
 exact propext ⟨fun h=>strOf_inj ha hb h,fun h=>by rw [h]⟩
theorem checkR_room {r:Rec} (h:checkR r=0):r.key.length≤4096∧r.val.length≤1048576:=by
 unfold checkR at h
 split at h
 ·omega
 ·split at h
  ·omega
  ·split at h
   ·omega
   ·split at h
    ·omega
    ·omega
end
section
open Go.RowKit
def roomV (r:Rm):Value:=.agg #[.int .u8 (r.e:Int),.int .u32 (r.s:Int),.int .u32 (r.num:Int),.int .i64 (r.used:Int),.int .i64 (r.count:Int)]
def roomCells (r:Rm):Array Value:=#[.int .u8 (r.e:Int),.int .u32 (r.s:Int),.int .u32 (r.num:Int),.int .i64 (r.used:Int),.int .i64 (r.count:Int)]
def room14V (r:Rm):Value:=.agg #[.int .u8 (r.e:Int),.int .u32 (r.s:Int),.int .u64 (r.num:Int),.int .i64 (r.used:Int),.int .i64 (r.count:Int)]
def room14Cells (r:Rm):Array Value:=#[.int .u8 (r.e:Int),.int .u32 (r.s:Int),.int .u64 (r.num:Int),.int .i64 (r.used:Int),.int .i64 (r.count:Int)]
theorem room14_at {w:World} {g:Nat} {t:TypeId} {r:Rm} (h:Whole w g t (room14Cells r)) :
  w.cell? ⟨g,0,none⟩=some (.int .u8 (r.e:Int))∧w.cell? ⟨g,1,none⟩=some (.int .u32 (r.s:Int))∧w.cell? ⟨g,2,none⟩=some (.int .u64 (r.num:Int))∧w.cell? ⟨g,3,none⟩=some (.int .i64 (r.used:Int))∧w.cell? ⟨g,4,none⟩=some (.int .i64 (r.count:Int)) :=
 ⟨h.cell 0 rfl,h.cell 1 rfl,h.cell 2 rfl,h.cell 3 rfl,h.cell 4 rfl⟩
theorem room_at {w:World} {g:Nat} {t:TypeId} {r:Rm} (h:Whole w g t (roomCells r)) :
  w.cell? ⟨g,0,none⟩=some (.int .u8 (r.e:Int))∧w.cell? ⟨g,1,none⟩=some (.int .u32 (r.s:Int))∧w.cell? ⟨g,2,none⟩=some (.int .u32 (r.num:Int))∧w.cell? ⟨g,3,none⟩=some (.int .i64 (r.used:Int))∧w.cell? ⟨g,4,none⟩=some (.int .i64 (r.count:Int)) :=
 ⟨h.cell 0 rfl,h.cell 1 rfl,h.cell 2 rfl,h.cell 3 rfl,h.cell 4 rfl⟩
theorem room_free {w:World} {g:Nat} {t:TypeId} {cs:Array Value} (h:Whole w g t cs) :
  w.frozen? ⟨g,0,none⟩=false∧w.frozen? ⟨g,1,none⟩=false∧w.frozen? ⟨g,2,none⟩=false∧w.frozen? ⟨g,3,none⟩=false∧w.frozen? ⟨g,4,none⟩=false :=
 ⟨h.free 0,h.free 1,h.free 2,h.free 3,h.free 4⟩
set_option maxHeartbeats 4000000 in
set_option maxRecDepth 10000 in
theorem fits14_ref (r:Rm) (z:Int) (hr:r.Real) (h1:-9223372036854775808≤z) (h2:z≤9223372036854775807) (w:World) :
  Calls Tryz.prog 102 #[room14V r,.int .i64 z] w fun e w'=>e=.returned (.bool (fitsP r z))∧Keeps NoBlock w w':=by
 obtain ⟨he,hu,hs,hn⟩:=hr.small
 have hc:=hr.few
 have HSz:=hid (fun w=>size8_ref r.e r.s he w)
 have HMo:=hid (fun w=>most13_ref (r.count+1) (by omega) w)
 have hlin:=mostFt_lin (r.count+1)
 have hp:=two_e he
 have HW:=hid (Whole.new w 171 (room14Cells r))
 have HK:=hid ((Keeps.refl NoBlock w).alloc (.cells (room14Cells r) 171))
 have hdef:fitsP r z=(decide (1≤z) && decide ((r.used:Int)+z+(mostFt (r.count+1):Int)≤((2 ^ r.e:Nat):Int))):=rfl
 obtain ⟨p,hpp⟩:∃ p,p=2 ^ r.e:=⟨_,rfl⟩
 obtain ⟨m,hm⟩:∃ m,m=mostFt (r.count+1):=⟨_,rfl⟩
 rw [← hpp] at HSz hp hdef
 rw [← hm] at HMo hlin hdef
 rw [show ((r.count+1:Nat):Int)=(r.count:Int)+1 by omega] at HMo
 have HD:=hid hdef
 obtain ⟨e,s,num,used,count⟩:=r
 simp only at hu hs hn hc hlin HSz HMo HD hp
 clear hr hpp hm hdef
 unfold room14V
 unfold room14Cells at HW HK
 simp only at HW HK ⊢
 by_cases z1:z<1
 ·have hf:fitsP ⟨e,s,num,used,count⟩ z=false:=by rw [HD.out,decide_eq_false (by omega)];rfl
  have d1:decide (z<1)=true:=decide_eq_true z1
  rw [hf]
  go_enter Tryz.func102,Tryz.ntmps102
  go_wp2_with fail
  go_ret
  exact ⟨rfl,HK.out⟩
 have d1:decide (z<1)=false:=decide_eq_false z1
 have wz:IntKind.u64.wrap z=z:=by rw [IntKind.wrap_u64];omega
 by_cases z2:(p:Int)<z
 ·have hf:fitsP ⟨e,s,num,used,count⟩ z=false:=by rw [HD.out,decide_eq_false (by omega:¬ (used:Int)+z+(m:Int)≤(p:Int))];simp
  have d2:decide ((p:Int)<z)=true:=decide_eq_true z2
  rw [hf]
  have c:=room14_at (r:=⟨e,s,num,used,count⟩) HW.out
  obtain ⟨c0,c1,c2,c3,c4⟩:=c
  go_enter Tryz.func102,Tryz.ntmps102
  go_wp2_with fail
  refine (HSz.out _).mono ?_
  rintro e w1 ⟨rfl,hk⟩
  have HK:=hid (HK.out.trans hk)
  clear hk
  go_wp2_with fail
  go_ret
  exact ⟨rfl,HK.out⟩
 have d2:decide ((p:Int)<z)=false:=decide_eq_false z2
 have hf:fitsP ⟨e,s,num,used,count⟩ z=decide ((used:Int)+z+(m:Int)≤(p:Int)):=by rw [HD.out,decide_eq_true (by omega)];rfl
 rw [hf]
 obtain ⟨zn,rfl⟩:∃ zn:Nat,z=(zn:Int):=⟨z.toNat,by omega⟩
 obtain ⟨c0,c1,c2,c3,c4⟩:=room14_at (r:=⟨e,s,num,used,count⟩) HW.out
 go_enter Tryz.func102,Tryz.ntmps102
 go_wp2_with fail
 refine (HSz.out _).mono ?_
 rintro e9 w1 ⟨rfl,hk⟩
 have HW:=hid (HW.out.keep hk (fun h=>h))
 have HK:=hid (HK.out.trans hk)
 clear hk c0 c1 c2 c3 c4
 go_upto_region 3 with (fail)
 have w3:IntKind.i64.wrap ((used:Int)+(zn:Int))=(used:Int)+(zn:Int):=IntWalk.i64_in _ (by omega)
 have w4:IntKind.i64.wrap ((used:Int)+(zn:Int)+(m:Int))=(used:Int)+(zn:Int)+(m:Int):=IntWalk.i64_in _ (by omega)
 have w5:IntKind.u64.wrap ((used:Int)+(zn:Int)+(m:Int))=(used:Int)+(zn:Int)+(m:Int):=by rw [IntKind.wrap_u64];omega
 have w6:IntKind.i64.wrap ((count:Int)+1)=(count:Int)+1:=IntWalk.i64_in _ (by omega)
 have s0:=room14_at (r:=⟨e,s,num,used,count⟩) (Whole.drewN HW.out 1)
 have sN:=room14_at (r:=⟨e,s,num,used,count⟩) HW.out
 have g1:decide ((used:Int)+(zn:Int)+(m:Int)≤(p:Int))=decide (used+zn+m≤p):=by rw [decide_eq_decide];omega
 go_region_held3 (fun w'=>w'.cell? ⟨w.heap.size,0,none⟩=some (.int .u8 (e:Int))∧w'.cell? ⟨w.heap.size,1,none⟩=some (.int .u32 (s:Int))∧w'.cell? ⟨w.heap.size,2,none⟩=some (.int .u64 (num:Int))∧w'.cell? ⟨w.heap.size,3,none⟩=some (.int .i64 (used:Int))∧w'.cell? ⟨w.heap.size,4,none⟩=some (.int .i64 (count:Int)))
  (first|exact s5|exact s0|exact sN)
  (first|(go_at_call 132;refine (HMo.out _).mono ?_;rintro e9 w5 ⟨rfl,hk⟩;have hk':Keeps NoBlock w1 w5:=(by first|exact hk|exact hk.ofDrew|exact hk.ofDrewN);have HK:=hid (HK.out.trans hk');have HW:=hid (HW.out.keep hk' (fun h=>h));have s5:=room14_at (r:=⟨e,s,num,used,count⟩) HW.out;clear hk hk';obtain ⟨w1,rfl⟩:∃ x,x=w5:=⟨_,rfl⟩)|(go_at_call 29;refine (HSz.out _).mono ?_;rintro e9 w5 ⟨rfl,hk⟩;have hk':Keeps NoBlock w1 w5:=(by first|exact hk|exact hk.ofDrew|exact hk.ofDrewN);have HK:=hid (HK.out.trans hk');have HW:=hid (HW.out.keep hk' (fun h=>h));have s5:=room14_at (r:=⟨e,s,num,used,count⟩) HW.out;clear hk hk';obtain ⟨w1,rfl⟩:∃ x,x=w5:=⟨_,rfl⟩))
 go_wp2_with fail
 go_ret
 exact ⟨by rw [g1];rfl,HK.out⟩
theorem Whole.far5 {w:World} {g k:Nat} {t:TypeId} {cs:Array Value} (h:Whole w g t cs) (hk:g ≠ k) (a b c d e:Value) :
  Whole (((((w.setCell ⟨k,0,none⟩ a).setCell ⟨k,1,none⟩ b).setCell ⟨k,2,none⟩ c).setCell ⟨k,3,none⟩ d).setCell ⟨k,4,none⟩ e) g t cs :=
 ((((h.setOther (p:=⟨k,0,none⟩) hk a).setOther (p:=⟨k,1,none⟩) hk b).setOther (p:=⟨k,2,none⟩) hk c).setOther (p:=⟨k,3,none⟩) hk d).setOther (p:=⟨k,4,none⟩) hk e
theorem Whole.set5 {w:World} {k:Nat} {t:TypeId} {x0 x1 x2 x3 x4:Value} (h:Whole w k t #[x0,x1,x2,x3,x4]) (a b c d e:Value) :
  Whole (((((w.setCell ⟨k,0,none⟩ a).setCell ⟨k,1,none⟩ b).setCell ⟨k,2,none⟩ c).setCell ⟨k,3,none⟩ d).setCell ⟨k,4,none⟩ e) k t #[a,b,c,d,e] :=
 ((((h.set 0 a).set 1 b).set 2 c).set 3 d).set 4 e
theorem Keeps.new5 {S:Nat→Prop} {w0 w:World} (h:Keeps S w0 w) {k:Nat} (hk:w0.heap.size≤k) (a b c d e:Value) :
  Keeps S w0 (((((w.setCell ⟨k,0,none⟩ a).setCell ⟨k,1,none⟩ b).setCell ⟨k,2,none⟩ c).setCell ⟨k,3,none⟩ d).setCell ⟨k,4,none⟩ e) :=
 ((((h.setNew hk 0 a).setNew hk 1 b).setNew hk 2 c).setNew hk 3 d).setNew hk 4 e
set_option maxHeartbeats 4000000 in
set_option maxRecDepth 10000 in
theorem empty14_ref (e s n:Nat) (he:e<256) (hs:s<4294967296) (hn:n<18446744073709551616) (w:World) :
  Calls Tryz.prog 101 #[confV e s,.int .u64 (n:Int)] w fun r w'=>r=.returned (room14V (emptyP e s n))∧Keeps NoBlock w w':=by
 have HHd:=hid (fun w=>head9_ref e s n he hs hn w)
 have z1:=str_size (sealN (headB e s n))
 have hb:=(headLen_le (e:=e) (s:=s) (n:=n) (by omega) hn).2
 have HE:=hid (show room14V (emptyP e s n)=.agg #[.int .u8 (e:Int),.int .u32 (s:Int),.int .u64 (n:Int),.int .i64 ((headLen e s n:Nat):Int),.int .i64 0] from rfl)
 have hl:headLen e s n=(sealN (headB e s n)).length:=rfl
 rw [← hl] at z1
 obtain ⟨L,hL⟩:∃ L,L=headLen e s n:=⟨_,rfl⟩
 rw [← hL] at z1 hb HE
 obtain ⟨T,hT⟩:∃ T,T=sealN (headB e s n):=⟨_,rfl⟩
 rw [← hT] at z1 HHd
 have HC:=hid ((Whole.new w 27 (confCells e s)).alloc (.cells (room14Cells Rm.none) 171))
 have HZ:=hid (Whole.newAt (w.alloc (.cells (confCells e s) 27)) 171 (room14Cells Rm.none) (w.heap.size+1) (by simp))
 have HK:=hid (((Keeps.refl NoBlock w).alloc (.cells (confCells e s) 27)).alloc (.cells (room14Cells Rm.none) 171))
 clear hL hT hl he hs hn
 unfold confV at HHd ⊢
 go_enter Tryz.func101,Tryz.ntmps101
 go_wp2_with fail
 obtain ⟨W,hW⟩:∃ W,W=(w.alloc (.cells #[.int .u8 (e:Int),.int .u32 (s:Int)] 27)).alloc (.cells #[.int .u8 0,.int .u32 0,.int .u64 0,.int .i64 0,.int .i64 0] 171):=⟨_,rfl⟩
 have HC:Hid (Whole W w.heap.size 27 (confCells e s)):=by rw [hW];exact HC
 have HZ:Hid (Whole W (w.heap.size+1) 171 (room14Cells Rm.none)):=by rw [hW];exact HZ
 have HK:Hid (Keeps NoBlock w W):=by rw [hW];exact HK
 rw [← hW]
 clear hW
 have s0:=And.intro ((Whole.drewN HC.out 1).cell 0 rfl) ((Whole.drewN HC.out 1).cell 1 rfl)
 have sN:=And.intro (HC.out.cell 0 rfl) (HC.out.cell 1 rfl)
 simp only [confCells,List.getElem_toArray,List.getElem_cons_zero,List.getElem_cons_succ] at s0 sN
 refine wp_region_held_drew (S:=fun w'=>w'.cell? ⟨w.heap.size,0,none⟩=some (.int .u8 (e:Int))∧w'.cell? ⟨w.heap.size,1,none⟩=some (.int .u32 (s:Int))) (by kernel_rfl) s0 (fun hHeld=>?_)
 refine wpAnyH_take (i:=0) (v:=?vT1) rfl ?aT1 ?bT1 ?cT1 ?dT1 (Or.inl ⟨?eT1,?fT1⟩) hHeld ?gT1
 case fT1=>intro w hSw;(try dsimp only at hSw);go_simp;(try with_reducible rfl)
 case aT1=>kernel_rfl
 case bT1=>kernel_rfl
 case cT1=>kernel_rfl
 case dT1=>exact fun _ _ _ h=>h
 case eT1=>rfl
 simp only [Act.put,List.getElem_toArray,List.getElem_cons_zero,List.setIfInBounds_toArray,List.set_cons_zero,List.set_cons_succ]
 refine wpAnyH_take (i:=1) (v:=?vT2) rfl ?aT2 ?bT2 ?cT2 ?dT2 (Or.inl ⟨?eT2,?fT2⟩) hHeld ?gT2
 case fT2=>intro w hSw;(try dsimp only at hSw);go_simp;(try with_reducible rfl)
 case aT2=>kernel_rfl
 case bT2=>kernel_rfl
 case cT2=>kernel_rfl
 case dT2=>exact fun _ _ _ h=>h
 case eT2=>rfl
 simp only [Act.put,List.getElem_toArray,List.getElem_cons_zero,List.getElem_cons_succ,List.setIfInBounds_toArray,List.set_cons_zero,List.set_cons_succ]
 refine wpAnyH_take (i:=2) (v:=?vT3) rfl ?aT3 ?bT3 ?cT3 ?dT3 (Or.inl ⟨?eT3,?fT3⟩) hHeld ?gT3
 case fT3=>intro w hSw;(try dsimp only at hSw);go_simp;(try with_reducible rfl)
 case aT3=>kernel_rfl
 case bT3=>kernel_rfl
 case cT3=>kernel_rfl
 case dT3=>exact fun _ _ _ h=>h
 case eT3=>rfl
 simp only [Act.put,List.getElem_toArray,List.getElem_cons_zero,List.getElem_cons_succ,List.setIfInBounds_toArray,List.set_cons_zero,List.set_cons_succ]
 refine wpAnyH_take (i:=3) (v:=?vT4) rfl ?aT4 ?bT4 ?cT4 ?dT4 (Or.inl ⟨?eT4,?fT4⟩) hHeld ?gT4
 case fT4=>intro w hSw;(try dsimp only at hSw);go_simp;(try with_reducible rfl)
 case aT4=>kernel_rfl
 case bT4=>kernel_rfl
 case cT4=>kernel_rfl
 case dT4=>exact fun _ _ _ h=>h
 case eT4=>rfl
 simp only [Act.put,List.getElem_toArray,List.getElem_cons_zero,List.getElem_cons_succ,List.setIfInBounds_toArray,List.set_cons_zero,List.set_cons_succ]
 refine wpAnyH_ready (rs:=[4]) (by kernel_rfl) (by simp) ?_
 refine (AllReadyH.cons (o:=_) rfl (fun K hK=>?_) AllReadyH.nil)
 go_simp
 refine (HHd.out _).mono ?_
 rintro e9 w5 ⟨rfl,hk⟩
 have hk':Keeps NoBlock W w5:=by first|exact hk|exact hk.ofDrew|exact hk.ofDrewN
 have HK:=hid (HK.out.trans hk')
 have HC:=hid (HC.out.keep hk' (fun h=>h))
 have HZ:=hid (HZ.out.keep hk' (fun h=>h))
 have hS:(fun w'=>w'.cell? ⟨w.heap.size,0,none⟩=some (.int .u8 (e:Int))∧w'.cell? ⟨w.heap.size,1,none⟩=some (.int .u32 (s:Int))) w5:=And.intro (HC.out.cell 0 rfl) (HC.out.cell 1 rfl)
 clear hk hk'
 go_wp2_with fail
 refine hK.out _ _ hS (fun _=>?_)
 clear hK K
 refine wpAnyH_take (i:=5) (v:=?vT5) rfl ?aT5 ?bT5 ?cT5 ?dT5 (Or.inl ⟨?eT5,?fT5⟩) hS ?gT5
 case fT5=>intro w hSw;(try dsimp only at hSw);go_simp;(try with_reducible rfl)
 case aT5=>kernel_rfl
 case bT5=>kernel_rfl
 case cT5=>kernel_rfl
 case dT5=>exact fun _ _ _ h=>h
 case eT5=>rfl
 simp only [Act.put,List.getElem_toArray,List.getElem_cons_zero,List.getElem_cons_succ,List.setIfInBounds_toArray,List.set_cons_zero,List.set_cons_succ]
 refine wpAnyH_take (i:=6) (v:=?vT6) rfl ?aT6 ?bT6 ?cT6 ?dT6 (Or.inl ⟨?eT6,?fT6⟩) hS ?gT6
 case fT6=>intro w hSw;(try dsimp only at hSw);go_simp;(try with_reducible rfl)
 case aT6=>kernel_rfl
 case bT6=>kernel_rfl
 case cT6=>kernel_rfl
 case dT6=>exact fun _ _ _ h=>h
 case eT6=>rfl
 simp only [Act.put,List.getElem_toArray,List.getElem_cons_zero,List.getElem_cons_succ,List.setIfInBounds_toArray,List.set_cons_zero,List.set_cons_succ]
 refine wpAnyH_ready (rs:=[7]) (by kernel_rfl) (by simp) ?_
 refine (AllReadyH.cons (o:=_) rfl (fun K hK=>?_) AllReadyH.nil)
 obtain ⟨z0,zz1,zz2,zz3,zz4⟩:=room14_at HZ.out
 obtain ⟨q0,q1,q2,q3,q4⟩:=room_free HZ.out
 go_simp
 refine hK.out _ _ (And.intro ((HC.out.far5 (by omega) _ _ _ _ _).cell 0 rfl) ((HC.out.far5 (by omega) _ _ _ _ _).cell 1 rfl)) (fun _=>?_)
 clear hK K
 refine wpAnyH_done (by kernel_rfl) ?_ _
 have hf:=Whole.set5 (show Whole _ (w.heap.size+1) 171 #[.int .u8 0,.int .u32 0,.int .u64 0,.int .i64 0,.int .i64 0] from HZ.out) (.int .u8 (e:Int)) (.int .u32 (s:Int)) (.int .u64 (n:Int)) (.int .i64 (L:Int)) (.int .i64 0)
 have k0:=hf.cell 0 rfl
 have k1:=hf.cell 1 rfl
 have k2:=hf.cell 2 rfl
 have k3:=hf.cell 3 rfl
 have k4:=hf.cell 4 rfl
 simp only [List.getElem_toArray,List.getElem_cons_zero,List.getElem_cons_succ] at k0 k1 k2 k3 k4
 go_wp2_with fail
 exact bodyPost_ret (v:=room14V (emptyP e s n)) (by rw [HE.out];simp [results,Tryz.results101,go_sem,k0,k1,k2,k3,k4]) rfl ⟨rfl,HK.out.new5 (Nat.le_succ _) _ _ _ _ _⟩
set_option maxHeartbeats 4000000 in
set_option maxRecDepth 10000 in
theorem take14_ref (r:Rm) (z:Int) (hr:r.Real) (h1:1≤z) (h2:z≤16777216) (w:World) :
  Calls Tryz.prog 103 #[room14V r,.int .i64 z] w fun e w'=>e=.returned (room14V (takeP r z))∧Keeps NoBlock w w':=by
 obtain ⟨he,hu,hs,hn⟩:=hr.small
 have hc:=hr.few
 obtain ⟨e,s,num,used,count⟩:=r
 simp only at hu hs hn hc he
 obtain ⟨zn,rfl⟩:∃ zn:Nat,z=(zn:Int):=⟨z.toNat,by omega⟩
 have HE:=hid (show room14V (takeP ⟨e,s,num,used,count⟩ (zn:Int))=.agg #[.int .u8 (e:Int),.int .u32 (s:Int),.int .u64 (num:Int),.int .i64 ((used:Int)+(zn:Int)),.int .i64 ((count:Int)+1)] from by unfold room14V takeP;simp only [Int.toNat_natCast];rfl)
 have w3:IntKind.i64.wrap ((used:Int)+(zn:Int))=(used:Int)+(zn:Int):=IntWalk.i64_in _ (by omega)
 have w6:IntKind.i64.wrap ((count:Int)+1)=(count:Int)+1:=IntWalk.i64_in _ (by omega)
 rw [HE.out]
 clear hr h1 h2 HE
 unfold room14V
 simp only
 go_enter Tryz.func103,Tryz.ntmps103
 go_wp2_with fail
 have hf:=Whole.newAt (w.alloc (.cells #[.int .u8 (e:Int),.int .u32 (s:Int),.int .u64 (num:Int),.int .i64 ((used:Int)+(zn:Int)),.int .i64 ((count:Int)+1)] 171)) 171 #[.int .u8 (e:Int),.int .u32 (s:Int),.int .u64 (num:Int),.int .i64 ((used:Int)+(zn:Int)),.int .i64 ((count:Int)+1)] (w.heap.size+1) (by simp)
 have k0:=hf.cell 0 rfl
 have k1:=hf.cell 1 rfl
 have k2:=hf.cell 2 rfl
 have k3:=hf.cell 3 rfl
 have k4:=hf.cell 4 rfl
 simp only [List.getElem_toArray,List.getElem_cons_zero,List.getElem_cons_succ] at k0 k1 k2 k3 k4
 exact bodyPost_ret (v:=.agg #[.int .u8 (e:Int),.int .u32 (s:Int),.int .u64 (num:Int),.int .i64 ((used:Int)+(zn:Int)),.int .i64 ((count:Int)+1)]) (by simp [results,Tryz.results103,go_sem,k0,k1,k2,k3,k4]) rfl ⟨rfl,((Keeps.refl _ _).alloc _).alloc _⟩
end
section
open Go.RowKit
theorem NumsSoFar.cell {w0 wr:World} {l:List Nat} {ad:Addr} {m d:Nat} (h:NumsSoFar w0 l (.slice (some ad) m d) wr) {j:Nat} (hj:j<l.length):wr.cell? (ad.add j)=some (.int .u64 ((l.getD j 0:Nat):Int)):=by
 obtain ⟨q',m',d',e,_,_,hc⟩:=own_nums h.1
 injection e with e1 e2 e3
 rw [hc ad e1.symm j (numV (l.getD j 0)) (by simp [hj])]
 rfl
theorem NumsSoFar.nil {w0 wr:World} (h:Below w0.heap.size w0 wr):NumsSoFar w0 [] (.slice none 0 0) wr:=⟨World.ownsRow_nil _ _ _ _,h⟩
end
section
open Go.RowKit
section
variable {α:Type} {v0:α→Value} {dd:α}
def OnesAt (v0:α→Value) (dd:α) (w:World) (p:Option Addr) (l:List α):Prop :=
 ∀ i,i<l.length→∃ a:Addr,p=some a∧w.cell? (a.add i)=some (v0 (l.getD i dd))
theorem OnesAt.keep {w w':World} {p:Option Addr} {l:List α} (h:OnesAt v0 dd w p l) {S:Nat→Prop} (hk:Keeps S w w') (hs:∀ k,k<w.heap.size→¬ S k):OnesAt v0 dd w' p l:=fun i hi=>by
 obtain ⟨a,rfl,hc⟩:=h i hi
 exact ⟨a,rfl,hk.cell hc (hs _ (ltOfCell hc))⟩
theorem OnesAt.nil (w:World) (p:Option Addr):OnesAt v0 dd w p []:=fun i hi=>by simp at hi
theorem OnesAt.cells {w:World} {ad:Addr} {l:List α} (h:OnesAt v0 dd w (some ad) l) {j:Nat} {u:Value} (hj:(l.map v0)[j]?=some u):w.cell? (ad.add j)=some u:=by
 have hlt:j<l.length:=by
  have:=(List.getElem?_eq_some_iff.1 hj).1
  rwa [List.length_map] at this
 obtain ⟨a,ha,hc⟩:=h j hlt
 obtain rfl:=Option.some.inj ha
 rw [hc,← hj]
 simp [List.getElem?_eq_getElem hlt]
def OnesSoFar (v0:α→Value) (t:TypeId) (w0:World) (l:List α) (v:Value) (wr:World):Prop:=wr.ownsRow w0.heap.size t 1 v l.length (l.map v0)∧Below w0.heap.size w0 wr
theorem OnesSoFar.start {t:TypeId} (w0:World):OnesSoFar v0 t w0 ([]:List α) (.slice none 0 0) w0:=⟨World.ownsRow_nil _ _ _ _,Below.refl _ _⟩
theorem OnesSoFar.alloc {t:TypeId} {w0 wr:World} {l:List α} {v:Value} (h:OnesSoFar v0 t w0 l v wr) (o:Obj):OnesSoFar v0 t w0 l v (wr.alloc o):=⟨World.ownsRow.alloc h.1 o,h.2.alloc h.2.size o⟩
theorem OnesSoFar.keep {t:TypeId} {w0 wr w':World} {l:List α} {v:Value} (h:OnesSoFar v0 t w0 l v wr) (hk:Keeps NoBlock wr w'):OnesSoFar v0 t w0 l v w' :=
 ⟨own_keep h.1 hk (fun _ _ h=>h),h.2.trans (hk.below h.2.size (fun _ _ h=>h))⟩
theorem OnesSoFar.keeps {t:TypeId} {w0 wr:World} {l:List α} {v:Value} (h:OnesSoFar v0 t w0 l v wr):Keeps NoBlock w0 wr:=.ofBelow h.2
theorem OnesSoFar.new {t:TypeId} {w0 wr:World} {l:List α} {v:Value} (h:OnesSoFar v0 t w0 l v wr):∃ (q:Option Addr) (m d:Nat),v=.slice q m d∧m=l.length∧m≤d∧d≤9223372036854775807∧(q=none→m=0∧d=0)∧OnesAt v0 dd wr q l∧Keeps NoBlock w0 wr:=by
 obtain ⟨h',hb⟩:=h
 have h9:=h'
 rcases h' with ⟨_,⟨rfl,e⟩|⟨g,cap,cur,rfl,hg,hh,hc1,hc2,hc3,hc4⟩⟩
 ·exact ⟨none,0,0,rfl,e.symm,Nat.le_refl _,by decide,fun _=>⟨rfl,rfl⟩,fun i hi=>by rw [e] at hi;omega,Keeps.ofBelow hb⟩
 ·refine ⟨_,_,cap,rfl,rfl,hc1,by unfold maxLen at hc2;omega,fun h=>by simp at h,fun i hi=>⟨_,rfl,?_⟩,Keeps.ofBelow hb⟩
  exact h9.cells (g:=g) rfl i _ (by simp [List.getElem?_eq_getElem hi])
theorem OnesSoFar.setOther {t:TypeId} {w0 wr:World} {l:List α} {v:Value} (h:OnesSoFar v0 t w0 l v wr) {p:Addr} (hp:v.ownBlock ≠ some p.block) (hb:w0.heap.size≤p.block) (x:Value):OnesSoFar v0 t w0 l v (wr.setCell p x) :=
 ⟨ownsRow_setCell_other h.1 hp _,h.2.setCell hb _⟩
theorem OnesSoFar.apart {t:TypeId} {w0 wr:World} {l:List α} {v:Value} (h:OnesSoFar v0 t w0 l v wr) {k:Nat} (hk:wr.heap.size≤k):v.ownBlock ≠ some k:=fun e=>by
 have:=(h.1.lt k e).2
 omega
theorem OnesSoFar.made {t:TypeId} (w:World) (l:List α) (cs:Array Value) (hcs:cs.toList=l.map v0) (hl:l.length≤1000000000):OnesSoFar v0 t w l (.slice (some ⟨w.heap.size,0,none⟩) l.length l.length) (w.alloc (.cells cs t)):=by
 have hs:cs.size=l.length:=by rw [← Array.length_toList,hcs,List.length_map]
 exact ⟨⟨by simp,.inr ⟨w.heap.size,l.length,cs,rfl,Nat.le_refl _,heap_alloc_new w _,Nat.le_refl _,by unfold maxLen;omega,by rw [hs,Nat.mul_one],by rw [hcs,Nat.mul_one,← List.length_map (f:=v0),List.take_length]⟩⟩,(Below.refl _ w).alloc (Nat.le_refl _) _⟩
theorem wpList_append_oneG {w w0:World} {ops:Array Oper} {rest:List Oper} {o:Oper} {a:Act} {Q:Exit→Act→World→Prop} (hgd:o.guard=none) (s x:Operand) (t:TypeId)
  (ho:o.op=.call { callee:=.builtin .append,args:=#[s,x],argTypes:=#[t,t] })
  (e:TypeId) (i:TypeInfo) (z:Value) (bytes:Nat) (ht:Tryz.prog.underlying t=some (.slice e)) (hi:Tryz.prog.info? e=some i) (hz:i.zero=some z)
  (hsize:i.size=1) (hby:i.bytes=bytes) (hzs:z.cells.size=1)
  (v:Value) (l:List α) (hs:a.eval s=v) (hown:OnesSoFar v0 e w0 l v w) (g:Nat) (r:α) (hx:a.eval x=.slice (some ⟨g,0,none⟩) 1 1)
  (h0:w.cell? ⟨g,0,none⟩=some (v0 r)) (o0:(v0 r).oneCell'=true)
  (hbytes:(l.length+1)*bytes≤140737488355328) (hroom:l.length≤140737488355327)
  (h:∀ v' w',OnesSoFar v0 e w0 (l ++ [r]) v' w'→w.grownBy w' v.ownBlock→wpList Tryz.prog ops Q rest (a.put o.dst v') w'):wpList Tryz.prog ops Q (o :: rest) a w:=by
 refine wpList_append_own w hgd s x t ho w0.heap.size e i z 1 bytes ht hi hz hsize hby hzs (by decide) v l.length (l.map v0) hs hown.1 ⟨g,0,none⟩ 1 1 [v0 r] hx rfl ?_ ?_ (by unfold maxLen;omega) hbytes hown.2.size ?_
 ·intro j u hj
  rw [Addr.add_lit,Nat.zero_add]
  match j,hj with
  | 0,hj=>obtain rfl:=Option.some.inj hj;exact h0
  | k+1,hj=>simp at hj
 ·intro u hu
  simp at hu
  subst hu
  exact o0
 ·intro v' w' h2 h3 _
  refine h v' w' ⟨?_,hown.2.trans ((Below.refl _ w).grown h3 hown.2.size (fun k hk=>own_from hown.1 hk))⟩ h3
  rw [List.map_append,List.length_append]
  exact h2
end
end
section
open Go.RowKit
def intV (z:Int):Value:=.int .i64 z
structure InZ (w:World) (p:Option Addr) (n c:Nat) (zs:List Int):Prop where
 len:n=zs.length
 cap:n≤c
 room:c≤9223372036854775807
 bare:p=none→n=0∧c=0
 fine:∀ z ∈ zs,-9223372036854775808≤z∧z≤9223372036854775807
 at_:OnesAt intV 0 w p zs
theorem getI_mem {zs:List Int} {j:Nat} (h:j<zs.length):zs.getD j 0 ∈ zs:=by simp [h]
def PlanPost (w:World) (t:Int × List Nat) (e:Ending) (w':World):Prop :=
 ∃ (q:Option Addr) (m d:Nat),e=.returned (.tuple #[.slice q m d,.int .i64 t.1])∧m=t.2.length∧RowN w' q t.2∧Keeps NoBlock w w'
theorem PlanPost.gone {w w':World} {t:Int × List Nat} {y:Int} (h:t=(y,[])) (hk:Keeps NoBlock w w'):PlanPost w t (.returned (.tuple #[.slice none 0 0,.int .i64 y])) w':=by
 subst h
 exact ⟨none,0,0,rfl,rfl,fun i hi=>by simp at hi,hk⟩
theorem NumsSoFar.apartT {w0 wr:World} {l:List Nat} {v:Value} {g:Nat} {t:TypeId} {cs:Array Value} (h:NumsSoFar w0 l v wr) (hw:Whole wr g t cs) (ht:t ≠ 46):v.ownBlock ≠ some g:=fun e=>by
 rcases h.1.2 with ⟨rfl,_⟩|⟨g',cap,cur,rfl,_,hg,_⟩
 ·simp [Value.ownBlock] at e
 ·simp only [Value.ownBlock,Option.some.injEq] at e
  subst e
  have:=(show wr.heap[g']?=_ from hw).symm.trans hg
  simp at this
  exact ht this.2
theorem NumsSoFar.set5 {w0 wr:World} {l:List Nat} {v:Value} (h:NumsSoFar w0 l v wr) {g:Nat} (hp:v.ownBlock ≠ some g) (hb:w0.heap.size≤g) (a b c d e:Value) :
  NumsSoFar w0 l v (((((wr.setCell ⟨g,0,none⟩ a).setCell ⟨g,1,none⟩ b).setCell ⟨g,2,none⟩ c).setCell ⟨g,3,none⟩ d).setCell ⟨g,4,none⟩ e) :=
 ((((h.setOther (p:=⟨g,0,none⟩) hp hb a).setOther (p:=⟨g,1,none⟩) hp hb b).setOther (p:=⟨g,2,none⟩) hp hb c).setOther (p:=⟨g,3,none⟩) hp hb d).setOther (p:=⟨g,4,none⟩) hp hb e
theorem runP_zero (e s:Nat) (zs:List Int):runP e s (zs.take 0)=⟨0,emptyP e s 0,[]⟩:=rfl
theorem planP_gone {e s:Nat} {zs:List Int} (hm:mayC e s=true) {j:Nat} {y:Int} (hy:y ≠ 0) (h:runP e s (zs.take j)=⟨y,Rm.none,[]⟩):planP e s zs=(y,[]):=by
 have h1:=runP_gone (e:=e) (s:=s) (zs:=zs) (j:=j) (by rw [h];exact hy)
 unfold planP
 rw [if_pos hm,h1,h]
set_option maxHeartbeats 16000000 in
set_option maxRecDepth 10000 in
theorem plan14_may (e s:Nat) (p:Option Addr) (n c:Nat) (zs:List Int) (hm:mayC e s=true) (hn9:n≤10000) (w:World) (hz:InZ w p n c zs) :
  Calls Tryz.prog 68 #[confV e s,.slice p n c] w (PlanPost w (planP e s zs)):=by
 have HM:=hid (fun w=>may_ref e s w)
 rw [hm] at HM
 obtain ⟨m1,m2,m3,m4⟩:=mayC_true.1 hm
 obtain ⟨S1,hS1⟩:∃ S1,s=S1+1:=⟨s - 1,by omega⟩
 have hmost:mayHead e s S1=true:=mayHead_true.2 ⟨m1,m2,m3,m4,by omega⟩
 have hzero:mayHead e s 0=true:=mayHead_true.2 ⟨m1,m2,m3,m4,by omega⟩
 have HRm:=hid (real_empty hmost)
 have hs1:s - 1=S1:=by omega
 have HStep:=hid (fun j (h:j<zs.length)=>runP_step (e:=e) (s:=s) h)
 have HReal:=hid (fun j (hj:j≤10000)=>runP_real hm (zs.take j) (by rw [List.length_take];omega))
 have HGone:=hid (fun j y (hy:(y:Int) ≠ 0) h=>planP_gone (e:=e) (s:=s) (zs:=zs) (j:=j) hm hy h)
 have hall:planP e s zs=((runP e s zs).y,(runP e s zs).out):=by unfold planP;rw [if_pos hm]
 have HAll:=hid hall
 clear hall
 have hz0:=runP_zero e s zs
 have HRz:=hid (real_empty hzero)
 have HE:=hid (fun k (hk:k<65536) w=>empty14_ref e s k (by omega) (by omega) (by omega) w)
 have HF:=hid (fun r z w (hr:r.Real) (h1:-9223372036854775808≤z∧z≤9223372036854775807)=>fits14_ref r z hr h1.1 h1.2 w)
 have HT:=hid (fun r z w (hr:r.Real) (h1:1≤z) (h2:z≤16777216)=>take14_ref r z hr h1 h2 w)
 have ws1:IntKind.u64.wrap ((s:Int) - 1)=(S1:Int):=by rw [IntKind.wrap_u64];omega
 have ws2:(s:Int) - 1=(S1:Int):=by omega
 have ws3:IntKind.u64.wrap (s:Int)=(s:Int):=by rw [IntKind.wrap_u64];omega
 have HLn:=hid hz.len
 have HFi:=hid hz.fine
 have HAt:=hid hz.at_
 have HMy:=hid hm
 have hS9:S1<65536:=by omega
 have HS1:=hid hS1
 have HC0:=hid (Whole.new w 27 (confCells e s))
 have HK0:=hid ((Keeps.refl NoBlock w).alloc (.cells (confCells e s) 27))
 clear hm hz hmost hzero hS1
 obtain ⟨PL,hPL⟩:∃ P,P=planP e s zs:=⟨_,rfl⟩
 rw [← hPL] at HGone HAll ⊢
 obtain ⟨RM,hRM⟩:∃ R,R=emptyP e s S1:=⟨_,rfl⟩
 obtain ⟨R0,hR0⟩:∃ R,R=emptyP e s 0:=⟨_,rfl⟩
 have HEm:=hid (HE.out S1 hS9)
 have HEz:=hid (HE.out 0 (by decide))
 rw [← hRM] at HEm HRm
 rw [← hR0] at HEz HRz hz0
 have HRM:=hid hRM
 have HZ0:=hid hz0
 have HS1b:=hid hs1
 clear hPL hRM hR0 hz0 hs1
 unfold confV at HM HE HEm HEz ⊢
 unfold room14V at HE HEm HEz HF HT
 go_enter Tryz.func68,Tryz.ntmps68
 go_wp2_with fail
 refine (HM.out _).mono ?_
 rintro e9 w1 ⟨rfl,hk⟩
 have HK:=hid (HK0.out.trans hk)
 have HC:=hid (HC0.out.keep hk (fun h=>h))
 have c0:=HC.out.cell 0 rfl
 have c1:=HC.out.cell 1 rfl
 simp only [confCells,List.getElem_toArray,List.getElem_cons_zero,List.getElem_cons_succ] at c0 c1
 clear hk HM HC0 HK0
 go_wp2_with fail
 refine (HEz.out _).mono ?_
 rintro e9 w2 ⟨rfl,hk⟩
 have hka:Keeps NoBlock w2 (w2.alloc (.cells (room14Cells R0) 171)):=(Keeps.refl NoBlock w2).alloc _
 have HB3:=hid (show w.heap.size<w2.heap.size from (HC.out.keep hk (fun h=>h)).lt)
 have HK:=hid ((HK.out.trans hk).trans hka)
 have HC:=hid ((HC.out.keep hk (fun h=>h)).keep hka (fun h=>h))
 have HR:=hid (Whole.new w2 171 (room14Cells R0))
 clear hk hka c0 c1 HEz
 have c0:=HC.out.cell 0 rfl
 have c1:=HC.out.cell 1 rfl
 simp only [confCells,List.getElem_toArray,List.getElem_cons_zero,List.getElem_cons_succ] at c0 c1
 unfold room14Cells at c0 c1
 go_wp2_with fail
 refine (HEm.out _).mono ?_
 rintro e9 w3 ⟨rfl,hk⟩
 have hka:Keeps NoBlock w3 (w3.alloc (.cells (room14Cells RM) 171)):=(Keeps.refl NoBlock w3).alloc _
 have HG7:=hid (show w2.heap.size<w3.heap.size by have:=hk.size;simp at this;omega)
 have HK:=hid ((HK.out.trans hk).trans hka)
 have HC:=hid ((HC.out.keep hk (fun h=>h)).keep hka (fun h=>h))
 have HR:=hid ((HR.out.keep hk (fun h=>h)).keep hka (fun h=>h))
 have HX:=hid (Whole.new w3 171 (room14Cells RM))
 clear hk hka c0 c1 HEm
 obtain ⟨W0,hW0⟩:∃ W,W=w3.alloc (.cells (room14Cells RM) 171):=⟨_,rfl⟩
 rw [← hW0] at HK HC HR HX
 unfold room14Cells at hW0
 go_wp2_with fail
 rw [← hW0]
 clear hW0
 go_loopw [8,24] (fun v i wr=>∃ j:Nat,j≤n∧i=.int .i64 (j:Int)∧Hid ((runP e s (zs.take j)).y=0)∧Hid (NumsSoFar w (runP e s (zs.take j)).out v wr)∧Hid (Whole wr w2.heap.size 171 (room14Cells (runP e s (zs.take j)).r))∧Hid (Whole wr w3.heap.size 171 (room14Cells RM))∧Hid (Whole wr w.heap.size 27 (confCells e s))∧Hid (Keeps NoBlock w wr)) (fun _ i _=>n - (intOf i).toNat)
 case atStart =>
  refine ⟨0,Nat.zero_le _,rfl,hid (by rw [HZ0.out]),hid ?_,?_,HX,HC,HK⟩
  ·rw [HZ0.out]
   exact NumsSoFar.nil (HK.out.below (Nat.le_refl _) (fun _ _ h=>h))
  ·rw [HZ0.out]
   exact HR
 case round =>
  clear HK HC HR HX HZ0
  obtain ⟨j,hj,rfl,HY,HS,HR,HX,HC,HK⟩:=hrel
  by_cases hlt:j<n
  rotate_left
  ·have hdj:decide ((j:Int)<(n:Int))=false:=decide_eq_false (by omega)
   have hdj2:decide (j<n)=false:=decide_eq_false hlt
   have hT:zs.take j=zs:=List.take_of_length_le (by have:=HLn.out;omega)
   rw [hT] at HY HS
   obtain ⟨q,m,d,rfl,hbare,hm,hcell⟩:=own_nums HS.out.1
   go_wp2_with fail
   exact bodyPost_ret (v:=.tuple #[.slice q m d,.int .i64 0]) (by simp [results,Tryz.results68,go_sem]) rfl ⟨q,m,d,by rw [HAll.out,HY.out],by rw [HAll.out];exact hm,by rw [HAll.out];exact cells_rowN hm hbare hcell,HK.out⟩
  have hdj:decide ((j:Int)<(n:Int))=true:=decide_eq_true (by omega)
  have hdj2:decide (j<n)=true:=decide_eq_true hlt
  have hjl:j<zs.length:=by rw [← HLn.out];exact hlt
  obtain ⟨a,rfl,a0⟩:=(HAt.out.keep HK.out (fun _ _ h=>h)) j hjl
  have hzr:=HFi.out _ (getI_mem hjl)
  have hstep:=HStep.out j hjl
  obtain ⟨hreal,hre,hrs,hrc⟩:=HReal.out j (by omega) HY.out
  have hol:=runP_out (e:=e) (s:=s) (zs.take j) HY.out
  obtain ⟨z,hz⟩:∃ z,z=zs.getD j 0:=⟨_,rfl⟩
  rw [← hz] at a0 hzr hstep
  obtain ⟨st,hst⟩:∃ st,st=runP e s (zs.take j):=⟨_,rfl⟩
  rw [← hst] at hstep hreal hre hrs hrc HY HS HR hol
  obtain ⟨y,r,O⟩:=st
  obtain rfl:y=0:=HY.out
  simp only at hreal hre hrs hrc HS HR hol
  unfold intV at a0
  have hO9:O.length≤1000000:=by rw [hol,List.length_take];omega
  have hrc9:r.count<10000:=by rw [List.length_take] at hrc;omega
  have hstep:runP e s (zs.take (j+1))=if fitsP RM z=true then (if fitsP r z=true then ⟨0,takeP r z,O ++ [r.num]⟩ else if s≤r.num+1 then ⟨7,Rm.none,[]⟩ else ⟨0,takeP (emptyP e s (r.num+1)) z,O ++ [r.num+1]⟩) else ⟨6,Rm.none,[]⟩:=by
   rw [hstep,HRM.out]
   unfold stepP
   rw [if_neg (by simp),HS1b.out]
  obtain ⟨c0,c1,c2,c3,c4⟩:=room14_at HX.out
  clear hz hst hjl hol hrc hre hrs
  have HJ:=hid (And.intro hj hlt)
  by_cases hfm:fitsP RM z=true
  rotate_left
  ·have HG6:=hid (HGone.out (j+1) 6 (by decide) (by rw [hstep,if_neg hfm]))
   have hfm0:fitsP RM z=false:=by simpa using hfm
   have HFm:=hid (fun w=>HF.out RM z w HRm.out hzr)
   rw [hfm0] at HFm
   clear hstep hfm hfm0 hreal HY
   go_wp2_with fail
   refine (HFm.out _).mono ?_
   rintro e9 w5 ⟨rfl,hk⟩
   have HK:=hid (HK.out.trans hk)
   clear hk
   go_wp2_with fail
   exact bodyPost_ret (v:=.tuple #[.slice none 0 0,.int .i64 6]) (by simp [results,Tryz.results68,go_sem]) rfl (PlanPost.gone HG6.out HK.out)
  rw [if_pos hfm] at hstep
  obtain ⟨hz1,hz2⟩:=fitsP_true.1 hfm
  have hz9:z≤16777216:=by
   have:=(two_e HRm.out.small.1).2
   obtain ⟨pp,hpp⟩:∃ pp,pp=2 ^ RM.e:=⟨_,rfl⟩
   rw [← hpp] at hz2 this
   omega
  have HFm:=hid (fun w=>HF.out RM z w HRm.out hzr)
  rw [hfm] at HFm
  have HFr:=hid (fun w=>HF.out r z w hreal hzr)
  by_cases hfr:fitsP r z=true
  ·rw [if_pos hfr] at hstep
   rw [hfr] at HFr
   have HTk:=hid (fun w=>HT.out r z w hreal hz1 hz9)
   have hnum:(takeP r z).num=r.num:=rfl
   obtain ⟨R2,hR2⟩:∃ R2,R2=takeP r z:=⟨_,rfl⟩
   rw [← hR2] at HTk hstep hnum
   rw [← hnum] at hstep
   have HSt:=hid hstep
   clear hstep hfm hfr hreal HY hz1 hz2 hR2 hnum hzr hz9
   go_wp2_with fail
   refine (HFm.out _).mono ?_
   rintro e9 w5 ⟨rfl,hk⟩
   have HK:=hid (HK.out.trans hk)
   have HR:=hid (HR.out.keep hk (fun h=>h))
   have HX:=hid (HX.out.keep hk (fun h=>h))
   have HC:=hid (HC.out.keep hk (fun h=>h))
   have HS:=hid (HS.out.keep hk)
   obtain ⟨d0,d1,d2,d3,d4⟩:=room14_at HR.out
   clear hk c0 c1 c2 c3 c4
   go_wp2_with fail
   refine (HFr.out _).mono ?_
   rintro e9 w6 ⟨rfl,hk⟩
   have HK:=hid (HK.out.trans hk)
   have HR:=hid (HR.out.keep hk (fun h=>h))
   have HX:=hid (HX.out.keep hk (fun h=>h))
   have HC:=hid (HC.out.keep hk (fun h=>h))
   have HS:=hid (HS.out.keep hk)
   clear d0 d1 d2 d3 d4
   obtain ⟨d0,d1,d2,d3,d4⟩:=room14_at HR.out
   clear hk
   go_wp2_with fail
   refine (HTk.out _).mono ?_
   rintro e9 wq ⟨rfl,hk⟩
   have HK:=hid (HK.out.trans hk)
   have HR:=hid (HR.out.keep hk (fun h=>h))
   have HX:=hid (HX.out.keep hk (fun h=>h))
   have HC:=hid (HC.out.keep hk (fun h=>h))
   have HS:=hid (HS.out.keep hk)
   clear d0 d1 d2 d3 d4 hk
   obtain ⟨d0,d1,d2,d3,d4⟩:=room14_at HR.out
   obtain ⟨q0,q1,q2,q3,q4⟩:=room_free HR.out
   have hap:=HS.out.apartT HR.out (show 171 ≠ 46 by decide)
   have HS:=hid (HS.out.set5 hap (Nat.le_of_lt HB3.out) (.int .u8 (R2.e:Int)) (.int .u32 (R2.s:Int)) (.int .u64 (R2.num:Int)) (.int .i64 (R2.used:Int)) (.int .i64 (R2.count:Int)))
   have HK:=hid (HK.out.new5 (Nat.le_of_lt HB3.out) (.int .u8 (R2.e:Int)) (.int .u32 (R2.s:Int)) (.int .u64 (R2.num:Int)) (.int .i64 (R2.used:Int)) (.int .i64 (R2.count:Int)))
   have HX:=hid (HX.out.far5 (k:=w2.heap.size) (by have:=HG7.out;omega) (.int .u8 (R2.e:Int)) (.int .u32 (R2.s:Int)) (.int .u64 (R2.num:Int)) (.int .i64 (R2.used:Int)) (.int .i64 (R2.count:Int)))
   have HC:=hid (HC.out.far5 (k:=w2.heap.size) (by have:=HB3.out;omega) (.int .u8 (R2.e:Int)) (.int .u32 (R2.s:Int)) (.int .u64 (R2.num:Int)) (.int .i64 (R2.used:Int)) (.int .i64 (R2.count:Int)))
   have HR:=hid (show Whole _ w2.heap.size 171 (room14Cells R2) from Whole.set5 HR.out (.int .u8 (R2.e:Int)) (.int .u32 (R2.s:Int)) (.int .u64 (R2.num:Int)) (.int .i64 (R2.used:Int)) (.int .i64 (R2.count:Int)))
   obtain ⟨k0,k1,k2,k3,k4⟩:=room14_at HR.out
   obtain ⟨W9,hW9⟩:∃ W,W=((((wq.setCell ⟨w2.heap.size,0,none⟩ (.int .u8 (R2.e:Int))).setCell ⟨w2.heap.size,1,none⟩ (.int .u32 (R2.s:Int))).setCell ⟨w2.heap.size,2,none⟩ (.int .u64 (R2.num:Int))).setCell ⟨w2.heap.size,3,none⟩ (.int .i64 (R2.used:Int))).setCell ⟨w2.heap.size,4,none⟩ (.int .i64 (R2.count:Int)):=⟨_,rfl⟩
   rw [← hW9] at HS HK HX HC HR k0 k1 k2 k3 k4
   have HS2:=hid (HS.out.alloc (.cells #[.int .u64 (R2.num:Int)] 46))
   have HNw:Hid (Whole (W9.alloc (.cells #[.int .u64 (R2.num:Int)] 46)) W9.heap.size 46 #[.int .u64 (R2.num:Int)]):=hid (Whole.new _ _ _)
   have hka:Keeps NoBlock W9 (W9.alloc (.cells #[.int .u64 (R2.num:Int)] 46)):=(Keeps.refl _ _).alloc _
   have HX:=hid (HX.out.keep hka (fun h=>h))
   have HC:=hid (HC.out.keep hka (fun h=>h))
   have HR:=hid (HR.out.keep hka (fun h=>h))
   have HK:=hid (HK.out.trans hka)
   have hp1:=HS2.out.apartT HR.out (show 171 ≠ 46 by decide)
   have hp2:=HS2.out.apartT HX.out (show 171 ≠ 46 by decide)
   have hp3:=HS2.out.apartT HC.out (show 27 ≠ 46 by decide)
   clear hka hap
   go_upto_region 16 with (fail)
   rw [← hW9]
   clear hW9
   go_wp2_with (at_builtin;refine wpList_append_numG rfl _ _ rfl _ O rfl HS2.out W9.heap.size R2.num rfl (HNw.out.cell 0 rfl) hO9 ?_)
   intro v' w10 h10 hg10
   have HR:=hid (HR.out.grown hg10 hp1)
   have HX:=hid (HX.out.grown hg10 hp2)
   have HC:=hid (HC.out.grown hg10 hp3)
   have HK:Hid (Keeps NoBlock w w10):=hid (Keeps.ofBelow h10.2)
   have HS:=hid h10
   clear h10 hg10 hp1 hp2 hp3 k0 k1 k2 k3 k4
   have hJ:=HJ.out
   go_wp2_with fail
   exact ⟨⟨j+1,by omega,by go_num,hid (by rw [HSt.out]),hid (by rw [HSt.out];exact HS.out),by rw [HSt.out];exact HR,HX,HC,HK⟩,by simp [intOf];omega⟩
  ·rw [if_neg hfr] at hstep
   have hfr0:fitsP r z=false:=by simpa using hfr
   rw [hfr0] at HFr
   have wn1:IntKind.u64.wrap ((r.num:Int)+1)=(r.num:Int)+1:=by rw [IntKind.wrap_u64];have:=hreal.small;omega
   have hn65:r.num<65536:=by have:=hreal.small;omega
   by_cases hsn:s≤r.num+1
   ·have HG7b:=hid (HGone.out (j+1) 7 (by decide) (by rw [hstep,if_pos hsn]))
    have g1:decide ((s:Int)≤(r.num:Int)+1)=true:=decide_eq_true (by omega)
    have g2:decide (s≤r.num+1)=true:=decide_eq_true hsn
    clear hstep hfm hfr hfr0 hreal HY hz1 hz2 hzr hz9 hsn
    go_wp2_with fail
    refine (HFm.out _).mono ?_
    rintro e9 w5 ⟨rfl,hk⟩
    have HK:=hid (HK.out.trans hk)
    have HR:=hid (HR.out.keep hk (fun h=>h))
    have HC:=hid (HC.out.keep hk (fun h=>h))
    obtain ⟨d0,d1,d2,d3,d4⟩:=room14_at HR.out
    clear hk c0 c1 c2 c3 c4
    go_wp2_with fail
    refine (HFr.out _).mono ?_
    rintro e9 w6 ⟨rfl,hk⟩
    have HK:=hid (HK.out.trans hk)
    have HR:=hid (HR.out.keep hk (fun h=>h))
    have HC:=hid (HC.out.keep hk (fun h=>h))
    clear d0 d1 d2 d3 d4
    obtain ⟨d0,d1,d2,d3,d4⟩:=room14_at HR.out
    have b0:=HC.out.cell 0 rfl
    have b1:=HC.out.cell 1 rfl
    simp only [confCells,List.getElem_toArray,List.getElem_cons_zero,List.getElem_cons_succ] at b0 b1
    clear hk
    go_wp2_with fail
    exact bodyPost_ret (v:=.tuple #[.slice none 0 0,.int .i64 7]) (by simp [results,Tryz.results68,go_sem]) rfl (PlanPost.gone HG7b.out HK.out)
   ·rw [if_neg hsn] at hstep
    have g1:decide ((s:Int)≤(r.num:Int)+1)=false:=decide_eq_false (by omega)
    have g2:decide (s≤r.num+1)=false:=decide_eq_false hsn
    have hm2:mayHead e s (r.num+1)=true:=mayHead_true.2 ⟨m1,m2,m3,m4,by omega⟩
    have hre2:=real_empty hm2
    have HEn:=hid (HE.out (r.num+1) (by omega))
    rw [show ((r.num+1:Nat):Int)=(r.num:Int)+1 by omega] at HEn
    have hnum:(takeP (emptyP e s (r.num+1)) z).num=r.num+1:=rfl
    obtain ⟨R1,hR1⟩:∃ R1,R1=emptyP e s (r.num+1):=⟨_,rfl⟩
    rw [← hR1] at HEn hre2 hstep hnum
    have HTk:=hid (fun w=>HT.out R1 z w hre2 hz1 hz9)
    obtain ⟨R2,hR2⟩:∃ R2,R2=takeP R1 z:=⟨_,rfl⟩
    rw [← hR2] at HTk hstep hnum
    rw [← hnum] at hstep
    have HSt:=hid hstep
    clear hstep hfm hfr hfr0 hreal HY hz1 hz2 hR1 hR2 hnum hzr hz9 hsn hm2 hre2
    go_wp2_with fail
    refine (HFm.out _).mono ?_
    rintro e9 w5 ⟨rfl,hk⟩
    have HK:=hid (HK.out.trans hk)
    have HR:=hid (HR.out.keep hk (fun h=>h))
    have HX:=hid (HX.out.keep hk (fun h=>h))
    have HC:=hid (HC.out.keep hk (fun h=>h))
    have HS:=hid (HS.out.keep hk)
    obtain ⟨d0,d1,d2,d3,d4⟩:=room14_at HR.out
    clear hk c0 c1 c2 c3 c4
    go_wp2_with fail
    refine (HFr.out _).mono ?_
    rintro e9 w6 ⟨rfl,hk⟩
    have HK:=hid (HK.out.trans hk)
    have HR:=hid (HR.out.keep hk (fun h=>h))
    have HX:=hid (HX.out.keep hk (fun h=>h))
    have HC:=hid (HC.out.keep hk (fun h=>h))
    have HS:=hid (HS.out.keep hk)
    clear d0 d1 d2 d3 d4
    obtain ⟨d0,d1,d2,d3,d4⟩:=room14_at HR.out
    have b0:=HC.out.cell 0 rfl
    have b1:=HC.out.cell 1 rfl
    simp only [confCells,List.getElem_toArray,List.getElem_cons_zero,List.getElem_cons_succ] at b0 b1
    clear hk
    go_wp2_with fail
    refine (HEn.out _).mono ?_
    rintro e9 w7 ⟨rfl,hk⟩
    have HK:=hid (HK.out.trans hk)
    have HR:=hid (HR.out.keep hk (fun h=>h))
    have HX:=hid (HX.out.keep hk (fun h=>h))
    have HC:=hid (HC.out.keep hk (fun h=>h))
    have HS:=hid (HS.out.keep hk)
    clear d0 d1 d2 d3 d4 b0 b1 hk
    obtain ⟨d0,d1,d2,d3,d4⟩:=room14_at HR.out
    obtain ⟨q0,q1,q2,q3,q4⟩:=room_free HR.out
    have hap:=HS.out.apartT HR.out (show 171 ≠ 46 by decide)
    have HS:=hid (HS.out.set5 hap (Nat.le_of_lt HB3.out) (.int .u8 (R1.e:Int)) (.int .u32 (R1.s:Int)) (.int .u64 (R1.num:Int)) (.int .i64 (R1.used:Int)) (.int .i64 (R1.count:Int)))
    have HK:=hid (HK.out.new5 (Nat.le_of_lt HB3.out) (.int .u8 (R1.e:Int)) (.int .u32 (R1.s:Int)) (.int .u64 (R1.num:Int)) (.int .i64 (R1.used:Int)) (.int .i64 (R1.count:Int)))
    have HX:=hid (HX.out.far5 (k:=w2.heap.size) (by have:=HG7.out;omega) (.int .u8 (R1.e:Int)) (.int .u32 (R1.s:Int)) (.int .u64 (R1.num:Int)) (.int .i64 (R1.used:Int)) (.int .i64 (R1.count:Int)))
    have HC:=hid (HC.out.far5 (k:=w2.heap.size) (by have:=HB3.out;omega) (.int .u8 (R1.e:Int)) (.int .u32 (R1.s:Int)) (.int .u64 (R1.num:Int)) (.int .i64 (R1.used:Int)) (.int .i64 (R1.count:Int)))
    have HR:=hid (show Whole _ w2.heap.size 171 (room14Cells R1) from Whole.set5 HR.out (.int .u8 (R1.e:Int)) (.int .u32 (R1.s:Int)) (.int .u64 (R1.num:Int)) (.int .i64 (R1.used:Int)) (.int .i64 (R1.count:Int)))
    obtain ⟨k0,k1,k2,k3,k4⟩:=room14_at HR.out
    clear hap
    go_wp2_with fail
    refine (HTk.out _).mono ?_
    rintro e9 wq ⟨rfl,hk⟩
    have HK:=hid (HK.out.trans hk)
    have HR:=hid (HR.out.keep hk (fun h=>h))
    have HX:=hid (HX.out.keep hk (fun h=>h))
    have HC:=hid (HC.out.keep hk (fun h=>h))
    have HS:=hid (HS.out.keep hk)
    clear d0 d1 d2 d3 d4 q0 q1 q2 q3 q4 k0 k1 k2 k3 k4 hk
    obtain ⟨d0,d1,d2,d3,d4⟩:=room14_at HR.out
    obtain ⟨q0,q1,q2,q3,q4⟩:=room_free HR.out
    have hap:=HS.out.apartT HR.out (show 171 ≠ 46 by decide)
    have HS:=hid (HS.out.set5 hap (Nat.le_of_lt HB3.out) (.int .u8 (R2.e:Int)) (.int .u32 (R2.s:Int)) (.int .u64 (R2.num:Int)) (.int .i64 (R2.used:Int)) (.int .i64 (R2.count:Int)))
    have HK:=hid (HK.out.new5 (Nat.le_of_lt HB3.out) (.int .u8 (R2.e:Int)) (.int .u32 (R2.s:Int)) (.int .u64 (R2.num:Int)) (.int .i64 (R2.used:Int)) (.int .i64 (R2.count:Int)))
    have HX:=hid (HX.out.far5 (k:=w2.heap.size) (by have:=HG7.out;omega) (.int .u8 (R2.e:Int)) (.int .u32 (R2.s:Int)) (.int .u64 (R2.num:Int)) (.int .i64 (R2.used:Int)) (.int .i64 (R2.count:Int)))
    have HC:=hid (HC.out.far5 (k:=w2.heap.size) (by have:=HB3.out;omega) (.int .u8 (R2.e:Int)) (.int .u32 (R2.s:Int)) (.int .u64 (R2.num:Int)) (.int .i64 (R2.used:Int)) (.int .i64 (R2.count:Int)))
    have HR:=hid (show Whole _ w2.heap.size 171 (room14Cells R2) from Whole.set5 HR.out (.int .u8 (R2.e:Int)) (.int .u32 (R2.s:Int)) (.int .u64 (R2.num:Int)) (.int .i64 (R2.used:Int)) (.int .i64 (R2.count:Int)))
    obtain ⟨k0,k1,k2,k3,k4⟩:=room14_at HR.out
    obtain ⟨W9,hW9⟩:∃ W,W=((((wq.setCell ⟨w2.heap.size,0,none⟩ (.int .u8 (R2.e:Int))).setCell ⟨w2.heap.size,1,none⟩ (.int .u32 (R2.s:Int))).setCell ⟨w2.heap.size,2,none⟩ (.int .u64 (R2.num:Int))).setCell ⟨w2.heap.size,3,none⟩ (.int .i64 (R2.used:Int))).setCell ⟨w2.heap.size,4,none⟩ (.int .i64 (R2.count:Int)):=⟨_,rfl⟩
    rw [← hW9] at HS HK HX HC HR k0 k1 k2 k3 k4
    have HS2:=hid (HS.out.alloc (.cells #[.int .u64 (R2.num:Int)] 46))
    have HNw:Hid (Whole (W9.alloc (.cells #[.int .u64 (R2.num:Int)] 46)) W9.heap.size 46 #[.int .u64 (R2.num:Int)]):=hid (Whole.new _ _ _)
    have hka:Keeps NoBlock W9 (W9.alloc (.cells #[.int .u64 (R2.num:Int)] 46)):=(Keeps.refl _ _).alloc _
    have HX:=hid (HX.out.keep hka (fun h=>h))
    have HC:=hid (HC.out.keep hka (fun h=>h))
    have HR:=hid (HR.out.keep hka (fun h=>h))
    have HK:=hid (HK.out.trans hka)
    have hp1:=HS2.out.apartT HR.out (show 171 ≠ 46 by decide)
    have hp2:=HS2.out.apartT HX.out (show 171 ≠ 46 by decide)
    have hp3:=HS2.out.apartT HC.out (show 27 ≠ 46 by decide)
    clear hka hap
    go_upto_region 16 with (fail)
    rw [← hW9]
    clear hW9
    go_wp2_with (at_builtin;refine wpList_append_numG rfl _ _ rfl _ O rfl HS2.out W9.heap.size R2.num rfl (HNw.out.cell 0 rfl) hO9 ?_)
    intro v' w10 h10 hg10
    have HR:=hid (HR.out.grown hg10 hp1)
    have HX:=hid (HX.out.grown hg10 hp2)
    have HC:=hid (HC.out.grown hg10 hp3)
    have HK:Hid (Keeps NoBlock w w10):=hid (Keeps.ofBelow h10.2)
    have HS:=hid h10
    clear h10 hg10 hp1 hp2 hp3 k0 k1 k2 k3 k4
    have hJ:=HJ.out
    go_wp2_with fail
    exact ⟨⟨j+1,by omega,by go_num,hid (by rw [HSt.out]),hid (by rw [HSt.out];exact HS.out),by rw [HSt.out];exact HR,HX,HC,HK⟩,by simp [intOf];omega⟩
end
end Go.Proofs.YtehkjkcnigknkaaGreat

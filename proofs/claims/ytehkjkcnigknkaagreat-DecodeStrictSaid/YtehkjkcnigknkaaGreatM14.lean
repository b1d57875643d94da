/-
  RecsOwn; SgFrames; SgErased; FenText; FtRef; SgText.
-/
import Derived.OwnWalk
import Derived.IntWalk
import Derived.Lib.Hide
import Derived.Test.YtehkjkcnigknkaaGreatM02
import Derived.Test.YtehkjkcnigknkaaGreatM03
import Derived.Test.YtehkjkcnigknkaaGreatM04
import Derived.Test.YtehkjkcnigknkaaGreatM07
import Derived.Test.YtehkjkcnigknkaaGreatM09
import Derived.Test.YtehkjkcnigknkaaGreatM10
import Derived.Test.YtehkjkcnigknkaaGreatM13
namespace Go.Proofs.YtehkjkcnigknkaaGreat
open Lib (hid)
section
open Go.RowKit
theorem infoRc:(Tryz.prog.info? 48).map (fun i=>(i.zero,i.size,i.bytes))=some (some (.agg #[.bool false,.int .u64 0,.string ⟨#[]⟩,.string ⟨#[]⟩]),4,48):=by kernel_rfl
def rcFour (r:Rec):List Value:=[.bool r.del,.int .u64 (r.seq:Int),.string (strOfNums r.key),.string (strOfNums r.val)]
def rcFlat (l:List Rec):List Value:=l.flatMap rcFour
theorem rcFlat_len (l:List Rec):(rcFlat l).length=l.length*4:=by
 induction l with
 | nil=>rfl
 | cons r l ih =>
  rw [rcFlat,List.flatMap_cons,List.length_append,← rcFlat,ih]
  simp [rcFour]
  omega
theorem rcFlat_append (a b:List Rec):rcFlat (a ++ b)=rcFlat a ++ rcFlat b:=List.flatMap_append
theorem rcFlat_at:∀ (l:List Rec) (i j:Nat),i<l.length→j<4→(rcFlat l)[i*4+j]?=(rcFour (l.getD i Rec.none))[j]?
 | [],i,j,h,_=>by simp at h
 | r :: l,0,j,_,hj=>by
  rw [rcFlat,List.flatMap_cons,List.getElem?_append_left (by simp [rcFour];omega)]
  simp
 | r :: l,i+1,j,h,hj=>by
  rw [rcFlat,List.flatMap_cons,List.getElem?_append_right (by simp [rcFour];omega),← rcFlat]
  have e:(i+1)*4+j - (rcFour r).length=i*4+j:=by simp [rcFour];omega
  rw [e,rcFlat_at l i j (by simpa using h) hj]
  simp
theorem RecsAt.nil (w:World) (p:Option Addr):RecsAt w p []:=fun i hi=>by simp at hi
def NewRecs (w:World) (l:List Rec) (v:Value) (w':World):Prop :=
 ∃ (q:Option Addr) (m d:Nat),v=.slice q m d∧m=l.length∧m≤d∧d≤9223372036854775807∧(q=none→m=0∧d=0)∧RecsAt w' q l∧Keeps NoBlock w w'
def RecsSoFar (w0:World) (l:List Rec) (v:Value) (wr:World):Prop:=wr.ownsRow w0.heap.size 48 4 v l.length (rcFlat l)∧Below w0.heap.size w0 wr
theorem RecsSoFar.start (w0:World):RecsSoFar w0 [] (.slice none 0 0) w0:=⟨⟨by simp [rcFlat],.inl ⟨rfl,rfl⟩⟩,Below.refl _ _⟩
theorem RecsSoFar.alloc {w0 wr:World} {l:List Rec} {v:Value} (h:RecsSoFar w0 l v wr) (o:Obj):RecsSoFar w0 l v (wr.alloc o):=⟨World.ownsRow.alloc h.1 o,h.2.alloc h.2.size o⟩
theorem RecsSoFar.keep {w0 wr w':World} {l:List Rec} {v:Value} (h:RecsSoFar w0 l v wr) (hk:Keeps NoBlock wr w'):RecsSoFar w0 l v w':=by
 refine ⟨⟨h.1.1,?_⟩,h.2.trans (hk.below h.2.size (fun _ _ h=>h))⟩
 rcases h.1.2 with hn|⟨g,cap,cur,rfl,hb,hgg,rest⟩
 ·exact .inl hn
 ·have hlt:g<wr.heap.size:=(Array.getElem?_eq_some_iff.1 hgg).1
  exact .inr ⟨g,cap,cur,rfl,hb,(hk.block g hlt (fun h=>h)).trans hgg,rest⟩
theorem RecsSoFar.keeps {w0 wr:World} {l:List Rec} {v:Value} (h:RecsSoFar w0 l v wr):Keeps NoBlock w0 wr:=.ofBelow h.2
theorem RecsSoFar.new {w0 wr:World} {l:List Rec} {v:Value} (h:RecsSoFar w0 l v wr):NewRecs w0 l v wr:=by
 have h':=h.1
 rcases h.1 with ⟨_,⟨rfl,h0⟩|⟨g,cap,cur,rfl,hg,hh,hc1,hc2,hc3,hc4⟩⟩
 ·obtain rfl:l=[]:=List.length_eq_zero_iff.1 h0
  exact ⟨none,0,0,rfl,rfl,Nat.le_refl _,by decide,fun _=>⟨rfl,rfl⟩,RecsAt.nil _ _,h.keeps⟩
 ·refine ⟨_,_,cap,rfl,rfl,hc1,by unfold maxLen at hc2;omega,fun h=>by simp at h,fun i hi=>?_,h.keeps⟩
  have hc:=h'.cells (g:=g) rfl
  have ha:∀ j u,j<4→(rcFour (l.getD i Rec.none))[j]?=some u→wr.cell? ⟨g,i*4+j,none⟩=some u:=fun j u hj hu=>by
   have:=hc (i*4+j) u (by rw [rcFlat_at l i j hi hj];exact hu)
   rw [Addr.add_lit,Nat.zero_add] at this
   exact this
  refine ⟨⟨g,0,none⟩,rfl,?_⟩
  simp only [Addr.add_lit,Nat.zero_add]
  exact ⟨ha 0 _ (by decide) rfl,ha 1 _ (by decide) rfl,ha 2 _ (by decide) rfl,ha 3 _ (by decide) rfl⟩
theorem wpList_append_rec {w w0:World} {ops:Array Oper} {rest:List Oper} {o:Oper} {a:Act} {Q:Exit→Act→World→Prop} (hgd:o.guard=none) (s x:Operand)
  (ho:o.op=.call { callee:=.builtin .append,args:=#[s,x],argTypes:=#[22,22] })
  (v:Value) (l:List Rec) (hs:a.eval s=v) (hown:RecsSoFar w0 l v w) (g:Nat) (r:Rec) (hx:a.eval x=.slice (some ⟨g,0,none⟩) 1 1)
  (hg:Whole w g 48 (recCells r)) (hroom:l.length≤1000000000)
  (h:∀ v' w',RecsSoFar w0 (l ++ [r]) v' w'→w.grownBy w' v.ownBlock→wpList Tryz.prog ops Q rest (a.put o.dst v') w'):wpList Tryz.prog ops Q (o :: rest) a w:=by
 obtain ⟨i0,hi,hz0,hz1,hz2⟩:=info_parts infoRc
 refine wpList_append_own w hgd s x 22 ho w0.heap.size 48 i0 (.agg #[.bool false,.int .u64 0,.string ⟨#[]⟩,.string ⟨#[]⟩]) 4 48 Tryz.underlying22 hi hz0 hz1 hz2 rfl (by decide) v l.length (rcFlat l) hs hown.1 ⟨g,0,none⟩ 1 1 (rcFour r) hx rfl ?_ ?_ (by unfold maxLen;omega) (by omega) hown.2.size ?_
 ·intro j u hj
  rw [Addr.add_lit,Nat.zero_add]
  match j,hj with
  | 0,hj=>obtain rfl:=Option.some.inj hj;exact hg.cell 0 rfl
  | 1,hj=>obtain rfl:=Option.some.inj hj;exact hg.cell 1 rfl
  | 2,hj=>obtain rfl:=Option.some.inj hj;exact hg.cell 2 rfl
  | 3,hj=>obtain rfl:=Option.some.inj hj;exact hg.cell 3 rfl
  | k+4,hj=>simp [rcFour] at hj
 ·intro u hu
  simp only [rcFour,List.mem_cons,List.not_mem_nil,or_false] at hu
  rcases hu with rfl|rfl|rfl|rfl <;> rfl
 ·intro v' w' h2 h3 _
  refine h v' w' ⟨?_,hown.2.trans ((Below.refl _ w).grown h3 hown.2.size (fun k hk=>own_from hown.1 hk))⟩ h3
  rw [rcFlat_append,List.length_append,show rcFlat [r]=rcFour r by simp [rcFlat]]
  exact h2
end
section
open Go.RowKit
theorem entsGo_snoc:∀ (l:List Rec) (k:Nat) (r:Rec),entsGo k (l ++ [r])=entsGo k l ++ [⟨(wxxh 0 r.key).toNat,k+(recsB l).length⟩]
 | [],k,r=>by simp [entsGo,recsB]
 | x :: l,k,r=>by
  rw [List.cons_append,entsGo,entsGo_snoc l _ r,entsGo]
  have e:recsB (x :: l)=recB x ++ recsB l:=by unfold recsB;rw [List.flatMap_cons]
  rw [e,List.length_append,Nat.add_assoc]
  rfl
theorem entsS_snoc (e s n:Nat) (l:List Rec) (r:Rec):entsS e s n (l ++ [r])=entsS e s n l ++ [⟨(wxxh 0 r.key).toNat,(outS e s n l).length⟩]:=by
 unfold entsS
 rw [entsGo_snoc]
 unfold outS headLen
 rw [List.length_append]
theorem outS_le (e s n:Nat) (l m:List Rec):(outS e s n l).length≤(outS e s n (l ++ m)).length:=by
 unfold outS recsB
 rw [List.flatMap_append,← List.append_assoc]
 simp only [List.length_append]
 omega
structure SegIn (e s n:Nat) (l:List Rec):Prop where
 e8:e<256
 s32:s<4294967296
 n64:n<18446744073709551616
 fine:∀ r ∈ l,r.Fine
 key:∀ r ∈ l,r.key.length≤2000000
 val:∀ r ∈ l,r.val.length≤2000000
 few:l.length≤100000
 long:(outS e s n l).length≤100000000
theorem SegIn.take {e s n:Nat} {l:List Rec} (h:SegIn e s n l) (j:Nat):SegIn e s n (l.take j) :=
 ⟨h.e8,h.s32,h.n64,fun r hr=>h.fine r (List.mem_of_mem_take hr),fun r hr=>h.key r (List.mem_of_mem_take hr),fun r hr=>h.val r (List.mem_of_mem_take hr),by have:=h.few;rw [List.length_take];omega,by
  have h1:=outS_le e s n (l.take j) (l.drop j)
  rw [List.take_append_drop] at h1
  have:=h.long
  omega⟩
theorem sizeN_bound (n:Nat):sizeN n≤2*n+20:=by
 unfold sizeN mostOf
 split <;> omega
set_option maxHeartbeats 4000000 in
set_option maxRecDepth 10000 in
theorem frames15_ref (e s n:Nat) (p:Option Addr) (m c:Nat) (l:List Rec) (hi:SegIn e s n l) (hm:m=l.length) (w:World) (hl:RecsAt w p l) :
  Calls Tryz.prog 26 #[confV e s,.int .u64 (n:Int),.slice p m c] w fun r w'=>∃ v,r=.returned (.tuple #[.string (strOfNums (outS e s n l)),v])∧NewEns w (sortE (entsS e s n l)) v w':=by
 obtain ⟨i0,hi0,hz0,hz1,hz2⟩:=info_parts infoEnR
 have HHd:=hid (fun w=>head9_ref e s n hi.e8 hi.s32 hi.n64 w)
 have HSo:=hid (fun q d w h=>sorted11_ref q (entsS e s n l).length d (entsS e s n l) rfl (by unfold entsS;rw [entsGo_length];have:=hi.few;omega) w h)
 have HI:=hid hi
 have HL:=hid hl
 have HM:=hid hm
 have HW0:=hid (Whole.new w 27 (confCells e s))
 have hm9:m≤100000:=by have:=hi.few;omega
 rw [← outS_nil e s n] at HHd
 clear hi hl hm
 unfold confV at *
 go_enter Tryz.func26,Tryz.ntmps26
 go_wp2_with fail
 refine (HHd.out _).mono ?_
 rintro e1 w1 ⟨rfl,hk⟩
 have HK:=hid (((Keeps.refl NoBlock w).alloc (.cells #[.int .u8 (e:Int),.int .u32 (s:Int)] 27)).trans hk)
 clear hk HHd HW0
 go_wp2_with fail
 go_loopw [8,9,17] (fun o t i wr=>∃ j:Nat,j≤m∧i=.int .i64 (j:Int)∧o=.string (strOfNums (outS e s n (l.take j)))∧Hid (TwosSoFar enH enA 105 w (entsS e s n (l.take j)) t wr)) (fun _ _ i _=>m - (intOf i).toNat)
 case atStart=>exact ⟨0,Nat.zero_le _,rfl,by simp,hid (by
  have h:=TwosSoFar.start (v0:=enH) (v1:=enA) (t:=105) w
  exact h.keep HK.out)⟩
 case round =>
  obtain ⟨j,hj,rfl,rfl,HS⟩:=hrel
  by_cases hlt:j<m
  ·have hdj:decide ((j:Int)<(m:Int))=true:=decide_eq_true (by omega)
   have hjl:j<l.length:=by rw [← HM.out];exact hlt
   obtain ⟨a,rfl,c0,c1,c2,c3⟩:=(HL.out.keep HS.out.keeps (fun _ _ h=>h)) j hjl
   have hmem:l.getD j Rec.none ∈ l:=by simp [hjl]
   have HT:Hid (l.take (j+1)=l.take j ++ [l.getD j Rec.none]):=hid (by rw [List.take_succ_eq_append_getElem hjl];simp [hjl])
   have HIj:=hid (HI.out.take j)
   have HFi:=hid (HI.out.fine _ hmem)
   have HKy:=hid (HI.out.key _ hmem)
   have HVa:=hid (HI.out.val _ hmem)
   obtain ⟨r,hr⟩:∃ r,r=l.getD j Rec.none:=⟨_,rfl⟩
   rw [← hr] at c0 c1 c2 c3 HT HFi HKy HVa
   clear hr hmem hjl
   have HRec:=hid (fun w=>record9_ref r HFi.out HKy.out HVa.out w)
   have HSum:=hid (fun w=>wsum_ref 0 r.key (by unfold U64;omega) HFi.out.key (by have:=HKy.out;omega) w)
   have HO2:Hid (outS e s n (l.take j) ++ sealN (bodyR r)=outS e s n (l.take (j+1))):=hid (by rw [HT.out,outS_snoc];rfl)
   have HE2:Hid (entsS e s n (l.take j) ++ [⟨(wxxh 0 r.key).toNat,(outS e s n (l.take j)).length⟩]=entsS e s n (l.take (j+1))):=hid (by rw [HT.out,entsS_snoc])
   have hlong:=HIj.out.long
   have hfew:(entsS e s n (l.take j)).length≤100000:=by unfold entsS;rw [entsGo_length,List.length_take];omega
   obtain ⟨H,hH⟩:∃ H,H=(wxxh 0 r.key).toNat:=⟨_,rfl⟩
   have hHi:wxxh 0 r.key=(H:Int):=by have:=wxxh_u64 0 r.key;unfold U64 at this;omega
   rw [hHi] at HSum
   rw [← hH] at HE2
   clear hH hHi
   obtain ⟨O,hO⟩:∃ O,O=outS e s n (l.take j):=⟨_,rfl⟩
   obtain ⟨E,hE⟩:∃ E,E=entsS e s n (l.take j):=⟨_,rfl⟩
   rw [← hO] at HO2 HE2 hlong ⊢
   rw [← hE] at HE2 HS hfew
   clear hO hE
   obtain ⟨R,hR⟩:∃ R,R=sealN (bodyR r):=⟨_,rfl⟩
   have hRl:R.length≤100000000:=by
    have h1:=bodyR_length HFi.out HKy.out HVa.out
    have h2:=HI.out.take (j+1)
    have h3:=h2.long
    rw [← HO2.out,List.length_append] at h3
    rw [hR]
    have h4:=(seal_length (bodyR r)).2
    have h5:=sizeN_bound (bodyR r).length
    have h6:=HKy.out
    have h7:=HVa.out
    omega
   rw [← hR] at HRec HO2
   clear hR
   obtain ⟨O2,hO2⟩:∃ O2,O2=outS e s n (l.take (j+1)):=⟨_,rfl⟩
   obtain ⟨E2,hE2⟩:∃ E2,E2=entsS e s n (l.take (j+1)):=⟨_,rfl⟩
   rw [← hO2] at HO2
   rw [← hE2] at HE2
   have HO3:=hid hO2
   have HE3:=hid hE2
   clear hO2 hE2 HT HIj HFi HKy HVa
   have z1:=str_size O
   have z2:=str_size R
   have hap:=str_append O R
   rw [HO2.out] at hap
   have hu:IntKind.u32.wrap ((O.length:Nat):Int)=((O.length:Nat):Int):=by rw [IntKind.wrap_u32];omega
   have r1:¬ 9223372036854775807<O.length+R.length:=by omega
   obtain ⟨N,hN⟩:∃ N,N=O.length:=⟨_,rfl⟩
   rw [← hN] at z1 hu r1 HE2
   have HLg:=hid hlong
   clear hN hlong hRl
   have HBox:=hid (Whole.new wr 48 (recCells r))
   have HS1:=hid (HS.out.alloc (.cells (recCells r) 48))
   unfold recV at HRec
   clear HS
   go_wp2_with fail
   refine (HSum.out _).mono ?_
   rintro e2 w2 ⟨rfl,hk⟩
   have HS2:=hid (HS1.out.keep hk)
   have HBox2:=hid (HBox.out.keep hk (fun h=>h))
   clear hk HS1 HBox
   have HEn:=hid (Whole.new w2 105 (enCells ⟨H,N⟩))
   have HS3:=hid (HS2.out.alloc (.cells (enCells ⟨H,N⟩) 105))
   have HBox3:=hid (HBox2.out.alloc (.cells (enCells ⟨H,N⟩) 105))
   have HAp:=hid (own_apart (by decide) HS3.out.1 HBox3.out)
   clear HS2 HBox2
   go_wp2_with (at_builtin;refine wpList_append_twoG rfl _ _ 72 rfl 105 i0 (.agg #[.int .u64 0,.int .u32 0]) 16 Tryz.underlying72 hi0 hz0 hz1 hz2 rfl _ _ rfl HS3.out w2.heap.size ⟨H,N⟩ rfl (HEn.out.cell 0 rfl) (HEn.out.cell 1 rfl) rfl rfl (by omega) (by omega) ?_)
   intro v5 w5 h5 g5
   have HBox5:=hid (HBox3.out.grown g5 HAp.out)
   rw [HE2.out] at h5
   have HS5:=hid h5
   obtain ⟨b0,b1,b2,b3⟩:=RecAt.ofWhole HBox5.out
   clear h5 g5 HS3 HBox3 HAp HEn
   go_wp2_with fail
   refine (HRec.out _).mono ?_
   rintro e6 w6 ⟨rfl,hk⟩
   have HS6:=hid (HS5.out.keep hk)
   clear hk
   go_wp2_with fail
   exact ⟨⟨j+1,by omega,by go_num,by rw [HO3.out],hid (by rw [← HE3.out];exact HS6.out)⟩,by simp [intOf];omega⟩
  ·have hdj:decide ((j:Int)<(m:Int))=false:=decide_eq_false (by omega)
   have hjl:l.take j=l:=List.take_of_length_le (by rw [← HM.out];omega)
   rw [hjl] at HS ⊢
   obtain ⟨q,k,d,rfl,hk1,hk2,hk3,hq,hat,hkk⟩:=HS.out.new (dd:=En.none)
   subst hk1
   have HSd:=hid (HSo.out q d wr hat)
   have HK2:=hid hkk
   clear hat hkk hq hk2 hk3 HS
   obtain ⟨M,hM⟩:∃ M,M=(entsS e s n l).length:=⟨_,rfl⟩
   rw [← hM] at HSd ⊢
   obtain ⟨S,hS⟩:∃ S,S=sortE (entsS e s n l):=⟨_,rfl⟩
   rw [← hS] at HSd
   have HSe:=hid hS
   clear hM hS
   obtain ⟨O,hO⟩:∃ O,O=outS e s n l:=⟨_,rfl⟩
   have HOe:=hid hO
   rw [← hO]
   clear hO
   go_wp2_with fail
   refine HSd.out.mono ?_
   rintro e7 w7 ⟨v,rfl,q2,k2,d2,rfl,h1,h2,h3,h4,h5,h6⟩
   have HKf:=hid (HK2.out.trans h6)
   have HAt:=hid h5
   have HC:=hid (And.intro h1 (And.intro h2 (And.intro h3 h4)))
   clear h1 h2 h3 h4 h5 h6
   go_wp2_with fail
   refine bodyPost_ret (results_tmp2 rfl _ _ _) rfl ?_
   obtain ⟨h1,h2,h3,h4⟩:=HC.out
   refine ⟨_,by rw [← HOe.out];rfl,_,_,_,rfl,?_,h2,h3,h4,?_,HKf.out⟩
   ·rw [← HSe.out];exact h1
   ·rw [← HSe.out];exact HAt.out
end
section
open Go.RowKit
def ErasedTo (wr:World) (g n j:Nat):Prop:=∃ cur,Whole wr g 5 cur∧cur.size=n∧∀ i,i<j→cur[i]?=some (.int .u8 255)
theorem ErasedTo.cell {wr:World} {g n j:Nat} (h:ErasedTo wr g n j) (i:Nat) (hi:i<n):∃ v,wr.cell? ⟨g,i,none⟩=some v:=by
 obtain ⟨cur,hw,hs,_⟩:=h
 exact ⟨cur[i]'(by omega),hw.cell i (by rw [Array.getElem?_eq_getElem])⟩
theorem ErasedTo.free {wr:World} {g n j:Nat} (h:ErasedTo wr g n j) (i:Nat):wr.frozen? ⟨g,i,none⟩=false:=by
 obtain ⟨cur,hw,_⟩:=h
 exact hw.free i
theorem ErasedTo.step {wr:World} {g n j:Nat} (h:ErasedTo wr g n j) (hj:j<n):ErasedTo (wr.setCell ⟨g,j,none⟩ (.int .u8 255)) g n (j+1):=by
 obtain ⟨cur,hw,hs,hc⟩:=h
 refine ⟨_,hw.set j _,by simpa using hs,fun i hi=>?_⟩
 by_cases e:i=j
 ·subst e
  rw [Array.getElem?_setIfInBounds_self_of_lt (by omega)]
 ·rw [Array.getElem?_setIfInBounds_ne (by omega)]
  exact hc i (by omega)
theorem ErasedTo.bytes {wr:World} {g n:Nat} (h:ErasedTo wr g n n):Bytes8 wr (some ⟨g,0,none⟩) (List.replicate n 255):=by
 obtain ⟨cur,hw,hs,hc⟩:=h
 intro hx
 refine ⟨_,rfl,fun i hi=>?_⟩
 rw [List.length_replicate] at hi
 rw [Addr.add_lit,Nat.zero_add,hw.cell i (hc i hi)]
 simp [hi]
set_option maxHeartbeats 2000000 in
set_option maxRecDepth 10000 in
theorem erased15_ref (z:Int) (h1:-9223372036854775808≤z) (h2:z≤20000000) (w:World) :
  Calls Tryz.prog 28 #[.int .i64 z] w fun e w'=>e=.returned (.string (strOfNums (List.replicate z.toNat 255)))∧Keeps NoBlock w w':=by
 obtain ⟨i0,hi,hz0,hz1,hz2⟩:=info_parts infoByte
 by_cases hz:z≤0
 ·rw [show z.toNat=0 by omega]
  have d1:decide (z≤0)=true:=decide_eq_true hz
  have d2:decide (0<z)=false:=decide_eq_false (by omega)
  have d3:¬ 0<z:=by omega
  have HT:=hid (fun (g:Nat) (w:World) h=>textOf (some ⟨g,0,none⟩) 0 0 [] w rfl h)
  go_enter Tryz.func28,Tryz.ntmps28
  go_wp2_with (at_make;refine wpList_make_full _ rfl _ _ 29 rfl w.heap.size 5 i0 (.int .u8 0) 1 Tryz.underlying29 hi hz0 hz1 .i64 .i64 (0:Int) (0:Int) 0 rfl rfl rfl rfl (by rw [hz2];omega) (by unfold maxLen;omega) (Nat.le_refl _) ?_)
  intro w2 hown hgrow
  have hkk:Keeps NoBlock w w2:=(Keeps.refl NoBlock w).grown hgrow (fun k hk=>by simp at hk)
  have hE:ErasedTo w2 w.heap.size 0 0:=by
   rcases hown with ⟨_,⟨h0,_⟩|⟨g',cap,cur,hv,hb,hg,h1,h2,h3,h4⟩⟩
   ·simp at h0
   ·simp only [Value.slice.injEq,Option.some.injEq,Addr.mk.injEq,and_true,true_and] at hv
    obtain ⟨rfl,rfl⟩:=hv
    exact ⟨cur,hg,by omega,fun i hi=>by omega⟩
  obtain ⟨g,hg⟩:∃ g,g=w.heap.size:=⟨_,rfl⟩
  rw [← hg] at hE ⊢
  have HG:=hid (show w.heap.size≤g by omega)
  have HE:=hid hE
  have HK:=hid hkk
  clear hown hgrow hkk hE hg
  go_wp2_with fail
  refine wp_loop_rounds 1 ?_
  rw [rounds_succ]
  have ht:=HT.out g w2 (Bytes8.nil _ _)
  go_wp2_with fail
  go_ret
  exact ⟨rfl,HK.out⟩
 ·obtain ⟨n,rfl⟩:∃ n:Nat,z=(n:Int):=⟨z.toNat,by omega⟩
  rw [Int.toNat_natCast]
  have hn9:n≤20000000:=by omega
  have d2:decide (0<(n:Int))=true:=decide_eq_true (by omega)
  have d3:(0:Int)<(n:Int):=by omega
  have d4:0<n:=by omega
  have HT:=hid (fun (g:Nat) (w:World) h=>textOf (some ⟨g,0,none⟩) n n (List.replicate n 255) w (by simp) h)
  go_enter Tryz.func28,Tryz.ntmps28
  go_wp2_with (at_make;refine wpList_make_full _ rfl _ _ 29 rfl w.heap.size 5 i0 (.int .u8 0) 1 Tryz.underlying29 hi hz0 hz1 .i64 .i64 (n:Int) (n:Int) n rfl rfl rfl rfl (by rw [hz2];omega) (by unfold maxLen;omega) (Nat.le_refl _) ?_)
  intro w2 hown hgrow
  have hkk:Keeps NoBlock w w2:=(Keeps.refl NoBlock w).grown hgrow (fun k hk=>by simp at hk)
  have hE:ErasedTo w2 w.heap.size n 0:=by
   rcases hown with ⟨_,⟨h0,_⟩|⟨g',cap,cur,hv,hb,hg,h1,h2,h3,h4⟩⟩
   ·simp at h0
   ·simp only [Value.slice.injEq,Option.some.injEq,Addr.mk.injEq,and_true,true_and] at hv
    obtain ⟨rfl,rfl⟩:=hv
    exact ⟨cur,hg,by omega,fun i hi=>by omega⟩
  obtain ⟨g,hg⟩:∃ g,g=w.heap.size:=⟨_,rfl⟩
  rw [← hg] at hE ⊢
  have HG:=hid (show w.heap.size≤g by omega)
  have HE:=hid hE
  have HK:=hid hkk
  clear hown hgrow hkk hE hg
  go_wp2_with fail
  go_loopw [10] (fun i wr=>∃ j:Nat,j≤n∧i=.int .i64 (j:Int)∧Hid (ErasedTo wr g n j)∧Hid (Keeps NoBlock w wr)) (fun i _=>n - (intOf i).toNat)
  case atStart=>exact ⟨0,Nat.zero_le _,rfl,HE,HK⟩
  case round =>
   obtain ⟨j,hj,rfl,HE2,HK2⟩:=hrel
   by_cases hlt:j<n
   ·have hdj:decide ((j:Int)<(n:Int))=true:=decide_eq_true (by omega)
    obtain ⟨v,c0⟩:=HE2.out.cell j hlt
    have f0:=HE2.out.free j
    have HEn:=hid (HE2.out.step hlt)
    have HKn:=hid (HK2.out.set (p:=⟨g,j,none⟩) (.inr HG.out) (.int .u8 255))
    go_wp2_with fail
    exact ⟨⟨j+1,by omega,by go_num,HEn,HKn⟩,by simp [intOf];omega⟩
   ·have hdj:decide ((j:Int)<(n:Int))=false:=decide_eq_false (by omega)
    obtain rfl:j=n:=by omega
    have ht:=HT.out g wr HE2.out.bytes
    go_wp2_with fail
    go_ret
    exact ⟨rfl,HK2.out⟩
end
section
open Go.RowKit
theorem textF_take {l:List Nat} {j:Nat} (hj:j<l.length):textF (l.take (j+1))=textF (l.take j) ++ digits ((l.getD j 0:Nat):Int) 8:=by
 have e:l.take (j+1)=l.take j ++ [l.getD j 0]:=by rw [List.take_succ_eq_append_getElem hj];simp [hj]
 rw [e,textF_snoc]
set_option maxHeartbeats 4000000 in
set_option maxRecDepth 10000 in
theorem text12_ref (p:Option Addr) (n c:Nat) (l:List Nat) (hn:n=l.length) (hn9:n≤1000000) (hf:∀ x ∈ l,x<18446744073709551616) (w:World) (hl:RowN w p l) :
  Calls Tryz.prog 51 #[.slice p n c] w fun e w'=>e=.returned (.string (strOfNums (textF l)))∧Keeps NoBlock w w':=by
 have HL:=hid hl
 have HN:=hid hn
 have HFi:=hid hf
 clear hl hn hf
 go_enter Tryz.func51,Tryz.ntmps51
 go_wp2_with fail
 go_loopw [3,8] (fun x i wr=>∃ j:Nat,j≤n∧i=.int .i64 (j:Int)∧x=.string (strOfNums (textF (l.take j)))∧Keeps NoBlock w wr) (fun _ i _=>n - (intOf i).toNat)
 case atStart=>exact ⟨0,Nat.zero_le _,rfl,rfl,Keeps.refl _ _⟩
 case round =>
  obtain ⟨j,hj,rfl,rfl,hk⟩:=hrel
  have HK:=hid hk
  clear hk
  by_cases hlt:j<n
  ·have hdj:decide ((j:Int)<(n:Int))=true:=decide_eq_true (by omega)
   have hjl:j<l.length:=by rw [← HN.out];exact hlt
   obtain ⟨a,rfl,c0⟩:=RowN.keep HL.out HK.out (fun _ _ h=>h) j hjl
   have HT:=hid (textF_take hjl)
   have hfine:=HFi.out (l.getD j 0) (by simp [hjl])
   have hlen:(textF (l.take j)).length≤12000000:=by rw [textF_length,List.length_take];omega
   obtain ⟨r,hr⟩:∃ r,r=l.getD j 0:=⟨_,rfl⟩
   rw [← hr] at c0 HT hfine
   obtain ⟨A,hA⟩:∃ A,A=textF (l.take j):=⟨_,rfl⟩
   rw [← hA] at HT hlen ⊢
   have HN8:=hid (fun w=>num_any (r:Int) 8 8 rfl (by decide) (by omega) (by omega) w)
   have z8:=str_size (digits (r:Int) 8)
   have zA:=str_size A
   rw [digits_length] at z8
   have a1:=str_append A (digits (r:Int) 8)
   rw [← HT.out] at a1
   obtain ⟨D8,hD8⟩:∃ D8,D8=digits (r:Int) 8:=⟨_,rfl⟩
   rw [← hD8] at HN8 z8 a1
   obtain ⟨M,hM⟩:∃ M,M=A.length:=⟨_,rfl⟩
   rw [← hM] at zA hlen
   have r1:¬ 9223372036854775807<M+8:=by omega
   obtain ⟨B,hB⟩:∃ B,B=textF (l.take (j+1)):=⟨_,rfl⟩
   rw [← hB] at a1
   have HB:=hid hB
   clear hr hjl hfine hA HT hD8 hM hB
   go_wp2_with fail
   refine (HN8.out _).mono ?_
   rintro e w5 ⟨rfl,hk⟩
   have HK:=hid (HK.out.trans hk)
   clear hk
   go_wp2_with fail
   exact ⟨⟨j+1,by omega,by go_num,by rw [HB.out],HK.out⟩,by simp [intOf];omega⟩
  ·have hdj:decide ((j:Int)<(n:Int))=false:=decide_eq_false (by omega)
   have hT:l.take j=l:=List.take_of_length_le (by have:=HN.out;omega)
   rw [hT]
   clear hT
   go_wp2_with fail
   go_ret
   exact ⟨rfl,HK.out⟩
end
section
open Go.RowKit
def ftV (u:Nat) (q:Option Addr) (n c:Nat):Value:=.agg #[.int .u32 (u:Int),.slice q n c]
def ftCells (u:Nat) (q:Option Addr) (n c:Nat):Array Value:=#[.int .u32 (u:Int),.slice q n c]
set_option maxRecDepth 10000 in
theorem most13_ref (k:Nat) (hk:k≤1000000) (w:World):Calls Tryz.prog 132 #[.int .i64 (k:Int)] w fun e w'=>e=.returned (.int .i64 (mostFt k:Int))∧Keeps NoBlock w w':=by
 have hq:((k:Int)+15).tdiv 16=(((k+15) / 16:Nat):Int):=by rw [Int.tdiv_eq_ediv_of_nonneg (by omega)];omega
 have hm:mostFt k=bodyLen k+8+1+(bodyLen k+8 - 1) / 254+1:=by
  unfold mostFt sizeN mostOf
  rw [if_neg (by omega)]
 have hb:bodyLen k=9+12*k+8*((k+15) / 16):=by unfold bodyLen countF;rw [Int.toNat_natCast]
 obtain ⟨D,hD⟩:∃ D,D=(k+15) / 16:=⟨_,rfl⟩
 rw [← hD] at hq hb
 obtain ⟨B,hB⟩:∃ B,B=bodyLen k:=⟨_,rfl⟩
 rw [← hB] at hm hb
 have hB9:B≤100000000:=by omega
 have hq2:((B:Int)+8 - 1).tdiv 254=(((B+8 - 1) / 254:Nat):Int):=by rw [Int.tdiv_eq_ediv_of_nonneg (by omega)];omega
 obtain ⟨E,hE⟩:∃ E,E=(B+8 - 1) / 254:=⟨_,rfl⟩
 rw [← hE] at hq2 hm
 have hE9:E≤100000000:=by omega
 have hsum:9+12*(k:Int)+8*(D:Int)=(B:Int):=by omega
 have hc:((B+8+1+E+1:Nat):Int)=(B:Int)+8+1+(E:Int)+1:=by omega
 rw [hm,hc]
 have w1:IntKind.i64.wrap (12*(k:Int))=12*(k:Int):=IntWalk.i64_in _ (by omega)
 have w2:IntKind.i64.wrap (9+12*(k:Int))=9+12*(k:Int):=IntWalk.i64_in _ (by omega)
 have w3:IntKind.i64.wrap ((k:Int)+15)=(k:Int)+15:=IntWalk.i64_in _ (by omega)
 have w4:IntKind.i64.wrap (8*(D:Int))=8*(D:Int):=IntWalk.i64_in _ (by omega)
 clear hD hB hE hb hc hm
 go_enter Tryz.func132,Tryz.ntmps132
 go_wp2_with fail
 go_ret
 exact ⟨rfl,Keeps.refl _ _⟩
theorem bodyFt_flat (u:Nat) (l:List En):bodyFt ⟨u,l⟩=(((4 :: digits (l.length:Int) 4) ++ digits (u:Int) 4) ++ textE l) ++ textF (ofF l):=by simp [bodyFt]
set_option maxHeartbeats 4000000 in
set_option maxRecDepth 10000 in
theorem text13_ref (u:Nat) (hu:u<4294967296) (q:Option Addr) (n c:Nat) (l:List En) (hn:n=l.length) (hn9:n≤100000) (hf:∀ e ∈ l,e.Fine) (w:World) (hl:EnsAt w q l) :
  Calls Tryz.prog 27 #[ftV u q n c] w fun e w'=>e=.returned (.string (strOfNums (sealN (bodyFt ⟨u,l⟩))))∧Keeps NoBlock w w':=by
 have wn:IntKind.u64.wrap (n:Int)=(n:Int):=by rw [IntKind.wrap_u64];omega
 have wu:IntKind.u64.wrap (u:Int)=(u:Int):=by rw [IntKind.wrap_u64];omega
 have HN4:=hid (fun w=>num_any (n:Int) 4 4 rfl (by decide) (by omega) (by omega) w)
 have HU4:=hid (fun w=>num_any (u:Int) 4 4 rfl (by decide) (by omega) (by omega) w)
 have HTE:=hid (fun W h=>text11_ref q n c l hn (by omega) hf W h)
 have HOf:=hid (fun W h=>of12_ref q n c l hn (by omega) W h)
 have hfl:=ofF_length l
 have hff:=ofF_fine hf
 have HTF:=hid (fun q m d W (hm:m=(ofF l).length) h=>text12_ref q m d (ofF l) hm (by omega) hff W h)
 have hbl:=bodyFt_length ⟨u,l⟩
 have hble:=bodyLen_le l.length
 have hfl2:=bodyFt_flat u l
 have HSl:=hid (fun w=>seal9_ref (bodyFt ⟨u,l⟩) bodyFt_octets (by simp only at hbl;omega) w)
 have z1:=str_size (digits (n:Int) 4)
 have z2:=str_size (digits (u:Int) 4)
 have z3:=str_size (textE l)
 have z4:=str_size (textF (ofF l))
 rw [digits_length] at z1 z2
 rw [textE_length] at z3
 rw [textF_length,hfl] at z4
 rw [← hn] at hfl2 z3 z4
 have hl1:((4:Int) :: digits (n:Int) 4).length=5:=by rw [List.length_cons,digits_length]
 have hl2:(((4:Int) :: digits (n:Int) 4) ++ digits (u:Int) 4).length=9:=by rw [List.length_append,hl1,digits_length]
 have hl3:((((4:Int) :: digits (n:Int) 4) ++ digits (u:Int) 4) ++ textE l).length=9+12*n:=by rw [List.length_append,hl2,textE_length,← hn]
 have a1:(⟨#[4]⟩:ByteArray) ++ strOfNums (digits (n:Int) 4)=strOfNums (4 :: digits (n:Int) 4):=str_append [4] _
 have a2:=str_append (4 :: digits (n:Int) 4) (digits (u:Int) 4)
 have a3:=str_append ((4 :: digits (n:Int) 4) ++ digits (u:Int) 4) (textE l)
 have a4:=str_append (((4 :: digits (n:Int) 4) ++ digits (u:Int) 4) ++ textE l) (textF (ofF l))
 rw [← hfl2] at a4
 have z0:(⟨#[4]⟩:ByteArray).size=1:=rfl
 have z5:=str_size (4 :: digits (n:Int) 4)
 have z6:=str_size ((4 :: digits (n:Int) 4) ++ digits (u:Int) 4)
 have z7:=str_size (((4 :: digits (n:Int) 4) ++ digits (u:Int) 4) ++ textE l)
 rw [hl1] at z5
 rw [hl2] at z6
 rw [hl3] at z7
 obtain ⟨X1,hX1⟩:∃ X,X=4 :: digits (n:Int) 4:=⟨_,rfl⟩
 rw [← hX1] at a1 a2 a3 a4 z5 z6 z7
 obtain ⟨D1,hD1⟩:∃ X,X=digits (n:Int) 4:=⟨_,rfl⟩
 obtain ⟨D2,hD2⟩:∃ X,X=digits (u:Int) 4:=⟨_,rfl⟩
 rw [← hD1] at a1 z1 HN4
 rw [← hD2] at a2 a3 a4 z2 z6 z7 HU4
 obtain ⟨X2,hX2⟩:∃ X,X=X1 ++ D2:=⟨_,rfl⟩
 rw [← hX2] at a2 a3 a4 z6 z7
 obtain ⟨TE,hTE⟩:∃ X,X=textE l:=⟨_,rfl⟩
 rw [← hTE] at a3 a4 z3 z7 HTE
 obtain ⟨X3,hX3⟩:∃ X,X=X2 ++ TE:=⟨_,rfl⟩
 rw [← hX3] at a3 a4 z7
 obtain ⟨TF,hTF⟩:∃ X,X=textF (ofF l):=⟨_,rfl⟩
 rw [← hTF] at a4 z4 HTF
 obtain ⟨B,hB⟩:∃ B,B=bodyFt ⟨u,l⟩:=⟨_,rfl⟩
 rw [← hB] at a4 HSl ⊢
 obtain ⟨T,hT⟩:∃ T,T=sealN B:=⟨_,rfl⟩
 rw [← hT] at HSl ⊢
 obtain ⟨Cn,hC⟩:∃ C,C=(n+15) / 16:=⟨_,rfl⟩
 rw [← hC] at z4
 have hC9:Cn≤100000:=by omega
 have r1:¬ 9223372036854775807<1+4:=by decide
 have r2:¬ 9223372036854775807<5+4:=by decide
 have r3:¬ 9223372036854775807<9+12*n:=by omega
 have r4:¬ 9223372036854775807<9+12*n+8*Cn:=by omega
 have HW0:=hid (Whole.new w 77 (ftCells u q n c))
 have HL:=hid hl
 clear hn hX1 hD1 hD2 hX2 hTE hX3 hTF hB hT hC hl1 hl2 hl3 hbl hble hfl hff hfl2 hl hf hu
 unfold ftV
 go_enter Tryz.func27,Tryz.ntmps27
 go_wp2_with fail
 obtain ⟨W,hW⟩:∃ W,W=w.alloc (.cells #[.int .u32 (u:Int),.slice q n c] 77):=⟨_,rfl⟩
 have HR:Hid (Whole W w.heap.size 77 (ftCells u q n c)):=by rw [hW];exact HW0
 have HK:Hid (Keeps NoBlock w W):=hid (by rw [hW];exact (Keeps.refl _ _).alloc _)
 rw [← hW]
 clear hW HW0
 have s0:=And.intro ((Whole.drewN HR.out 1).cell 0 rfl) ((Whole.drewN HR.out 1).cell 1 rfl)
 have sN:=And.intro (HR.out.cell 0 rfl) (HR.out.cell 1 rfl)
 simp only [ftCells,List.getElem_toArray,List.getElem_cons_zero,List.getElem_cons_succ] at s0 sN
 go_region_held3 (fun w'=>w'.cell? ⟨w.heap.size,0,none⟩=some (.int .u32 (u:Int))∧w'.cell? ⟨w.heap.size,1,none⟩=some (.slice q n c))
  (first|exact s5|exact s0|exact sN)
  (first|(go_at_call 48;(first|(with_reducible refine (HN4.out _).mono ?_)|(with_reducible refine (HU4.out _).mono ?_));rintro e w5 ⟨rfl,hk⟩;have hk':Keeps NoBlock W w5:=(by first|exact hk|exact hk.ofDrew|exact hk.ofDrewN);have HK:=hid (HK.out.trans hk');have HR:=hid (HR.out.keep hk' (fun h=>h));have s5:=And.intro (HR.out.cell 0 rfl) (HR.out.cell 1 rfl);simp only [ftCells,List.getElem_toArray,List.getElem_cons_zero,List.getElem_cons_succ] at s5;clear hk hk';obtain ⟨W,rfl⟩:∃ x,x=w5:=⟨_,rfl⟩))
 clear s0 sN s5
 go_wp2_with fail
 have s0:=And.intro ((Whole.drewN HR.out 1).cell 0 rfl) ((Whole.drewN HR.out 1).cell 1 rfl)
 have sN:=And.intro (HR.out.cell 0 rfl) (HR.out.cell 1 rfl)
 simp only [ftCells,List.getElem_toArray,List.getElem_cons_zero,List.getElem_cons_succ] at s0 sN
 go_region_held3 (fun w'=>w'.cell? ⟨w.heap.size,0,none⟩=some (.int .u32 (u:Int))∧w'.cell? ⟨w.heap.size,1,none⟩=some (.slice q n c))
  (first|exact s5|exact s0|exact sN)
  (first|(go_at_call 50;refine (HTE.out _ (by first|exact EnsAt.keep HL.out HK.out|exact EnsAt.keep HL.out HK.out.drew|exact EnsAt.keep HL.out (HK.out.drewN _))).mono ?_;rintro e w5 ⟨rfl,hk⟩;have hk':Keeps NoBlock W w5:=(by first|exact hk|exact hk.ofDrew|exact hk.ofDrewN);have HK:=hid (HK.out.trans hk');have HR:=hid (HR.out.keep hk' (fun h=>h));have s5:=And.intro (HR.out.cell 0 rfl) (HR.out.cell 1 rfl);simp only [ftCells,List.getElem_toArray,List.getElem_cons_zero,List.getElem_cons_succ] at s5;clear hk hk';obtain ⟨W,rfl⟩:∃ x,x=w5:=⟨_,rfl⟩)|(go_at_call 52;refine (HOf.out _ (by first|exact EnsAt.keep HL.out HK.out|exact EnsAt.keep HL.out HK.out.drew|exact EnsAt.keep HL.out (HK.out.drewN _))).mono ?_;rintro e w5 ⟨v5,rfl,hnum⟩;obtain ⟨q9,m9,d9,rfl,hbare9,hm9,hc9⟩:=own_nums hnum.1;have hk:=Keeps.ofBelow (S:=NoBlock) hnum.2;have hk':Keeps NoBlock W w5:=(by first|exact hk|exact hk.ofDrew|exact hk.ofDrewN);have HK:=hid (HK.out.trans hk');have HR:=hid (HR.out.keep hk' (fun h=>h));have HRw:=hid (cells_rowN hm9 hbare9 hc9);have HM9:=hid hm9;have s5:=And.intro (HR.out.cell 0 rfl) (HR.out.cell 1 rfl);simp only [ftCells,List.getElem_toArray,List.getElem_cons_zero,List.getElem_cons_succ] at s5;clear hk hk' hnum hbare9 hm9 hc9;obtain ⟨W,rfl⟩:∃ x,x=w5:=⟨_,rfl⟩)|(go_at_call 51;refine (HTF.out _ _ _ _ HM9.out (by exact HRw.out)).mono ?_;rintro e w5 ⟨rfl,hk⟩;have hk':Keeps NoBlock W w5:=(by first|exact hk|exact hk.ofDrew|exact hk.ofDrewN);have HK:=hid (HK.out.trans hk');have HR:=hid (HR.out.keep hk' (fun h=>h));have s5:=And.intro (HR.out.cell 0 rfl) (HR.out.cell 1 rfl);simp only [ftCells,List.getElem_toArray,List.getElem_cons_zero,List.getElem_cons_succ] at s5;clear hk hk' HRw;obtain ⟨W,rfl⟩:∃ x,x=w5:=⟨_,rfl⟩)|(go_at_call 49;refine (HSl.out _).mono ?_;rintro e w5 ⟨rfl,hk⟩;have hk':Keeps NoBlock W w5:=(by first|exact hk|exact hk.ofDrew|exact hk.ofDrewN);have HK:=hid (HK.out.trans hk');have HR:=hid (HR.out.keep hk' (fun h=>h));have s5:=And.intro (HR.out.cell 0 rfl) (HR.out.cell 1 rfl);simp only [ftCells,List.getElem_toArray,List.getElem_cons_zero,List.getElem_cons_succ] at s5;clear hk hk';obtain ⟨W,rfl⟩:∃ x,x=w5:=⟨_,rfl⟩))
 go_wp2_with fail
 go_ret
 exact ⟨rfl,HK.out⟩
end
section
open Go.RowKit
theorem entsGo_fine:∀ (l:List Rec) (k:Nat),k+(recsB l).length≤4000000000→∀ x ∈ entsGo k l,x.Fine
 | [],_,_,x,hx=>by simp [entsGo] at hx
 | r :: l,k,h,x,hx=>by
  have e:recsB (r :: l)=recB r ++ recsB l:=by unfold recsB;rw [List.flatMap_cons]
  rw [e,List.length_append] at h
  rw [entsGo,List.mem_cons] at hx
  rcases hx with rfl|hx
  ·refine ⟨?_,by show k<4294967296;omega⟩
   have hu:=wxxh_u64 0 r.key
   unfold U64 at hu
   show (wxxh 0 r.key).toNat<18446744073709551616
   omega
  ·exact entsGo_fine l _ (by omega) x hx
theorem ents_fine {e s n:Nat} {l:List Rec} (h:(outS e s n l).length≤100000000):∀ x ∈ entsS e s n l,x.Fine:=by
 unfold entsS
 refine entsGo_fine l _ ?_
 unfold outS at h
 rw [List.length_append] at h
 unfold headLen
 omega
set_option maxHeartbeats 4000000 in
set_option maxRecDepth 10000 in
theorem text15_ref (e s n:Nat) (he:e≤24) (p:Option Addr) (m c:Nat) (l:List Rec) (b:Bool) (hi:SegIn e s n l) (hm:m=l.length) (w:World) (hl:RecsAt w p l) :
  Calls Tryz.prog 14 #[confV e s,.int .u64 (n:Int),.slice p m c,.bool b] w fun r w'=>r=.returned (.string (strOfNums (textS e s n l b)))∧Keeps NoBlock w w':=by
 have HW0:=hid (Whole.new w 27 (confCells e s))
 have HFr:=hid (fun w hl=>frames15_ref e s n p m c l hi hm w hl)
 have HL:=hid hl
 have HSz:=hid (fun w=>size8_ref e s he w)
 have HEr:=hid (fun z h1 h2 w=>erased15_ref z h1 h2 w)
 have hlong:=hi.long
 have hfew:=hi.few
 have h2e:=two_e he
 have hsl:=sortE_len (entsS e s n l)
 have hel:(entsS e s n l).length=l.length:=entsGo_length l _
 have hfn:=sortE_fine (ents_fine hlong)
 have HTx:=hid (fun q d w h=>text13_ref (outS e s n l).length (by omega) q (sortE (entsS e s n l)).length d (sortE (entsS e s n l)) rfl (by omega) hfn w h)
 have hfl:(footS e s n l).length≤10000000:=by
  have h1:=foot_most e s n l
  have h2:mostFt l.length≤10000000:=by
   unfold mostFt
   have h3:=sizeN_bound (bodyLen l.length)
   have h4:=bodyLen_le l.length
   omega
  omega
 have hdef:textS e s n l b=framesS e s n l b ++ List.replicate (((2 ^ e:Nat):Int) - ((framesS e s n l b).length:Int)).toNat 255:=by
  unfold textS
  congr 2
  omega
 rw [hdef]
 clear hdef hi hm hl hfn hsl hel
 have hF:footS e s n l=sealN (bodyFt ⟨(outS e s n l).length,sortE (entsS e s n l)⟩):=rfl
 rw [← hF] at HTx
 clear hF
 obtain ⟨F,hF⟩:∃ F,F=footS e s n l:=⟨_,rfl⟩
 obtain ⟨O,hO⟩:∃ O,O=outS e s n l:=⟨_,rfl⟩
 obtain ⟨Sr,hS⟩:∃ Sr,Sr=sortE (entsS e s n l):=⟨_,rfl⟩
 have hfr:framesS e s n l b=O ++ (if b=true then F else []):=by rw [hO,hF];rfl
 rw [hfr]
 rw [← hF] at hfl HTx
 rw [← hO] at hlong HTx HFr
 rw [← hS] at HTx HFr
 clear hF hO hS hfr
 obtain ⟨Z,hZ⟩:∃ Z:Nat,Z=2 ^ e:=⟨_,rfl⟩
 rw [← hZ] at HSz h2e ⊢
 clear hZ
 have z1:=str_size O
 have z2:=str_size F
 have hap:=str_append O F
 have r1:¬ 9223372036854775807<O.length+F.length:=by omega
 have hu:IntKind.u32.wrap ((O.length:Nat):Int)=((O.length:Nat):Int):=by rw [IntKind.wrap_u32];omega
 have hz:IntKind.i64.wrap ((Z:Nat):Int)=((Z:Nat):Int):=by rw [IntKind.wrap_i64];omega
 unfold confV at *
 cases b with
 | true =>
  rw [if_pos rfl]
  obtain ⟨G,hG⟩:∃ G,G=O ++ F:=⟨_,rfl⟩
  have hGl:G.length≤110000000:=by rw [hG,List.length_append];omega
  rw [← hG] at hap ⊢
  have z3:=str_size G
  clear hG
  have HEz:=hid (fun w=>HEr.out ((Z:Int) - (G.length:Int)) (by omega) (by omega) w)
  obtain ⟨D,hD⟩:∃ D,D=List.replicate ((Z:Int) - (G.length:Int)).toNat (255:Int):=⟨_,rfl⟩
  have hDl:D.length≤20000000:=by rw [hD,List.length_replicate];omega
  rw [← hD] at HEz ⊢
  have z4:=str_size D
  have hap2:=str_append G D
  have r2:¬ 9223372036854775807<G.length+D.length:=by omega
  clear hD
  go_enter Tryz.func14,Tryz.ntmps14
  go_wp2_with fail
  refine (HFr.out _ (HL.out.keep ((Keeps.refl NoBlock w).alloc _) (fun _ _ h=>h))).mono ?_
  rintro e1 w1 ⟨v,rfl,q,k,d,rfl,hk1,hk2,hk3,hq,hat,hkk⟩
  subst hk1
  have HK:=hid (((Keeps.refl NoBlock w).alloc (.cells #[.int .u8 (e:Int),.int .u32 (s:Int)] 27)).trans hkk)
  have HW1:=hid (HW0.out.keep hkk (fun h=>h))
  have HTq:=hid (HTx.out q d w1 hat)
  clear hkk hat HW0 HFr HTx hq hk2 hk3
  unfold ftV at HTq
  go_wp2_with fail
  refine HTq.out.mono ?_
  rintro e2 w2 ⟨rfl,hk⟩
  have HK2:=hid (HK.out.trans hk)
  have HW2:=hid (HW1.out.keep hk (fun h=>h))
  have g0:=HW2.out.cell 0 rfl
  have g1:=HW2.out.cell 1 rfl
  simp only [confCells,List.getElem_toArray,List.getElem_cons_zero,List.getElem_cons_succ] at g0 g1
  clear hk HTq HW1 HK
  go_wp2_with fail
  refine (HSz.out _).mono ?_
  rintro e3 w3 ⟨rfl,hk⟩
  have HK3:=hid (HK2.out.trans hk)
  clear hk HK2 HW2 g0 g1
  go_wp2_with fail
  refine (HEz.out _).mono ?_
  rintro e4 w4 ⟨rfl,hk⟩
  have HK4:=hid (HK3.out.trans hk)
  clear hk
  go_wp2_with fail
  go_ret
  exact ⟨rfl,HK4.out⟩
 | false =>
  rw [if_neg (by simp),List.append_nil]
  have HEz:=hid (fun w=>HEr.out ((Z:Int) - (O.length:Int)) (by omega) (by omega) w)
  obtain ⟨D,hD⟩:∃ D,D=List.replicate ((Z:Int) - (O.length:Int)).toNat (255:Int):=⟨_,rfl⟩
  have hDl:D.length≤20000000:=by rw [hD,List.length_replicate];omega
  rw [← hD] at HEz ⊢
  have z4:=str_size D
  have hap2:=str_append O D
  have r2:¬ 9223372036854775807<O.length+D.length:=by omega
  clear hD
  go_enter Tryz.func14,Tryz.ntmps14
  go_wp2_with fail
  refine (HFr.out _ (HL.out.keep ((Keeps.refl NoBlock w).alloc _) (fun _ _ h=>h))).mono ?_
  rintro e1 w1 ⟨v,rfl,q,k,d,rfl,hk1,hk2,hk3,hq,hat,hkk⟩
  subst hk1
  have HK:=hid (((Keeps.refl NoBlock w).alloc (.cells #[.int .u8 (e:Int),.int .u32 (s:Int)] 27)).trans hkk)
  have HW1:=hid (HW0.out.keep hkk (fun h=>h))
  clear hkk hat HW0 HFr HTx hq hk2 hk3
  have g0:=HW1.out.cell 0 rfl
  have g1:=HW1.out.cell 1 rfl
  simp only [confCells,List.getElem_toArray,List.getElem_cons_zero,List.getElem_cons_succ] at g0 g1
  go_wp2_with fail
  refine (HSz.out _).mono ?_
  rintro e3 w3 ⟨rfl,hk⟩
  have HK3:=hid (HK.out.trans hk)
  clear hk HK HW1 g0 g1
  go_wp2_with fail
  refine (HEz.out _).mono ?_
  rintro e4 w4 ⟨rfl,hk⟩
  have HK4:=hid (HK3.out.trans hk)
  clear hk
  go_wp2_with fail
  go_ret
  exact ⟨rfl,HK4.out⟩
end
end Go.Proofs.YtehkjkcnigknkaaGreat

/-
  BufT; TabPut; FtBelow; FtPut; SgPlace; SgOwn; SgNew.
-/
import Derived.Lib.Hide
import Derived.Test.YtehkjkcnigknkaaGreatV05
import Derived.Test.YtehkjkcnigknkaaGreatV17
import Derived.Test.YtehkjkcnigknkaaGreatV18
import Derived.Test.YtehkjkcnigknkaaGreatV19
import Derived.Test.YtehkjkcnigknkaaGreatV20
import Derived.Test.YtehkjkcnigknkaaGreatV26
import Derived.Test.YtehkjkcnigknkaaGreatV30
import Derived.Test.YtehkjkcnigknkaaGreatV31
import Derived.Test.YtehkjkcnigknkaaGreatV32
import Derived.Test.YtehkjkcnigknkaaGreatV34
import Derived.Test.YtehkjkcnigknkaaGreatV35
import Derived.Test.YtehkjkcnigknkaaGreatV36
import Derived.Test.YtehkjkcnigknkaaGreatV37
import Derived.Test.YtehkjkcnigknkaaGreatV40
namespace Go.Proofs.YtehkjkcnigknkaaGreat
open Lib (hid)
section
open Go.RowKit
def Stays (w w':World):Prop:=∀ (k:Nat) (t:TypeId) (cs:Array Value),t ≠ 5→t ≠ 145→Whole w k t cs→Whole w' k t cs
theorem Stays.refl (w:World):Stays w w:=fun _ _ _ _ _ h=>h
theorem Stays.trans {a b c:World} (h:Stays a b) (g:Stays b c):Stays a c:=fun k t cs h1 h2 h3=>g k t cs h1 h2 (h k t cs h1 h2 h3)
def BufOkT (base g:Nat) (xs:List Int) (w:World) (e:Ending) (w':World):Prop :=
 e=.returned (.pointer (some ⟨g,0,none⟩))∧BufAt w' base g xs∧Keeps (OnBuf base g) w w'∧Stays w w'
theorem own_not {w:World} {base n k:Nat} {v:Value} {xs:List Value} {t:TypeId} {cs:Array Value} (h:w.ownsRow base 5 1 v n xs) (ht:t ≠ 5) (hk:Whole w k t cs):v.ownBlock ≠ some k:=by
 rcases h with ⟨_,⟨rfl,rfl⟩|⟨j,cap,cur,rfl,_,hh,_⟩⟩
 ·simp [Value.ownBlock]
 ·intro e
  obtain rfl:j=k:=by simpa [Value.ownBlock] using e
  exact absurd (Whole.unique (show Whole w j 5 cur from hh) hk).1.symm ht
set_option maxHeartbeats 800000 in
theorem bufByteT (base g:Nat) (xs:List Int) (x:Int) (w:World) (h:BufAt w base g xs) (hs:base≤w.heap.size) (hx:xs.length+1≤140737488355328) :
  Calls Tryz.prog 79 #[.pointer (some ⟨g,0,none⟩),.int .u8 x] w (BufOkT base g (xs ++ [x]) w):=by
 obtain ⟨v,hg,hown⟩:=h
 obtain ⟨i0,hi,hz0,hz1,hz2⟩:=info_parts infoByte
 have hgw:=hg.lt
 have c0:=hg.cell 0 rfl
 simp only [List.getElem_toArray,List.getElem_cons_zero] at c0
 have hne:=ownBlock_ne hown hg
 have HG:=hid hg;have HO:=hid hown;have HN:=hid hne;have HX:=hid hx
 clear hg hown hne hx
 go_enter Tryz.func79,Tryz.ntmps79
 go_wp2_with (at_builtin;refine wpList_append_own _ rfl _ _ 29 rfl base 5 i0 (.int .u8 0) 1 1 Tryz.underlying29 hi hz0 hz1 hz2 rfl (by decide) _ _ _ rfl (HO.out.alloc _) ⟨w.heap.size,0,none⟩ 1 1 [.int .u8 x] rfl ?qc1 ?qc2 ?qc3 ?qc4 ?qc5 ?qc6 ?_)
 case qc1=>rfl
 case qc2 =>
  intro j u hj
  match j,hj with
  | 0,hj =>
   obtain rfl:Value.int .u8 x=u:=by simpa using hj
   exact Whole.cell (Whole.new w _ _) 0 rfl
 case qc3=>intro u hu;simp at hu;subst hu;rfl
 case qc4=>have:=HX.out;unfold maxLen;omega
 case qc5=>have:=HX.out;omega
 case qc6=>simp;omega
 intro v' w1 hown hgrow _
 obtain ⟨p',c',hv'⟩:=own_slice hown
 have hg1:=Whole.grown (HG.out.alloc _) hgrow HN.out
 have d0:=hg1.cell 0 rfl
 simp only [List.getElem_toArray,List.getElem_cons_zero] at d0
 have f0:=hg1.free 0
 have hne':=ownBlock_ne hown hg1
 have HB:=hid (show BufAt (w1.setCell ⟨g,0,none⟩ v') base g (xs ++ [x]) from ⟨v',hg1.set 0 v',by simpa using ownsRow_setCell_other hown (a:=⟨g,0,none⟩) hne' v'⟩)
 have HL:=hid ((((Keeps.refl (OnBuf base g) w).alloc _).grown hgrow (fun k hk=>.inl (.inr (own_base HO.out hk)))).setIn (.inl rfl) 0 v')
 have HSt:Hid (Stays w (w1.setCell ⟨g,0,none⟩ v')):=hid (fun k t cs h1 h2 h3=>by
  have hA:=h3.alloc (.cells #[.int .u8 x] 5)
  have hB:=HO.out.alloc (.cells #[.int .u8 x] 5)
  refine (hA.grown hgrow (own_not hB h1 hA)).setOther (p:=⟨g,0,none⟩) (fun e=>?_) v'
  have e':k=g:=e
  subst e'
  exact absurd (Whole.unique HG.out h3).1.symm h2)
 clear hown hgrow hg1 hne' c0
 subst hv'
 go_wp2_with fail
 go_ret
 exact ⟨rfl,HB.out,HL.out,HSt.out⟩
def InLoopT (base g:Nat) (xs:List Int) (x:Int) (w:World) (k:Nat) (wr:World):Prop:=BufAt wr base g (xs ++ digits x k)∧Keeps (OnBuf base g) w wr∧Stays w wr
set_option maxHeartbeats 800000 in
theorem bufNumberT (base g:Nat) (xs:List Int) (x:Int) (n:Nat) (z:Int) (hz:z=n) (w:World) (h:BufAt w base g xs) (hs:base≤w.heap.size) (hx:xs.length+n≤140737488355328) (hn:n≤8) (_x0:0≤x) (x1:x<18446744073709551616) :
  Calls Tryz.prog 133 #[.pointer (some ⟨g,0,none⟩),.int .u64 x,.int .i64 z] w (BufOkT base g (xs ++ digits x n) w):=by
 subst hz
 have H:=hid h;have HX:=hid hx;have HX1:=hid x1
 clear h hx x1
 go_enter Tryz.func133,Tryz.ntmps133
 go_wp2_with fail
 go_loopw [9] (fun i wr=>∃ k:Nat,k≤n∧i=.int .i64 k∧InLoopT base g xs x w k wr) (fun i _=>n - (intOf i).toNat)
 case atStart=>exact ⟨0,Nat.zero_le _,rfl,by simpa [digits] using H.out,Keeps.refl _ _,Stays.refl _⟩
 case round =>
  obtain ⟨k,hk,rfl,hin⟩:=hrel
  have HI:=hid hin
  clear hin
  by_cases hlt:k<n
  ·go_wp2_with fail
   refine (bufByteT base g (xs ++ digits x k) _ _ HI.out.1 (by have:=HI.out.2.1.size;omega) (by have:=HX.out;simp [digits_length];omega)).mono ?_
   rintro e w2 ⟨rfl,hbuf,hbel,hst⟩
   have HB:=hid hbuf;have HL:=hid (HI.out.2.1.trans hbel)
   have HT:=hid (HI.out.2.2.trans hst)
   clear hbuf hbel hst
   go_wp2_with fail
   go_roundw
   case rel =>
    refine ⟨k+1,by omega,by go_num,?_,HL.out,HT.out⟩
    have:=HB.out
    rw [List.append_assoc] at this
    exact this
   case measure=>simp [intOf];omega
  ·go_wp2_with fail
   go_ret
   obtain rfl:k=n:=by omega
   exact ⟨rfl,HI.out.1,HI.out.2⟩
theorem bufFourT (base g:Nat) (xs:List Int) (x:Int) (w:World) (h:BufAt w base g xs) (hs:base≤w.heap.size) (hx:xs.length+4≤140737488355328) (x0:0≤x) (x1:x<4294967296) :
  Calls Tryz.prog 121 #[.pointer (some ⟨g,0,none⟩),.int .u32 x] w (BufOkT base g (xs ++ digits x 4) w):=by
 have H:=hid h
 clear h
 go_enter Tryz.func121,Tryz.ntmps121
 go_wp2_with fail
 refine (bufNumberT base g xs _ 4 _ (by rfl) _ H.out hs hx (by omega) (by omega) (by omega)).mono ?_
 rintro e w2 ⟨rfl,hbuf,hbel,hst⟩
 have HB:=hid hbuf;have HL:=hid hbel;have HT:=hid hst
 clear hbuf hbel hst
 go_wp2_with fail
 go_ret
 exact ⟨rfl,HB.out,HL.out,HT.out⟩
theorem bufEightT (base g:Nat) (xs:List Int) (x:Int) (w:World) (h:BufAt w base g xs) (hs:base≤w.heap.size) (hx:xs.length+8≤140737488355328) (x0:0≤x) (x1:x<18446744073709551616) :
  Calls Tryz.prog 107 #[.pointer (some ⟨g,0,none⟩),.int .u64 x] w (BufOkT base g (xs ++ digits x 8) w):=by
 have H:=hid h;have HX1:=hid x1
 clear h x1
 go_enter Tryz.func107,Tryz.ntmps107
 go_wp2_with fail
 refine (bufNumberT base g xs _ 8 _ (by rfl) _ H.out hs hx (by omega) x0 HX1.out).mono ?_
 rintro e w2 ⟨rfl,hbuf,hbel,hst⟩
 have HB:=hid hbuf;have HL:=hid hbel;have HT:=hid hst
 clear hbuf hbel hst
 go_wp2_with fail
 go_ret
 exact ⟨rfl,HB.out,HL.out,HT.out⟩
end
section
open Go.RowKit
set_option maxHeartbeats 4000000 in
set_option maxRecDepth 10000 in
theorem put_own (base g:Nat) (xs:List Int) (p:Option Addr) (n c:Nat) (l:List En) (w:World) (h:BufAt w base g xs) (hs:base≤w.heap.size) (hi:InE w p n c l) (hn9:n≤100000) (hfar:0<n→∀ a,p=some a→¬ OnBuf base g a.block) (hx:xs.length≤100000000) :
  Calls Tryz.prog 122 #[.pointer (some ⟨g,0,none⟩),.slice p n c] w fun e w'=>e=.returned (.tuple #[])∧BufAt w' base g (xs ++ textE l)∧Keeps (OnBuf base g) w w':=by
 have H:=hid h
 have HI:=hid hi
 have HF:=hid hfar
 have HX:=hid hx
 clear h hi hfar hx
 go_enter Tryz.func122,Tryz.ntmps122
 go_wp2_with fail
 go_loopw [10] (fun i wr=>∃ j:Nat,j≤n∧i=.int .i64 (j:Int)∧Hid (BufAt wr base g (xs ++ textE (l.take j)))∧Hid (Keeps (OnBuf base g) w wr)) (fun i _=>n - (intOf i).toNat)
 case atStart=>exact ⟨0,Nat.zero_le _,rfl,hid (by simpa [textE] using H.out),hid (Keeps.refl _ _)⟩
 case round =>
  obtain ⟨j,hj,rfl,HB,HK⟩:=hrel
  by_cases hlt:j<n
  ·have hdj:decide ((j:Int)<(n:Int))=true:=decide_eq_true (by omega)
   have hjl:j<l.length:=by rw [← HI.out.len];exact hlt
   obtain ⟨a,rfl,c0,c1⟩:=(EnsAt.keepFar HI.out.at_ HK.out (fun h0 a ha=>HF.out (by omega) a ha)).at_ j hjl
   have hfn:=HI.out.fine (l.getD j En.none) (by simp [hjl])
   have HT:=hid (textE_take hjl)
   obtain ⟨r,hr⟩:∃ r,r=l.getD j En.none:=⟨_,rfl⟩
   rw [← hr] at c0 c1 hfn HT
   clear hr
   have h64:((r.hash:Nat):Int)<18446744073709551616:=by have:=hfn.hash;omega
   have h32:((r.at_:Nat):Int)<4294967296:=by have:=hfn.at_;omega
   have HL:Hid ((xs ++ textE (l.take j)).length≤110000000):=hid (by
    have:=HX.out
    rw [List.length_append,textE_length,List.length_take]
    omega)
   have H64:=hid h64
   have H32:=hid h32
   clear h64 h32 hfn hjl
   obtain ⟨Y,hY⟩:∃ Y,Y=xs ++ textE (l.take j):=⟨_,rfl⟩
   rw [← hY] at HB HL
   have HYd:=hid hY
   clear hY
   have HB0:=hid (show BufAt (wr.alloc (.cells #[.int .u64 (r.hash:Int),.int .u32 (r.at_:Int)] 129)) base g Y from by
    obtain ⟨v,h1,h2⟩:=HB.out
    exact ⟨v,h1.alloc _,World.ownsRow.alloc h2 _⟩)
   have HK0:=hid (HK.out.alloc (.cells #[.int .u64 (r.hash:Int),.int .u32 (r.at_:Int)] 129))
   have HW0:=hid (Whole.new wr 129 #[.int .u64 (r.hash:Int),.int .u32 (r.at_:Int)])
   have HSz:Hid (base≤(wr.alloc (.cells #[.int .u64 (r.hash:Int),.int .u32 (r.at_:Int)] 129)).heap.size):=hid (by have:=HK0.out.size;omega)
   clear HB
   go_wp2_with fail
   obtain ⟨W,hW⟩:∃ W,W=wr.alloc (.cells #[.int .u64 (r.hash:Int),.int .u32 (r.at_:Int)] 129):=⟨_,rfl⟩
   rw [← hW] at HB0 HK0 HW0 HSz ⊢
   clear hW c0 c1
   have sN:W.cell? ⟨wr.heap.size,0,none⟩=some (.int .u64 (r.hash:Int))∧W.cell? ⟨wr.heap.size,1,none⟩=some (.int .u32 (r.at_:Int)):=⟨HW0.out.cell 0 rfl,HW0.out.cell 1 rfl⟩
   have s0:W.drew.cell? ⟨wr.heap.size,0,none⟩=some (.int .u64 (r.hash:Int))∧W.drew.cell? ⟨wr.heap.size,1,none⟩=some (.int .u32 (r.at_:Int)):=sN
   go_region_held3 (fun w'=>w'.cell? ⟨wr.heap.size,0,none⟩=some (.int .u64 (r.hash:Int))∧w'.cell? ⟨wr.heap.size,1,none⟩=some (.int .u32 (r.at_:Int)))
    (first|exact s5|exact s0|exact sN)
    (first|(go_at_call 107;refine (bufEightT base g Y (r.hash:Int) _ (by exact HB0.out) (by exact HSz.out) (by have:=HL.out;omega) (by omega) H64.out).mono ?_;rintro e w5 ⟨rfl,hb,hk,hst⟩;have HB1:=hid hb;have HK1:=hid (HK0.out.trans (by first|exact hk|exact hk.ofDrew|exact hk.ofDrewN));have HW1:=hid (hst wr.heap.size 129 _ (by decide) (by decide) (by exact HW0.out));have HSz1:Hid (base≤w5.heap.size):=hid (by have:=HK1.out.size;omega);have s5:w5.cell? ⟨wr.heap.size,0,none⟩=some (.int .u64 (r.hash:Int))∧w5.cell? ⟨wr.heap.size,1,none⟩=some (.int .u32 (r.at_:Int)):=⟨HW1.out.cell 0 rfl,HW1.out.cell 1 rfl⟩;clear hb hk hst)|(go_at_call 121;refine (bufFourT base g (Y ++ digits (r.hash:Int) 8) (r.at_:Int) _ (by exact HB1.out) (by exact HSz1.out) (by have:=HL.out;rw [List.length_append,digits_length];omega) (by omega) H32.out).mono ?_;rintro e w6 ⟨rfl,hb,hk,hst⟩;have HB2:=hid hb;have HK2:=hid (HK1.out.trans (by first|exact hk|exact hk.ofDrew|exact hk.ofDrewN));have HW2:=hid (hst wr.heap.size 129 _ (by decide) (by decide) (by exact HW1.out));have s5:w6.cell? ⟨wr.heap.size,0,none⟩=some (.int .u64 (r.hash:Int))∧w6.cell? ⟨wr.heap.size,1,none⟩=some (.int .u32 (r.at_:Int)):=⟨HW2.out.cell 0 rfl,HW2.out.cell 1 rfl⟩;clear hb hk hst))
   go_wp2_with fail
   go_roundw
   case rel =>
    refine ⟨j+1,by omega,by go_num,hid ?_,hid HK2.out⟩
    rw [HT.out,← List.append_assoc,← HYd.out,← List.append_assoc]
    exact HB2.out
   case measure=>simp [intOf];omega
  ·have hdj:decide ((j:Int)<(n:Int))=false:=decide_eq_false (by omega)
   have HE:Hid (l.take j=l):=hid (List.take_of_length_le (by have:=HI.out.len;omega))
   rw [HE.out] at HB
   go_wp2_with fail
   go_returns
   exact ⟨rfl,HB.out,HK.out⟩
end
section
open Go.RowKit
set_option maxHeartbeats 1000000 in
set_option maxRecDepth 10000 in
theorem above_own (r:En) (u b:Nat) (W:World) (hb:W.cell? ⟨b,0,none⟩=some (.int .u32 (u:Int))) :
  Calls Tryz.prog 185 #[enV r,.pointer (some ⟨b,0,none⟩)] W fun e w'=>e=.returned (.bool (decide (u≤r.at_)))∧Keeps NoBlock W w':=by
 have hlt:=ltOfCell hb
 have HR:=hid (Whole.new W 129 #[.int .u64 (r.hash:Int),.int .u32 (r.at_:Int)])
 have HK:=hid ((Keeps.refl NoBlock W).alloc (.cells #[.int .u64 (r.hash:Int),.int .u32 (r.at_:Int)] 129))
 have b1:(W.alloc (.cells #[.int .u64 (r.hash:Int),.int .u32 (r.at_:Int)] 129)).cell? ⟨b,0,none⟩=some (.int .u32 (u:Int)):=HK.out.cell hb (fun h=>h)
 have c1:=HR.out.cell 1 rfl
 simp only [List.getElem_toArray,List.getElem_cons_zero,List.getElem_cons_succ] at c1
 unfold enV
 go_enter Tryz.func185,Tryz.ntmps185
 go_wp2_with fail
 go_ret
 exact ⟨by first|rfl|simp,HK.out⟩
set_option maxHeartbeats 2000000 in
set_option maxRecDepth 10000 in
theorem indexf_own (u b:Nat) (p:Option Addr) (n c:Nat) (l:List En) (hn:n=l.length) (hn9:n≤1000000) (w:World)
  (hb:w.cell? ⟨b,0,none⟩=some (.int .u32 (u:Int))) (hat:EnsAt w p l) :
  Calls Tryz.prog 204 #[.slice p n c,.func (.func 185) #[] #[.pointer (some ⟨b,0,none⟩)]] w fun e w'=>∃ z:Int,e=.returned (.int .i64 z)∧(0≤z ↔ ∃ x ∈ l,u≤x.at_)∧Keeps NoBlock w w':=by
 have HL:=hid hat
 have HB:=hid hb
 have HN:=hid hn
 have HA:=hid (fun (r:En) (W:World) (h:W.cell? ⟨b,0,none⟩=some (.int .u32 (u:Int)))=>above_own r u b W h)
 unfold enV at HA
 clear hat hb hn
 go_enter Tryz.func204,Tryz.ntmps204
 go_wp2_with fail
 go_loopw [8] (fun i wr=>∃ m:Nat,m≤n∧i=.int .i64 (m:Int)∧Hid (∀ i,i<m→(l.getD i En.none).at_<u)∧Hid (Keeps NoBlock w wr)) (fun i _=>n - (intOf i).toNat)
 case atStart=>exact ⟨0,Nat.zero_le _,rfl,hid (fun i h=>by omega),hid (Keeps.refl _ _)⟩
 case round =>
  obtain ⟨m,hm,rfl,HS,HK⟩:=hrel
  by_cases hlt:m<n
  ·have hd:decide ((m:Int)<(n:Int))=true:=decide_eq_true (by omega)
   have hin:(m:Int)<(n:Int):=by omega
   obtain ⟨a,rfl,c0,c1⟩:=(HL.out.keep HK.out).at_ m (by have:=HN.out;omega)
   obtain ⟨r,hr⟩:∃ r,r=l.getD m En.none:=⟨_,rfl⟩
   rw [← hr] at c0 c1
   have HRr:=hid hr
   clear hr
   have HC:=hid (HA.out r wr (HK.out.cell HB.out (fun h=>h)))
   by_cases hge:u≤r.at_
   ·rw [decide_eq_true hge] at HC
    have HG:=hid hge
    clear hge
    go_wp2_with fail
    refine HC.out.mono ?_
    rintro e w2 ⟨rfl,hk⟩
    have HKn:=hid (HK.out.trans hk)
    clear hk
    go_wp2_with fail
    go_ret
    refine ⟨(m:Int),rfl,⟨fun _=>⟨r,?_,HG.out⟩,fun _=>by omega⟩,HKn.out⟩
    rw [HRr.out,List.getD_eq_getElem?_getD,List.getElem?_eq_getElem (by have:=HN.out;omega)]
    exact List.getElem_mem _
   ·rw [decide_eq_false hge] at HC
    have HG:=hid hge
    clear hge
    go_wp2_with fail
    refine HC.out.mono ?_
    rintro e w2 ⟨rfl,hk⟩
    have HKn:=hid (HK.out.trans hk)
    clear hk
    go_wp2_with fail
    go_roundw
    case rel =>
     refine ⟨m+1,by omega,by go_num,hid (fun i hi=>?_),HKn⟩
     by_cases e:i=m
     ·subst e
      rw [← HRr.out]
      have:=HG.out
      omega
     ·exact HS.out i (by omega)
    case measure=>simp [intOf];omega
  ·have hd:decide ((m:Int)<(n:Int))=false:=decide_eq_false (by omega)
   obtain rfl:m=n:=by omega
   go_wp2_with fail
   go_ret
   refine ⟨-1,rfl,⟨fun h=>absurd h (by decide),fun ⟨x,hx,hu⟩=>?_⟩,HK.out⟩
   obtain ⟨i,hi,rfl⟩:=List.getElem_of_mem hx
   have:=HS.out i (by have:=HN.out;omega)
   rw [List.getD_eq_getElem?_getD,List.getElem?_eq_getElem hi] at this
   exact absurd hu (by simpa using this)
theorem below_any (u:Nat) (l:List En):belowFt ⟨u,l⟩=false ↔ ∃ x ∈ l,u≤x.at_:=by
 unfold belowFt
 rw [List.all_eq_false]
 constructor
 ·rintro ⟨x,hx,h⟩
  exact ⟨x,hx,by simpa using h⟩
 ·rintro ⟨x,hx,h⟩
  exact ⟨x,hx,by simpa using h⟩
set_option maxHeartbeats 1000000 in
set_option maxRecDepth 10000 in
theorem containsf_own (u b:Nat) (p:Option Addr) (n c:Nat) (l:List En) (hn:n=l.length) (hn9:n≤1000000) (w:World)
  (hb:w.cell? ⟨b,0,none⟩=some (.int .u32 (u:Int))) (hat:EnsAt w p l) :
  Calls Tryz.prog 184 #[.slice p n c,.func (.func 185) #[] #[.pointer (some ⟨b,0,none⟩)]] w fun e w'=>e=.returned (.bool (!belowFt ⟨u,l⟩))∧Keeps NoBlock w w':=by
 have HI:=hid (indexf_own u b p n c l hn hn9 w hb hat)
 have hany:=below_any u l
 obtain ⟨t,ht⟩:∃ t,t=belowFt ⟨u,l⟩:=⟨_,rfl⟩
 rw [← ht] at hany ⊢
 have HA:=hid hany
 clear hn hn9 hb hat ht hany
 go_enter Tryz.func184,Tryz.ntmps184
 go_wp2_with fail
 refine HI.out.mono ?_
 rintro e w1 ⟨z,rfl,hz,hk⟩
 have HK:=hid hk
 have hd:decide (0≤z)=!t:=by
  cases t
  ·exact decide_eq_true (hz.2 (HA.out.1 rfl))
  ·exact decide_eq_false (fun h=>by have:=HA.out.2 (hz.1 h);simp at this)
 clear hz hk HI
 go_wp2_with fail
 go_ret
 exact ⟨by first|rfl|simp,HK.out⟩
set_option maxHeartbeats 1000000 in
set_option maxRecDepth 10000 in
theorem allbelow_own (u:Nat) (p:Option Addr) (n c:Nat) (l:List En) (hn:n=l.length) (hn9:n≤1000000) (w:World) (hat:EnsAt w p l) :
  Calls Tryz.prog 154 #[.slice p n c,.int .u32 (u:Int)] w fun e w'=>e=.returned (.bool (belowFt ⟨u,l⟩))∧Keeps NoBlock w w':=by
 have HW:=hid (Whole.new w 25 #[.int .u32 (u:Int)])
 have HK:=hid ((Keeps.refl NoBlock w).alloc (.cells #[.int .u32 (u:Int)] 25))
 have HC:=hid (containsf_own u w.heap.size p n c l hn hn9 _ (HW.out.cell 0 rfl) (EnsAt.keep hat HK.out))
 obtain ⟨t,ht⟩:∃ t,t=belowFt ⟨u,l⟩:=⟨_,rfl⟩
 rw [← ht] at HC ⊢
 clear hn hn9 hat ht
 go_enter Tryz.func154,Tryz.ntmps154
 go_wp2_with fail
 refine HC.out.mono ?_
 rintro e w1 ⟨rfl,hk⟩
 have HK1:=hid (HK.out.trans hk)
 clear hk HC
 go_wp2_with fail
 go_ret
 exact ⟨by first|rfl|simp,HK1.out⟩
set_option maxHeartbeats 2000000 in
set_option maxRecDepth 10000 in
theorem ftcheck_own (u:Nat) (q:Option Addr) (n c:Nat) (l:List En) (w:World) (hi:InE w q n c l) (hn9:n≤100000) :
  Calls Tryz.prog 120 #[ftV u q n c] w fun e w'=>e=.returned (.int .i64 (checkFt ⟨u,l⟩))∧Keeps NoBlock w w':=by
 have HR:=hid (Whole.new w 161 #[.int .u32 (u:Int),.slice q n c])
 have HK:=hid ((Keeps.refl NoBlock w).alloc (.cells #[.int .u32 (u:Int),.slice q n c] 161))
 have hat:=EnsAt.keep hi.at_ HK.out
 have c0:=HR.out.cell 0 rfl
 have c1:=HR.out.cell 1 rfl
 simp only [List.getElem_toArray,List.getElem_cons_zero,List.getElem_cons_succ] at c0 c1
 have hdef:checkFt ⟨u,l⟩=if n<1 then 4 else if 1048576<n then 3 else if risesE l=true then (if belowFt ⟨u,l⟩=true then 0 else 4) else 8:=by rw [hi.len];rfl
 rw [hdef,if_neg (show ¬ 1048576<n by omega)]
 have hd3:decide ((1048576:Int)<(n:Int))=false:=decide_eq_false (by omega)
 have hd4:decide (1048576<n)=false:=decide_eq_false (by omega)
 by_cases h0:n<1
 ·obtain rfl:n=0:=by omega
  rw [if_pos (by omega)]
  clear hi hat hdef hn9
  unfold ftV
  go_enter Tryz.func120,Tryz.ntmps120
  go_wp2_with fail
  go_ret
  exact ⟨rfl,HK.out⟩
 ·rw [if_neg h0]
  have hn1:decide (n=0)=false:=decide_eq_false (by omega)
  have hn2:¬ n=0:=by omega
  have HRi:=hid (rising_own q n c l hi.len (by omega) _ hat)
  cases hr:risesE l
  ·rw [hr] at HRi
   rw [if_neg (by simp)]
   clear hi hat hdef hn9 h0 hr
   unfold ftV
   go_enter Tryz.func120,Tryz.ntmps120
   go_wp2_with fail
   refine HRi.out.mono ?_
   rintro e w1 ⟨rfl,hk⟩
   have HK1:=hid (HK.out.trans hk)
   clear hk
   go_wp2_with fail
   go_ret
   exact ⟨rfl,HK1.out⟩
  ·rw [hr] at HRi
   rw [if_pos rfl]
   have HA:=hid (fun w1 (hk:Keeps NoBlock (w.alloc (.cells #[.int .u32 (u:Int),.slice q n c] 161)) w1)=>allbelow_own u q n c l hi.len (by omega) w1 (EnsAt.keep hat hk))
   obtain ⟨t,ht⟩:∃ t,t=belowFt ⟨u,l⟩:=⟨_,rfl⟩
   rw [← ht] at HA ⊢
   clear hi hat hdef hn9 h0 hr ht
   unfold ftV
   go_enter Tryz.func120,Tryz.ntmps120
   go_wp2_with fail
   refine HRi.out.mono ?_
   rintro e w1 ⟨rfl,hk⟩
   have HW1:=hid (HR.out.keep hk (fun h=>h))
   have HK1:=hid (HK.out.trans hk)
   have HA1:=hid (HA.out w1 hk)
   clear hk c0 c1 HA HRi
   have c0:=HW1.out.cell 0 rfl
   have c1:=HW1.out.cell 1 rfl
   simp only [List.getElem_toArray,List.getElem_cons_zero,List.getElem_cons_succ] at c0 c1
   go_wp2_with fail
   refine HA1.out.mono ?_
   rintro e w2 ⟨rfl,hk⟩
   have HK2:=hid (HK1.out.trans hk)
   clear hk HA1
   cases t
   ·go_wp2_with fail
    go_ret
    exact ⟨rfl,HK2.out⟩
   ·go_wp2_with fail
    go_ret
    exact ⟨rfl,HK2.out⟩
end
section
open Go.RowKit
set_option maxHeartbeats 4000000 in
set_option maxRecDepth 10000 in
theorem fput_ownT (base g:Nat) (xs:List Int) (p:Option Addr) (n c:Nat) (l:List Nat) (w:World) (h:BufAt w base g xs) (hs:base≤w.heap.size) (hn:n=l.length) (hn9:n≤100000) (hfine:∀ x ∈ l,x<18446744073709551616) (hrow:∀ W,Stays w W→RowN W p l) (hx:xs.length≤100000000) :
  Calls Tryz.prog 123 #[.pointer (some ⟨g,0,none⟩),.slice p n c] w fun e w'=>e=.returned (.tuple #[])∧BufAt w' base g (xs ++ textF l)∧Keeps (OnBuf base g) w w':=by
 have H:=hid h
 have HI:=hid hn
 have HFi:=hid hfine
 have HF:=hid hrow
 have HX:=hid hx
 clear h hrow hx hn hfine
 go_enter Tryz.func123,Tryz.ntmps123
 go_wp2_with fail
 go_loopw [10] (fun i wr=>∃ j:Nat,j≤n∧i=.int .i64 (j:Int)∧Hid (BufAt wr base g (xs ++ textF (l.take j)))∧Hid (Keeps (OnBuf base g) w wr)∧Hid (Stays w wr)) (fun i _=>n - (intOf i).toNat)
 case atStart=>exact ⟨0,Nat.zero_le _,rfl,hid (by simpa [textF] using H.out),hid (Keeps.refl _ _),hid (Stays.refl _)⟩
 case round =>
  obtain ⟨j,hj,rfl,HB,HK,HS⟩:=hrel
  by_cases hlt:j<n
  ·have hdj:decide ((j:Int)<(n:Int))=true:=decide_eq_true (by omega)
   have hjl:j<l.length:=by rw [← HI.out];exact hlt
   obtain ⟨a,rfl,c0⟩:=HF.out wr HS.out j hjl
   have hfn:=HFi.out (l.getD j 0) (by simp [hjl])
   have HT:=hid (textF_takeO hjl)
   obtain ⟨r,hr⟩:∃ r,r=l.getD j 0:=⟨_,rfl⟩
   rw [← hr] at c0 hfn HT
   clear hr
   have HL:Hid ((xs ++ textF (l.take j)).length≤110000000):=hid (by
    have:=HX.out
    rw [List.length_append,textF_length,List.length_take]
    omega)
   have HE:=hid (bufEightT base g (xs ++ textF (l.take j)) (r:Int) wr HB.out (by have:=HK.out.size;omega) (by have:=HL.out;omega) (by omega) (by omega))
   clear hfn hjl HB
   go_wp2_with fail
   refine HE.out.mono ?_
   rintro e w2 ⟨rfl,hb,hk,hst⟩
   have HB2:=hid hb
   have HK2:=hid (HK.out.trans hk)
   have HS2:=hid (HS.out.trans hst)
   clear hb hk hst HE
   go_wp2_with fail
   go_roundw
   case rel =>
    refine ⟨j+1,by omega,by go_num,hid ?_,hid HK2.out,hid HS2.out⟩
    rw [HT.out,← List.append_assoc]
    exact HB2.out
   case measure=>simp [intOf];omega
  ·have hdj:decide ((j:Int)<(n:Int))=false:=decide_eq_false (by omega)
   have HE:Hid (l.take j=l):=hid (List.take_of_length_le (by have:=HI.out;omega))
   rw [HE.out] at HB
   go_wp2_with fail
   go_returns
   exact ⟨rfl,HB.out,HK.out⟩
theorem nums_stay {w0 wr:World} {l:List Nat} {v:Value} (h:NumsSoFar w0 l v wr):∃ q d,v=.slice q l.length d∧∀ W,Stays wr W→RowN W q l:=by
 obtain ⟨h',hb⟩:=h
 rcases h' with ⟨h0,⟨rfl,e⟩|⟨g,cap,cur,rfl,hg,hh,hr⟩⟩
 ·exact ⟨none,0,by rw [e],fun W _ i hi=>by rw [e] at hi;omega⟩
 ·refine ⟨_,cap,rfl,fun W hS i hi=>⟨_,rfl,?_⟩⟩
  have hW:Whole W g 46 cur:=hS g _ _ (by decide) (by decide) hh
  have h9:W.ownsRow w0.heap.size 46 1 (.slice (some ⟨g,0,none⟩) l.length cap) l.length (l.map numV):=⟨h0,.inr ⟨g,cap,cur,rfl,hg,hW,hr⟩⟩
  exact h9.cells (g:=g) rfl i _ (by simp [List.getElem?_eq_getElem hi,numV])
set_option maxHeartbeats 8000000 in
set_option maxRecDepth 10000 in
theorem ftput_own (u:Nat) (q:Option Addr) (n c:Nat) (l:List En) (w:World) (hu:u<4294967296) (hi:InE w q n c l) (hn9:n≤10000) :
  Calls Tryz.prog 94 #[ftV u q n c] w fun e w'=>∃ v,e=.returned (.tuple #[v,.int .i64 (checkFt ⟨u,l⟩)])∧NewBytes w (putFt ⟨u,l⟩) v w':=by
 have HR0:=hid (Whole.new w 161 #[.int .u32 (u:Int),.slice q n c])
 have HK0:=hid ((Keeps.refl NoBlock w).alloc (.cells #[.int .u32 (u:Int),.slice q n c] 161))
 have hs0:(w.alloc (.cells #[.int .u32 (u:Int),.slice q n c] 161)).heap.size=w.heap.size+1:=by simp
 have hat:=EnsAt.keep hi.at_ HK0.out
 have HCk:=hid (ftcheck_own u q n c l _ ⟨hi.len,hi.cap,hi.room,hi.bare,hi.fine,hat⟩ (by omega))
 have c0:=HR0.out.cell 0 rfl
 have c1:=HR0.out.cell 1 rfl
 simp only [List.getElem_toArray,List.getElem_cons_zero,List.getElem_cons_succ] at c0 c1
 unfold putFt
 by_cases hc:checkFt ⟨u,l⟩=0
 ·rw [if_pos hc]
  rw [hc] at HCk ⊢
  have hbl:=bodyFt_length ⟨u,l⟩
  have hbm:=bodyLen_le l.length
  have hbo:=bodyFt_octets (f:=⟨u,l⟩)
  have hbd:bodyFt ⟨u,l⟩=((([] ++ [(4:Int)]) ++ digits (n:Int) 4) ++ digits (u:Int) 4) ++ textE l ++ textF (ofF l):=by unfold bodyFt;simp [hi.len]
  have hll:=hi.len
  simp only at hbl
  have hel:=textE_length l
  have HOld:Hid (0<l.length→∀ a,q=some a→a.block<w.heap.size):=hid (fun h0 a ha=>EnsAt.old hi.at_ h0 a ha)
  have HOf:=hid (fun W (h:EnsAt W q l)=>callsIn_wide.1 (of_in 3 (Nat.le_refl _) q n c l W hi.len hi.cap hi.room (by omega) h))
  have HTp:=hid (fun g X W (h:BufAt W g g X) (hs:g≤W.heap.size) (he:EnsAt W q l) (hf:w.heap.size≤g) (hx:X.length≤100000000)=>put_own g g X q n c l W h hs ⟨hi.len,hi.cap,hi.room,hi.bare,hi.fine,he⟩ (by omega) (fun h0 a ha=>by have:=HOld.out (by omega) a ha;unfold OnBuf;omega) hx)
  have HFp:=hid (fun g X p m d W (h:BufAt W g g X) (hs:g≤W.heap.size) (hm:m=(ofF l).length) (hr:∀ V,Stays W V→RowN V p (ofF l)) (hx:X.length≤100000000)=>fput_ownT g g X p m d (ofF l) W h hs hm (by rw [hm,ofF_length];omega) (ofF_fine hi.fine) hr hx)
  obtain ⟨E,hE⟩:∃ E,E=textE l:=⟨_,rfl⟩
  rw [← hE] at HTp hbd hel
  obtain ⟨F,hF⟩:∃ F,F=ofF l:=⟨_,rfl⟩
  rw [← hF] at HOf HFp hbd
  obtain ⟨T,hT⟩:∃ T,T=textF F:=⟨_,rfl⟩
  rw [← hT] at HFp hbd
  obtain ⟨G,hG⟩:∃ G,G=bodyFt ⟨u,l⟩:=⟨_,rfl⟩
  rw [← hG] at hbd hbl hbo ⊢
  obtain ⟨L,hL⟩:∃ L,L=G.length:=⟨_,rfl⟩
  have HS:=hid (fun p d W (hd:L≤d) (hd':d≤9223372036854775807) (hq:p=none→L=0∧d=0) (h8:Bytes8 W p G)=>seal_own p L d G W ⟨hL,hd,hd',hq,hbo,h8⟩ (by omega))
  have HBy:=hid (fun g W (h:BufAt W g g G)=>bufBytes g g G W h (by omega))
  rw [← hL] at HBy
  have HL:=hid hL
  have HG0:Hid (0<G.length):=hid (by rw [hbd];simp)
  have HBd:=hid hbd
  have hE9:E.length≤200000:=by omega
  have wn:IntKind.u32.wrap (n:Int)=(n:Int):=by rw [IntKind.wrap_u32];omega
  have HAt:=hid hat
  have HS0:=hid hs0
  clear hbl hbm hbo hbd hll hel hi hat hE hF hT hG hL hs0 hc
  unfold ftV
  go_enter Tryz.func94,Tryz.ntmps94
  go_wp2_with fail
  refine HCk.out.mono ?_
  rintro e w1 ⟨rfl,hk⟩
  have hN:=HR0.out.keep hk (fun h=>h)
  have hE1:=EnsAt.keep HAt.out hk
  have HK:=hid (HK0.out.trans hk)
  have HSz:=hid (show w.heap.size+1≤w1.heap.size by have:=hk.size;have:=HS0.out;omega)
  obtain ⟨g,hg⟩:∃ g,g=w1.heap.size:=⟨_,rfl⟩
  have HGg:=hid hg
  obtain ⟨W,hW⟩:∃ W,W=w1.alloc (.cells #[.slice none 0 0] 145):=⟨_,rfl⟩
  have HB:Hid (BufAt W g g []):=hid (by rw [hW,hg];exact bufNewB w1 w1.heap.size)
  have HR:Hid (Whole W w.heap.size 161 #[.int .u32 (u:Int),.slice q n c]):=hid (by rw [hW];exact hN.alloc _)
  have HQ:Hid (Keeps (fun i=>g≤i) w1 W):=hid (by rw [hW];exact (Keeps.refl _ w1).alloc _)
  have HEn:Hid (EnsAt W q l):=hid (by rw [hW];exact EnsAt.keep hE1 ((Keeps.refl NoBlock w1).alloc _))
  have HFar:Hid (w.heap.size<g):=hid (by have:=HSz.out;omega)
  clear hk hN hE1 HCk HR0 HK0 HAt c0 c1
  go_wp2_with fail
  rw [← hW,← hg]
  clear hW hg
  have s0:W.drew.cell? ⟨w.heap.size,0,none⟩=some (.int .u32 (u:Int))∧W.drew.cell? ⟨w.heap.size,1,none⟩=some (.slice q n c):=⟨HR.out.cell 0 rfl,HR.out.cell 1 rfl⟩
  have sN:W.cell? ⟨w.heap.size,0,none⟩=some (.int .u32 (u:Int))∧W.cell? ⟨w.heap.size,1,none⟩=some (.slice q n c):=⟨HR.out.cell 0 rfl,HR.out.cell 1 rfl⟩
  have sz0:Hid (g≤W.heap.size):=hid (by have:=HQ.out.size;have:=HGg.out;omega)
  go_region_held3 (fun w'=>w'.cell? ⟨w.heap.size,0,none⟩=some (.int .u32 (u:Int))∧w'.cell? ⟨w.heap.size,1,none⟩=some (.slice q n c))
   (first|exact s5|exact s0|exact sN)
   (first|(go_at_call 79;refine (bufByteK g g _ _ _ (by exact HB.out) (by exact sz0.out) (by simp)).mono ?_;rintro e w5 ⟨rfl,hb,hk⟩;have hk':Keeps (fun i=>g≤i) W w5:=(by first|exact hk.onBuf (Nat.le_refl _)|exact (hk.onBuf (Nat.le_refl _)).ofDrew|exact (hk.onBuf (Nat.le_refl _)).ofDrewN);have HB:=hid hb;have HQ:=hid (HQ.out.trans hk');have HR:=hid (HR.out.keep hk' (by have:=HFar.out;omega));have HEn:=hid (EnsAt.keepFar HEn.out hk' (fun h0 a ha=>by have:=HOld.out h0 a ha;have:=HFar.out;omega));have sz0:Hid (g≤w5.heap.size):=hid (by have:=sz0.out;have:=hk'.size;omega);have s5:w5.cell? ⟨w.heap.size,0,none⟩=some (.int .u32 (u:Int))∧w5.cell? ⟨w.heap.size,1,none⟩=some (.slice q n c):=⟨HR.out.cell 0 rfl,HR.out.cell 1 rfl⟩;clear hb hk hk';obtain ⟨W,rfl⟩:∃ x,x=w5:=⟨_,rfl⟩)|(go_at_call 121;refine (bufFourK g g _ _ _ (by exact HB.out) (by exact sz0.out) (by simp [digits_length]) (by omega) (by omega)).mono ?_;rintro e w5 ⟨rfl,hb,hk⟩;have hk':Keeps (fun i=>g≤i) W w5:=(by first|exact hk.onBuf (Nat.le_refl _)|exact (hk.onBuf (Nat.le_refl _)).ofDrew|exact (hk.onBuf (Nat.le_refl _)).ofDrewN);have HB:=hid hb;have HQ:=hid (HQ.out.trans hk');have HR:=hid (HR.out.keep hk' (by have:=HFar.out;omega));have HEn:=hid (EnsAt.keepFar HEn.out hk' (fun h0 a ha=>by have:=HOld.out h0 a ha;have:=HFar.out;omega));have sz0:Hid (g≤w5.heap.size):=hid (by have:=sz0.out;have:=hk'.size;omega);have s5:w5.cell? ⟨w.heap.size,0,none⟩=some (.int .u32 (u:Int))∧w5.cell? ⟨w.heap.size,1,none⟩=some (.slice q n c):=⟨HR.out.cell 0 rfl,HR.out.cell 1 rfl⟩;clear hb hk hk';obtain ⟨W,rfl⟩:∃ x,x=w5:=⟨_,rfl⟩))
  have HB3:Hid (BufAt W g g ((([] ++ [(4:Int)]) ++ digits (n:Int) 4) ++ digits (u:Int) 4)):=HB
  have HQ3:=HQ
  have HR3:=HR
  have HEn3:=HEn
  have HSz3:=sz0
  clear HB HQ HR HEn s0 sN s5 sz0
  have q1:W.cell? ⟨w.heap.size,1,none⟩=some (.slice q n c):=HR3.out.cell 1 rfl
  go_wp2_with fail
  refine (HTp.out g _ W HB3.out HSz3.out HEn3.out (by have:=HFar.out;omega) (by simp [digits_length])).mono ?_
  rintro e w6 ⟨rfl,hb,hk⟩
  have hk':Keeps (fun i=>g≤i) W w6:=hk.onBuf (Nat.le_refl _)
  have HB6:=hid hb
  have HQ6:=hid (HQ3.out.trans hk')
  have HR6:=hid (HR3.out.keep hk' (by have:=HFar.out;omega))
  have HEn6:=hid (EnsAt.keepFar HEn3.out hk' (fun h0 a ha=>by have:=HOld.out h0 a ha;have:=HFar.out;omega))
  have HSz6:Hid (g≤w6.heap.size):=hid (by have:=HSz3.out;have:=hk'.size;omega)
  clear hb hk hk' q1 HB3 HQ3 HR3 HEn3 HSz3 HTp
  have q1:w6.cell? ⟨w.heap.size,1,none⟩=some (.slice q n c):=HR6.out.cell 1 rfl
  go_wp2_with fail
  refine (HOf.out w6 HEn6.out).mono ?_
  rintro e w7 ⟨v,rfl,hns⟩
  have hk:Keeps NoBlock w6 w7:=Keeps.ofBelow hns.2
  obtain ⟨p,d,rfl,hst⟩:=nums_stay hns
  have HB7:=hid (BufAt.keepO HB6.out hk (fun h=>h) (fun _ _ _ _ h=>h))
  have HQ7:=hid (HQ6.out.trans (hk.wider (S':=fun i=>g≤i) (fun _ _ h=>h.elim)))
  have HSz7:Hid (g≤w7.heap.size):=hid (by have:=HSz6.out;have:=hk.size;omega)
  have HSt:=hid hst
  clear hk hns hst HB6 HQ6 HR6 HEn6 HSz6 HOf q1
  go_wp2_with fail
  refine (HFp.out g _ p _ d w7 HB7.out HSz7.out rfl HSt.out (by simp [digits_length];omega)).mono ?_
  rintro e w8 ⟨rfl,hb,hk⟩
  have HB8:=hid hb
  rw [← HBd.out] at HB8
  have HQ8:=hid (HQ7.out.trans (hk.onBuf (Nat.le_refl _)))
  clear hb hk HB7 HQ7 HSz7 HSt HFp
  go_wp2_with fail
  refine (HBy.out g w8 HB8.out).mono ?_
  rintro e w9 ⟨v,rfl,q9,d9,rfl,hd,hd',hby,hq,hk⟩
  have HK9:=hid (HK.out.then (HQ8.out.trans (hk.wider (S':=fun i=>g≤i) (fun _ _ h=>h.elim))) (fun i hi h=>by have:=HFar.out;omega))
  have HB9:=hid hby
  have HQ9:Hid (q9=none→L=0∧d9=0):=hid (fun h0=>by
   obtain ⟨a,ha,_⟩:=HB9.out HG0.out
   rw [h0] at ha
   simp at ha)
  have hd9:d9≤9223372036854775807:=by first|omega|(unfold maxLen at hd';omega)|exact hd'
  clear hby hq hk hd'
  go_wp2_with fail
  refine (HS.out q9 d9 _ hd hd9 HQ9.out HB9.out).mono ?_
  rintro e w10 ⟨v2,rfl,q2,m2,d2,rfl,hm2,hmd2,hd2,hq2,hb2,hk2⟩
  have HN:=hid (show NewBytes w (sealN G) (.slice q2 m2 d2) w10 from ⟨q2,m2,d2,rfl,hm2,hmd2,hd2,hq2,hb2,HK9.out.trans hk2⟩)
  clear hm2 hmd2 hd2 hq2 hb2 hk2
  go_wp2_with fail
  refine bodyPost_ret (results_tmp2 rfl _ _ _) rfl ?_
  exact ⟨_,rfl,HN.out⟩
 ·rw [if_neg hc]
  obtain ⟨z,hz⟩:∃ z,z=checkFt ⟨u,l⟩:=⟨_,rfl⟩
  rw [← hz] at HCk hc ⊢
  have hne:(z != 0)=true:=by rw [bne_iff_ne];exact hc
  clear hc hi hz hat hs0
  unfold ftV
  go_enter Tryz.func94,Tryz.ntmps94
  go_wp2_with fail
  refine HCk.out.mono ?_
  rintro e w1 ⟨rfl,hk⟩
  have HK:=hid (HK0.out.trans hk)
  clear hk
  go_wp2_with fail
  refine bodyPost_ret (results_tmp2 rfl _ _ _) rfl ?_
  exact ⟨_,rfl,.ofNil _ _ HK.out⟩
theorem ftput_ok:FtPutOk:=⟨fun u q n c l w hu hi h9=>ftput_own u q n c l w hu hi h9⟩
end
section
open Go.RowKit
set_option maxHeartbeats 2000000 in
set_option maxRecDepth 10000 in
theorem place_own (r:Rec) (a:Nat) (w:World) (ho:Octets r.key) (hl:r.key.length≤1000000) :
  Calls Tryz.prog 62 #[recV r,.int .u32 (a:Int)] w fun e w'=>e=.returned (enV ⟨(wxxh 0 r.key).toNat,a⟩)∧Keeps NoBlock w w':=by
 have hu:=wxxh_u64 0 r.key
 have HH:=hid (fun w=>hash_own r.key w ho hl)
 obtain ⟨h,hh⟩:∃ h:Nat,wxxh 0 r.key=(h:Int):=⟨(wxxh 0 r.key).toNat,by unfold U64 at hu;omega⟩
 rw [hh] at HH ⊢
 rw [Int.toNat_natCast]
 clear hh hu ho hl
 obtain ⟨del,seq,key,val⟩:=r
 unfold recV at *
 simp only at HH ⊢
 have HW:=hid ((Whole.new w 48 (recCells ⟨del,seq,key,val⟩)).alloc (.cells (enCells En.none) 129))
 have HZ:=hid (Whole.newAt (w.alloc (.cells (recCells ⟨del,seq,key,val⟩) 48)) 129 (enCells En.none) (w.heap.size+1) (by simp))
 have HK:=hid (((Keeps.refl NoBlock w).alloc (.cells (recCells ⟨del,seq,key,val⟩) 48)).alloc (.cells (enCells En.none) 129))
 have c2:=HW.out.cell 2 rfl
 unfold recCells enCells En.none at HW HZ HK c2
 simp only [List.getElem_toArray,List.getElem_cons_zero,List.getElem_cons_succ] at c2
 simp only at HW HZ HK
 unfold enV
 go_enter Tryz.func62,Tryz.ntmps62
 go_wp2_with fail
 refine (HH.out _).mono ?_
 rintro e w1 ⟨rfl,hk⟩
 have HK1:=hid (HK.out.trans hk)
 have HZ1:=hid (HZ.out.keep hk (fun h=>h))
 have f0:=HZ1.out.free 0
 have f1:=HZ1.out.free 1
 have z0:=HZ1.out.cell 0 rfl
 have z1:=HZ1.out.cell 1 rfl
 simp only [List.getElem_toArray,List.getElem_cons_zero,List.getElem_cons_succ] at z0 z1
 clear hk c2
 go_wp2_with fail
 have hN:=(HZ1.out.set 0 (.int .u64 (h:Int))).set 1 (.int .u32 (a:Int))
 have g0:=hN.cell 0 rfl
 have g1:=hN.cell 1 rfl
 exact bodyPost_ret (v:=.agg #[.int .u64 (h:Int),.int .u32 (a:Int)]) (by simp [results,Tryz.results62,go_sem,g0,g1]) rfl ⟨rfl,(HK1.out.setNew (by omega) 0 _).setNew (by omega) 1 _⟩
set_option maxHeartbeats 2000000 in
set_option maxRecDepth 10000 in
theorem seal_places (u:Nat) (q:Option Addr) (n c:Nat) (l:List En) (w:World) (hu:u<4294967296) (h:InE w q n c l) (hn:n≤10000) :
  Calls Tryz.prog 64 #[.int .u32 (u:Int),.slice q n c] w fun e w'=>∃ v,e=.returned (.tuple #[v,.int .i64 (checkFt ⟨u,sortE l⟩)])∧NewBytes w (putFt ⟨u,sortE l⟩) v w':=by
 have HSo:=hid (fun w h=>tsorted_own q n c l w h (by omega))
 have HIn:=hid h
 have hsl:=sortE_len l
 have hsf:∀ x ∈ sortE l,x.Fine:=fun x hx=>h.fine x (sortE_mem.1 hx)
 have hln:=h.len
 have HPt:=hid (fun q' m' d' w (hi:InE w q' m' d' (sortE l))=>ftput_ok.put u q' m' d' (sortE l) w hu hi (by have:=hi.len;omega))
 have HFi:=hid hsf
 obtain ⟨T,hT⟩:∃ T,T=sortE l:=⟨_,rfl⟩
 rw [← hT] at HSo HPt HFi ⊢
 unfold ftV at HPt
 obtain ⟨y,hy⟩:∃ y,y=checkFt ⟨u,T⟩:=⟨_,rfl⟩
 obtain ⟨ys,hys⟩:∃ ys,ys=putFt ⟨u,T⟩:=⟨_,rfl⟩
 rw [← hy] at HPt ⊢
 rw [← hys] at HPt ⊢
 clear hT hy hys h hsl hsf hln hn
 go_enter Tryz.func64,Tryz.ntmps64
 go_wp2_with fail
 refine (HSo.out _ HIn.out).mono ?_
 rintro e w1 ⟨v,rfl,hs⟩
 have HK1:=hid hs.keeps
 obtain ⟨q1,m1,d1,rfl,hm1,hmd1,hd1,hq1,hat1,_⟩:=hs.new (dd:=En.none)
 have HI1:=hid (show InE w1 q1 m1 d1 T from ⟨hm1,hmd1,hd1,hq1,HFi.out,hat1⟩)
 clear hs hm1 hmd1 hd1 hq1 hat1
 go_wp2_with fail
 refine (HPt.out _ _ _ _ HI1.out).mono ?_
 rintro e w2 ⟨v2,rfl,q2,m2,d2,rfl,hm2,hmd2,hd2,hq2,hb2,hk2⟩
 have HN:=hid (show NewBytes w ys (.slice q2 m2 d2) w2 from ⟨q2,m2,d2,rfl,hm2,hmd2,hd2,hq2,hb2,HK1.out.trans hk2⟩)
 clear hm2 hmd2 hd2 hq2 hb2 hk2
 go_wp2_with fail
 refine bodyPost_ret (results_tmp2 rfl _ _ _) rfl ?_
 exact ⟨_,rfl,HN.out⟩
end
section
open Go.RowKit
structure BuildAt (w:World) (g:Nat) (f p:Value) (e s n:Nat) (l:List Rec):Prop where
 cells:Whole w g 126 (bCells e s n (outS e s n l).length l.length f p)
 frames:w.ownsRow 0 5 1 f (outS e s n l).length ((outS e s n l).map (Value.int .u8))
 places:w.ownsRow 0 129 2 p l.length (twoFlat enH enA (entsS e s n l))
def bF (g:Nat) (f p:Value):Nat→Prop:=fun k=>k=g ∨ f.ownBlock=some k ∨ p.ownBlock=some k
def SgAt:BAt:=fun w F v e s n l=>∃ g f p,v=.pointer (some ⟨g,0,none⟩)∧F=bF g f p∧BuildAt w g f p e s n l
theorem BuildAt.keep {w w':World} {g:Nat} {f p:Value} {e s n:Nat} {l:List Rec} {S:Nat→Prop} (h:BuildAt w g f p e s n l) (hk:Keeps S w w') (hs:∀ k,bF g f p k→¬ S k):BuildAt w' g f p e s n l :=
 ⟨h.cells.keep hk (hs g (.inl rfl)),ownBlocks h.frames (fun k hk'=>hk.block k (h.frames.lt k hk').2 (hs k (.inr (.inl hk')))),ownBlocks h.places (fun k hk'=>hk.block k (h.places.lt k hk').2 (hs k (.inr (.inr hk'))))⟩
theorem BuildAt.old {w:World} {g:Nat} {f p:Value} {e s n:Nat} {l:List Rec} (h:BuildAt w g f p e s n l):∀ k,bF g f p k→k<w.heap.size:=fun k hk=>by
 rcases hk with rfl|hk|hk
 ·exact h.cells.lt
 ·exact (h.frames.lt k hk).2
 ·exact (h.places.lt k hk).2
theorem sg_build:SgBuild SgAt where
 keep:=fun {w w' F S v e s n l} h hk hs=>by
  obtain ⟨g,f,p,hv,rfl,hb⟩:=h
  exact ⟨g,f,p,hv,rfl,hb.keep hk hs⟩
 old:=fun {w F v e s n l} h=>by
  obtain ⟨g,f,p,hv,rfl,hb⟩:=h
  exact hb.old
 ptr:=fun {w F v e s n l} h=>by
  obtain ⟨g,f,p,hv,_⟩:=h
  exact ⟨g,hv⟩
theorem out_pos (e s n:Nat) (l:List Rec):0<(outS e s n l).length:=by
 unfold outS
 rw [List.length_append,(seal_length _).1]
 omega
theorem BuildAt.read {w:World} {g:Nat} {f p:Value} {e s n:Nat} {l:List Rec} (h:BuildAt w g f p e s n l) :
  ∃ gf d,f=.slice (some ⟨gf,0,none⟩) (outS e s n l).length d∧(outS e s n l).length≤d∧d≤9223372036854775807∧Bytes8 w (some ⟨gf,0,none⟩) (outS e s n l):=by
 obtain ⟨gf,d,cur,hv,h1,h2,_,hw,hc⟩:=(OwnP.ofRow h.frames).whole rfl (out_pos e s n l)
 exact ⟨gf,d,hv,h1,h2,hw.bytes _ hc⟩
theorem BuildAt.row {w:World} {g:Nat} {f p:Value} {e s n:Nat} {l:List Rec} (h:BuildAt w g f p e s n l) (hl:(outS e s n l).length≤100000000) :
  ∃ q d,p=.slice q l.length d∧InE w q l.length d (entsS e s n l):=by
 obtain ⟨q,d,hv,h1,h2,h3,h4⟩:=TwosAt.ofOwn (dd:=En.none) h.places (ents_len e s n l).symm
 exact ⟨q,d,hv,(ents_len e s n l).symm,h1,h2,h3,ents_fine hl,h4⟩
theorem sg_same {w w':World} {F:Nat→Prop} {v:Value} {e s n:Nat} {l:List Rec} (h:SgAt w F v e s n l) (hk:Keeps NoBlock w w'):SgSame SgAt F w v e s n l w' :=
 ⟨hk.wider (fun _ _ h=>h.elim),F,fun _ h=>.inl h,sg_build.keep h hk (fun _ _ h=>h)⟩
theorem sg_gives {w w':World} {F:Nat→Prop} {v u:Value} {e s n:Nat} {l:List Rec} {ys:List Int} (h:SgAt w F v e s n l) (hk:Keeps NoBlock w w') (ho:OwnB w ys u w'):SgGives SgAt F w v e s n l ys u w' :=
 ⟨hk.wider (fun _ _ h=>h.elim),ho,F,fun _ h=>.inl h,sg_build.keep h hk (fun _ _ h=>h),fun k hf hu=>by have h1:=sg_build.old h k hf;have h2:=(OwnP.lt ho k hu).1;omega⟩
set_option maxHeartbeats 2000000 in
set_option maxRecDepth 10000 in
theorem sg_open:SgOpenOk SgAt:=⟨fun F v e s n l w h hr h9 hf=>by
 obtain ⟨g,f,p,rfl,rfl,hb⟩:=h
 have HS:=hid (fun w' u hk ho=>sg_gives (w:=w) (w':=w') (u:=u) (ys:=textS e s n l false) ⟨g,f,p,rfl,rfl,hb⟩ hk ho)
 have hm:=mayHead_true.1 hr.real.may
 have hmc:mayC e s=true:=mayC_true.2 ⟨hm.1,hm.2.1,by have:=hm.2.2.2.2;have:=hm.2.2.2.1;show 1≤s;have h5:n<s:=hm.2.2.2.2;omega,hm.2.2.2.1⟩
 obtain ⟨gf,d,rfl,hd1,hd2,h8⟩:=hb.read
 have HW:=hid (whole_own g e s n _ _ (some ⟨gf,0,none⟩) (outS e s n l).length d p (outS e s n l) none 0 0 [] w hb.cells hmc rfl h8 rfl (Bytes8.nil _ _) (by have:=out_fits hr;omega))
 have ht:textS e s n l false=outS e s n l ++ [] ++ List.replicate (2 ^ e - (outS e s n l ++ []).length) 255:=rfl
 rw [ht] at HS
 clear ht hb hr h9 hf hm hmc hd1 hd2 h8
 go_enter Tryz.func37,Tryz.ntmps37
 go_wp2_with fail
 refine HW.out.mono ?_
 rintro r w1 ⟨u,rfl,ho,hk⟩
 have HN:=hid (HS.out w1 u hk ho)
 clear ho hk
 go_wp2_with fail
 go_ret
 exact ⟨u,rfl,HN.out⟩⟩
end
section
open Go.RowKit
set_option maxHeartbeats 4000000 in
set_option maxRecDepth 10000 in
theorem sgnew_may (e s n:Nat) (w:World) (he:e<256) (hs:s<4294967296) (hn:n<4294967296) (hm:mayHead e s n=true) :
  Calls Tryz.prog 35 #[confV e s,.int .u32 (n:Int)] w fun r w'=>Keeps NoBlock w w'∧∃ F v,r=.returned (.tuple #[v,.int .i64 0])∧SgAt w' F v e s n []∧∀ k,F k→w.heap.size≤k:=by
 have HE:=hid (fun w=>empty_own e s n w he hs hn)
 have HP:=hid (fun w=>puthead_both e s n w he hs hn)
 rw [if_pos hm,if_pos hm] at HE
 rw [if_pos hm,show putH e s n=sealN (headB e s n) by unfold putH;rw [if_pos hm]] at HP
 have hr:roomV (emptyP e s n)=.agg #[.int .u8 (e:Int),.int .u32 (s:Int),.int .u32 (n:Int),.int .i64 ((outS e s n []).length:Int),.int .i64 0]:=by rw [outS_nil];rfl
 rw [hr] at HE
 have HO:=hid (outS_nil e s n)
 obtain ⟨T,hT⟩:∃ T,T=sealN (headB e s n):=⟨_,rfl⟩
 rw [← hT] at HO HP
 rw [HO.out] at HE
 obtain ⟨L,hL⟩:∃ L,L=T.length:=⟨_,rfl⟩
 rw [← hL] at HE
 have HL:=hid hL
 have HC:=hid (Whole.new w 27 (confCells e s))
 have HK0:=hid ((Keeps.refl NoBlock w).alloc (.cells (confCells e s) 27))
 obtain ⟨c0,c1⟩:=And.intro (HC.out.cell 0 rfl) (HC.out.cell 1 rfl)
 simp only [confCells,List.getElem_toArray,List.getElem_cons_zero,List.getElem_cons_succ] at c0 c1
 clear hr hT hL he hs hn hm
 unfold confV at HE HP ⊢
 unfold confCells at HC HK0
 go_enter Tryz.func35,Tryz.ntmps35
 go_wp2_with fail
 refine (HE.out _).mono ?_
 rintro r w1 ⟨rfl,hk⟩
 have hsz:=hk.size
 have HC1:=hid ((HC.out.keep hk (fun h=>h)).alloc (.cells #[.int .u8 (e:Int),.int .u32 (s:Int),.int .u32 (n:Int),.int .i64 (L:Int),.int .i64 0] 121))
 have HR1:=hid (Whole.new w1 121 #[.int .u8 (e:Int),.int .u32 (s:Int),.int .u32 (n:Int),.int .i64 (L:Int),.int .i64 0])
 have HK1:=hid ((HK0.out.trans hk).alloc (.cells #[.int .u8 (e:Int),.int .u32 (s:Int),.int .u32 (n:Int),.int .i64 (L:Int),.int .i64 0] 121))
 clear hk c0 c1 hsz
 obtain ⟨c0,c1⟩:=And.intro (HC1.out.cell 0 rfl) (HC1.out.cell 1 rfl)
 simp only [List.getElem_toArray,List.getElem_cons_zero,List.getElem_cons_succ] at c0 c1
 go_wp2_with fail
 refine (HP.out _).mono ?_
 rintro r w2 ⟨v2,rfl,⟨q2,m2,d2,rfl,hm2,hmd2,hd2,hq2,hb2,hk⟩,hrow⟩
 obtain ⟨x0,x1,x2,x3,x4⟩:=room_at5 (HR1.out.keep hk (fun h=>h))
 have HK2:=hid (HK1.out.trans hk)
 have HRow:=hid (row_lower hrow (show w.heap.size≤_ from HK1.out.size))
 clear hk c0 c1 hm2 hmd2 hd2 hq2 hb2 hrow
 go_wp2_with fail
 refine bodyPost_ret (results_tmp2 rfl _ _ _) rfl ?_
 refine ⟨HK2.out.alloc _,bF w2.heap.size (.slice q2 m2 d2) (.slice none 0 0),_,rfl,⟨w2.heap.size,.slice q2 m2 d2,.slice none 0 0,rfl,rfl,⟨?_,?_,?_⟩⟩,fun k hk=>?_⟩
 ·have h:=Whole.new w2 126 #[.int .u8 (e:Int),.int .u32 (s:Int),.int .u32 (n:Int),.int .i64 (L:Int),.int .i64 0,.slice q2 m2 d2,.slice none 0 0]
  rw [HO.out,← HL.out]
  exact h
 ·rw [HO.out]
  exact World.ownsRow.alloc (row_lower HRow.out (Nat.zero_le _)) _
 ·exact World.ownsRow_nil _ _ _ _
 ·rcases hk with rfl|hk|hk
  ·exact HK2.out.size
  ·exact (HRow.out.lt k hk).1
  ·simp [Value.ownBlock] at hk
set_option maxHeartbeats 4000000 in
set_option maxRecDepth 10000 in
theorem sgnew_not (e s n:Nat) (w:World) (he:e<256) (hs:s<4294967296) (hn:n<4294967296) (hm:mayHead e s n=false) :
  Calls Tryz.prog 35 #[confV e s,.int .u32 (n:Int)] w fun r w'=>r=.returned (.tuple #[.pointer none,.int .i64 1])∧Keeps NoBlock w w':=by
 have HE:=hid (fun w=>empty_own e s n w he hs hn)
 have hm':¬ mayHead e s n=true:=by rw [hm];simp
 rw [if_neg hm',if_neg hm',show roomV Rm.none=.agg #[.int .u8 0,.int .u32 0,.int .u32 0,.int .i64 0,.int .i64 0] from rfl] at HE
 have HC:=hid (Whole.new w 27 (confCells e s))
 have HK0:=hid ((Keeps.refl NoBlock w).alloc (.cells (confCells e s) 27))
 obtain ⟨c0,c1⟩:=And.intro (HC.out.cell 0 rfl) (HC.out.cell 1 rfl)
 simp only [confCells,List.getElem_toArray,List.getElem_cons_zero,List.getElem_cons_succ] at c0 c1
 clear he hs hn hm hm'
 unfold confV at HE ⊢
 unfold confCells at HC HK0
 go_enter Tryz.func35,Tryz.ntmps35
 go_wp2_with fail
 refine (HE.out _).mono ?_
 rintro r w1 ⟨rfl,hk⟩
 have HK1:=hid ((HK0.out.trans hk).alloc (.cells #[.int .u8 0,.int .u32 0,.int .u32 0,.int .i64 0,.int .i64 0] 121))
 clear hk c0 c1
 go_wp2_with fail
 refine bodyPost_ret (results_tmp2 rfl _ _ _) rfl ?_
 exact ⟨rfl,HK1.out⟩
theorem sg_new:SgNewOk SgAt:=⟨fun e s n w he hs hn hm=>sgnew_may e s n w he hs hn hm,fun e s n w he hs hn hm=>sgnew_not e s n w he hs hn hm⟩
end
end Go.Proofs.YtehkjkcnigknkaaGreat

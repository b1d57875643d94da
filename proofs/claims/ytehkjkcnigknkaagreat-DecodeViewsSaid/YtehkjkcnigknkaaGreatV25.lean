/-
  DeViWalk.
-/
import Derived.Lib.Hide
import Derived.Test.YtehkjkcnigknkaaGreatV21
import Derived.Test.YtehkjkcnigknkaaGreatV22
import Derived.Test.YtehkjkcnigknkaaGreatV23
import Derived.Test.YtehkjkcnigknkaaGreatV24
namespace Go.Proofs.YtehkjkcnigknkaaGreat
open Lib (hid)
section
open Go.RowKit
def sealed17 (f:Nat→List Rec) (z i:Nat):Bool:=decide (0<(f i).length) && bitS z i
structure SegsTo (e:Nat) (f:Nat→List Rec) (z j:Nat):Prop where
 few:∀ i,i<j→(f i).length≤8
 fine:∀ i,i<j→∀ r ∈ f i,r.Fine∧checkR r=0
 long:∀ i,i<j→(textS e 6 i (f i) (sealed17 f z i)).length=2 ^ e
theorem and1 (n:Nat) (hn:n<256):bits BinOp.and IntKind.u8 (n:Int) 1=((n % 2:Nat):Int):=by
 have:∀ n:Fin 256,bits BinOp.and IntKind.u8 ((n.1:Nat):Int) 1=((n.1 % 2:Nat):Int):=by decide +kernel
 exact this ⟨n,hn⟩
theorem texts_octets {e s:Nat} {f:Nat→List Rec} {b:Nat→Bool} (he:e<256):∀ k,(∀ i,i<k→∀ r ∈ f i,r.Fine)→Octets (textsTo e s f b k)
 | 0,_=>fun x hx=>by simp [textsTo] at hx
 | k+1,h=>by
  rw [textsTo]
  exact (texts_octets he k (fun i hi=>h i (by omega))).app (textS_octets he (h k (by omega)) _)
theorem xor255 {v:Int} (h0:0≤v) (h1:v<256):bits BinOp.xor IntKind.u8 v 255=255 - v:=by
 have:∀ n:Fin 256,bits BinOp.xor IntKind.u8 ((n.1:Nat):Int) 255=255 - ((n.1:Nat):Int):=by decide +kernel
 have h:=this ⟨v.toNat,by omega⟩
 simp only at h
 rwa [show ((v.toNat:Nat):Int)=v by omega] at h
theorem shl_i64 {e j:Nat} (he:e≤24) (hj:j≤100000):IntKind.i64.wrap ((j:Int)*2 ^ e)=((j*2 ^ e:Nat):Int):=by
 have hp:2 ^ e≤16777216:=Nat.pow_le_pow_right (n:=2) (by decide) he
 have hm:j*2 ^ e≤100000*16777216:=Nat.mul_le_mul hj hp
 have e2:(j:Int)*(2:Int) ^ e=((j*2 ^ e:Nat):Int):=by push_cast;rfl
 rw [e2]
 obtain ⟨y,hy⟩:∃ y,y=j*2 ^ e:=⟨_,rfl⟩
 rw [← hy] at hm ⊢
 rw [IntKind.wrap_i64]
 omega
theorem conf_two {w:World} {g e s:Nat} (h:Whole w g 27 (confCells e s)):w.cell? ⟨g,0,none⟩=some (.int .u8 (e:Int))∧w.cell? ⟨g,1,none⟩=some (.int .u32 (s:Int)):=⟨h.cell 0 rfl,h.cell 1 rfl⟩
theorem one_rec (r:Rec) (w:World) (hf:r.Fine) (h1:r.key.length≤100000) (h2:r.val.length≤100000):InR (w.alloc (.cells (recCells r) 48)) (some ⟨w.heap.size,0,none⟩) 1 1 [r]:=by
 refine ⟨rfl,Nat.le_refl _,by decide,fun x hx=>by rw [List.mem_singleton.1 hx];exact hf,fun x hx=>by rw [List.mem_singleton.1 hx];exact h1,fun x hx=>by rw [List.mem_singleton.1 hx];exact h2,fun i hi=>?_⟩
 obtain rfl:i=0:=by simpa using hi
 have hw:=Whole.new w 48 (recCells r)
 refine ⟨_,rfl,?_,hw.cell 1 rfl,hw.cell 2 rfl,hw.cell 3 rfl⟩
 rw [Nat.zero_mul,addZero]
 exact hw.cell 0 rfl
set_option maxHeartbeats 4000000 in
set_option maxRecDepth 10000 in
theorem deviews_many {At:BAt} (HB:SgBuild At) (HNw:SgNewOk At) (HOp:SgOpenOk At) (H:ImEncOk) (HD:DeDecOk) (k:Nat) (q:Option Addr) (n c:Nat) (z sp:Nat) (w:World) (hn9:n≤9223372036854775807) (hn:6<n) :
  Calls Tryz.prog 5 #[.int .u8 (k:Int),.slice q n c,.int .u8 (z:Int),.int .u16 (sp:Int)] w fun e w'=>e=.returned (.bool true)∧Keeps NoBlock w w':=by
 have HL:=hid (fun w=>lives17_true HB HNw HOp H HD w)
 have hd1:decide ((6:Int)<(n:Int))=true:=decide_eq_true (by omega)
 have hd2:decide (6<n)=true:=decide_eq_true hn
 clear HB HNw HOp H HD hn
 go_enter Tryz.func5,Tryz.ntmps5
 go_wp2_with fail
 refine (HL.out _).mono ?_
 rintro e w1 ⟨rfl,hk1⟩
 have HK:=hid hk1
 clear hk1
 go_wp2_with fail
 refine (HL.out _).mono ?_
 rintro e w2 ⟨rfl,hk1⟩
 have HK:=hid (HK.out.trans hk1)
 clear hk1
 go_wp2_with fail
 go_ret
 exact ⟨rfl,HK.out⟩
set_option maxHeartbeats 16000000 in
set_option maxRecDepth 10000 in
theorem deviews_few {At:BAt} (HB:SgBuild At) (HNw:SgNewOk At) (HOp:SgOpenOk At) (H:ImEncOk) (HD:DeDecOk) (HV:DeViOk) (k:Nat) (q:Option Addr) (n c:Nat) (f:Nat→List Rec) (z sp:Nat) (w:World) (hk:k<256) (hz:z<256) (hsp:sp<65536) (hr:RowsAt w q n f) (hn:n≤6) :
  Calls Tryz.prog 5 #[.int .u8 (k:Int),.slice q n c,.int .u8 (z:Int),.int .u16 (sp:Int)] w fun e w'=>e=.returned (.bool true)∧Keeps NoBlock w w':=by
 have HL:=hid (fun w=>lives17_true HB HNw HOp H HD w)
 have hd1:decide ((6:Int)<(n:Int))=false:=decide_eq_false (by omega)
 have hd2:decide (6<n)=false:=decide_eq_false (by omega)
 obtain ⟨he1,he2,hs1,hs2⟩:=small_room k
 have HSm:=hid (fun w=>small15_go k hk w)
 have hsh:=shl15 (k:=k)
 have hzz:=two15 k
 obtain ⟨e,hed⟩:∃ e,e=smallE k:=⟨_,rfl⟩
 obtain ⟨s,hsd⟩:∃ s,s=smallS k:=⟨_,rfl⟩
 rw [← hed] at HSm hsh hzz he1 he2
 rw [← hsd] at HSm hs1 hs2
 have HEn:=hid (fun p c r w h=>H.enc e 6 p 1 c [r] w (by omega) (by decide) (by decide) (.inl (by decide)) h)
 have HTx:=hid (fun i p m c l b (hi:SegIn e 6 i l) hm w hl=>text15_ref e 6 i (by omega) p m c l b hi hm w hl)
 have HVw:=hid (fun p n c ys w h hn=>HV.views e 6 p n c ys w (by omega) (by decide) h hn)
 have HSg:=hid (fun i (hi:i<6) (l:List Rec) hl hf hk=>seg_views (e:=e) (s:=6) (n:=i) (by omega) (by decide) (by omega) (l:=l) hl hf hk)
 have HR:=hid hr
 clear HB HNw HOp H HD HV hed hsd hr
 unfold confV at HSm HEn HTx HVw
 obtain ⟨Z,hZ⟩:∃ Z,Z=2 ^ e:=⟨_,rfl⟩
 rw [← hZ] at hsh hzz
 have HZ:=hid hZ
 clear hZ
 go_enter Tryz.func5,Tryz.ntmps5
 go_wp2_with fail
 refine (HL.out _).mono ?_
 rintro e1 w1 ⟨rfl,hk1⟩
 have HK:=hid hk1
 clear hk1
 go_wp2_with fail
 refine (HSm.out _).mono ?_
 rintro e2 w2 ⟨rfl,hk1⟩
 have HK:=hid (HK.out.trans hk1)
 clear hk1
 go_wp2_with fail
 obtain ⟨W,hW⟩:∃ W,W=w2.alloc (.cells #[.int .u8 (e:Int),.int .u32 6] 27):=⟨_,rfl⟩
 have HKs:Hid (Keeps NoBlock w W):=hid (by rw [hW];exact HK.out.alloc _)
 have HCs:Hid (Whole W w2.heap.size 27 (confCells e 6)):=hid (by rw [hW];exact Whole.new w2 _ _)
 rw [← hW]
 clear hW HK HSm
 obtain ⟨g,hg⟩:∃ g,g=w2.heap.size:=⟨_,rfl⟩
 rw [← hg] at HCs ⊢
 clear hg
 go_loopw [36,10] (fun i t wr=>∃ j:Nat,j≤n∧i=.int .i64 (j:Int)∧t=.string (strOfNums (textsTo e 6 f (sealed17 f z) j))∧Hid (SegsTo e f z j)∧Hid (Keeps NoBlock w wr)∧Hid (Whole wr g 27 (confCells e 6))) (fun i _ _=>n - (intOf i).toNat)
 case atStart=>exact ⟨0,Nat.zero_le _,rfl,rfl,hid ⟨fun i hi=>by omega,fun i hi=>by omega,fun i hi=>by omega⟩,HKs,HCs⟩
 case round =>
  obtain ⟨j,hj,rfl,rfl,HTo,HKr,HCr⟩:=hrel
  by_cases hlt:j<n
  ·have hdj:decide ((j:Int)<(n:Int))=true:=decide_eq_true (by omega)
   have hdj2:decide (j<n)=true:=decide_eq_true hlt
   obtain ⟨a,p,N,cc,rfl,c0,hN,hNc,hcc,hat,harg⟩:=HR.out.keep HKr.out (fun _ _ h=>h) j hlt
   have hj6:j<6:=by omega
   obtain ⟨A,hA⟩:∃ A,A=textsTo e 6 f (sealed17 f z) j:=⟨_,rfl⟩
   obtain ⟨PJ,hPJ⟩:∃ PJ,PJ=A.length:=⟨_,rfl⟩
   have HPj:Hid ((strOfNums A).size=PJ∧PJ≤50000):=hid ⟨by rw [str_size,hPJ],by
    rw [hPJ,hA,texts_length j HTo.out.long,← HZ.out]
    have:j*Z≤6*8192:=Nat.mul_le_mul (by omega) hzz.2
    omega⟩
   have HAe:=hid hA.symm
   rw [← hA]
   clear hA hPJ
   have HFw:=hid (fun w hl=>few_any p N cc (f j) 8 300 8 300 rfl rfl hN (by omega) (fun r hr=>⟨(harg r hr).key,(harg r hr).val⟩) w hl)
   have HRj:=hid hat
   have HSj:=hid (fun hl hk=>HSg.out j hj6 (f j) hl (fun r hr=>(harg r hr).fine) hk)
   have HArg:=hid harg
   have HNn:=hid (And.intro hN (And.intro hNc hcc))
   obtain ⟨L,hL⟩:∃ L,L=f j:=⟨_,rfl⟩
   rw [← hL] at HFw HRj HSj HArg HNn
   have HLf:=hid hL
   clear hL hN hNc hcc hat harg
   go_wp2_with fail
   refine (HFw.out _ HRj.out).mono ?_
   rintro e3 w3 ⟨rfl,hk1⟩
   have HK:=hid (HKr.out.trans hk1)
   have HC:=hid (HCr.out.keep hk1 (fun h=>h))
   have HRj:=hid (HRj.out.keep hk1 (fun _ _ h=>h))
   clear hk1
   by_cases hfe:fewR L 8 300=true
   rotate_left
   ·rw [Bool.not_eq_true] at hfe
    rw [hfe]
    clear c0
    go_wp2_with fail
    go_ret
    exact ⟨rfl,HK.out⟩
   obtain ⟨l1,l2⟩:=few_lit hfe
   have HLit:=hid (And.intro l1 l2)
   have HSj:=hid (HSj.out l1 l2)
   have hN8:N≤8:=by rw [HNn.out.1];exact l1
   rw [hfe]
   clear hfe l1 l2 c0 HFw
   go_wp2_with fail
   go_loopw [46] (fun i wr=>∃ m:Nat,m≤N∧i=.int .i64 (m:Int)∧Hid (∀ r ∈ L.take m,checkR r=0)∧Hid (Keeps NoBlock w wr)∧Hid (Whole wr g 27 (confCells e 6))∧Hid (RecsAt wr p L)) (fun i _=>N - (intOf i).toNat)
   case atStart=>exact ⟨0,Nat.zero_le _,rfl,hid (fun r hr=>by simp at hr),HK,HC,HRj⟩
   case round =>
    obtain ⟨m,hm,rfl,HCk,HK,HC,HRj⟩:=hrel
    by_cases hlm:m<N
    ·have hdm:decide ((m:Int)<(N:Int))=true:=decide_eq_true (by omega)
     have hdm2:decide (m<N)=true:=decide_eq_true hlm
     obtain ⟨a1,rfl,b0,b1,b2,b3⟩:=HRj.out m (by rw [← HNn.out.1];exact hlm)
     have hmem:L.getD m Rec.none ∈ L:=getR_mem (by rw [← HNn.out.1];exact hlm)
     have hrec:=hid (And.intro (HArg.out _ hmem).fine (HLit.out.2 _ hmem))
     have htk:=hid (show L.take (m+1)=L.take m ++ [L.getD m Rec.none] by
      have h:m<L.length:=by rw [← HNn.out.1];exact hlm
      rw [List.take_succ_eq_append_getElem h]
      simp [h])
     obtain ⟨r,hr⟩:∃ r,r=L.getD m Rec.none:=⟨_,rfl⟩
     rw [← hr] at b0 b1 b2 b3 hrec htk
     clear hr hmem
     have HK1:=hid (HK.out.alloc (.cells (recCells r) 48))
     have HC1:=hid (HC.out.keep ((Keeps.refl NoBlock wr).alloc (.cells (recCells r) 48)) (fun h=>h))
     have HR1:=hid (HRj.out.keep ((Keeps.refl NoBlock wr).alloc (.cells (recCells r) 48)) (fun _ _ h=>h))
     have x0:(wr.alloc (.cells (recCells r) 48)).cell? ⟨g,0,none⟩=some (.int .u8 (e:Int)):=by have:=HC1.out.cell 0 rfl;simpa [confCells] using this
     have x1:(wr.alloc (.cells (recCells r) 48)).cell? ⟨g,1,none⟩=some (.int .u32 6):=by have:=HC1.out.cell 1 rfl;simpa [confCells] using this
     have HK2:=hid (HK1.out.alloc (.cells (recCells r) 48))
     have HC2:=hid (HC1.out.keep ((Keeps.refl NoBlock _).alloc (.cells (recCells r) 48)) (fun h=>h))
     have HR2:=hid (HR1.out.keep ((Keeps.refl NoBlock _).alloc (.cells (recCells r) 48)) (fun _ _ h=>h))
     have HI2:=hid (one_rec r (wr.alloc (.cells (recCells r) 48)) hrec.out.1 (by have:=hrec.out.2.1;omega) (by have:=hrec.out.2.2;omega))
     rw [World.size_alloc] at HI2
     unfold recCells at x0 x1 HK2 HC2 HR2 HI2
     clear HK1 HC1 HR1
     go_wp2_with fail
     obtain ⟨W2,hW2⟩:∃ W2,W2=(wr.alloc (.cells #[.bool r.del,.int .u64 (r.seq:Int),.string (strOfNums r.key),.string (strOfNums r.val)] 48)).alloc (.cells #[.bool r.del,.int .u64 (r.seq:Int),.string (strOfNums r.key),.string (strOfNums r.val)] 48):=⟨_,rfl⟩
     rw [← hW2] at HK2 HC2 HR2 HI2 ⊢
     clear hW2 x0 x1 b0 b1 b2 b3
     refine (HEn.out _ _ r W2 HI2.out).mono ?_
     rintro e4 w4 ⟨u,rfl,ho,hk1⟩
     have HK:=hid (HK2.out.trans hk1)
     have HC:=hid (HC2.out.keep hk1 (fun h=>h))
     have HRj:=hid (HR2.out.keep hk1 (fun _ _ h=>h))
     obtain ⟨q1,d1,rfl,-,-,-,-,-⟩:=ho.read
     clear hk1 ho HK2 HC2 HR2 HI2
     have hch:=enc_one (e:=e) (s:=6) (r:=r)
     obtain ⟨y,hy⟩:∃ y,y=(encI e 6 [r]).1:=⟨_,rfl⟩
     rw [← hy] at hch ⊢
     clear hy
     by_cases hy0:y=0
     rotate_left
     ·have hne:(y != 0)=true:=by rw [bne_iff_ne];exact hy0
      clear hy0 hch
      go_wp2_with fail
      go_ret
      exact ⟨rfl,HK.out⟩
     subst hy0
     have HCk:=hid (show ∀ x ∈ L.take (m+1),checkR x=0 by
      rw [htk.out]
      intro x hx
      rcases List.mem_append.1 hx with h|h
      ·exact HCk.out x h
      ·rw [List.mem_singleton.1 h];exact hch rfl)
     clear hch
     go_wp2_with fail
     go_roundw
     case rel=>exact ⟨m+1,by omega,by go_num,HCk,HK,HC,HRj⟩
     case measure=>simp [intOf];omega
    ·have hdm:decide ((m:Int)<(N:Int))=false:=decide_eq_false (by omega)
     have hdm2:decide (m<N)=false:=decide_eq_false hlm
     obtain rfl:m=N:=by omega
     have HAll:=hid (show ∀ r ∈ L,checkR r=0 by
      have h:=HCk.out
      rw [HNn.out.1,List.take_length] at h
      exact h)
     have s0:=conf_two (w:=wr.drew) (HC.out.keep (Keeps.refl NoBlock wr).drew (fun h=>h))
     have sN:=conf_two HC.out
     have HKd:Hid (Keeps NoBlock w wr.drew):=hid (HK.out.drew)
     have HCd:Hid (Whole wr.drew g 27 (confCells e 6)):=hid (HC.out.keep (Keeps.refl NoBlock wr).drew (fun h=>h))
     have HRd:Hid (RecsAt wr.drew p L):=hid (HRj.out.keep (Keeps.refl NoBlock wr).drew (fun _ _ h=>h))
     have wj:IntKind.u64.wrap (j:Int)=(j:Int):=by rw [IntKind.wrap_u64];omega
     have HWz:Hid (wrap64 ((2:Int) ^ e)=(Z:Int)):=hid (by
      have h:=shl_wrap (e:=e) (j:=1) (by omega) (by decide)
      rw [show ((1:Nat):Int)*2 ^ e=(2:Int) ^ e from Int.one_mul _,Nat.one_mul,← HZ.out] at h
      exact h)
     have hs2:=shr17 (z:=z) hj6
     have hy8:z / 2 ^ j<256:=Nat.lt_of_le_of_lt (Nat.div_le_self _ _) hz
     have ha:=and1 _ hy8
     have hsl:sealed17 f z j=(decide (0<m) && (z / 2 ^ j % 2 == 1)):=by unfold sealed17 bitS;rw [← HLf.out,← HNn.out.1]
     obtain ⟨y8,hy⟩:∃ y8,y8=z / 2 ^ j:=⟨_,rfl⟩
     rw [← hy] at hs2 hy8 ha hsl
     have hz2:(z:Int) / 2 ^ j=((y8:Nat):Int):=by rw [hy,Int.natCast_ediv,Int.natCast_pow];rfl
     clear hy hlm hm HCk
     go_wp2_with fail
     by_cases hN0:m=0
     ·have n0:decide ((0:Int)<(m:Int))=false:=decide_eq_false (by omega)
      have n1:decide (0<m)=false:=decide_eq_false (by omega)
      rw [n1,Bool.false_and] at hsl
      clear hN0 ha hs2 hz2
      have HTj:=hid (fun w hl=>HTx.out j p m cc L false HSj.out HNn.out.1 w hl)
      obtain ⟨T,hT⟩:∃ T,T=textS e 6 j L false:=⟨_,rfl⟩
      rw [← hT] at HTj
      have HTt:=hid (show textsTo e 6 f (sealed17 f z) (j+1)=A ++ T by rw [textsTo,hsl,← HLf.out,hT,HAe.out])
      have HTs:=hid (show T.length=2 ^ e→SegsTo e f z (j+1) from fun h=>by
       refine ⟨fun i hi=>?_,fun i hi=>?_,fun i hi=>?_⟩
       ·by_cases hij:i<j
        ·exact HTo.out.few i hij
        ·obtain rfl:i=j:=by omega
         rw [← HLf.out];exact HLit.out.1
       ·by_cases hij:i<j
        ·exact HTo.out.fine i hij
        ·obtain rfl:i=j:=by omega
         rw [← HLf.out];exact fun r hr=>⟨(HArg.out r hr).fine,HAll.out r hr⟩
       ·by_cases hij:i<j
        ·exact HTo.out.long i hij
        ·obtain rfl:i=j:=by omega
         rw [hsl,← HLf.out,← hT];exact h)
      obtain ⟨M,hM⟩:∃ M,M=T.length:=⟨_,rfl⟩
      have hsz:(strOfNums T).size=M:=by rw [str_size,hM]
      rw [← hM,← HZ.out] at HTs
      clear hT hM hsl
      refine wp_region_held_drew (S:=fun w':World=>w'.cell? ⟨g,0,none⟩=some (.int .u8 (e:Int))∧w'.cell? ⟨g,1,none⟩=some (.int .u32 6)) (by kernel_rfl) s0 (fun hS=>?_)
      obtain ⟨wd,hwd⟩:∃ W,W=wr.drew:=⟨_,rfl⟩
      rw [← hwd] at HKd HCd HRd hS ⊢
      clear hwd s0 sN
      refine wpAnyH_take (i:=0) (v:=?vT1) rfl ?aT1 ?bT1 ?cT1 ?dT1 (Or.inl ⟨?eT1,?fT1⟩) hS ?gT1
      case fT1=>intro w hSw;(try dsimp only at hSw);go_simp;(try with_reducible rfl)
      case aT1=>kernel_rfl
      case bT1=>kernel_rfl
      case cT1=>kernel_rfl
      case dT1=>exact fun _ _ _ h=>h
      case eT1=>rfl
      simp only [Act.put,List.getElem_toArray,List.getElem_cons_zero,List.setIfInBounds_toArray,List.set_cons_zero,List.set_cons_succ]
      refine wpAnyH_take (i:=1) (v:=?vT2) rfl ?aT2 ?bT2 ?cT2 ?dT2 (Or.inl ⟨?eT2,?fT2⟩) hS ?gT2
      case fT2=>intro w hSw;(try dsimp only at hSw);go_simp;(try with_reducible rfl)
      case aT2=>kernel_rfl
      case bT2=>kernel_rfl
      case cT2=>kernel_rfl
      case dT2=>exact fun _ _ _ h=>h
      case eT2=>rfl
      simp only [Act.put,List.getElem_toArray,List.getElem_cons_zero,List.getElem_cons_succ,List.setIfInBounds_toArray,List.set_cons_zero,List.set_cons_succ]
      refine wpAnyH_take (i:=2) (v:=?vT3) rfl ?aT3 ?bT3 ?cT3 ?dT3 (Or.inl ⟨?eT3,?fT3⟩) hS ?gT3
      case fT3=>intro w hSw;(try dsimp only at hSw);go_simp;(try with_reducible rfl)
      case aT3=>kernel_rfl
      case bT3=>kernel_rfl
      case cT3=>kernel_rfl
      case dT3=>exact fun _ _ _ h=>h
      case eT3=>rfl
      simp only [Act.put,List.getElem_toArray,List.getElem_cons_zero,List.getElem_cons_succ,List.setIfInBounds_toArray,List.set_cons_zero,List.set_cons_succ]
      refine wpAnyH_take (i:=3) (v:=?vT4) rfl ?aT4 ?bT4 ?cT4 ?dT4 (Or.inl ⟨?eT4,?fT4⟩) hS ?gT4
      case fT4=>intro w hSw;(try dsimp only at hSw);go_simp;(try with_reducible rfl)
      case aT4=>kernel_rfl
      case bT4=>kernel_rfl
      case cT4=>kernel_rfl
      case dT4=>exact fun _ _ _ h=>h
      case eT4=>rfl
      simp only [Act.put,List.getElem_toArray,List.getElem_cons_zero,List.getElem_cons_succ,List.setIfInBounds_toArray,List.set_cons_zero,List.set_cons_succ]
      refine wpAnyH_take (i:=4) (v:=?vT5) rfl ?aT5 ?bT5 ?cT5 ?dT5 (Or.inl ⟨?eT5,?fT5⟩) hS ?gT5
      case fT5=>intro w hSw;(try dsimp only at hSw);go_simp;(try with_reducible rfl)
      case aT5=>kernel_rfl
      case bT5=>kernel_rfl
      case cT5=>kernel_rfl
      case dT5=>exact fun _ _ _ h=>h
      case eT5=>rfl
      simp only [Act.put,List.getElem_toArray,List.getElem_cons_zero,List.getElem_cons_succ,List.setIfInBounds_toArray,List.set_cons_zero,List.set_cons_succ]
      refine wpAnyH_take (i:=5) (v:=?vT6) rfl ?aT6 ?bT6 ?cT6 ?dT6 (Or.inl ⟨?eT6,?fT6⟩) hS ?gT6
      case fT6=>intro w hSw;(try dsimp only at hSw);go_simp;(try with_reducible rfl)
      case aT6=>kernel_rfl
      case bT6=>kernel_rfl
      case cT6=>kernel_rfl
      case dT6=>exact fun _ _ _ h=>h
      case eT6=>rfl
      simp only [Act.put,List.getElem_toArray,List.getElem_cons_zero,List.getElem_cons_succ,List.setIfInBounds_toArray,List.set_cons_zero,List.set_cons_succ]
      refine wpAnyH_take (i:=6) (v:=?vT7) rfl ?aT7 ?bT7 ?cT7 ?dT7 (Or.inl ⟨?eT7,?fT7⟩) hS ?gT7
      case fT7=>intro w hSw;(try dsimp only at hSw);go_simp;(try with_reducible rfl)
      case aT7=>kernel_rfl
      case bT7=>kernel_rfl
      case cT7=>kernel_rfl
      case dT7=>exact fun _ _ _ h=>h
      case eT7=>rfl
      simp only [Act.put,List.getElem_toArray,List.getElem_cons_zero,List.getElem_cons_succ,List.setIfInBounds_toArray,List.set_cons_zero,List.set_cons_succ]
      refine wpAnyH_take (i:=7) (v:=?vT8) rfl ?aT8 ?bT8 ?cT8 ?dT8 (Or.inl ⟨?eT8,?fT8⟩) hS ?gT8
      case fT8=>intro w hSw;(try dsimp only at hSw);go_simp;(try with_reducible rfl)
      case aT8=>kernel_rfl
      case bT8=>kernel_rfl
      case cT8=>kernel_rfl
      case dT8=>exact fun _ _ _ h=>h
      case eT8=>rfl
      simp only [Act.put,List.getElem_toArray,List.getElem_cons_zero,List.getElem_cons_succ,List.setIfInBounds_toArray,List.set_cons_zero,List.set_cons_succ]
      refine wpAnyH_take (i:=8) (v:=undef) rfl ?aT9 ?bT9 ?cT9 ?dT9 (Or.inr ?eT9) hS ?gT9
      case eT9=>exact ⟨rfl,rfl⟩
      case aT9=>kernel_rfl
      case bT9=>kernel_rfl
      case cT9=>kernel_rfl
      case dT9=>exact fun _ _ _ h=>h
      simp only [Act.put,List.getElem_toArray,List.getElem_cons_zero,List.getElem_cons_succ,List.setIfInBounds_toArray,List.set_cons_zero,List.set_cons_succ]
      refine wpAnyH_take (i:=9) (v:=undef) rfl ?aT10 ?bT10 ?cT10 ?dT10 (Or.inr ?eT10) hS ?gT10
      case eT10=>exact ⟨rfl,rfl⟩
      case aT10=>kernel_rfl
      case bT10=>kernel_rfl
      case cT10=>kernel_rfl
      case dT10=>exact fun _ _ _ h=>h
      simp only [Act.put,List.getElem_toArray,List.getElem_cons_zero,List.getElem_cons_succ,List.setIfInBounds_toArray,List.set_cons_zero,List.set_cons_succ]
      refine wpAnyH_take (i:=10) (v:=undef) rfl ?aT11 ?bT11 ?cT11 ?dT11 (Or.inr ?eT11) hS ?gT11
      case eT11=>exact ⟨rfl,rfl⟩
      case aT11=>kernel_rfl
      case bT11=>kernel_rfl
      case cT11=>kernel_rfl
      case dT11=>exact fun _ _ _ h=>h
      simp only [Act.put,List.getElem_toArray,List.getElem_cons_zero,List.getElem_cons_succ,List.setIfInBounds_toArray,List.set_cons_zero,List.set_cons_succ]
      refine wpAnyH_take (i:=11) (v:=undef) rfl ?aT12 ?bT12 ?cT12 ?dT12 (Or.inr ?eT12) hS ?gT12
      case eT12=>exact ⟨rfl,rfl⟩
      case aT12=>kernel_rfl
      case bT12=>kernel_rfl
      case cT12=>kernel_rfl
      case dT12=>exact fun _ _ _ h=>h
      simp only [Act.put,List.getElem_toArray,List.getElem_cons_zero,List.getElem_cons_succ,List.setIfInBounds_toArray,List.set_cons_zero,List.set_cons_succ]
      refine wpAnyH_take (i:=12) (v:=undef) rfl ?aT13 ?bT13 ?cT13 ?dT13 (Or.inr ?eT13) hS ?gT13
      case eT13=>exact ⟨rfl,rfl⟩
      case aT13=>kernel_rfl
      case bT13=>kernel_rfl
      case cT13=>kernel_rfl
      case dT13=>exact fun _ _ _ h=>h
      simp only [Act.put,List.getElem_toArray,List.getElem_cons_zero,List.getElem_cons_succ,List.setIfInBounds_toArray,List.set_cons_zero,List.set_cons_succ]
      refine wpAnyH_take (i:=13) (v:=?vT14) rfl ?aT14 ?bT14 ?cT14 ?dT14 (Or.inl ⟨?eT14,?fT14⟩) hS ?gT14
      case fT14=>intro w hSw;(try dsimp only at hSw);go_simp;(try with_reducible rfl)
      case aT14=>kernel_rfl
      case bT14=>kernel_rfl
      case cT14=>kernel_rfl
      case dT14=>exact fun _ _ _ h=>h
      case eT14=>rfl
      simp only [Act.put,List.getElem_toArray,List.getElem_cons_zero,List.getElem_cons_succ,List.setIfInBounds_toArray,List.set_cons_zero,List.set_cons_succ]
      refine wpAnyH_ready (rs:=[14]) (by kernel_rfl) (by simp) ?_
      refine (AllReadyH.cons (o:=_) rfl (fun K hK=>?_) AllReadyH.nil)
      go_simp
      refine (HTj.out _ HRd.out).mono ?_
      rintro e5 w5 ⟨rfl,hk⟩
      have HK:=hid (HKd.out.trans hk)
      have HC:=hid (HCd.out.keep hk (fun h=>h))
      have hS:(fun w':World=>w'.cell? ⟨g,0,none⟩=some (.int .u8 (e:Int))∧w'.cell? ⟨g,1,none⟩=some (.int .u32 6)) w5:=conf_two HC.out
      clear hk
      go_wp2_with fail
      refine hK.out _ _ hS (fun _=>?_)
      clear hK K
      refine wpAnyH_take (i:=15) (v:=?vT15) rfl ?aT15 ?bT15 ?cT15 ?dT15 (Or.inl ⟨?eT15,?fT15⟩) hS ?gT15
      case fT15=>intro w hSw;(try dsimp only at hSw);go_simp;(try with_reducible rfl)
      case aT15=>kernel_rfl
      case bT15=>kernel_rfl
      case cT15=>kernel_rfl
      case dT15=>exact fun _ _ _ h=>h
      case eT15=>rfl
      simp only [Act.put,List.getElem_toArray,List.getElem_cons_zero,List.getElem_cons_succ,List.setIfInBounds_toArray,List.set_cons_zero,List.set_cons_succ]
      refine wpAnyH_done (by kernel_rfl) ?_ _
      obtain ⟨g0,g1⟩:=hS
      by_cases hMZ:M=Z
      ·subst hMZ
       have HT1:=hid (HTs.out rfl)
       have hne:((M:Int) != (M:Int))=false:=by simp
       have z1:(strOfNums A).size=PJ:=HPj.out.1
       have z2:PJ≤50000:=HPj.out.2
       have r1:¬ 9223372036854775807<PJ+M:=by omega
       have hwz:=HWz.out
       clear HTs
       go_wp2_with fail
       go_roundw
       case rel=>exact ⟨j+1,by omega,by go_num,by rw [HTt.out,← str_append],HT1,HK,HC⟩
       case measure=>(simp only [intOf];omega)
      ·have hne:((M:Int) != (Z:Int))=true:=by rw [bne_iff_ne];omega
       have hMZ2:¬ (M:Int)=(Z:Int):=by omega
       have hwz:=HWz.out
       clear HTs
       go_wp2_with fail
       go_ret
       exact ⟨rfl,HK.out⟩
     have n0:decide ((0:Int)<(m:Int))=true:=decide_eq_true (by omega)
     have n1:decide (0<m)=true:=decide_eq_true (by omega)
     rw [n1,Bool.true_and] at hsl
     by_cases hb1:y8 % 2=1
     ·rw [hb1] at ha hsl
      replace hsl:sealed17 f z j=true:=hsl
      clear hN0 hb1
      have HTj:=hid (fun w hl=>HTx.out j p m cc L true HSj.out HNn.out.1 w hl)
      obtain ⟨T,hT⟩:∃ T,T=textS e 6 j L true:=⟨_,rfl⟩
      rw [← hT] at HTj
      have HTt:=hid (show textsTo e 6 f (sealed17 f z) (j+1)=A ++ T by rw [textsTo,hsl,← HLf.out,hT,HAe.out])
      have HTs:=hid (show T.length=2 ^ e→SegsTo e f z (j+1) from fun h=>by
       refine ⟨fun i hi=>?_,fun i hi=>?_,fun i hi=>?_⟩
       ·by_cases hij:i<j
        ·exact HTo.out.few i hij
        ·obtain rfl:i=j:=by omega
         rw [← HLf.out];exact HLit.out.1
       ·by_cases hij:i<j
        ·exact HTo.out.fine i hij
        ·obtain rfl:i=j:=by omega
         rw [← HLf.out];exact fun r hr=>⟨(HArg.out r hr).fine,HAll.out r hr⟩
       ·by_cases hij:i<j
        ·exact HTo.out.long i hij
        ·obtain rfl:i=j:=by omega
         rw [hsl,← HLf.out,← hT];exact h)
      obtain ⟨M,hM⟩:∃ M,M=T.length:=⟨_,rfl⟩
      have hsz:(strOfNums T).size=M:=by rw [str_size,hM]
      rw [← hM,← HZ.out] at HTs
      clear hT hM hsl
      refine wp_region_held_drew (S:=fun w':World=>w'.cell? ⟨g,0,none⟩=some (.int .u8 (e:Int))∧w'.cell? ⟨g,1,none⟩=some (.int .u32 6)) (by kernel_rfl) s0 (fun hS=>?_)
      obtain ⟨wd,hwd⟩:∃ W,W=wr.drew:=⟨_,rfl⟩
      rw [← hwd] at HKd HCd HRd hS ⊢
      clear hwd s0 sN
      refine wpAnyH_take (i:=0) (v:=?vT16) rfl ?aT16 ?bT16 ?cT16 ?dT16 (Or.inl ⟨?eT16,?fT16⟩) hS ?gT16
      case fT16=>intro w hSw;(try dsimp only at hSw);go_simp;(try with_reducible rfl)
      case aT16=>kernel_rfl
      case bT16=>kernel_rfl
      case cT16=>kernel_rfl
      case dT16=>exact fun _ _ _ h=>h
      case eT16=>rfl
      simp only [Act.put,List.getElem_toArray,List.getElem_cons_zero,List.setIfInBounds_toArray,List.set_cons_zero,List.set_cons_succ]
      refine wpAnyH_take (i:=1) (v:=?vT17) rfl ?aT17 ?bT17 ?cT17 ?dT17 (Or.inl ⟨?eT17,?fT17⟩) hS ?gT17
      case fT17=>intro w hSw;(try dsimp only at hSw);go_simp;(try with_reducible rfl)
      case aT17=>kernel_rfl
      case bT17=>kernel_rfl
      case cT17=>kernel_rfl
      case dT17=>exact fun _ _ _ h=>h
      case eT17=>rfl
      simp only [Act.put,List.getElem_toArray,List.getElem_cons_zero,List.getElem_cons_succ,List.setIfInBounds_toArray,List.set_cons_zero,List.set_cons_succ]
      refine wpAnyH_take (i:=2) (v:=?vT18) rfl ?aT18 ?bT18 ?cT18 ?dT18 (Or.inl ⟨?eT18,?fT18⟩) hS ?gT18
      case fT18=>intro w hSw;(try dsimp only at hSw);go_simp;(try with_reducible rfl)
      case aT18=>kernel_rfl
      case bT18=>kernel_rfl
      case cT18=>kernel_rfl
      case dT18=>exact fun _ _ _ h=>h
      case eT18=>rfl
      simp only [Act.put,List.getElem_toArray,List.getElem_cons_zero,List.getElem_cons_succ,List.setIfInBounds_toArray,List.set_cons_zero,List.set_cons_succ]
      refine wpAnyH_take (i:=3) (v:=?vT19) rfl ?aT19 ?bT19 ?cT19 ?dT19 (Or.inl ⟨?eT19,?fT19⟩) hS ?gT19
      case fT19=>intro w hSw;(try dsimp only at hSw);go_simp;(try with_reducible rfl)
      case aT19=>kernel_rfl
      case bT19=>kernel_rfl
      case cT19=>kernel_rfl
      case dT19=>exact fun _ _ _ h=>h
      case eT19=>rfl
      simp only [Act.put,List.getElem_toArray,List.getElem_cons_zero,List.getElem_cons_succ,List.setIfInBounds_toArray,List.set_cons_zero,List.set_cons_succ]
      refine wpAnyH_take (i:=4) (v:=?vT20) rfl ?aT20 ?bT20 ?cT20 ?dT20 (Or.inl ⟨?eT20,?fT20⟩) hS ?gT20
      case fT20=>intro w hSw;(try dsimp only at hSw);go_simp;(try with_reducible rfl)
      case aT20=>kernel_rfl
      case bT20=>kernel_rfl
      case cT20=>kernel_rfl
      case dT20=>exact fun _ _ _ h=>h
      case eT20=>rfl
      simp only [Act.put,List.getElem_toArray,List.getElem_cons_zero,List.getElem_cons_succ,List.setIfInBounds_toArray,List.set_cons_zero,List.set_cons_succ]
      refine wpAnyH_take (i:=5) (v:=?vT21) rfl ?aT21 ?bT21 ?cT21 ?dT21 (Or.inl ⟨?eT21,?fT21⟩) hS ?gT21
      case fT21=>intro w hSw;(try dsimp only at hSw);go_simp;(try with_reducible rfl)
      case aT21=>kernel_rfl
      case bT21=>kernel_rfl
      case cT21=>kernel_rfl
      case dT21=>exact fun _ _ _ h=>h
      case eT21=>rfl
      simp only [Act.put,List.getElem_toArray,List.getElem_cons_zero,List.getElem_cons_succ,List.setIfInBounds_toArray,List.set_cons_zero,List.set_cons_succ]
      refine wpAnyH_take (i:=6) (v:=?vT22) rfl ?aT22 ?bT22 ?cT22 ?dT22 (Or.inl ⟨?eT22,?fT22⟩) hS ?gT22
      case fT22=>intro w hSw;(try dsimp only at hSw);go_simp;(try with_reducible rfl)
      case aT22=>kernel_rfl
      case bT22=>kernel_rfl
      case cT22=>kernel_rfl
      case dT22=>exact fun _ _ _ h=>h
      case eT22=>rfl
      simp only [Act.put,List.getElem_toArray,List.getElem_cons_zero,List.getElem_cons_succ,List.setIfInBounds_toArray,List.set_cons_zero,List.set_cons_succ]
      refine wpAnyH_take (i:=7) (v:=?vT23) rfl ?aT23 ?bT23 ?cT23 ?dT23 (Or.inl ⟨?eT23,?fT23⟩) hS ?gT23
      case fT23=>intro w hSw;(try dsimp only at hSw);go_simp;(try with_reducible rfl)
      case aT23=>kernel_rfl
      case bT23=>kernel_rfl
      case cT23=>kernel_rfl
      case dT23=>exact fun _ _ _ h=>h
      case eT23=>rfl
      simp only [Act.put,List.getElem_toArray,List.getElem_cons_zero,List.getElem_cons_succ,List.setIfInBounds_toArray,List.set_cons_zero,List.set_cons_succ]
      refine wpAnyH_take (i:=8) (v:=?vT24) rfl ?aT24 ?bT24 ?cT24 ?dT24 (Or.inl ⟨?eT24,?fT24⟩) hS ?gT24
      case fT24=>intro w hSw;(try dsimp only at hSw);go_simp;(try with_reducible rfl)
      case aT24=>kernel_rfl
      case bT24=>kernel_rfl
      case cT24=>kernel_rfl
      case dT24=>exact fun _ _ _ h=>h
      case eT24=>rfl
      simp only [Act.put,List.getElem_toArray,List.getElem_cons_zero,List.getElem_cons_succ,List.setIfInBounds_toArray,List.set_cons_zero,List.set_cons_succ]
      refine wpAnyH_take (i:=9) (v:=?vT25) rfl ?aT25 ?bT25 ?cT25 ?dT25 (Or.inl ⟨?eT25,?fT25⟩) hS ?gT25
      case fT25=>intro w hSw;(try dsimp only at hSw);go_simp;(try with_reducible rfl)
      case aT25=>kernel_rfl
      case bT25=>kernel_rfl
      case cT25=>kernel_rfl
      case dT25=>exact fun _ _ _ h=>h
      case eT25=>rfl
      simp only [Act.put,List.getElem_toArray,List.getElem_cons_zero,List.getElem_cons_succ,List.setIfInBounds_toArray,List.set_cons_zero,List.set_cons_succ]
      refine wpAnyH_take (i:=10) (v:=?vT26) rfl ?aT26 ?bT26 ?cT26 ?dT26 (Or.inl ⟨?eT26,?fT26⟩) hS ?gT26
      case fT26=>intro w hSw;(try dsimp only at hSw);go_simp;(try with_reducible rfl)
      case aT26=>kernel_rfl
      case bT26=>kernel_rfl
      case cT26=>kernel_rfl
      case dT26=>exact fun _ _ _ h=>h
      case eT26=>rfl
      simp only [Act.put,List.getElem_toArray,List.getElem_cons_zero,List.getElem_cons_succ,List.setIfInBounds_toArray,List.set_cons_zero,List.set_cons_succ]
      refine wpAnyH_take (i:=11) (v:=?vT27) rfl ?aT27 ?bT27 ?cT27 ?dT27 (Or.inl ⟨?eT27,?fT27⟩) hS ?gT27
      case fT27=>intro w hSw;(try dsimp only at hSw);go_simp;(try with_reducible rfl)
      case aT27=>kernel_rfl
      case bT27=>kernel_rfl
      case cT27=>kernel_rfl
      case dT27=>exact fun _ _ _ h=>h
      case eT27=>rfl
      simp only [Act.put,List.getElem_toArray,List.getElem_cons_zero,List.getElem_cons_succ,List.setIfInBounds_toArray,List.set_cons_zero,List.set_cons_succ]
      refine wpAnyH_take (i:=12) (v:=?vT28) rfl ?aT28 ?bT28 ?cT28 ?dT28 (Or.inl ⟨?eT28,?fT28⟩) hS ?gT28
      case fT28=>intro w hSw;(try dsimp only at hSw);go_simp;(try with_reducible rfl)
      case aT28=>kernel_rfl
      case bT28=>kernel_rfl
      case cT28=>kernel_rfl
      case dT28=>exact fun _ _ _ h=>h
      case eT28=>rfl
      simp only [Act.put,List.getElem_toArray,List.getElem_cons_zero,List.getElem_cons_succ,List.setIfInBounds_toArray,List.set_cons_zero,List.set_cons_succ]
      refine wpAnyH_take (i:=13) (v:=?vT29) rfl ?aT29 ?bT29 ?cT29 ?dT29 (Or.inl ⟨?eT29,?fT29⟩) hS ?gT29
      case fT29=>intro w hSw;(try dsimp only at hSw);go_simp;(try with_reducible rfl)
      case aT29=>kernel_rfl
      case bT29=>kernel_rfl
      case cT29=>kernel_rfl
      case dT29=>exact fun _ _ _ h=>h
      case eT29=>rfl
      simp only [Act.put,List.getElem_toArray,List.getElem_cons_zero,List.getElem_cons_succ,List.setIfInBounds_toArray,List.set_cons_zero,List.set_cons_succ]
      refine wpAnyH_ready (rs:=[14]) (by kernel_rfl) (by simp) ?_
      refine (AllReadyH.cons (o:=_) rfl (fun K hK=>?_) AllReadyH.nil)
      go_simp
      refine (HTj.out _ HRd.out).mono ?_
      rintro e5 w5 ⟨rfl,hk⟩
      have HK:=hid (HKd.out.trans hk)
      have HC:=hid (HCd.out.keep hk (fun h=>h))
      have hS:(fun w':World=>w'.cell? ⟨g,0,none⟩=some (.int .u8 (e:Int))∧w'.cell? ⟨g,1,none⟩=some (.int .u32 6)) w5:=conf_two HC.out
      clear hk
      go_wp2_with fail
      refine hK.out _ _ hS (fun _=>?_)
      clear hK K
      refine wpAnyH_take (i:=15) (v:=?vT30) rfl ?aT30 ?bT30 ?cT30 ?dT30 (Or.inl ⟨?eT30,?fT30⟩) hS ?gT30
      case fT30=>intro w hSw;(try dsimp only at hSw);go_simp;(try with_reducible rfl)
      case aT30=>kernel_rfl
      case bT30=>kernel_rfl
      case cT30=>kernel_rfl
      case dT30=>exact fun _ _ _ h=>h
      case eT30=>rfl
      simp only [Act.put,List.getElem_toArray,List.getElem_cons_zero,List.getElem_cons_succ,List.setIfInBounds_toArray,List.set_cons_zero,List.set_cons_succ]
      refine wpAnyH_done (by kernel_rfl) ?_ _
      obtain ⟨g0,g1⟩:=hS
      by_cases hMZ:M=Z
      ·subst hMZ
       have HT1:=hid (HTs.out rfl)
       have hne:((M:Int) != (M:Int))=false:=by simp
       have z1:(strOfNums A).size=PJ:=HPj.out.1
       have z2:PJ≤50000:=HPj.out.2
       have r1:¬ 9223372036854775807<PJ+M:=by omega
       have hwz:=HWz.out
       clear HTs
       go_wp2_with fail
       go_roundw
       case rel=>exact ⟨j+1,by omega,by go_num,by rw [HTt.out,← str_append],HT1,HK,HC⟩
       case measure=>(simp only [intOf];omega)
      ·have hne:((M:Int) != (Z:Int))=true:=by rw [bne_iff_ne];omega
       have hMZ2:¬ (M:Int)=(Z:Int):=by omega
       have hwz:=HWz.out
       clear HTs
       go_wp2_with fail
       go_ret
       exact ⟨rfl,HK.out⟩
     have hb0:y8 % 2=0:=by omega
     ·rw [hb0] at ha hsl
      replace hsl:sealed17 f z j=false:=hsl
      clear hN0 hb1 hb0
      have HTj:=hid (fun w hl=>HTx.out j p m cc L false HSj.out HNn.out.1 w hl)
      obtain ⟨T,hT⟩:∃ T,T=textS e 6 j L false:=⟨_,rfl⟩
      rw [← hT] at HTj
      have HTt:=hid (show textsTo e 6 f (sealed17 f z) (j+1)=A ++ T by rw [textsTo,hsl,← HLf.out,hT,HAe.out])
      have HTs:=hid (show T.length=2 ^ e→SegsTo e f z (j+1) from fun h=>by
       refine ⟨fun i hi=>?_,fun i hi=>?_,fun i hi=>?_⟩
       ·by_cases hij:i<j
        ·exact HTo.out.few i hij
        ·obtain rfl:i=j:=by omega
         rw [← HLf.out];exact HLit.out.1
       ·by_cases hij:i<j
        ·exact HTo.out.fine i hij
        ·obtain rfl:i=j:=by omega
         rw [← HLf.out];exact fun r hr=>⟨(HArg.out r hr).fine,HAll.out r hr⟩
       ·by_cases hij:i<j
        ·exact HTo.out.long i hij
        ·obtain rfl:i=j:=by omega
         rw [hsl,← HLf.out,← hT];exact h)
      obtain ⟨M,hM⟩:∃ M,M=T.length:=⟨_,rfl⟩
      have hsz:(strOfNums T).size=M:=by rw [str_size,hM]
      rw [← hM,← HZ.out] at HTs
      clear hT hM hsl
      refine wp_region_held_drew (S:=fun w':World=>w'.cell? ⟨g,0,none⟩=some (.int .u8 (e:Int))∧w'.cell? ⟨g,1,none⟩=some (.int .u32 6)) (by kernel_rfl) s0 (fun hS=>?_)
      obtain ⟨wd,hwd⟩:∃ W,W=wr.drew:=⟨_,rfl⟩
      rw [← hwd] at HKd HCd HRd hS ⊢
      clear hwd s0 sN
      refine wpAnyH_take (i:=0) (v:=?vT31) rfl ?aT31 ?bT31 ?cT31 ?dT31 (Or.inl ⟨?eT31,?fT31⟩) hS ?gT31
      case fT31=>intro w hSw;(try dsimp only at hSw);go_simp;(try with_reducible rfl)
      case aT31=>kernel_rfl
      case bT31=>kernel_rfl
      case cT31=>kernel_rfl
      case dT31=>exact fun _ _ _ h=>h
      case eT31=>rfl
      simp only [Act.put,List.getElem_toArray,List.getElem_cons_zero,List.setIfInBounds_toArray,List.set_cons_zero,List.set_cons_succ]
      refine wpAnyH_take (i:=1) (v:=?vT32) rfl ?aT32 ?bT32 ?cT32 ?dT32 (Or.inl ⟨?eT32,?fT32⟩) hS ?gT32
      case fT32=>intro w hSw;(try dsimp only at hSw);go_simp;(try with_reducible rfl)
      case aT32=>kernel_rfl
      case bT32=>kernel_rfl
      case cT32=>kernel_rfl
      case dT32=>exact fun _ _ _ h=>h
      case eT32=>rfl
      simp only [Act.put,List.getElem_toArray,List.getElem_cons_zero,List.getElem_cons_succ,List.setIfInBounds_toArray,List.set_cons_zero,List.set_cons_succ]
      refine wpAnyH_take (i:=2) (v:=?vT33) rfl ?aT33 ?bT33 ?cT33 ?dT33 (Or.inl ⟨?eT33,?fT33⟩) hS ?gT33
      case fT33=>intro w hSw;(try dsimp only at hSw);go_simp;(try with_reducible rfl)
      case aT33=>kernel_rfl
      case bT33=>kernel_rfl
      case cT33=>kernel_rfl
      case dT33=>exact fun _ _ _ h=>h
      case eT33=>rfl
      simp only [Act.put,List.getElem_toArray,List.getElem_cons_zero,List.getElem_cons_succ,List.setIfInBounds_toArray,List.set_cons_zero,List.set_cons_succ]
      refine wpAnyH_take (i:=3) (v:=?vT34) rfl ?aT34 ?bT34 ?cT34 ?dT34 (Or.inl ⟨?eT34,?fT34⟩) hS ?gT34
      case fT34=>intro w hSw;(try dsimp only at hSw);go_simp;(try with_reducible rfl)
      case aT34=>kernel_rfl
      case bT34=>kernel_rfl
      case cT34=>kernel_rfl
      case dT34=>exact fun _ _ _ h=>h
      case eT34=>rfl
      simp only [Act.put,List.getElem_toArray,List.getElem_cons_zero,List.getElem_cons_succ,List.setIfInBounds_toArray,List.set_cons_zero,List.set_cons_succ]
      refine wpAnyH_take (i:=4) (v:=?vT35) rfl ?aT35 ?bT35 ?cT35 ?dT35 (Or.inl ⟨?eT35,?fT35⟩) hS ?gT35
      case fT35=>intro w hSw;(try dsimp only at hSw);go_simp;(try with_reducible rfl)
      case aT35=>kernel_rfl
      case bT35=>kernel_rfl
      case cT35=>kernel_rfl
      case dT35=>exact fun _ _ _ h=>h
      case eT35=>rfl
      simp only [Act.put,List.getElem_toArray,List.getElem_cons_zero,List.getElem_cons_succ,List.setIfInBounds_toArray,List.set_cons_zero,List.set_cons_succ]
      refine wpAnyH_take (i:=5) (v:=?vT36) rfl ?aT36 ?bT36 ?cT36 ?dT36 (Or.inl ⟨?eT36,?fT36⟩) hS ?gT36
      case fT36=>intro w hSw;(try dsimp only at hSw);go_simp;(try with_reducible rfl)
      case aT36=>kernel_rfl
      case bT36=>kernel_rfl
      case cT36=>kernel_rfl
      case dT36=>exact fun _ _ _ h=>h
      case eT36=>rfl
      simp only [Act.put,List.getElem_toArray,List.getElem_cons_zero,List.getElem_cons_succ,List.setIfInBounds_toArray,List.set_cons_zero,List.set_cons_succ]
      refine wpAnyH_take (i:=6) (v:=?vT37) rfl ?aT37 ?bT37 ?cT37 ?dT37 (Or.inl ⟨?eT37,?fT37⟩) hS ?gT37
      case fT37=>intro w hSw;(try dsimp only at hSw);go_simp;(try with_reducible rfl)
      case aT37=>kernel_rfl
      case bT37=>kernel_rfl
      case cT37=>kernel_rfl
      case dT37=>exact fun _ _ _ h=>h
      case eT37=>rfl
      simp only [Act.put,List.getElem_toArray,List.getElem_cons_zero,List.getElem_cons_succ,List.setIfInBounds_toArray,List.set_cons_zero,List.set_cons_succ]
      refine wpAnyH_take (i:=7) (v:=?vT38) rfl ?aT38 ?bT38 ?cT38 ?dT38 (Or.inl ⟨?eT38,?fT38⟩) hS ?gT38
      case fT38=>intro w hSw;(try dsimp only at hSw);go_simp;(try with_reducible rfl)
      case aT38=>kernel_rfl
      case bT38=>kernel_rfl
      case cT38=>kernel_rfl
      case dT38=>exact fun _ _ _ h=>h
      case eT38=>rfl
      simp only [Act.put,List.getElem_toArray,List.getElem_cons_zero,List.getElem_cons_succ,List.setIfInBounds_toArray,List.set_cons_zero,List.set_cons_succ]
      refine wpAnyH_take (i:=8) (v:=?vT39) rfl ?aT39 ?bT39 ?cT39 ?dT39 (Or.inl ⟨?eT39,?fT39⟩) hS ?gT39
      case fT39=>intro w hSw;(try dsimp only at hSw);go_simp;(try with_reducible rfl)
      case aT39=>kernel_rfl
      case bT39=>kernel_rfl
      case cT39=>kernel_rfl
      case dT39=>exact fun _ _ _ h=>h
      case eT39=>rfl
      simp only [Act.put,List.getElem_toArray,List.getElem_cons_zero,List.getElem_cons_succ,List.setIfInBounds_toArray,List.set_cons_zero,List.set_cons_succ]
      refine wpAnyH_take (i:=9) (v:=?vT40) rfl ?aT40 ?bT40 ?cT40 ?dT40 (Or.inl ⟨?eT40,?fT40⟩) hS ?gT40
      case fT40=>intro w hSw;(try dsimp only at hSw);go_simp;(try with_reducible rfl)
      case aT40=>kernel_rfl
      case bT40=>kernel_rfl
      case cT40=>kernel_rfl
      case dT40=>exact fun _ _ _ h=>h
      case eT40=>rfl
      simp only [Act.put,List.getElem_toArray,List.getElem_cons_zero,List.getElem_cons_succ,List.setIfInBounds_toArray,List.set_cons_zero,List.set_cons_succ]
      refine wpAnyH_take (i:=10) (v:=?vT41) rfl ?aT41 ?bT41 ?cT41 ?dT41 (Or.inl ⟨?eT41,?fT41⟩) hS ?gT41
      case fT41=>intro w hSw;(try dsimp only at hSw);go_simp;(try with_reducible rfl)
      case aT41=>kernel_rfl
      case bT41=>kernel_rfl
      case cT41=>kernel_rfl
      case dT41=>exact fun _ _ _ h=>h
      case eT41=>rfl
      simp only [Act.put,List.getElem_toArray,List.getElem_cons_zero,List.getElem_cons_succ,List.setIfInBounds_toArray,List.set_cons_zero,List.set_cons_succ]
      refine wpAnyH_take (i:=11) (v:=?vT42) rfl ?aT42 ?bT42 ?cT42 ?dT42 (Or.inl ⟨?eT42,?fT42⟩) hS ?gT42
      case fT42=>intro w hSw;(try dsimp only at hSw);go_simp;(try with_reducible rfl)
      case aT42=>kernel_rfl
      case bT42=>kernel_rfl
      case cT42=>kernel_rfl
      case dT42=>exact fun _ _ _ h=>h
      case eT42=>rfl
      simp only [Act.put,List.getElem_toArray,List.getElem_cons_zero,List.getElem_cons_succ,List.setIfInBounds_toArray,List.set_cons_zero,List.set_cons_succ]
      refine wpAnyH_take (i:=12) (v:=?vT43) rfl ?aT43 ?bT43 ?cT43 ?dT43 (Or.inl ⟨?eT43,?fT43⟩) hS ?gT43
      case fT43=>intro w hSw;(try dsimp only at hSw);go_simp;(try with_reducible rfl)
      case aT43=>kernel_rfl
      case bT43=>kernel_rfl
      case cT43=>kernel_rfl
      case dT43=>exact fun _ _ _ h=>h
      case eT43=>rfl
      simp only [Act.put,List.getElem_toArray,List.getElem_cons_zero,List.getElem_cons_succ,List.setIfInBounds_toArray,List.set_cons_zero,List.set_cons_succ]
      refine wpAnyH_take (i:=13) (v:=?vT44) rfl ?aT44 ?bT44 ?cT44 ?dT44 (Or.inl ⟨?eT44,?fT44⟩) hS ?gT44
      case fT44=>intro w hSw;(try dsimp only at hSw);go_simp;(try with_reducible rfl)
      case aT44=>kernel_rfl
      case bT44=>kernel_rfl
      case cT44=>kernel_rfl
      case dT44=>exact fun _ _ _ h=>h
      case eT44=>rfl
      simp only [Act.put,List.getElem_toArray,List.getElem_cons_zero,List.getElem_cons_succ,List.setIfInBounds_toArray,List.set_cons_zero,List.set_cons_succ]
      refine wpAnyH_ready (rs:=[14]) (by kernel_rfl) (by simp) ?_
      refine (AllReadyH.cons (o:=_) rfl (fun K hK=>?_) AllReadyH.nil)
      go_simp
      refine (HTj.out _ HRd.out).mono ?_
      rintro e5 w5 ⟨rfl,hk⟩
      have HK:=hid (HKd.out.trans hk)
      have HC:=hid (HCd.out.keep hk (fun h=>h))
      have hS:(fun w':World=>w'.cell? ⟨g,0,none⟩=some (.int .u8 (e:Int))∧w'.cell? ⟨g,1,none⟩=some (.int .u32 6)) w5:=conf_two HC.out
      clear hk
      go_wp2_with fail
      refine hK.out _ _ hS (fun _=>?_)
      clear hK K
      refine wpAnyH_take (i:=15) (v:=?vT45) rfl ?aT45 ?bT45 ?cT45 ?dT45 (Or.inl ⟨?eT45,?fT45⟩) hS ?gT45
      case fT45=>intro w hSw;(try dsimp only at hSw);go_simp;(try with_reducible rfl)
      case aT45=>kernel_rfl
      case bT45=>kernel_rfl
      case cT45=>kernel_rfl
      case dT45=>exact fun _ _ _ h=>h
      case eT45=>rfl
      simp only [Act.put,List.getElem_toArray,List.getElem_cons_zero,List.getElem_cons_succ,List.setIfInBounds_toArray,List.set_cons_zero,List.set_cons_succ]
      refine wpAnyH_done (by kernel_rfl) ?_ _
      obtain ⟨g0,g1⟩:=hS
      by_cases hMZ:M=Z
      ·subst hMZ
       have HT1:=hid (HTs.out rfl)
       have hne:((M:Int) != (M:Int))=false:=by simp
       have z1:(strOfNums A).size=PJ:=HPj.out.1
       have z2:PJ≤50000:=HPj.out.2
       have r1:¬ 9223372036854775807<PJ+M:=by omega
       have hwz:=HWz.out
       clear HTs
       go_wp2_with fail
       go_roundw
       case rel=>exact ⟨j+1,by omega,by go_num,by rw [HTt.out,← str_append],HT1,HK,HC⟩
       case measure=>(simp only [intOf];omega)
      ·have hne:((M:Int) != (Z:Int))=true:=by rw [bne_iff_ne];omega
       have hMZ2:¬ (M:Int)=(Z:Int):=by omega
       have hwz:=HWz.out
       clear HTs
       go_wp2_with fail
       go_ret
       exact ⟨rfl,HK.out⟩
  ·have hdj:decide ((j:Int)<(n:Int))=false:=decide_eq_false (by omega)
   have hdj2:decide (j<n)=false:=decide_eq_false hlt
   obtain rfl:j=n:=by omega
   have hmC:mayC e 6=true:=mayC_true.2 ⟨by omega,by omega,by decide,by decide⟩
   have HVt:=hid (viewsI_texts (e:=e) (s:=6) (f:=f) (b:=sealed17 f z) (m:=j) (by omega) hmC hn HTo.out.long HTo.out.fine (fun i _ h=>by
    unfold sealed17 at h
    rw [Bool.and_eq_true,decide_eq_true_iff] at h
    exact h.1))
   have HSp:=hid (fun i x (hi:i<j) hx=>viewsI_spoilt (e:=e) (s:=6) (f:=f) (b:=sealed17 f z) (m:=j) (j:=i) (x:=x) hmC hn HTo.out.long hi hx)
   have hlA:=texts_length (e:=e) (s:=6) (f:=f) (b:=sealed17 f z) j HTo.out.long
   have hoA:=texts_octets (e:=e) (s:=6) (f:=f) (b:=sealed17 f z) (by omega) j (fun i hi r hr=>(HTo.out.fine i hi r hr).1)
   rw [← HZ.out] at hlA HSp
   obtain ⟨A,hA⟩:∃ A,A=textsTo e 6 f (sealed17 f z) j:=⟨_,rfl⟩
   rw [← hA] at HVt HSp hlA hoA ⊢
   obtain ⟨NA,hNA⟩:∃ NA,NA=A.length:=⟨_,rfl⟩
   have hN9:NA≤50000:=by
    rw [hNA,hlA]
    have:j*Z≤6*8192:=Nat.mul_le_mul (by omega) hzz.2
    omega
   have HNA:=hid (And.intro hNA hlA)
   have hcv:∀ w,(convert 9 29 (.string (strOfNums A))).run Tryz.prog w=.ok (.slice (some ⟨w.heap.size,0,none⟩) NA (grownCap w NA 0 5)) (Lib.bytesWorld w 5 (strOfNums A)):=fun w=>by rw [hNA];exact run_str_bytes A w
   have HOA:=hid hoA
   have HV1:=hid (fun p c w (h:In8 w p NA c A)=>HVw.out p NA c A w h (by omega))
   rw [HVt.out] at HV1
   simp only at HV1
   have HIn:=hid (fun W (hw:W=Lib.bytesWorld wr 5 (strOfNums A))=>show In8 W (some ⟨wr.heap.size,0,none⟩) NA (grownCap wr NA 0 5) A from by
    rw [hw]
    exact (BytesBlk.ofWorld wr HOA.out).in8 HOA.out HNA.out.1 (cap_in wr NA (by omega)).1 (cap_in wr NA (by omega)).2)
   have HKb:=hid (HKr.out.trans (bytesWorld_keeps NoBlock wr 5 (strOfNums A)))
   have HCb:=hid (HCr.out.keep (bytesWorld_keeps NoBlock wr 5 (strOfNums A)) (fun h=>h))
   have HTo2:=hid HTo.out
   obtain ⟨x0,x1⟩:=conf_two HCr.out
   clear hA hNA hlA hoA hmC HTo HKr HCr HTx HEn HSg HVt
   go_wp2_with fail
   refine (HV1.out _ _ _ (HIn.out _ rfl)).mono ?_
   rintro e6 w6 ⟨q6,m6,d6,rfl,hm6,hv6,hk6⟩
   have HK:=hid (HKb.out.trans hk6)
   have HC:=hid (HCb.out.keep hk6 (fun h=>h))
   obtain rfl:m6=j:=by rw [hm6,List.length_map,List.length_range]
   have HV6:=hid hv6
   clear hm6 hv6 hk6 HKb HCb HIn HV1 x0 x1
   go_wp2_with fail
   go_loopw [103] (fun x wq=>∃ i:Nat,i≤m6∧x=.int .i64 (i:Int)∧Hid (Keeps NoBlock w6 wq)) (fun x _=>m6 - (intOf x).toNat)
   case atStart=>exact ⟨0,Nat.zero_le _,rfl,hid (Keeps.refl _ _)⟩
   case round =>
    obtain ⟨i,hi,rfl,HKq⟩:=hrel
    by_cases hli:i<m6
    ·have hdi:decide ((i:Int)<(m6:Int))=true:=decide_eq_true (by omega)
     have hdi2:decide (i<m6)=true:=decide_eq_true hli
     have hiI:(i:Int)<(m6:Int):=by omega
     have hi6:i<6:=by omega
     obtain ⟨a,p,N,cc,rfl,c0,hN,hNc,hcc,hat,harg⟩:=HR.out.keep (HK.out.trans HKq.out) (fun _ _ h=>h) i hli
     obtain ⟨av,pv,nv,cv,y1,y2,rfl,v0,v1,v2,v3,hnv,hrv⟩:=HV6.out.keep HKq.out (fun _ _ h=>h) i (by rw [List.length_map,List.length_range];exact hli)
     simp only [List.getElem_map,List.getElem_range] at v3 hnv hrv
     have HSm:=hid (fun W h1 h2=>same16_ref pv nv cv (f i) p N cc (f i) hnv hN (by have:=HTo2.out.few i hli;omega) (fun r hr=>(harg r hr).fine) (fun r hr=>(harg r hr).fine) W h1 h2)
     rw [decide_eq_true rfl] at HSm
     have HRa:=hid hat
     have HRv:=hid hrv
     have hsl:sealed17 f z i=(decide (0<N) && (z / 2 ^ i % 2 == 1)):=by unfold sealed17 bitS;rw [hN]
     obtain ⟨sl,hsd⟩:∃ sl,sl=sealed17 f z i:=⟨_,rfl⟩
     rw [← hsd] at v3 hsl
     have hs2:=shr17 (z:=z) hi6
     have hy8:z / 2 ^ i<256:=Nat.lt_of_le_of_lt (Nat.div_le_self _ _) hz
     have ha:=and1 _ hy8
     obtain ⟨y8,hy⟩:∃ y8,y8=z / 2 ^ i:=⟨_,rfl⟩
     rw [← hy] at hs2 hy8 ha hsl
     have hz2:(z:Int) / 2 ^ i=((y8:Nat):Int):=by rw [hy,Int.natCast_ediv,Int.natCast_pow];rfl
     have HIl:=hid (And.intro hi hli)
     clear hy v1 v2 hN hnv hrv hat harg hsd hNc hcc
     go_upto_region 29 with (fail)
     have HV0:=hid (And.intro v0 v3)
     have s0:wr.drew.cell? (av.add (i*4))=some (.slice pv nv cv)∧wr.drew.cell? ⟨(av.add (i*4)).block,(av.add (i*4)).off+3,none⟩=some (.bool sl):=And.intro v0 v3
     clear v0 v3 c0
     by_cases hN0:N=0
     ·have n0:decide ((0:Int)<(N:Int))=false:=decide_eq_false (by omega)
      have n1:decide (0<N)=false:=decide_eq_false (by omega)
      rw [n1,Bool.false_and] at hsl
      subst hsl
      clear hN0 ha hs2 hz2
      refine wp_region_held_drew (S:=fun w':World=>w'.cell? (av.add (i*4))=some (.slice pv nv cv)∧w'.cell? ⟨(av.add (i*4)).block,(av.add (i*4)).off+3,none⟩=some (.bool false)) (by kernel_rfl) s0 (fun hS=>?_)
      obtain ⟨wd,hwd⟩:∃ W,W=wr.drew:=⟨_,rfl⟩
      have HKd:Hid (Keeps NoBlock wr wd):=hid (by rw [hwd];exact (Keeps.refl _ _).drew)
      rw [← hwd] at hS ⊢
      clear hwd s0
      refine wpAnyH_take (i:=0) (v:=?vT1001) rfl ?aT1001 ?bT1001 ?cT1001 ?dT1001 (Or.inl ⟨?eT1001,?fT1001⟩) hS ?gT1001
      case fT1001=>intro w hSw;(try dsimp only at hSw);go_simp;(try with_reducible rfl)
      case aT1001=>kernel_rfl
      case bT1001=>kernel_rfl
      case cT1001=>kernel_rfl
      case dT1001=>exact fun _ _ _ h=>h
      case eT1001=>rfl
      simp only [Act.put,List.getElem_toArray,List.getElem_cons_zero,List.setIfInBounds_toArray,List.set_cons_zero,List.set_cons_succ]
      refine wpAnyH_take (i:=1) (v:=?vT1002) rfl ?aT1002 ?bT1002 ?cT1002 ?dT1002 (Or.inl ⟨?eT1002,?fT1002⟩) hS ?gT1002
      case fT1002=>intro w hSw;(try dsimp only at hSw);go_simp;(try with_reducible rfl)
      case aT1002=>kernel_rfl
      case bT1002=>kernel_rfl
      case cT1002=>kernel_rfl
      case dT1002=>exact fun _ _ _ h=>h
      case eT1002=>rfl
      simp only [Act.put,List.getElem_toArray,List.getElem_cons_zero,List.getElem_cons_succ,List.setIfInBounds_toArray,List.set_cons_zero,List.set_cons_succ]
      refine wpAnyH_take (i:=2) (v:=?vT1003) rfl ?aT1003 ?bT1003 ?cT1003 ?dT1003 (Or.inl ⟨?eT1003,?fT1003⟩) hS ?gT1003
      case fT1003=>intro w hSw;(try dsimp only at hSw);go_simp;(try with_reducible rfl)
      case aT1003=>kernel_rfl
      case bT1003=>kernel_rfl
      case cT1003=>kernel_rfl
      case dT1003=>exact fun _ _ _ h=>h
      case eT1003=>rfl
      simp only [Act.put,List.getElem_toArray,List.getElem_cons_zero,List.getElem_cons_succ,List.setIfInBounds_toArray,List.set_cons_zero,List.set_cons_succ]
      refine wpAnyH_take (i:=3) (v:=?vT1004) rfl ?aT1004 ?bT1004 ?cT1004 ?dT1004 (Or.inl ⟨?eT1004,?fT1004⟩) hS ?gT1004
      case fT1004=>intro w hSw;(try dsimp only at hSw);go_simp;(try with_reducible rfl)
      case aT1004=>kernel_rfl
      case bT1004=>kernel_rfl
      case cT1004=>kernel_rfl
      case dT1004=>exact fun _ _ _ h=>h
      case eT1004=>rfl
      simp only [Act.put,List.getElem_toArray,List.getElem_cons_zero,List.getElem_cons_succ,List.setIfInBounds_toArray,List.set_cons_zero,List.set_cons_succ]
      refine wpAnyH_take (i:=4) (v:=?vT1005) rfl ?aT1005 ?bT1005 ?cT1005 ?dT1005 (Or.inl ⟨?eT1005,?fT1005⟩) hS ?gT1005
      case fT1005=>intro w hSw;(try dsimp only at hSw);go_simp;(try with_reducible rfl)
      case aT1005=>kernel_rfl
      case bT1005=>kernel_rfl
      case cT1005=>kernel_rfl
      case dT1005=>exact fun _ _ _ h=>h
      case eT1005=>rfl
      simp only [Act.put,List.getElem_toArray,List.getElem_cons_zero,List.getElem_cons_succ,List.setIfInBounds_toArray,List.set_cons_zero,List.set_cons_succ]
      refine wpAnyH_take (i:=5) (v:=?vT1006) rfl ?aT1006 ?bT1006 ?cT1006 ?dT1006 (Or.inl ⟨?eT1006,?fT1006⟩) hS ?gT1006
      case fT1006=>intro w hSw;(try dsimp only at hSw);go_simp;(try with_reducible rfl)
      case aT1006=>kernel_rfl
      case bT1006=>kernel_rfl
      case cT1006=>kernel_rfl
      case dT1006=>exact fun _ _ _ h=>h
      case eT1006=>rfl
      simp only [Act.put,List.getElem_toArray,List.getElem_cons_zero,List.getElem_cons_succ,List.setIfInBounds_toArray,List.set_cons_zero,List.set_cons_succ]
      refine wpAnyH_ready (rs:=[6]) (by kernel_rfl) (by simp) ?_
      refine (AllReadyH.cons (o:=_) rfl (fun K hK=>?_) AllReadyH.nil)
      go_simp
      refine (HSm.out _ (HRv.out.keep HKd.out (fun _ _ h=>h)) (HRa.out.keep HKd.out (fun _ _ h=>h))).mono ?_
      rintro e7 w7 ⟨rfl,hk⟩
      have HKd:=hid (HKd.out.trans hk)
      have hS:(fun w':World=>w'.cell? (av.add (i*4))=some (.slice pv nv cv)∧w'.cell? ⟨(av.add (i*4)).block,(av.add (i*4)).off+3,none⟩=some (.bool false)) w7:=⟨hk.cell hS.1 (fun h=>h),hk.cell hS.2 (fun h=>h)⟩
      clear hk
      go_wp2_with fail
      refine hK.out _ _ hS (fun _=>?_)
      clear hK K
      refine wpAnyH_take (i:=7) (v:=?vT1007) rfl ?aT1007 ?bT1007 ?cT1007 ?dT1007 (Or.inl ⟨?eT1007,?fT1007⟩) hS ?gT1007
      case fT1007=>intro w hSw;(try dsimp only at hSw);go_simp;(try with_reducible rfl)
      case aT1007=>kernel_rfl
      case bT1007=>kernel_rfl
      case cT1007=>kernel_rfl
      case dT1007=>exact fun _ _ _ h=>h
      case eT1007=>rfl
      simp only [Act.put,List.getElem_toArray,List.getElem_cons_zero,List.getElem_cons_succ,List.setIfInBounds_toArray,List.set_cons_zero,List.set_cons_succ]
      refine wpAnyH_take (i:=8) (v:=?vT1008) rfl ?aT1008 ?bT1008 ?cT1008 ?dT1008 (Or.inl ⟨?eT1008,?fT1008⟩) hS ?gT1008
      case fT1008=>intro w hSw;(try dsimp only at hSw);go_simp;(try with_reducible rfl)
      case aT1008=>kernel_rfl
      case bT1008=>kernel_rfl
      case cT1008=>kernel_rfl
      case dT1008=>exact fun _ _ _ h=>h
      case eT1008=>rfl
      simp only [Act.put,List.getElem_toArray,List.getElem_cons_zero,List.getElem_cons_succ,List.setIfInBounds_toArray,List.set_cons_zero,List.set_cons_succ]
      refine wpAnyH_take (i:=9) (v:=?vT1009) rfl ?aT1009 ?bT1009 ?cT1009 ?dT1009 (Or.inl ⟨?eT1009,?fT1009⟩) hS ?gT1009
      case fT1009=>intro w hSw;(try dsimp only at hSw);go_simp;(try with_reducible rfl)
      case aT1009=>kernel_rfl
      case bT1009=>kernel_rfl
      case cT1009=>kernel_rfl
      case dT1009=>exact fun _ _ _ h=>h
      case eT1009=>rfl
      simp only [Act.put,List.getElem_toArray,List.getElem_cons_zero,List.getElem_cons_succ,List.setIfInBounds_toArray,List.set_cons_zero,List.set_cons_succ]
      refine wpAnyH_take (i:=10) (v:=?vT1010) rfl ?aT1010 ?bT1010 ?cT1010 ?dT1010 (Or.inl ⟨?eT1010,?fT1010⟩) hS ?gT1010
      case fT1010=>intro w hSw;(try dsimp only at hSw);go_simp;(try with_reducible rfl)
      case aT1010=>kernel_rfl
      case bT1010=>kernel_rfl
      case cT1010=>kernel_rfl
      case dT1010=>exact fun _ _ _ h=>h
      case eT1010=>rfl
      simp only [Act.put,List.getElem_toArray,List.getElem_cons_zero,List.getElem_cons_succ,List.setIfInBounds_toArray,List.set_cons_zero,List.set_cons_succ]
      refine wpAnyH_take (i:=11) (v:=?vT1011) rfl ?aT1011 ?bT1011 ?cT1011 ?dT1011 (Or.inl ⟨?eT1011,?fT1011⟩) hS ?gT1011
      case fT1011=>intro w hSw;(try dsimp only at hSw);go_simp;(try with_reducible rfl)
      case aT1011=>kernel_rfl
      case bT1011=>kernel_rfl
      case cT1011=>kernel_rfl
      case dT1011=>exact fun _ _ _ h=>h
      case eT1011=>rfl
      simp only [Act.put,List.getElem_toArray,List.getElem_cons_zero,List.getElem_cons_succ,List.setIfInBounds_toArray,List.set_cons_zero,List.set_cons_succ]
      refine wpAnyH_take (i:=12) (v:=?vT1012) rfl ?aT1012 ?bT1012 ?cT1012 ?dT1012 (Or.inl ⟨?eT1012,?fT1012⟩) hS ?gT1012
      case fT1012=>intro w hSw;(try dsimp only at hSw);go_simp;(try with_reducible rfl)
      case aT1012=>kernel_rfl
      case bT1012=>kernel_rfl
      case cT1012=>kernel_rfl
      case dT1012=>exact fun _ _ _ h=>h
      case eT1012=>rfl
      simp only [Act.put,List.getElem_toArray,List.getElem_cons_zero,List.getElem_cons_succ,List.setIfInBounds_toArray,List.set_cons_zero,List.set_cons_succ]
      refine wpAnyH_take (i:=13) (v:=?vT1013) rfl ?aT1013 ?bT1013 ?cT1013 ?dT1013 (Or.inl ⟨?eT1013,?fT1013⟩) hS ?gT1013
      case fT1013=>intro w hSw;(try dsimp only at hSw);go_simp;(try with_reducible rfl)
      case aT1013=>kernel_rfl
      case bT1013=>kernel_rfl
      case cT1013=>kernel_rfl
      case dT1013=>exact fun _ _ _ h=>h
      case eT1013=>rfl
      simp only [Act.put,List.getElem_toArray,List.getElem_cons_zero,List.getElem_cons_succ,List.setIfInBounds_toArray,List.set_cons_zero,List.set_cons_succ]
      refine wpAnyH_take (i:=14) (v:=?vT1014) rfl ?aT1014 ?bT1014 ?cT1014 ?dT1014 (Or.inl ⟨?eT1014,?fT1014⟩) hS ?gT1014
      case fT1014=>intro w hSw;(try dsimp only at hSw);go_simp;(try with_reducible rfl)
      case aT1014=>kernel_rfl
      case bT1014=>kernel_rfl
      case cT1014=>kernel_rfl
      case dT1014=>exact fun _ _ _ h=>h
      case eT1014=>rfl
      simp only [Act.put,List.getElem_toArray,List.getElem_cons_zero,List.getElem_cons_succ,List.setIfInBounds_toArray,List.set_cons_zero,List.set_cons_succ]
      refine wpAnyH_take (i:=15) (v:=?vT1015) rfl ?aT1015 ?bT1015 ?cT1015 ?dT1015 (Or.inl ⟨?eT1015,?fT1015⟩) hS ?gT1015
      case fT1015=>intro w hSw;(try dsimp only at hSw);go_simp;(try with_reducible rfl)
      case aT1015=>kernel_rfl
      case bT1015=>kernel_rfl
      case cT1015=>kernel_rfl
      case dT1015=>exact fun _ _ _ h=>h
      case eT1015=>rfl
      simp only [Act.put,List.getElem_toArray,List.getElem_cons_zero,List.getElem_cons_succ,List.setIfInBounds_toArray,List.set_cons_zero,List.set_cons_succ]
      refine wpAnyH_take (i:=16) (v:=?vT1016) rfl ?aT1016 ?bT1016 ?cT1016 ?dT1016 (Or.inl ⟨?eT1016,?fT1016⟩) hS ?gT1016
      case fT1016=>intro w hSw;(try dsimp only at hSw);go_simp;(try with_reducible rfl)
      case aT1016=>kernel_rfl
      case bT1016=>kernel_rfl
      case cT1016=>kernel_rfl
      case dT1016=>exact fun _ _ _ h=>h
      case eT1016=>rfl
      simp only [Act.put,List.getElem_toArray,List.getElem_cons_zero,List.getElem_cons_succ,List.setIfInBounds_toArray,List.set_cons_zero,List.set_cons_succ]
      refine wpAnyH_take (i:=17) (v:=?vT1017) rfl ?aT1017 ?bT1017 ?cT1017 ?dT1017 (Or.inl ⟨?eT1017,?fT1017⟩) hS ?gT1017
      case fT1017=>intro w hSw;(try dsimp only at hSw);go_simp;(try with_reducible rfl)
      case aT1017=>kernel_rfl
      case bT1017=>kernel_rfl
      case cT1017=>kernel_rfl
      case dT1017=>exact fun _ _ _ h=>h
      case eT1017=>rfl
      simp only [Act.put,List.getElem_toArray,List.getElem_cons_zero,List.getElem_cons_succ,List.setIfInBounds_toArray,List.set_cons_zero,List.set_cons_succ]
      refine wpAnyH_take (i:=18) (v:=undef) rfl ?aT1018 ?bT1018 ?cT1018 ?dT1018 (Or.inr ?eT1018) hS ?gT1018
      case eT1018=>exact ⟨rfl,rfl⟩
      case aT1018=>kernel_rfl
      case bT1018=>kernel_rfl
      case cT1018=>kernel_rfl
      case dT1018=>exact fun _ _ _ h=>h
      simp only [Act.put,List.getElem_toArray,List.getElem_cons_zero,List.getElem_cons_succ,List.setIfInBounds_toArray,List.set_cons_zero,List.set_cons_succ]
      refine wpAnyH_take (i:=19) (v:=undef) rfl ?aT1019 ?bT1019 ?cT1019 ?dT1019 (Or.inr ?eT1019) hS ?gT1019
      case eT1019=>exact ⟨rfl,rfl⟩
      case aT1019=>kernel_rfl
      case bT1019=>kernel_rfl
      case cT1019=>kernel_rfl
      case dT1019=>exact fun _ _ _ h=>h
      simp only [Act.put,List.getElem_toArray,List.getElem_cons_zero,List.getElem_cons_succ,List.setIfInBounds_toArray,List.set_cons_zero,List.set_cons_succ]
      refine wpAnyH_take (i:=20) (v:=undef) rfl ?aT1020 ?bT1020 ?cT1020 ?dT1020 (Or.inr ?eT1020) hS ?gT1020
      case eT1020=>exact ⟨rfl,rfl⟩
      case aT1020=>kernel_rfl
      case bT1020=>kernel_rfl
      case cT1020=>kernel_rfl
      case dT1020=>exact fun _ _ _ h=>h
      simp only [Act.put,List.getElem_toArray,List.getElem_cons_zero,List.getElem_cons_succ,List.setIfInBounds_toArray,List.set_cons_zero,List.set_cons_succ]
      refine wpAnyH_take (i:=21) (v:=undef) rfl ?aT1021 ?bT1021 ?cT1021 ?dT1021 (Or.inr ?eT1021) hS ?gT1021
      case eT1021=>exact ⟨rfl,rfl⟩
      case aT1021=>kernel_rfl
      case bT1021=>kernel_rfl
      case cT1021=>kernel_rfl
      case dT1021=>exact fun _ _ _ h=>h
      simp only [Act.put,List.getElem_toArray,List.getElem_cons_zero,List.getElem_cons_succ,List.setIfInBounds_toArray,List.set_cons_zero,List.set_cons_succ]
      refine wpAnyH_take (i:=22) (v:=undef) rfl ?aT1022 ?bT1022 ?cT1022 ?dT1022 (Or.inr ?eT1022) hS ?gT1022
      case eT1022=>exact ⟨rfl,rfl⟩
      case aT1022=>kernel_rfl
      case bT1022=>kernel_rfl
      case cT1022=>kernel_rfl
      case dT1022=>exact fun _ _ _ h=>h
      simp only [Act.put,List.getElem_toArray,List.getElem_cons_zero,List.getElem_cons_succ,List.setIfInBounds_toArray,List.set_cons_zero,List.set_cons_succ]
      refine wpAnyH_take (i:=23) (v:=?vT1023) rfl ?aT1023 ?bT1023 ?cT1023 ?dT1023 (Or.inl ⟨?eT1023,?fT1023⟩) hS ?gT1023
      case fT1023=>intro w hSw;(try dsimp only at hSw);go_simp;(try with_reducible rfl)
      case aT1023=>kernel_rfl
      case bT1023=>kernel_rfl
      case cT1023=>kernel_rfl
      case dT1023=>exact fun _ _ _ h=>h
      case eT1023=>rfl
      simp only [Act.put,List.getElem_toArray,List.getElem_cons_zero,List.getElem_cons_succ,List.setIfInBounds_toArray,List.set_cons_zero,List.set_cons_succ]
      refine wpAnyH_take (i:=24) (v:=?vT1024) rfl ?aT1024 ?bT1024 ?cT1024 ?dT1024 (Or.inl ⟨?eT1024,?fT1024⟩) hS ?gT1024
      case fT1024=>intro w hSw;(try dsimp only at hSw);go_simp;(try with_reducible rfl)
      case aT1024=>kernel_rfl
      case bT1024=>kernel_rfl
      case cT1024=>kernel_rfl
      case dT1024=>exact fun _ _ _ h=>h
      case eT1024=>rfl
      simp only [Act.put,List.getElem_toArray,List.getElem_cons_zero,List.getElem_cons_succ,List.setIfInBounds_toArray,List.set_cons_zero,List.set_cons_succ]
      refine wpAnyH_take (i:=25) (v:=?vT1025) rfl ?aT1025 ?bT1025 ?cT1025 ?dT1025 (Or.inl ⟨?eT1025,?fT1025⟩) hS ?gT1025
      case fT1025=>intro w hSw;(try dsimp only at hSw);go_simp;(try with_reducible rfl)
      case aT1025=>kernel_rfl
      case bT1025=>kernel_rfl
      case cT1025=>kernel_rfl
      case dT1025=>exact fun _ _ _ h=>h
      case eT1025=>rfl
      simp only [Act.put,List.getElem_toArray,List.getElem_cons_zero,List.getElem_cons_succ,List.setIfInBounds_toArray,List.set_cons_zero,List.set_cons_succ]
      refine wpAnyH_done (by kernel_rfl) ?_ _
      go_wp2_with fail
      go_roundw
      case rel=>exact ⟨i+1,by have:=HIl.out;omega,by go_num,hid (HKq.out.trans HKd.out)⟩
      case measure=>(have:=HIl.out;simp only [intOf];omega)
     have n0:decide ((0:Int)<(N:Int))=true:=decide_eq_true (by omega)
     have n1:decide (0<N)=true:=decide_eq_true (by omega)
     rw [n1,Bool.true_and] at hsl
     by_cases hb1:y8 % 2=1
     ·rw [hb1] at ha hsl
      replace hsl:sl=true:=hsl
      subst hsl
      clear hN0 hb1
      refine wp_region_held_drew (S:=fun w':World=>w'.cell? (av.add (i*4))=some (.slice pv nv cv)∧w'.cell? ⟨(av.add (i*4)).block,(av.add (i*4)).off+3,none⟩=some (.bool true)) (by kernel_rfl) s0 (fun hS=>?_)
      obtain ⟨wd,hwd⟩:∃ W,W=wr.drew:=⟨_,rfl⟩
      have HKd:Hid (Keeps NoBlock wr wd):=hid (by rw [hwd];exact (Keeps.refl _ _).drew)
      rw [← hwd] at hS ⊢
      clear hwd s0
      refine wpAnyH_take (i:=0) (v:=?vT1026) rfl ?aT1026 ?bT1026 ?cT1026 ?dT1026 (Or.inl ⟨?eT1026,?fT1026⟩) hS ?gT1026
      case fT1026=>intro w hSw;(try dsimp only at hSw);go_simp;(try with_reducible rfl)
      case aT1026=>kernel_rfl
      case bT1026=>kernel_rfl
      case cT1026=>kernel_rfl
      case dT1026=>exact fun _ _ _ h=>h
      case eT1026=>rfl
      simp only [Act.put,List.getElem_toArray,List.getElem_cons_zero,List.setIfInBounds_toArray,List.set_cons_zero,List.set_cons_succ]
      refine wpAnyH_take (i:=1) (v:=?vT1027) rfl ?aT1027 ?bT1027 ?cT1027 ?dT1027 (Or.inl ⟨?eT1027,?fT1027⟩) hS ?gT1027
      case fT1027=>intro w hSw;(try dsimp only at hSw);go_simp;(try with_reducible rfl)
      case aT1027=>kernel_rfl
      case bT1027=>kernel_rfl
      case cT1027=>kernel_rfl
      case dT1027=>exact fun _ _ _ h=>h
      case eT1027=>rfl
      simp only [Act.put,List.getElem_toArray,List.getElem_cons_zero,List.getElem_cons_succ,List.setIfInBounds_toArray,List.set_cons_zero,List.set_cons_succ]
      refine wpAnyH_take (i:=2) (v:=?vT1028) rfl ?aT1028 ?bT1028 ?cT1028 ?dT1028 (Or.inl ⟨?eT1028,?fT1028⟩) hS ?gT1028
      case fT1028=>intro w hSw;(try dsimp only at hSw);go_simp;(try with_reducible rfl)
      case aT1028=>kernel_rfl
      case bT1028=>kernel_rfl
      case cT1028=>kernel_rfl
      case dT1028=>exact fun _ _ _ h=>h
      case eT1028=>rfl
      simp only [Act.put,List.getElem_toArray,List.getElem_cons_zero,List.getElem_cons_succ,List.setIfInBounds_toArray,List.set_cons_zero,List.set_cons_succ]
      refine wpAnyH_take (i:=3) (v:=?vT1029) rfl ?aT1029 ?bT1029 ?cT1029 ?dT1029 (Or.inl ⟨?eT1029,?fT1029⟩) hS ?gT1029
      case fT1029=>intro w hSw;(try dsimp only at hSw);go_simp;(try with_reducible rfl)
      case aT1029=>kernel_rfl
      case bT1029=>kernel_rfl
      case cT1029=>kernel_rfl
      case dT1029=>exact fun _ _ _ h=>h
      case eT1029=>rfl
      simp only [Act.put,List.getElem_toArray,List.getElem_cons_zero,List.getElem_cons_succ,List.setIfInBounds_toArray,List.set_cons_zero,List.set_cons_succ]
      refine wpAnyH_take (i:=4) (v:=?vT1030) rfl ?aT1030 ?bT1030 ?cT1030 ?dT1030 (Or.inl ⟨?eT1030,?fT1030⟩) hS ?gT1030
      case fT1030=>intro w hSw;(try dsimp only at hSw);go_simp;(try with_reducible rfl)
      case aT1030=>kernel_rfl
      case bT1030=>kernel_rfl
      case cT1030=>kernel_rfl
      case dT1030=>exact fun _ _ _ h=>h
      case eT1030=>rfl
      simp only [Act.put,List.getElem_toArray,List.getElem_cons_zero,List.getElem_cons_succ,List.setIfInBounds_toArray,List.set_cons_zero,List.set_cons_succ]
      refine wpAnyH_take (i:=5) (v:=?vT1031) rfl ?aT1031 ?bT1031 ?cT1031 ?dT1031 (Or.inl ⟨?eT1031,?fT1031⟩) hS ?gT1031
      case fT1031=>intro w hSw;(try dsimp only at hSw);go_simp;(try with_reducible rfl)
      case aT1031=>kernel_rfl
      case bT1031=>kernel_rfl
      case cT1031=>kernel_rfl
      case dT1031=>exact fun _ _ _ h=>h
      case eT1031=>rfl
      simp only [Act.put,List.getElem_toArray,List.getElem_cons_zero,List.getElem_cons_succ,List.setIfInBounds_toArray,List.set_cons_zero,List.set_cons_succ]
      refine wpAnyH_ready (rs:=[6]) (by kernel_rfl) (by simp) ?_
      refine (AllReadyH.cons (o:=_) rfl (fun K hK=>?_) AllReadyH.nil)
      go_simp
      refine (HSm.out _ (HRv.out.keep HKd.out (fun _ _ h=>h)) (HRa.out.keep HKd.out (fun _ _ h=>h))).mono ?_
      rintro e7 w7 ⟨rfl,hk⟩
      have HKd:=hid (HKd.out.trans hk)
      have hS:(fun w':World=>w'.cell? (av.add (i*4))=some (.slice pv nv cv)∧w'.cell? ⟨(av.add (i*4)).block,(av.add (i*4)).off+3,none⟩=some (.bool true)) w7:=⟨hk.cell hS.1 (fun h=>h),hk.cell hS.2 (fun h=>h)⟩
      clear hk
      go_wp2_with fail
      refine hK.out _ _ hS (fun _=>?_)
      clear hK K
      refine wpAnyH_take (i:=7) (v:=?vT1032) rfl ?aT1032 ?bT1032 ?cT1032 ?dT1032 (Or.inl ⟨?eT1032,?fT1032⟩) hS ?gT1032
      case fT1032=>intro w hSw;(try dsimp only at hSw);go_simp;(try with_reducible rfl)
      case aT1032=>kernel_rfl
      case bT1032=>kernel_rfl
      case cT1032=>kernel_rfl
      case dT1032=>exact fun _ _ _ h=>h
      case eT1032=>rfl
      simp only [Act.put,List.getElem_toArray,List.getElem_cons_zero,List.getElem_cons_succ,List.setIfInBounds_toArray,List.set_cons_zero,List.set_cons_succ]
      refine wpAnyH_take (i:=8) (v:=?vT1033) rfl ?aT1033 ?bT1033 ?cT1033 ?dT1033 (Or.inl ⟨?eT1033,?fT1033⟩) hS ?gT1033
      case fT1033=>intro w hSw;(try dsimp only at hSw);go_simp;(try with_reducible rfl)
      case aT1033=>kernel_rfl
      case bT1033=>kernel_rfl
      case cT1033=>kernel_rfl
      case dT1033=>exact fun _ _ _ h=>h
      case eT1033=>rfl
      simp only [Act.put,List.getElem_toArray,List.getElem_cons_zero,List.getElem_cons_succ,List.setIfInBounds_toArray,List.set_cons_zero,List.set_cons_succ]
      refine wpAnyH_take (i:=9) (v:=?vT1034) rfl ?aT1034 ?bT1034 ?cT1034 ?dT1034 (Or.inl ⟨?eT1034,?fT1034⟩) hS ?gT1034
      case fT1034=>intro w hSw;(try dsimp only at hSw);go_simp;(try with_reducible rfl)
      case aT1034=>kernel_rfl
      case bT1034=>kernel_rfl
      case cT1034=>kernel_rfl
      case dT1034=>exact fun _ _ _ h=>h
      case eT1034=>rfl
      simp only [Act.put,List.getElem_toArray,List.getElem_cons_zero,List.getElem_cons_succ,List.setIfInBounds_toArray,List.set_cons_zero,List.set_cons_succ]
      refine wpAnyH_take (i:=10) (v:=?vT1035) rfl ?aT1035 ?bT1035 ?cT1035 ?dT1035 (Or.inl ⟨?eT1035,?fT1035⟩) hS ?gT1035
      case fT1035=>intro w hSw;(try dsimp only at hSw);go_simp;(try with_reducible rfl)
      case aT1035=>kernel_rfl
      case bT1035=>kernel_rfl
      case cT1035=>kernel_rfl
      case dT1035=>exact fun _ _ _ h=>h
      case eT1035=>rfl
      simp only [Act.put,List.getElem_toArray,List.getElem_cons_zero,List.getElem_cons_succ,List.setIfInBounds_toArray,List.set_cons_zero,List.set_cons_succ]
      refine wpAnyH_take (i:=11) (v:=?vT1036) rfl ?aT1036 ?bT1036 ?cT1036 ?dT1036 (Or.inl ⟨?eT1036,?fT1036⟩) hS ?gT1036
      case fT1036=>intro w hSw;(try dsimp only at hSw);go_simp;(try with_reducible rfl)
      case aT1036=>kernel_rfl
      case bT1036=>kernel_rfl
      case cT1036=>kernel_rfl
      case dT1036=>exact fun _ _ _ h=>h
      case eT1036=>rfl
      simp only [Act.put,List.getElem_toArray,List.getElem_cons_zero,List.getElem_cons_succ,List.setIfInBounds_toArray,List.set_cons_zero,List.set_cons_succ]
      refine wpAnyH_take (i:=12) (v:=?vT1037) rfl ?aT1037 ?bT1037 ?cT1037 ?dT1037 (Or.inl ⟨?eT1037,?fT1037⟩) hS ?gT1037
      case fT1037=>intro w hSw;(try dsimp only at hSw);go_simp;(try with_reducible rfl)
      case aT1037=>kernel_rfl
      case bT1037=>kernel_rfl
      case cT1037=>kernel_rfl
      case dT1037=>exact fun _ _ _ h=>h
      case eT1037=>rfl
      simp only [Act.put,List.getElem_toArray,List.getElem_cons_zero,List.getElem_cons_succ,List.setIfInBounds_toArray,List.set_cons_zero,List.set_cons_succ]
      refine wpAnyH_take (i:=13) (v:=?vT1038) rfl ?aT1038 ?bT1038 ?cT1038 ?dT1038 (Or.inl ⟨?eT1038,?fT1038⟩) hS ?gT1038
      case fT1038=>intro w hSw;(try dsimp only at hSw);go_simp;(try with_reducible rfl)
      case aT1038=>kernel_rfl
      case bT1038=>kernel_rfl
      case cT1038=>kernel_rfl
      case dT1038=>exact fun _ _ _ h=>h
      case eT1038=>rfl
      simp only [Act.put,List.getElem_toArray,List.getElem_cons_zero,List.getElem_cons_succ,List.setIfInBounds_toArray,List.set_cons_zero,List.set_cons_succ]
      refine wpAnyH_take (i:=14) (v:=?vT1039) rfl ?aT1039 ?bT1039 ?cT1039 ?dT1039 (Or.inl ⟨?eT1039,?fT1039⟩) hS ?gT1039
      case fT1039=>intro w hSw;(try dsimp only at hSw);go_simp;(try with_reducible rfl)
      case aT1039=>kernel_rfl
      case bT1039=>kernel_rfl
      case cT1039=>kernel_rfl
      case dT1039=>exact fun _ _ _ h=>h
      case eT1039=>rfl
      simp only [Act.put,List.getElem_toArray,List.getElem_cons_zero,List.getElem_cons_succ,List.setIfInBounds_toArray,List.set_cons_zero,List.set_cons_succ]
      refine wpAnyH_take (i:=15) (v:=?vT1040) rfl ?aT1040 ?bT1040 ?cT1040 ?dT1040 (Or.inl ⟨?eT1040,?fT1040⟩) hS ?gT1040
      case fT1040=>intro w hSw;(try dsimp only at hSw);go_simp;(try with_reducible rfl)
      case aT1040=>kernel_rfl
      case bT1040=>kernel_rfl
      case cT1040=>kernel_rfl
      case dT1040=>exact fun _ _ _ h=>h
      case eT1040=>rfl
      simp only [Act.put,List.getElem_toArray,List.getElem_cons_zero,List.getElem_cons_succ,List.setIfInBounds_toArray,List.set_cons_zero,List.set_cons_succ]
      refine wpAnyH_take (i:=16) (v:=?vT1041) rfl ?aT1041 ?bT1041 ?cT1041 ?dT1041 (Or.inl ⟨?eT1041,?fT1041⟩) hS ?gT1041
      case fT1041=>intro w hSw;(try dsimp only at hSw);go_simp;(try with_reducible rfl)
      case aT1041=>kernel_rfl
      case bT1041=>kernel_rfl
      case cT1041=>kernel_rfl
      case dT1041=>exact fun _ _ _ h=>h
      case eT1041=>rfl
      simp only [Act.put,List.getElem_toArray,List.getElem_cons_zero,List.getElem_cons_succ,List.setIfInBounds_toArray,List.set_cons_zero,List.set_cons_succ]
      refine wpAnyH_take (i:=17) (v:=?vT1042) rfl ?aT1042 ?bT1042 ?cT1042 ?dT1042 (Or.inl ⟨?eT1042,?fT1042⟩) hS ?gT1042
      case fT1042=>intro w hSw;(try dsimp only at hSw);go_simp;(try with_reducible rfl)
      case aT1042=>kernel_rfl
      case bT1042=>kernel_rfl
      case cT1042=>kernel_rfl
      case dT1042=>exact fun _ _ _ h=>h
      case eT1042=>rfl
      simp only [Act.put,List.getElem_toArray,List.getElem_cons_zero,List.getElem_cons_succ,List.setIfInBounds_toArray,List.set_cons_zero,List.set_cons_succ]
      refine wpAnyH_take (i:=18) (v:=?vT1043) rfl ?aT1043 ?bT1043 ?cT1043 ?dT1043 (Or.inl ⟨?eT1043,?fT1043⟩) hS ?gT1043
      case fT1043=>intro w hSw;(try dsimp only at hSw);go_simp;(try with_reducible rfl)
      case aT1043=>kernel_rfl
      case bT1043=>kernel_rfl
      case cT1043=>kernel_rfl
      case dT1043=>exact fun _ _ _ h=>h
      case eT1043=>rfl
      simp only [Act.put,List.getElem_toArray,List.getElem_cons_zero,List.getElem_cons_succ,List.setIfInBounds_toArray,List.set_cons_zero,List.set_cons_succ]
      refine wpAnyH_take (i:=19) (v:=?vT1044) rfl ?aT1044 ?bT1044 ?cT1044 ?dT1044 (Or.inl ⟨?eT1044,?fT1044⟩) hS ?gT1044
      case fT1044=>intro w hSw;(try dsimp only at hSw);go_simp;(try with_reducible rfl)
      case aT1044=>kernel_rfl
      case bT1044=>kernel_rfl
      case cT1044=>kernel_rfl
      case dT1044=>exact fun _ _ _ h=>h
      case eT1044=>rfl
      simp only [Act.put,List.getElem_toArray,List.getElem_cons_zero,List.getElem_cons_succ,List.setIfInBounds_toArray,List.set_cons_zero,List.set_cons_succ]
      refine wpAnyH_take (i:=20) (v:=?vT1045) rfl ?aT1045 ?bT1045 ?cT1045 ?dT1045 (Or.inl ⟨?eT1045,?fT1045⟩) hS ?gT1045
      case fT1045=>intro w hSw;(try dsimp only at hSw);go_simp;(try with_reducible rfl)
      case aT1045=>kernel_rfl
      case bT1045=>kernel_rfl
      case cT1045=>kernel_rfl
      case dT1045=>exact fun _ _ _ h=>h
      case eT1045=>rfl
      simp only [Act.put,List.getElem_toArray,List.getElem_cons_zero,List.getElem_cons_succ,List.setIfInBounds_toArray,List.set_cons_zero,List.set_cons_succ]
      refine wpAnyH_take (i:=21) (v:=?vT1046) rfl ?aT1046 ?bT1046 ?cT1046 ?dT1046 (Or.inl ⟨?eT1046,?fT1046⟩) hS ?gT1046
      case fT1046=>intro w hSw;(try dsimp only at hSw);go_simp;(try with_reducible rfl)
      case aT1046=>kernel_rfl
      case bT1046=>kernel_rfl
      case cT1046=>kernel_rfl
      case dT1046=>exact fun _ _ _ h=>h
      case eT1046=>rfl
      simp only [Act.put,List.getElem_toArray,List.getElem_cons_zero,List.getElem_cons_succ,List.setIfInBounds_toArray,List.set_cons_zero,List.set_cons_succ]
      refine wpAnyH_take (i:=22) (v:=?vT1047) rfl ?aT1047 ?bT1047 ?cT1047 ?dT1047 (Or.inl ⟨?eT1047,?fT1047⟩) hS ?gT1047
      case fT1047=>intro w hSw;(try dsimp only at hSw);go_simp;(try with_reducible rfl)
      case aT1047=>kernel_rfl
      case bT1047=>kernel_rfl
      case cT1047=>kernel_rfl
      case dT1047=>exact fun _ _ _ h=>h
      case eT1047=>rfl
      simp only [Act.put,List.getElem_toArray,List.getElem_cons_zero,List.getElem_cons_succ,List.setIfInBounds_toArray,List.set_cons_zero,List.set_cons_succ]
      refine wpAnyH_take (i:=23) (v:=?vT1048) rfl ?aT1048 ?bT1048 ?cT1048 ?dT1048 (Or.inl ⟨?eT1048,?fT1048⟩) hS ?gT1048
      case fT1048=>intro w hSw;(try dsimp only at hSw);go_simp;(try with_reducible rfl)
      case aT1048=>kernel_rfl
      case bT1048=>kernel_rfl
      case cT1048=>kernel_rfl
      case dT1048=>exact fun _ _ _ h=>h
      case eT1048=>rfl
      simp only [Act.put,List.getElem_toArray,List.getElem_cons_zero,List.getElem_cons_succ,List.setIfInBounds_toArray,List.set_cons_zero,List.set_cons_succ]
      refine wpAnyH_take (i:=24) (v:=?vT1049) rfl ?aT1049 ?bT1049 ?cT1049 ?dT1049 (Or.inl ⟨?eT1049,?fT1049⟩) hS ?gT1049
      case fT1049=>intro w hSw;(try dsimp only at hSw);go_simp;(try with_reducible rfl)
      case aT1049=>kernel_rfl
      case bT1049=>kernel_rfl
      case cT1049=>kernel_rfl
      case dT1049=>exact fun _ _ _ h=>h
      case eT1049=>rfl
      simp only [Act.put,List.getElem_toArray,List.getElem_cons_zero,List.getElem_cons_succ,List.setIfInBounds_toArray,List.set_cons_zero,List.set_cons_succ]
      refine wpAnyH_take (i:=25) (v:=?vT1050) rfl ?aT1050 ?bT1050 ?cT1050 ?dT1050 (Or.inl ⟨?eT1050,?fT1050⟩) hS ?gT1050
      case fT1050=>intro w hSw;(try dsimp only at hSw);go_simp;(try with_reducible rfl)
      case aT1050=>kernel_rfl
      case bT1050=>kernel_rfl
      case cT1050=>kernel_rfl
      case dT1050=>exact fun _ _ _ h=>h
      case eT1050=>rfl
      simp only [Act.put,List.getElem_toArray,List.getElem_cons_zero,List.getElem_cons_succ,List.setIfInBounds_toArray,List.set_cons_zero,List.set_cons_succ]
      refine wpAnyH_done (by kernel_rfl) ?_ _
      go_wp2_with fail
      go_roundw
      case rel=>exact ⟨i+1,by have:=HIl.out;omega,by go_num,hid (HKq.out.trans HKd.out)⟩
      case measure=>(have:=HIl.out;simp only [intOf];omega)
     have hb0:y8 % 2=0:=by omega
     rw [hb0] at ha hsl
     replace hsl:sl=false:=hsl
     subst hsl
     clear hN0 hb1 hb0
     refine wp_region_held_drew (S:=fun w':World=>w'.cell? (av.add (i*4))=some (.slice pv nv cv)∧w'.cell? ⟨(av.add (i*4)).block,(av.add (i*4)).off+3,none⟩=some (.bool false)) (by kernel_rfl) s0 (fun hS=>?_)
     obtain ⟨wd,hwd⟩:∃ W,W=wr.drew:=⟨_,rfl⟩
     have HKd:Hid (Keeps NoBlock wr wd):=hid (by rw [hwd];exact (Keeps.refl _ _).drew)
     rw [← hwd] at hS ⊢
     clear hwd s0
     refine wpAnyH_take (i:=0) (v:=?vT1051) rfl ?aT1051 ?bT1051 ?cT1051 ?dT1051 (Or.inl ⟨?eT1051,?fT1051⟩) hS ?gT1051
     case fT1051=>intro w hSw;(try dsimp only at hSw);go_simp;(try with_reducible rfl)
     case aT1051=>kernel_rfl
     case bT1051=>kernel_rfl
     case cT1051=>kernel_rfl
     case dT1051=>exact fun _ _ _ h=>h
     case eT1051=>rfl
     simp only [Act.put,List.getElem_toArray,List.getElem_cons_zero,List.setIfInBounds_toArray,List.set_cons_zero,List.set_cons_succ]
     refine wpAnyH_take (i:=1) (v:=?vT1052) rfl ?aT1052 ?bT1052 ?cT1052 ?dT1052 (Or.inl ⟨?eT1052,?fT1052⟩) hS ?gT1052
     case fT1052=>intro w hSw;(try dsimp only at hSw);go_simp;(try with_reducible rfl)
     case aT1052=>kernel_rfl
     case bT1052=>kernel_rfl
     case cT1052=>kernel_rfl
     case dT1052=>exact fun _ _ _ h=>h
     case eT1052=>rfl
     simp only [Act.put,List.getElem_toArray,List.getElem_cons_zero,List.getElem_cons_succ,List.setIfInBounds_toArray,List.set_cons_zero,List.set_cons_succ]
     refine wpAnyH_take (i:=2) (v:=?vT1053) rfl ?aT1053 ?bT1053 ?cT1053 ?dT1053 (Or.inl ⟨?eT1053,?fT1053⟩) hS ?gT1053
     case fT1053=>intro w hSw;(try dsimp only at hSw);go_simp;(try with_reducible rfl)
     case aT1053=>kernel_rfl
     case bT1053=>kernel_rfl
     case cT1053=>kernel_rfl
     case dT1053=>exact fun _ _ _ h=>h
     case eT1053=>rfl
     simp only [Act.put,List.getElem_toArray,List.getElem_cons_zero,List.getElem_cons_succ,List.setIfInBounds_toArray,List.set_cons_zero,List.set_cons_succ]
     refine wpAnyH_take (i:=3) (v:=?vT1054) rfl ?aT1054 ?bT1054 ?cT1054 ?dT1054 (Or.inl ⟨?eT1054,?fT1054⟩) hS ?gT1054
     case fT1054=>intro w hSw;(try dsimp only at hSw);go_simp;(try with_reducible rfl)
     case aT1054=>kernel_rfl
     case bT1054=>kernel_rfl
     case cT1054=>kernel_rfl
     case dT1054=>exact fun _ _ _ h=>h
     case eT1054=>rfl
     simp only [Act.put,List.getElem_toArray,List.getElem_cons_zero,List.getElem_cons_succ,List.setIfInBounds_toArray,List.set_cons_zero,List.set_cons_succ]
     refine wpAnyH_take (i:=4) (v:=?vT1055) rfl ?aT1055 ?bT1055 ?cT1055 ?dT1055 (Or.inl ⟨?eT1055,?fT1055⟩) hS ?gT1055
     case fT1055=>intro w hSw;(try dsimp only at hSw);go_simp;(try with_reducible rfl)
     case aT1055=>kernel_rfl
     case bT1055=>kernel_rfl
     case cT1055=>kernel_rfl
     case dT1055=>exact fun _ _ _ h=>h
     case eT1055=>rfl
     simp only [Act.put,List.getElem_toArray,List.getElem_cons_zero,List.getElem_cons_succ,List.setIfInBounds_toArray,List.set_cons_zero,List.set_cons_succ]
     refine wpAnyH_take (i:=5) (v:=?vT1056) rfl ?aT1056 ?bT1056 ?cT1056 ?dT1056 (Or.inl ⟨?eT1056,?fT1056⟩) hS ?gT1056
     case fT1056=>intro w hSw;(try dsimp only at hSw);go_simp;(try with_reducible rfl)
     case aT1056=>kernel_rfl
     case bT1056=>kernel_rfl
     case cT1056=>kernel_rfl
     case dT1056=>exact fun _ _ _ h=>h
     case eT1056=>rfl
     simp only [Act.put,List.getElem_toArray,List.getElem_cons_zero,List.getElem_cons_succ,List.setIfInBounds_toArray,List.set_cons_zero,List.set_cons_succ]
     refine wpAnyH_ready (rs:=[6]) (by kernel_rfl) (by simp) ?_
     refine (AllReadyH.cons (o:=_) rfl (fun K hK=>?_) AllReadyH.nil)
     go_simp
     refine (HSm.out _ (HRv.out.keep HKd.out (fun _ _ h=>h)) (HRa.out.keep HKd.out (fun _ _ h=>h))).mono ?_
     rintro e7 w7 ⟨rfl,hk⟩
     have HKd:=hid (HKd.out.trans hk)
     have hS:(fun w':World=>w'.cell? (av.add (i*4))=some (.slice pv nv cv)∧w'.cell? ⟨(av.add (i*4)).block,(av.add (i*4)).off+3,none⟩=some (.bool false)) w7:=⟨hk.cell hS.1 (fun h=>h),hk.cell hS.2 (fun h=>h)⟩
     clear hk
     go_wp2_with fail
     refine hK.out _ _ hS (fun _=>?_)
     clear hK K
     refine wpAnyH_take (i:=7) (v:=?vT1057) rfl ?aT1057 ?bT1057 ?cT1057 ?dT1057 (Or.inl ⟨?eT1057,?fT1057⟩) hS ?gT1057
     case fT1057=>intro w hSw;(try dsimp only at hSw);go_simp;(try with_reducible rfl)
     case aT1057=>kernel_rfl
     case bT1057=>kernel_rfl
     case cT1057=>kernel_rfl
     case dT1057=>exact fun _ _ _ h=>h
     case eT1057=>rfl
     simp only [Act.put,List.getElem_toArray,List.getElem_cons_zero,List.getElem_cons_succ,List.setIfInBounds_toArray,List.set_cons_zero,List.set_cons_succ]
     refine wpAnyH_take (i:=8) (v:=?vT1058) rfl ?aT1058 ?bT1058 ?cT1058 ?dT1058 (Or.inl ⟨?eT1058,?fT1058⟩) hS ?gT1058
     case fT1058=>intro w hSw;(try dsimp only at hSw);go_simp;(try with_reducible rfl)
     case aT1058=>kernel_rfl
     case bT1058=>kernel_rfl
     case cT1058=>kernel_rfl
     case dT1058=>exact fun _ _ _ h=>h
     case eT1058=>rfl
     simp only [Act.put,List.getElem_toArray,List.getElem_cons_zero,List.getElem_cons_succ,List.setIfInBounds_toArray,List.set_cons_zero,List.set_cons_succ]
     refine wpAnyH_take (i:=9) (v:=?vT1059) rfl ?aT1059 ?bT1059 ?cT1059 ?dT1059 (Or.inl ⟨?eT1059,?fT1059⟩) hS ?gT1059
     case fT1059=>intro w hSw;(try dsimp only at hSw);go_simp;(try with_reducible rfl)
     case aT1059=>kernel_rfl
     case bT1059=>kernel_rfl
     case cT1059=>kernel_rfl
     case dT1059=>exact fun _ _ _ h=>h
     case eT1059=>rfl
     simp only [Act.put,List.getElem_toArray,List.getElem_cons_zero,List.getElem_cons_succ,List.setIfInBounds_toArray,List.set_cons_zero,List.set_cons_succ]
     refine wpAnyH_take (i:=10) (v:=?vT1060) rfl ?aT1060 ?bT1060 ?cT1060 ?dT1060 (Or.inl ⟨?eT1060,?fT1060⟩) hS ?gT1060
     case fT1060=>intro w hSw;(try dsimp only at hSw);go_simp;(try with_reducible rfl)
     case aT1060=>kernel_rfl
     case bT1060=>kernel_rfl
     case cT1060=>kernel_rfl
     case dT1060=>exact fun _ _ _ h=>h
     case eT1060=>rfl
     simp only [Act.put,List.getElem_toArray,List.getElem_cons_zero,List.getElem_cons_succ,List.setIfInBounds_toArray,List.set_cons_zero,List.set_cons_succ]
     refine wpAnyH_take (i:=11) (v:=?vT1061) rfl ?aT1061 ?bT1061 ?cT1061 ?dT1061 (Or.inl ⟨?eT1061,?fT1061⟩) hS ?gT1061
     case fT1061=>intro w hSw;(try dsimp only at hSw);go_simp;(try with_reducible rfl)
     case aT1061=>kernel_rfl
     case bT1061=>kernel_rfl
     case cT1061=>kernel_rfl
     case dT1061=>exact fun _ _ _ h=>h
     case eT1061=>rfl
     simp only [Act.put,List.getElem_toArray,List.getElem_cons_zero,List.getElem_cons_succ,List.setIfInBounds_toArray,List.set_cons_zero,List.set_cons_succ]
     refine wpAnyH_take (i:=12) (v:=?vT1062) rfl ?aT1062 ?bT1062 ?cT1062 ?dT1062 (Or.inl ⟨?eT1062,?fT1062⟩) hS ?gT1062
     case fT1062=>intro w hSw;(try dsimp only at hSw);go_simp;(try with_reducible rfl)
     case aT1062=>kernel_rfl
     case bT1062=>kernel_rfl
     case cT1062=>kernel_rfl
     case dT1062=>exact fun _ _ _ h=>h
     case eT1062=>rfl
     simp only [Act.put,List.getElem_toArray,List.getElem_cons_zero,List.getElem_cons_succ,List.setIfInBounds_toArray,List.set_cons_zero,List.set_cons_succ]
     refine wpAnyH_take (i:=13) (v:=?vT1063) rfl ?aT1063 ?bT1063 ?cT1063 ?dT1063 (Or.inl ⟨?eT1063,?fT1063⟩) hS ?gT1063
     case fT1063=>intro w hSw;(try dsimp only at hSw);go_simp;(try with_reducible rfl)
     case aT1063=>kernel_rfl
     case bT1063=>kernel_rfl
     case cT1063=>kernel_rfl
     case dT1063=>exact fun _ _ _ h=>h
     case eT1063=>rfl
     simp only [Act.put,List.getElem_toArray,List.getElem_cons_zero,List.getElem_cons_succ,List.setIfInBounds_toArray,List.set_cons_zero,List.set_cons_succ]
     refine wpAnyH_take (i:=14) (v:=?vT1064) rfl ?aT1064 ?bT1064 ?cT1064 ?dT1064 (Or.inl ⟨?eT1064,?fT1064⟩) hS ?gT1064
     case fT1064=>intro w hSw;(try dsimp only at hSw);go_simp;(try with_reducible rfl)
     case aT1064=>kernel_rfl
     case bT1064=>kernel_rfl
     case cT1064=>kernel_rfl
     case dT1064=>exact fun _ _ _ h=>h
     case eT1064=>rfl
     simp only [Act.put,List.getElem_toArray,List.getElem_cons_zero,List.getElem_cons_succ,List.setIfInBounds_toArray,List.set_cons_zero,List.set_cons_succ]
     refine wpAnyH_take (i:=15) (v:=?vT1065) rfl ?aT1065 ?bT1065 ?cT1065 ?dT1065 (Or.inl ⟨?eT1065,?fT1065⟩) hS ?gT1065
     case fT1065=>intro w hSw;(try dsimp only at hSw);go_simp;(try with_reducible rfl)
     case aT1065=>kernel_rfl
     case bT1065=>kernel_rfl
     case cT1065=>kernel_rfl
     case dT1065=>exact fun _ _ _ h=>h
     case eT1065=>rfl
     simp only [Act.put,List.getElem_toArray,List.getElem_cons_zero,List.getElem_cons_succ,List.setIfInBounds_toArray,List.set_cons_zero,List.set_cons_succ]
     refine wpAnyH_take (i:=16) (v:=?vT1066) rfl ?aT1066 ?bT1066 ?cT1066 ?dT1066 (Or.inl ⟨?eT1066,?fT1066⟩) hS ?gT1066
     case fT1066=>intro w hSw;(try dsimp only at hSw);go_simp;(try with_reducible rfl)
     case aT1066=>kernel_rfl
     case bT1066=>kernel_rfl
     case cT1066=>kernel_rfl
     case dT1066=>exact fun _ _ _ h=>h
     case eT1066=>rfl
     simp only [Act.put,List.getElem_toArray,List.getElem_cons_zero,List.getElem_cons_succ,List.setIfInBounds_toArray,List.set_cons_zero,List.set_cons_succ]
     refine wpAnyH_take (i:=17) (v:=?vT1067) rfl ?aT1067 ?bT1067 ?cT1067 ?dT1067 (Or.inl ⟨?eT1067,?fT1067⟩) hS ?gT1067
     case fT1067=>intro w hSw;(try dsimp only at hSw);go_simp;(try with_reducible rfl)
     case aT1067=>kernel_rfl
     case bT1067=>kernel_rfl
     case cT1067=>kernel_rfl
     case dT1067=>exact fun _ _ _ h=>h
     case eT1067=>rfl
     simp only [Act.put,List.getElem_toArray,List.getElem_cons_zero,List.getElem_cons_succ,List.setIfInBounds_toArray,List.set_cons_zero,List.set_cons_succ]
     refine wpAnyH_take (i:=18) (v:=?vT1068) rfl ?aT1068 ?bT1068 ?cT1068 ?dT1068 (Or.inl ⟨?eT1068,?fT1068⟩) hS ?gT1068
     case fT1068=>intro w hSw;(try dsimp only at hSw);go_simp;(try with_reducible rfl)
     case aT1068=>kernel_rfl
     case bT1068=>kernel_rfl
     case cT1068=>kernel_rfl
     case dT1068=>exact fun _ _ _ h=>h
     case eT1068=>rfl
     simp only [Act.put,List.getElem_toArray,List.getElem_cons_zero,List.getElem_cons_succ,List.setIfInBounds_toArray,List.set_cons_zero,List.set_cons_succ]
     refine wpAnyH_take (i:=19) (v:=?vT1069) rfl ?aT1069 ?bT1069 ?cT1069 ?dT1069 (Or.inl ⟨?eT1069,?fT1069⟩) hS ?gT1069
     case fT1069=>intro w hSw;(try dsimp only at hSw);go_simp;(try with_reducible rfl)
     case aT1069=>kernel_rfl
     case bT1069=>kernel_rfl
     case cT1069=>kernel_rfl
     case dT1069=>exact fun _ _ _ h=>h
     case eT1069=>rfl
     simp only [Act.put,List.getElem_toArray,List.getElem_cons_zero,List.getElem_cons_succ,List.setIfInBounds_toArray,List.set_cons_zero,List.set_cons_succ]
     refine wpAnyH_take (i:=20) (v:=?vT1070) rfl ?aT1070 ?bT1070 ?cT1070 ?dT1070 (Or.inl ⟨?eT1070,?fT1070⟩) hS ?gT1070
     case fT1070=>intro w hSw;(try dsimp only at hSw);go_simp;(try with_reducible rfl)
     case aT1070=>kernel_rfl
     case bT1070=>kernel_rfl
     case cT1070=>kernel_rfl
     case dT1070=>exact fun _ _ _ h=>h
     case eT1070=>rfl
     simp only [Act.put,List.getElem_toArray,List.getElem_cons_zero,List.getElem_cons_succ,List.setIfInBounds_toArray,List.set_cons_zero,List.set_cons_succ]
     refine wpAnyH_take (i:=21) (v:=?vT1071) rfl ?aT1071 ?bT1071 ?cT1071 ?dT1071 (Or.inl ⟨?eT1071,?fT1071⟩) hS ?gT1071
     case fT1071=>intro w hSw;(try dsimp only at hSw);go_simp;(try with_reducible rfl)
     case aT1071=>kernel_rfl
     case bT1071=>kernel_rfl
     case cT1071=>kernel_rfl
     case dT1071=>exact fun _ _ _ h=>h
     case eT1071=>rfl
     simp only [Act.put,List.getElem_toArray,List.getElem_cons_zero,List.getElem_cons_succ,List.setIfInBounds_toArray,List.set_cons_zero,List.set_cons_succ]
     refine wpAnyH_take (i:=22) (v:=?vT1072) rfl ?aT1072 ?bT1072 ?cT1072 ?dT1072 (Or.inl ⟨?eT1072,?fT1072⟩) hS ?gT1072
     case fT1072=>intro w hSw;(try dsimp only at hSw);go_simp;(try with_reducible rfl)
     case aT1072=>kernel_rfl
     case bT1072=>kernel_rfl
     case cT1072=>kernel_rfl
     case dT1072=>exact fun _ _ _ h=>h
     case eT1072=>rfl
     simp only [Act.put,List.getElem_toArray,List.getElem_cons_zero,List.getElem_cons_succ,List.setIfInBounds_toArray,List.set_cons_zero,List.set_cons_succ]
     refine wpAnyH_take (i:=23) (v:=?vT1073) rfl ?aT1073 ?bT1073 ?cT1073 ?dT1073 (Or.inl ⟨?eT1073,?fT1073⟩) hS ?gT1073
     case fT1073=>intro w hSw;(try dsimp only at hSw);go_simp;(try with_reducible rfl)
     case aT1073=>kernel_rfl
     case bT1073=>kernel_rfl
     case cT1073=>kernel_rfl
     case dT1073=>exact fun _ _ _ h=>h
     case eT1073=>rfl
     simp only [Act.put,List.getElem_toArray,List.getElem_cons_zero,List.getElem_cons_succ,List.setIfInBounds_toArray,List.set_cons_zero,List.set_cons_succ]
     refine wpAnyH_take (i:=24) (v:=?vT1074) rfl ?aT1074 ?bT1074 ?cT1074 ?dT1074 (Or.inl ⟨?eT1074,?fT1074⟩) hS ?gT1074
     case fT1074=>intro w hSw;(try dsimp only at hSw);go_simp;(try with_reducible rfl)
     case aT1074=>kernel_rfl
     case bT1074=>kernel_rfl
     case cT1074=>kernel_rfl
     case dT1074=>exact fun _ _ _ h=>h
     case eT1074=>rfl
     simp only [Act.put,List.getElem_toArray,List.getElem_cons_zero,List.getElem_cons_succ,List.setIfInBounds_toArray,List.set_cons_zero,List.set_cons_succ]
     refine wpAnyH_take (i:=25) (v:=?vT1075) rfl ?aT1075 ?bT1075 ?cT1075 ?dT1075 (Or.inl ⟨?eT1075,?fT1075⟩) hS ?gT1075
     case fT1075=>intro w hSw;(try dsimp only at hSw);go_simp;(try with_reducible rfl)
     case aT1075=>kernel_rfl
     case bT1075=>kernel_rfl
     case cT1075=>kernel_rfl
     case dT1075=>exact fun _ _ _ h=>h
     case eT1075=>rfl
     simp only [Act.put,List.getElem_toArray,List.getElem_cons_zero,List.getElem_cons_succ,List.setIfInBounds_toArray,List.set_cons_zero,List.set_cons_succ]
     refine wpAnyH_done (by kernel_rfl) ?_ _
     go_wp2_with fail
     go_roundw
     case rel=>exact ⟨i+1,by have:=HIl.out;omega,by go_num,hid (HKq.out.trans HKd.out)⟩
     case measure=>(have:=HIl.out;simp only [intOf];omega)
    have hdi:decide ((i:Int)<(m6:Int))=false:=decide_eq_false (by omega)
    have hdi2:decide (i<m6)=false:=decide_eq_false hli
    have HKz:=hid (HK.out.trans HKq.out)
    have HCz:=hid (HC.out.keep HKq.out (fun h=>h))
    clear HK HKq HC HV6 HR
    by_cases h0:m6=0
    ·have z0:((m6:Int) == 0)=true:=by rw [beq_iff_eq];omega
     have z1:(m6 == 0)=true:=by rw [beq_iff_eq];exact h0
     clear hdi hdi2 hli
     subst h0
     go_wp2_with fail
     go_ret
     exact ⟨rfl,HKz.out⟩
    have z0:((m6:Int) == 0)=false:=by rw [beq_eq_false_iff_ne];omega
    have z1:(m6 == 0)=false:=by rw [beq_eq_false_iff_ne];exact h0
    have hpos:(0:Int)<(m6:Int):=by omega
    obtain ⟨r,hr2⟩:∃ r:Nat,(sp:Int).tmod (m6:Int)=(r:Int):=⟨sp % m6,by rw [Int.tmod_eq_emod_of_nonneg (by omega)];rfl⟩
    have hrm:r<m6:=by
     have h1:=Int.emod_lt_of_pos (sp:Int) hpos
     rw [Int.tmod_eq_emod_of_nonneg (by omega)] at hr2
     omega
    have wsp:IntKind.i64.wrap (sp:Int)=(sp:Int):=by rw [IntKind.wrap_i64];omega
    have hshl:=shl_small (e:=e) (j:=r) (by omega) (by omega)
    have hshw:=shl_i64 (e:=e) (j:=r) (by omega) (by omega)
    rw [← HZ.out] at hshl hshw
    have hidx:r*Z<NA:=by
     rw [HNA.out.1,HNA.out.2]
     exact Nat.mul_lt_mul_of_pos_right hrm (by omega)
    obtain ⟨ix,hix⟩:∃ ix,ix=r*Z:=⟨_,rfl⟩
    rw [← hix] at hshl hshw hidx
    have hidI:(ix:Int)<(NA:Int):=Int.ofNat_lt.2 hidx
    obtain ⟨b0,b1⟩:0≤A.getD ix 0∧A.getD ix 0<256:=HOA.out.getD ix
    have HSq:=hid (fun x (hx:A[r*Z]? ≠ some x)=>HSp.out r x hrm hx)
    rw [← hix] at HSq
    have hAx:A[ix]?=some (A.getD ix 0):=by
     have:ix<A.length:=by rw [← HNA.out.1];exact hidx
     simp [this]
    have HBk:=hid (BytesBlk.ofWorld wr HOA.out)
    have HKb:=hid (HKz.out.trans (bytesWorld_keeps NoBlock wr 5 (strOfNums A)))
    have HCb:=hid (HCz.out.keep (bytesWorld_keeps NoBlock wr 5 (strOfNums A)) (fun h=>h))
    have HSzb:=hid (show g<wr.heap.size from HCz.out.lt)
    have HCp:=hid (cap_in wr NA (by omega))
    obtain ⟨gb,hgb⟩:∃ gb,gb=wr.heap.size:=⟨_,rfl⟩
    obtain ⟨cb,hcb⟩:∃ cb,cb=grownCap wr NA 0 5:=⟨_,rfl⟩
    obtain ⟨Wb,hWb⟩:∃ W,W=Lib.bytesWorld wr 5 (strOfNums A):=⟨_,rfl⟩
    rw [← hWb] at HBk HKb HCb
    rw [← hgb] at HBk HSzb
    rw [← hcb] at HCp
    have HGb:=hid (show w.heap.size≤gb by rw [hgb];exact HKz.out.size)
    have hcell:=HBk.out.cell (i:=ix) (by rw [← HNA.out.1];exact hidx)
    have hfree:=HBk.out.free (i:=ix) (by rw [← HNA.out.1];exact hidx)
    obtain ⟨v,hv⟩:∃ v,v=A.getD ix 0:=⟨_,rfl⟩
    rw [← hv] at b0 b1 hAx hcell
    have hxor:=xor255 b0 b1
    have hne:A[ix]? ≠ some (255 - v):=fun h=>by rw [hAx] at h;have:=Option.some.inj h;omega
    have HEnd:=hid (HSq.out (255 - v) hne)
    have HV2:=hid (fun p c w (h:In8 w p NA c (A.set ix (255 - v)))=>HVw.out p NA c (A.set ix (255 - v)) w h (by omega))
    rw [HEnd.out] at HV2
    have HBs:=hid (HBk.out.set ix (255 - v))
    have HOs:=hid (show Octets (A.set ix (255 - v)) from fun b hb=>by
     rcases List.mem_or_eq_of_mem_set hb with h|h
     ·exact HOA.out b h
     ·rw [h];omega)
    have HIn:=hid (fun W (h:Keeps NoBlock (Wb.setCell ⟨gb,ix,none⟩ (.int .u8 (255 - v))) W)=>show In8 W (some ⟨gb,0,none⟩) NA cb (A.set ix (255 - v)) from (HBs.out.keep h (fun h=>h)).in8 HOs.out (by rw [List.length_set];exact HNA.out.1) HCp.out.1 HCp.out.2)
    have HKs:=hid (HKb.out.setNew (g:=gb) HGb.out ix (.int .u8 (255 - v)))
    have HCs:=hid (HCb.out.setOther (p:=⟨gb,ix,none⟩) (by have:=HSzb.out;simp;omega) (.int .u8 (255 - v)))
    have HHx:=hid (And.intro hgb (And.intro hcb hWb))
    obtain ⟨k0,k1⟩:=conf_two HCb.out
    have hm0:¬ (m6:Int)=0:=by omega
    clear hne hAx hv hix hrm hgb hcb hWb HSq HEnd HSp HBk HCz HKz
    go_upto_region 35 with (fail)
    rw [← HHx.out.1,← HHx.out.2.1,← HHx.out.2.2]
    clear HHx
    have s0:Wb.drew.cell? ⟨g,0,none⟩=some (.int .u8 (e:Int)):=k0
    clear k0 k1
    refine wp_region_held_drew (S:=fun w':World=>w'.cell? ⟨g,0,none⟩=some (.int .u8 (e:Int))) (by kernel_rfl) s0 (fun hS=>?_)
    clear s0
    refine wpAnyH_take (i:=0) (v:=?vT3001) rfl ?aT3001 ?bT3001 ?cT3001 ?dT3001 (Or.inl ⟨?eT3001,?fT3001⟩) hS ?gT3001
    case fT3001=>intro w hSw;(try dsimp only at hSw);go_simp;(try with_reducible rfl)
    case aT3001=>kernel_rfl
    case bT3001=>kernel_rfl
    case cT3001=>kernel_rfl
    case dT3001=>exact fun _ _ _ h=>h
    case eT3001=>rfl
    simp only [Act.put,List.getElem_toArray,List.getElem_cons_zero,List.setIfInBounds_toArray,List.set_cons_zero,List.set_cons_succ]
    refine wpAnyH_take (i:=1) (v:=?vT3002) rfl ?aT3002 ?bT3002 ?cT3002 ?dT3002 (Or.inl ⟨?eT3002,?fT3002⟩) hS ?gT3002
    case fT3002=>intro w hSw;(try dsimp only at hSw);go_simp;(try with_reducible rfl)
    case aT3002=>kernel_rfl
    case bT3002=>kernel_rfl
    case cT3002=>kernel_rfl
    case dT3002=>exact fun _ _ _ h=>h
    case eT3002=>rfl
    simp only [Act.put,List.getElem_toArray,List.getElem_cons_zero,List.getElem_cons_succ,List.setIfInBounds_toArray,List.set_cons_zero,List.set_cons_succ]
    refine wpAnyH_take (i:=2) (v:=?vT3003) rfl ?aT3003 ?bT3003 ?cT3003 ?dT3003 (Or.inl ⟨?eT3003,?fT3003⟩) hS ?gT3003
    case fT3003=>intro w hSw;(try dsimp only at hSw);go_simp;(try with_reducible rfl)
    case aT3003=>kernel_rfl
    case bT3003=>kernel_rfl
    case cT3003=>kernel_rfl
    case dT3003=>exact fun _ _ _ h=>h
    case eT3003=>rfl
    simp only [Act.put,List.getElem_toArray,List.getElem_cons_zero,List.getElem_cons_succ,List.setIfInBounds_toArray,List.set_cons_zero,List.set_cons_succ]
    refine wpAnyH_take (i:=3) (v:=?vT3004) rfl ?aT3004 ?bT3004 ?cT3004 ?dT3004 (Or.inl ⟨?eT3004,?fT3004⟩) hS ?gT3004
    case fT3004=>intro w hSw;(try dsimp only at hSw);go_simp;(try with_reducible rfl)
    case aT3004=>kernel_rfl
    case bT3004=>kernel_rfl
    case cT3004=>kernel_rfl
    case dT3004=>exact fun _ _ _ h=>h
    case eT3004=>rfl
    simp only [Act.put,List.getElem_toArray,List.getElem_cons_zero,List.getElem_cons_succ,List.setIfInBounds_toArray,List.set_cons_zero,List.set_cons_succ]
    refine wpAnyH_take (i:=4) (v:=?vT3005) rfl ?aT3005 ?bT3005 ?cT3005 ?dT3005 (Or.inl ⟨?eT3005,?fT3005⟩) hS ?gT3005
    case fT3005=>intro w hSw;(try dsimp only at hSw);go_simp;(try with_reducible rfl)
    case aT3005=>kernel_rfl
    case bT3005=>kernel_rfl
    case cT3005=>kernel_rfl
    case dT3005=>exact fun _ _ _ h=>h
    case eT3005=>rfl
    simp only [Act.put,List.getElem_toArray,List.getElem_cons_zero,List.getElem_cons_succ,List.setIfInBounds_toArray,List.set_cons_zero,List.set_cons_succ]
    refine wpAnyH_take (i:=5) (v:=?vT3006) rfl ?aT3006 ?bT3006 ?cT3006 ?dT3006 (Or.inl ⟨?eT3006,?fT3006⟩) hS ?gT3006
    case fT3006=>intro w hSw;(try dsimp only at hSw);go_simp;(try with_reducible rfl)
    case aT3006=>kernel_rfl
    case bT3006=>kernel_rfl
    case cT3006=>kernel_rfl
    case dT3006=>exact fun _ _ _ h=>h
    case eT3006=>rfl
    simp only [Act.put,List.getElem_toArray,List.getElem_cons_zero,List.getElem_cons_succ,List.setIfInBounds_toArray,List.set_cons_zero,List.set_cons_succ]
    refine wpAnyH_take (i:=6) (v:=?vT3007) rfl ?aT3007 ?bT3007 ?cT3007 ?dT3007 (Or.inl ⟨?eT3007,?fT3007⟩) hS ?gT3007
    case fT3007=>intro w hSw;(try dsimp only at hSw);go_simp;(try with_reducible rfl)
    case aT3007=>kernel_rfl
    case bT3007=>kernel_rfl
    case cT3007=>kernel_rfl
    case dT3007=>exact fun _ _ _ h=>h
    case eT3007=>rfl
    simp only [Act.put,List.getElem_toArray,List.getElem_cons_zero,List.getElem_cons_succ,List.setIfInBounds_toArray,List.set_cons_zero,List.set_cons_succ]
    refine wpAnyH_take (i:=7) (v:=?vT3008) rfl ?aT3008 ?bT3008 ?cT3008 ?dT3008 (Or.inl ⟨?eT3008,?fT3008⟩) hS ?gT3008
    case fT3008=>intro w hSw;(try dsimp only at hSw);go_simp;(try with_reducible rfl)
    case aT3008=>kernel_rfl
    case bT3008=>kernel_rfl
    case cT3008=>kernel_rfl
    case dT3008=>exact fun _ _ _ h=>h
    case eT3008=>rfl
    simp only [Act.put,List.getElem_toArray,List.getElem_cons_zero,List.getElem_cons_succ,List.setIfInBounds_toArray,List.set_cons_zero,List.set_cons_succ]
    refine wpAnyH_take (i:=8) (v:=?vT3009) rfl ?aT3009 ?bT3009 ?cT3009 ?dT3009 (Or.inl ⟨?eT3009,?fT3009⟩) hS ?gT3009
    case fT3009=>intro w hSw;(try dsimp only at hSw);go_simp;(try with_reducible rfl)
    case aT3009=>kernel_rfl
    case bT3009=>kernel_rfl
    case cT3009=>kernel_rfl
    case dT3009=>exact fun _ _ _ h=>h
    case eT3009=>rfl
    simp only [Act.put,List.getElem_toArray,List.getElem_cons_zero,List.getElem_cons_succ,List.setIfInBounds_toArray,List.set_cons_zero,List.set_cons_succ]
    refine wpAnyH_take (i:=9) (v:=?vT3010) rfl ?aT3010 ?bT3010 ?cT3010 ?dT3010 (Or.inl ⟨?eT3010,?fT3010⟩) hS ?gT3010
    case fT3010=>intro w hSw;(try dsimp only at hSw);go_simp;(try with_reducible rfl)
    case aT3010=>kernel_rfl
    case bT3010=>kernel_rfl
    case cT3010=>kernel_rfl
    case dT3010=>exact fun _ _ _ h=>h
    case eT3010=>rfl
    simp only [Act.put,List.getElem_toArray,List.getElem_cons_zero,List.getElem_cons_succ,List.setIfInBounds_toArray,List.set_cons_zero,List.set_cons_succ]
    refine wpAnyH_ready (rs:=[10]) (by kernel_rfl) (by simp) ?_
    refine (AllReadyH.cons (o:=_) rfl (fun K hK=>?_) AllReadyH.nil)
    have hcd:Wb.drew.cell? ⟨gb,ix,none⟩=some (.int .u8 v):=hcell
    go_simp
    refine hK.out _ _ hS (fun _=>?_)
    clear hK K hcd
    refine wpAnyH_take (i:=11) (v:=?vT3011) rfl ?aT3011 ?bT3011 ?cT3011 ?dT3011 (Or.inl ⟨?eT3011,?fT3011⟩) hS ?gT3011
    case fT3011=>intro w hSw;(try dsimp only at hSw);go_simp;(try with_reducible rfl)
    case aT3011=>kernel_rfl
    case bT3011=>kernel_rfl
    case cT3011=>kernel_rfl
    case dT3011=>exact fun _ _ _ h=>h
    case eT3011=>rfl
    simp only [Act.put,List.getElem_toArray,List.getElem_cons_zero,List.getElem_cons_succ,List.setIfInBounds_toArray,List.set_cons_zero,List.set_cons_succ]
    refine wpAnyH_take (i:=12) (v:=?vT3012) rfl ?aT3012 ?bT3012 ?cT3012 ?dT3012 (Or.inl ⟨?eT3012,?fT3012⟩) hS ?gT3012
    case fT3012=>intro w hSw;(try dsimp only at hSw);go_simp;(try with_reducible rfl)
    case aT3012=>kernel_rfl
    case bT3012=>kernel_rfl
    case cT3012=>kernel_rfl
    case dT3012=>exact fun _ _ _ h=>h
    case eT3012=>rfl
    simp only [Act.put,List.getElem_toArray,List.getElem_cons_zero,List.getElem_cons_succ,List.setIfInBounds_toArray,List.set_cons_zero,List.set_cons_succ]
    refine wpAnyH_ready (rs:=[13]) (by kernel_rfl) (by simp) ?_
    refine (AllReadyH.cons (o:=_) rfl (fun K hK=>?_) AllReadyH.nil)
    have hcd:Wb.drew.cell? ⟨gb,ix,none⟩=some (.int .u8 v):=hcell
    have hfr:Wb.drew.frozen? ⟨gb,ix,none⟩=false:=hfree
    go_simp
    have hS:(fun w':World=>w'.cell? ⟨g,0,none⟩=some (.int .u8 (e:Int))) (Wb.setCell ⟨gb,ix,none⟩ (.int .u8 (255 - v))).drew:=HCs.out.cell 0 rfl
    refine hK.out _ _ hS (fun _=>?_)
    clear hK K hcd hfr
    refine wpAnyH_done (by kernel_rfl) ?_ _
    have HKs2:Hid (Keeps NoBlock (Wb.setCell ⟨gb,ix,none⟩ (.int .u8 (255 - v))) (Wb.setCell ⟨gb,ix,none⟩ (.int .u8 (255 - v))).drew):=hid ((Keeps.refl _ _).drew)
    have k0:=hS
    have k1:(Wb.setCell ⟨gb,ix,none⟩ (.int .u8 (255 - v))).drew.cell? ⟨g,1,none⟩=some (.int .u32 6):=HCs.out.cell 1 rfl
    clear hcell hfree
    go_wp2_with fail
    refine (HV2.out _ _ _ (HIn.out _ HKs2.out)).mono ?_
    rintro e8 w8 ⟨q8,m8,d8,rfl,hm8,-,hk8⟩
    obtain rfl:m8=0:=hm8
    go_wp2_with fail
    go_ret
    exact ⟨rfl,(HKs.out.trans HKs2.out).trans hk8⟩
theorem deviews_walk {At:BAt} (HB:SgBuild At) (HNw:SgNewOk At) (HOp:SgOpenOk At) (H:ImEncOk) (HD:DeDecOk) (HV:DeViOk) (k:Nat) (q:Option Addr) (n c:Nat) (f:Nat→List Rec) (z sp:Nat) (w:World) (hn9:n≤9223372036854775807) (hk:k<256) (hz:z<256) (hsp:sp<65536) (hr:RowsAt w q n f) :
  Calls Tryz.prog 5 #[.int .u8 (k:Int),.slice q n c,.int .u8 (z:Int),.int .u16 (sp:Int)] w fun e w'=>e=.returned (.bool true)∧Keeps NoBlock w w':=by
 by_cases hn:6<n
 ·exact deviews_many HB HNw HOp H HD k q n c z sp w hn9 hn
 ·exact deviews_few HB HNw HOp H HD HV k q n c f z sp w hk hz hsp hr (by omega)
end
end Go.Proofs.YtehkjkcnigknkaaGreat

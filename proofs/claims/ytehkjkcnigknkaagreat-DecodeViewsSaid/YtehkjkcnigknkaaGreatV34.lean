/-
  ImOwnPart; SgOwnNum; ImOwnEnc; ImOwnPl; ImOwnSame; BytesLib.
-/
import Derived.Laws.Externs
import Derived.Lib.Bytealg
import Derived.Lib.BytesEntry
import Derived.Lib.Hide
import Derived.Test.YtehkjkcnigknkaaGreatV02
import Derived.Test.YtehkjkcnigknkaaGreatV03
import Derived.Test.YtehkjkcnigknkaaGreatV07
import Derived.Test.YtehkjkcnigknkaaGreatV11
import Derived.Test.YtehkjkcnigknkaaGreatV15
import Derived.Test.YtehkjkcnigknkaaGreatV19
import Derived.Test.YtehkjkcnigknkaaGreatV20
import Derived.Test.YtehkjkcnigknkaaGreatV23
import Derived.Test.YtehkjkcnigknkaaGreatV26
import Derived.Test.YtehkjkcnigknkaaGreatV30
import Derived.Test.YtehkjkcnigknkaaGreatV33
namespace Go.Proofs.YtehkjkcnigknkaaGreat
open Lib (hid)
section
open Go.RowKit
def spanV (p:Option Addr) (c:Nat) (x:Nat × Nat):Value:=.slice (p.map (·.add (x.1*4))) x.2 (c - x.1)
def PartOut (e s:Nat) (p:Option Addr) (c:Nat) (l:List Rec) (w:World) (v:Value) (w':World):Prop :=
 ((planI e s l).1 ≠ 0∧v=.slice none 0 0∧Keeps NoBlock w w') ∨
 ((planI e s l).1=0∧∃ sp q m d,v=.slice q m d∧partsGo [] l (planI e s l).2=sp.map (segL l)∧(∀ x ∈ sp,x.1+x.2≤l.length)∧m=sp.length∧m≤l.length∧m≤d∧d≤9223372036854775807∧OnesAt (spanV p c) (0,0) w' q sp∧Keeps NoBlock w w')
theorem add_recs (a:Addr) (f i k:Nat):(⟨((a.add (f*4)).add (i*4)).block,((a.add (f*4)).add (i*4)).off+k,none⟩:Addr)=⟨(a.add ((f+i)*4)).block,(a.add ((f+i)*4)).off+k,none⟩:=by
 rw [addAdd,← Nat.add_mul]
theorem InR.cut {w:World} {p:Option Addr} {n c:Nat} {l:List Rec} (h:InR w p n c l) {x:Nat × Nat} (hx:x.1+x.2≤l.length):InR w (p.map (·.add (x.1*4))) x.2 (c - x.1) (segL l x) where
 len:=(segL_length hx).symm
 cap:=by have:=h.cap;have:=h.len;omega
 room:=by have:=h.room;omega
 fine:=fun r hr=>h.fine r (segL_mem hr)
 key:=fun r hr=>h.key r (segL_mem hr)
 val:=fun r hr=>h.val r (segL_mem hr)
 at_:=fun i hi=>by
  rw [segL_length hx] at hi
  obtain ⟨a,rfl,c0,c1,c2,c3⟩:=h.at_ (x.1+i) (by omega)
  rw [segL_at hi]
  refine ⟨a.add (x.1*4),rfl,?_,?_,?_,?_⟩
  ·rw [addAdd,← Nat.add_mul];exact c0
  ·rw [add_recs];exact c1
  ·rw [add_recs];exact c2
  ·rw [add_recs];exact c3
set_option maxHeartbeats 8000000 in
set_option maxRecDepth 10000 in
theorem impart_own (e s:Nat) (p:Option Addr) (n c:Nat) (l:List Rec) (w:World) (he:e<256) (hs:s<4294967296) (hn9:n≤10000) (h:InR w p n c l) :
  Calls Tryz.prog 17 #[confV e s,.slice p n c] w fun r w'=>∃ v,r=.returned (.tuple #[v,.int .i64 (planI e s l).1])∧PartOut e s p c l w v w':=by
 have HP:=hid (fun w h=>implan_own e s p n c l w he hs hn9 h)
 have HI:=hid h
 have HK:=hid ((Keeps.refl NoBlock w).alloc (.cells (confCells e s) 27))
 have hst:=planI_steps (e:=e) (s:=s) (l:=l)
 have hN:=h.len
 have hC:=h.cap
 have hM:=h.room
 clear h he hs
 unfold PartOut at *
 obtain ⟨T,hT⟩:∃ T,T=planI e s l:=⟨_,rfl⟩
 rw [← hT] at HP hst ⊢
 clear hT
 obtain ⟨y,ks⟩:=T
 simp only at HP hst ⊢
 by_cases hy:y=0
 rotate_left
 ·have hz0:(y != 0)=true:=by rw [bne_iff_ne];exact hy
  have HY:=hid hy
  unfold confV at HP ⊢
  clear hy hst hN hC hM
  go_enter Tryz.func17,Tryz.ntmps17
  go_wp2_with fail
  refine (HP.out _ (HI.out.keep HK.out)).mono ?_
  rintro e9 w1 ⟨v1,rfl,q1,m1,d1,rfl,-,-,-,-,-,hk⟩
  have HK:=hid (HK.out.trans hk)
  clear hk
  go_wp2_with fail
  exact bodyPost_ret (results_tmp2 rfl _ _ _) rfl ⟨_,rfl,.inl ⟨HY.out,rfl,HK.out⟩⟩
 subst hy
 obtain ⟨hst1,hst2⟩:=hst rfl
 have HSt:=hid hst1
 have HN:=hid (And.intro hN hst2)
 have HCm:=hid (And.intro hC hM)
 obtain ⟨i0,hi,hz0,hz1,hz2⟩:=info_parts infoRcs
 unfold confV at HP ⊢
 clear hst hst1 hst2 hN hC hM
 go_enter Tryz.func17,Tryz.ntmps17
 go_wp2_with fail
 refine (HP.out _ (HI.out.keep HK.out)).mono ?_
 rintro e9 w1 ⟨v1,rfl,q1,m1,d1,rfl,hm1,-,-,-,hrow,hk⟩
 have HK:=hid (HK.out.trans hk)
 have HRo:=hid hrow
 obtain rfl:n=m1:=by rw [hm1,HN.out.1];exact HN.out.2
 clear hk hrow hm1 HP
 go_wp2_with fail
 go_loopw [8,9,23] (fun v fr i wr=>∃ (j f:Nat) (sp:List (Nat × Nat)),j≤n∧i=.int .i64 (j:Int)∧fr=.int .i64 (f:Int)∧Hid (Spans l ks j f sp)∧Hid (OnesSoFar (spanV p c) 22 w1 sp v wr)) (fun _ _ i _=>n - (intOf i).toNat)
 case atStart=>exact ⟨0,0,[],Nat.zero_le _,rfl,rfl,hid (spans_start HN.out.2 HSt.out),hid (OnesSoFar.start w1)⟩
 case round =>
  obtain ⟨j,f,sp,hj,rfl,rfl,HSp,HR⟩:=hrel
  by_cases hlt:j<n
  rotate_left
  ·have hdj:decide ((j:Int)<(n:Int))=false:=decide_eq_false (by omega)
   have hdj2:decide (j<n)=false:=decide_eq_false hlt
   obtain rfl:j=n:=by omega
   have HA:=hid (show partsGo [] l ks=sp.map (segL l)∧(∀ x ∈ sp,x.1+x.2≤l.length)∧sp.length≤j from by
    have h1:=HSp.out
    rw [HN.out.1] at h1
    exact ⟨h1.all HN.out.2,h1.inn,by rw [HN.out.1];exact h1.few⟩)
   clear HSp
   go_wp2_with fail
   refine bodyPost_ret (results_tmp2 rfl _ _ _) rfl ?_
   obtain ⟨q,m,d,rfl,b1,b2,b3,b4,b5,b6⟩:=HR.out.new (dd:=(0,0))
   exact ⟨_,rfl,.inr ⟨by trivial,sp,q,m,d,rfl,HA.out.1,HA.out.2.1,b1,by rw [b1,← HN.out.1];exact HA.out.2.2,b2,b3,b5,HK.out.trans b6⟩⟩
  have hdj:decide ((j:Int)<(n:Int))=true:=decide_eq_true (by omega)
  have hdj2:decide (j<n)=true:=decide_eq_true hlt
  have hjn:(j:Int)<(n:Int):=by omega
  have hjl:j<l.length:=by rw [← HN.out.1];exact hlt
  obtain ⟨pa,rfl,-⟩:=HI.out.at_ j hjl
  obtain ⟨qa,rfl,x0⟩:=(HRo.out.keep HR.out.keeps (fun _ _ h=>h)) j (by rw [← HN.out.2];exact hjl)
  have HNx:=hid (fun (h:j+1<n)=>(HRo.out.keep HR.out.keeps (fun _ _ h=>h)) (j+1) (by rw [← HN.out.2,← HN.out.1];exact h))
  obtain ⟨k,hk⟩:∃ k,k=ks.getD j 0:=⟨_,rfl⟩
  rw [← hk] at x0
  have HKd:=hid hk
  have hfj:=HSp.out.le
  have hfI:(f:Int)≤(j:Int):=by omega
  have hcn:=HCm.out.1
  have hcM:=HCm.out.2
  have hjc:(j:Int)+1≤(c:Int):=by omega
  clear hk
  by_cases hlast:j+1=n
  ·have hb:((j:Int)+1 == (n:Int))=true:=by rw [beq_iff_eq];omega
   have hb2:(j:Int)+1=(n:Int):=by omega
   have hwhy:j+1=l.length:=by rw [← HN.out.1];exact hlast
   have HSn:Hid (Spans l ks (j+1) (j+1) (sp ++ [(f,n - f)])):=hid (by have h:=HSp.out.flush HN.out.2 HSt.out hjl (.inl hwhy);rwa [show j+1 - f=n - f by omega] at h)
   have hfew:=HSp.out.few
   have hwrap:IntKind.i64.wrap ((j:Int)+1)=((j:Int)+1):=by rw [IntKind.wrap_i64];omega
   have hwrap2:wrap64 ((j:Int)+1)=((j:Int)+1):=by unfold wrap64;omega
   have HR2:=hid (HR.out.alloc (.cells #[.slice (some (pa.add (f*4))) (n - f) (c - f)] 22))
   have HW:Hid (Whole (wr.alloc (.cells #[.slice (some (pa.add (f*4))) (n - f) (c - f)] 22)) wr.heap.size 22 #[.slice (some (pa.add (f*4))) (n - f) (c - f)]):=hid (Whole.new _ _ _)
   go_wp2_with (at_builtin;refine wpList_append_oneG (v0:=spanV (some pa) c) rfl _ _ 45 rfl 22 i0 (.slice none 0 0) 24 Tryz.underlying45 hi hz0 hz1 hz2 rfl _ sp rfl HR2.out wr.heap.size (f,n - f) rfl (HW.out.cell 0 rfl) rfl (by omega) (by omega) ?_)
   intro v' w6 h6 hg6
   have HR6:=hid h6
   clear h6 hg6
   go_wp2_with fail
   exact ⟨⟨j+1,j+1,sp ++ [(f,n - f)],by omega,by go_num,by go_num,HSn,HR6⟩,by simp [intOf];omega⟩
  have hb:((j:Int)+1 == (n:Int))=false:=by rw [beq_eq_false_iff_ne];omega
  have hb2:¬ (j:Int)+1=(n:Int):=by omega
  obtain ⟨qb,hqb,x1⟩:=HNx.out (by omega)
  obtain rfl:=Option.some.inj hqb
  obtain ⟨k2,hk2⟩:∃ k,k=ks.getD (j+1) 0:=⟨_,rfl⟩
  rw [← hk2,show qa.add (j+1)=⟨qa.block,qa.off+(j+1),none⟩ from by unfold Addr.add;rw [if_neg (by omega)]] at x1
  have HKd2:=hid hk2
  have hj1:(j:Int)+1<(n:Int):=by omega
  have hj1n:j+1<n:=by omega
  clear hk2 hqb
  by_cases heq:k2=k
  ·subst heq
   have HSn:=hid (HSp.out.go HN.out.2 (by rw [← HN.out.1];exact hj1n) (by rw [← HKd2.out,← HKd.out]))
   go_wp2_with fail
   exact ⟨⟨j+1,f,sp,by omega,by go_num,rfl,HSn,HR⟩,by simp [intOf];omega⟩
  ·have hne:((k2:Int) != (k:Int))=true:=by rw [bne_iff_ne];omega
   have hne2:¬ (k2:Int)=(k:Int):=by omega
   have HSn:Hid (Spans l ks (j+1) (j+1) (sp ++ [(f,j+1 - f)])):=hid (by have h:=HSp.out.flush HN.out.2 HSt.out hjl (.inr (by rw [← HKd2.out,← HKd.out];exact heq));rwa [show j+1 - f=j+1 - f by omega] at h)
   have hfew:=HSp.out.few
   have hwrap:IntKind.i64.wrap ((j:Int)+1)=((j:Int)+1):=by rw [IntKind.wrap_i64];omega
   have hwrap2:wrap64 ((j:Int)+1)=((j:Int)+1):=by unfold wrap64;omega
   have HR2:=hid (HR.out.alloc (.cells #[.slice (some (pa.add (f*4))) (j+1 - f) (c - f)] 22))
   have HW:Hid (Whole (wr.alloc (.cells #[.slice (some (pa.add (f*4))) (j+1 - f) (c - f)] 22)) wr.heap.size 22 #[.slice (some (pa.add (f*4))) (j+1 - f) (c - f)]):=hid (Whole.new _ _ _)
   go_wp2_with (at_builtin;refine wpList_append_oneG (v0:=spanV (some pa) c) rfl _ _ 45 rfl 22 i0 (.slice none 0 0) 24 Tryz.underlying45 hi hz0 hz1 hz2 rfl _ sp rfl HR2.out wr.heap.size (f,j+1 - f) rfl (HW.out.cell 0 rfl) rfl (by omega) (by omega) ?_)
   intro v' w6 h6 hg6
   have HR6:=hid h6
   clear h6 hg6
   go_wp2_with fail
   exact ⟨⟨j+1,j+1,sp ++ [(f,j+1 - f)],by omega,by go_num,by go_num,HSn,HR6⟩,by simp [intOf];omega⟩
end
section
theorem recsB_cons (r:Rec) (l:List Rec):recsB (r :: l)=recB r ++ recsB l:=by unfold recsB;rw [List.flatMap_cons]
theorem entsGo_mem:∀ (l:List Rec) (k:Nat) (x:En),x ∈ entsGo k l→∃ r ∈ l,x.hash=(wxxh 0 r.key).toNat∧x.at_<k+(recsB l).length
 | [],_,x,h=>by simp [entsGo] at h
 | r :: l,k,x,h=>by
  rw [entsGo] at h
  have hp:=recB_pos r
  rcases List.mem_cons.1 h with rfl|h
  ·exact ⟨r,List.mem_cons_self,rfl,by rw [recsB_cons,List.length_append];show k<_;omega⟩
  ·obtain ⟨y,hy,h1,h2⟩:=entsGo_mem l _ x h
   exact ⟨y,List.mem_cons_of_mem _ hy,h1,by rw [recsB_cons,List.length_append];omega⟩
theorem outS_len (e s n:Nat) (l:List Rec):(outS e s n l).length=headLen e s n+(recsB l).length:=by
 unfold outS headLen
 rw [List.length_append]
theorem ents_below {e s n:Nat} {l:List Rec} {x:En} (h:x ∈ entsS e s n l):x.at_<(outS e s n l).length:=by
 obtain ⟨_,_,_,h2⟩:=entsGo_mem l _ x h
 rw [outS_len]
 exact h2
theorem ents_len (e s n:Nat) (l:List Rec):(entsS e s n l).length=l.length:=entsGo_length l _
theorem seal_check {e s n:Nat} {l:List Rec} (h0:0<l.length) (h9:l.length≤100000):checkFt ⟨(outS e s n l).length,sortE (entsS e s n l)⟩=0:=by
 have hl:=sortE_len (entsS e s n l)
 rw [ents_len] at hl
 refine checkFt_ok.2 ⟨?_,by show (sortE _).length≤_;omega,sortE_rises _,?_⟩
 ·show 1≤(sortE (entsS e s n l)).length
  have h:(entsS e s n l)[0]'(by rw [ents_len];exact h0) ∈ sortE (entsS e s n l):=sortE_mem.2 (List.getElem_mem _)
  exact List.length_pos_of_mem h
 ·unfold belowFt
  rw [List.all_eq_true]
  intro x hx
  simp only [decide_eq_true_eq]
  exact ents_below (sortE_mem.1 hx)
theorem seal_put {e s n:Nat} {l:List Rec} (h0:0<l.length) (h9:l.length≤100000):putFt ⟨(outS e s n l).length,sortE (entsS e s n l)⟩=footS e s n l:=by
 unfold putFt
 rw [if_pos (seal_check h0 h9)]
 rfl
theorem ents_snoc (e s n:Nat) (l:List Rec) (r:Rec):entsS e s n (l ++ [r])=entsS e s n l ++ [⟨(wxxh 0 r.key).toNat,(outS e s n l).length⟩]:=by
 unfold entsS
 rw [entsGo_snoc,outS_len]
theorem solid_cut {a b u v:List Int} (ha:Solid a) (hb:Solid b) (h:a ++ 0 :: u=b ++ 0 :: v):a=b∧u=v:=by
 induction a generalizing b with
 | nil =>
  cases b with
  | nil=>simpa using h
  | cons y b =>
   have:y=0:=by simpa using (List.cons.inj h).1.symm
   have:=(hb y List.mem_cons_self).1
   omega
 | cons x a ih =>
  cases b with
  | nil =>
   have:x=0:=by simpa using (List.cons.inj h).1
   have:=(ha x List.mem_cons_self).1
   omega
  | cons y b =>
   simp only [List.cons_append,List.cons.injEq] at h
   obtain ⟨h1,h2⟩:=ih (fun z hz=>ha z (List.mem_cons_of_mem _ hz)) (fun z hz=>hb z (List.mem_cons_of_mem _ hz)) h.2
   exact ⟨by rw [h.1,h1],h2⟩
theorem rep_zero {k:Nat} {c r:List Int} (h:List.replicate k (255:Int)=c ++ 0 :: r):False:=by
 have:(0:Int) ∈ List.replicate k (255:Int):=by rw [h];simp
 have:=(List.mem_replicate.1 this).2
 omega
theorem parse_open {e s n:Nat} (he:e<256) {ys rest:List Int} {l:List Rec} (hf:∀ x ∈ l,x.Fine∧checkR x=0) (hy:ys=outS e s n l ++ rest) (hl:ys.length=2 ^ e) (hn:∀ b ∈ rest,b ≠ 0) :
  parseS e s n ys=if rest=List.replicate rest.length 255 then some (l,false) else none:=by
 have hs:scanS ys=l:=by rw [hy,scan_out he hf,chunksGo_none rest [] hn];simp [recsTake]
 have hr:rest.length=2 ^ e - (outS e s n l).length:=by rw [hy,List.length_append] at hl;omega
 have ht:textS e s n l false=outS e s n l ++ List.replicate rest.length 255:=by unfold textS framesS;rw [if_neg (by simp),List.append_nil,hr]
 unfold parseS
 rw [hs,ht]
 by_cases h:rest=List.replicate rest.length 255
 ·rw [if_pos h,if_pos (by rw [hy,← h])]
 ·rw [if_neg h,if_neg (fun h2=>h (by rw [hy] at h2;exact (List.append_cancel_left h2).symm)),if_neg]
  rintro ⟨_,h2⟩
  rw [hy] at h2
  unfold textS framesS at h2
  rw [if_pos rfl,List.append_assoc] at h2
  have h3:=List.append_cancel_left h2
  refine hn 0 ?_ rfl
  rw [← h3]
  unfold footS sealN
  simp
theorem parse_foot {e s n:Nat} (he:e<256) {ys c rest:List Int} {l:List Rec} (hf:∀ x ∈ l,x.Fine∧checkR x=0) (hy:ys=outS e s n l ++ (c ++ 0 :: rest)) (hl:ys.length=2 ^ e) (hc:Solid c) (hg:(getR c).1 ≠ 0) :
  parseS e s n ys=if (0<l.length∧c ++ [0]=footS e s n l)∧rest=List.replicate rest.length 255 then some (l,true) else none:=by
 have hs:scanS ys=l:=by
  rw [hy,scan_out he hf,chunksGo_solid c [] rest hc,recsTake,List.nil_append,if_neg hg,List.append_nil]
 unfold parseS
 rw [hs,if_neg]
 ·by_cases h:(0<l.length∧c ++ [0]=footS e s n l)∧rest=List.replicate rest.length 255
  ·rw [if_pos h,if_pos]
   obtain ⟨⟨h0,h1⟩,h2⟩:=h
   refine ⟨h0,?_⟩
   have hfr:framesS e s n l true=outS e s n l ++ (c ++ [0]):=by unfold framesS;rw [if_pos rfl,h1]
   have hr:rest.length=2 ^ e - (framesS e s n l true).length:=by
    rw [hfr,← hl,hy]
    simp only [List.length_append,List.length_cons,List.length_nil]
    omega
   unfold textS
   rw [← hr,← h2,hfr,hy]
   simp
  ·rw [if_neg h,if_neg]
   rintro ⟨h0,h2⟩
   refine h ⟨⟨h0,?_⟩,?_⟩
   all_goals
    rw [hy] at h2
    unfold textS framesS at h2
    rw [if_pos rfl,List.append_assoc] at h2
    have h3:=List.append_cancel_left h2
    have hft:footS e s n l=chunkN (bodyFt ⟨(outS e s n l).length,sortE (entsS e s n l)⟩) ++ [0]:=rfl
    have hbo:Octets (bodyFt ⟨(outS e s n l).length,sortE (entsS e s n l)⟩):=bodyFt_octets
    rw [hft,List.append_assoc,List.singleton_append] at h3
    obtain ⟨h4,h5⟩:=solid_cut (chunk_solid hbo) hc h3
   ·rw [hft,h4]
   ·rw [← h5,List.length_replicate]
 ·intro h2
  rw [hy] at h2
  unfold textS framesS at h2
  rw [if_neg (by simp),List.append_nil] at h2
  exact rep_zero (List.append_cancel_left h2)
theorem out_more {e s n:Nat} {ys c rest:List Int} {l:List Rec} {r:Rec} (ho:Octets ys) (hy:ys=outS e s n l ++ (c ++ 0 :: rest)) (hg:getR c=(0,r)):ys=outS e s n (l ++ [r]) ++ rest∧r.Fine∧checkR r=0∧(recB r).length=c.length+1:=by
 obtain ⟨h1,h2,h3⟩:=getR_only (fun b hb=>ho b (by rw [hy];simp [hb])) hg
 refine ⟨?_,h1,h2,?_⟩
 ·rw [outS_snoc,hy]
  unfold recB sealN
  rw [← h3]
  simp
 ·unfold recB
  rw [(seal_length _).1,← h3]
theorem recB_least {r:Rec} (hf:r.Fine):11≤(recB r).length:=by
 have h1:(bodyR r ++ sumB (bodyR r)).length≤(chunkN (bodyR r)).length:=by
  have h:=unst_stuff (xs:=bodyR r ++ sumB (bodyR r)) ((bodyR_octets hf).app (sumB_octets _))
  have h2:=(unst_octets (xs:=stuff (bodyR r ++ sumB (bodyR r))) (stuff_solid ((bodyR_octets hf).app (sumB_octets _))).octets).2
  rw [h] at h2
  exact h2
 rw [List.length_append,sumB_length] at h1
 have h2:2≤(bodyR r).length:=by
  have:=vnum_pos r.seq
  unfold bodyR
  split
  ·rw [List.length_cons,List.length_append]
   omega
  ·rw [List.length_cons,List.length_append,List.length_append]
   omega
 unfold recB
 rw [(seal_length _).1]
 omega
theorem recsB_least:∀ (l:List Rec),(∀ x ∈ l,x.Fine)→11*l.length≤(recsB l).length
 | [],_=>by simp
 | r :: l,h=>by
  have h1:=recB_least (h r List.mem_cons_self)
  have h2:=recsB_least l (fun x hx=>h x (List.mem_cons_of_mem _ hx))
  rw [recsB_cons,List.length_append,List.length_cons]
  omega
end
section
open Go.RowKit
theorem part_small {e s i:Nat} {q:List Rec} (h:PartIn e s i q) (hf:∀ r ∈ q,r.Fine) (hw:q.length<1000 ∨ e≤13):q.length<1000:=by
 rcases hw with hw|hw
 ·exact hw
 obtain ⟨r,h1,rfl,rfl,rfl⟩:=h.room
 have h2:=h1.real.room (by rw [h1.count];have:=h.full;omega)
 have h3:=Nat.pow_le_pow_right (n:=2) (by decide) hw
 have h4:=recsB_least q hf
 have h5:=h1.used
 unfold outS at h5
 rw [List.length_append] at h5
 omega
theorem parts_good {e s:Nat} {l:List Rec} {sp:List (Nat × Nat)} (h:(planI e s l).1=0) (h9:l.length≤10000) (hf:∀ r ∈ l,r.Fine) (hw:l.length<1000 ∨ e≤13) (hp:partsGo [] l (planI e s l).2=sp.map (segL l)) (hi:∀ x ∈ sp,x.1+x.2≤l.length) {j:Nat} (hj:j<sp.length) :
  (sp.getD j (0,0)).1+(sp.getD j (0,0)).2≤l.length∧PartIn e s j (segL l (sp.getD j (0,0)))∧(segL l (sp.getD j (0,0))).length<1000∧(∀ r ∈ segL l (sp.getD j (0,0)),checkR r=0∧fitsP (emptyP e s (s - 1)) ((recB r).length:Int)=true)∧(sp.map (segL l)).getD j []=segL l (sp.getD j (0,0))∧j<s:=by
 have hx:sp.getD j (0,0)=sp[j]:=by simp [hj]
 have h1:=hi sp[j] (List.getElem_mem hj)
 have h2:=(plan_parts h9 h).2 j (segL l sp[j]) (by rw [hp];simp [hj])
 have h3:=segL_length h1
 rw [hx]
 refine ⟨h1,h2,part_small h2 (fun r hr=>hf r (segL_mem hr)) (hw.imp (fun h=>by omega) id),fun r hr=>plan_tells h r (segL_mem hr),by simp [hj],?_⟩
 obtain ⟨r,h4,h5,h6,h7⟩:=h2.room
 have:=(mayHead_true.1 h4.real.may).2.2.2.2
 rw [h6,h7] at this
 exact this
set_option maxHeartbeats 8000000 in
set_option maxRecDepth 10000 in
theorem imencode_own {At:BAt} (HB:SgBuild At) (HNw:SgNewOk At) (HAd:SgAddOk At) (HOp:SgOpenOk At) (HSl:SgSealOk At) (e s:Nat) (p:Option Addr) (n c:Nat) (l:List Rec) (w:World) (he:e<256) (hs:s<4294967296) (hn9:n≤10000) (hw:n<1000 ∨ e≤13) (h:InR w p n c l) :
  Calls Tryz.prog 9 #[confV e s,.slice p n c] w fun r w'=>∃ u,r=.returned (.tuple #[u,.int .i64 (encI e s l).1])∧OwnB w (encI e s l).2 u w'∧Keeps NoBlock w w':=by
 have HP:=hid (fun w h=>impart_own e s p n c l w he hs hn9 h)
 have HI:=hid h
 have HK:=hid ((Keeps.refl NoBlock w).alloc (.cells (confCells e s) 27))
 have HC:=hid (Whole.new w 27 (confCells e s))
 have hE:encI e s l=if (planI e s l).1 ≠ 0 then ((planI e s l).1,[]) else (0,segsGo e s (partsGo [] l (planI e s l).2).length 0 (partsGo [] l (planI e s l).2)):=rfl
 have hnl:=h.len
 have HGd:=hid (fun (hy:(planI e s l).1=0) sp hp hi j (hj:j<sp.length)=>parts_good (e:=e) (s:=s) (l:=l) (sp:=sp) hy (by omega) h.fine (by rw [← hnl];exact hw) hp hi hj)
 have HMy:=hid (fun (hy:(planI e s l).1=0)=>(plan_parts (e:=e) (s:=s) (l:=l) (by omega) hy).1)
 have HBd:=hid (fun j a m c q w hq hp hn hc=>imbuild_own HB HNw HAd e s j (some a) m c q w hq hp hn hc)
 have HWh:=hid (fun F v j q b w h hp h9 hq=>imwhole_own HB HOp HSl F v e s j q b w h hp h9 hq)
 have HPt:=hid (fun F v w i l (h:At w F v e s i l)=>HB.ptr h)
 have HSz:=hid (fun w=>size_conf e s w)
 have HNl:=hid hnl
 clear h HB HNw HAd HOp HSl he hs hw hnl
 unfold PartOut at HP
 obtain ⟨T,hT⟩:∃ T,T=planI e s l:=⟨_,rfl⟩
 rw [← hT] at HP hE HGd HMy
 obtain ⟨R,hR⟩:∃ R,R=encI e s l:=⟨_,rfl⟩
 rw [← hR] at hE ⊢
 clear hT hR
 obtain ⟨y,ks⟩:=T
 simp only at HP hE HGd HMy
 by_cases hy:y=0
 rotate_left
 ·have HE:=hid (hE.trans (if_pos hy))
  have HY:=hid hy
  have hz0:(y != 0)=true:=by rw [bne_iff_ne];exact hy
  unfold confV at HP ⊢
  clear hy hE HGd HMy
  go_enter Tryz.func9,Tryz.ntmps9
  go_wp2_with fail
  refine (HP.out _ (HI.out.keep HK.out)).mono ?_
  rintro e9 w1 ⟨v1,rfl,hv1⟩
  rcases hv1 with ⟨-,rfl,hk⟩|⟨h0,-⟩
  rotate_left
  ·exact absurd h0 HY.out
  have HK:=hid (HK.out.trans hk)
  clear hk
  go_wp2_with fail
  rw [HE.out]
  exact bodyPost_ret (results_tmp2 rfl _ _ _) rfl ⟨_,rfl,OwnP.nilP _ _,HK.out⟩
 subst hy
 have HE:=hid (hE.trans (if_neg (by simp)))
 unfold confV at HP HSz HBd ⊢
 clear hE
 obtain ⟨i0,hi,hz0,hz1,hz2⟩:=info_parts infoByte
 have hmay:=HMy.out rfl
 have h24:=(mayC_true.1 hmay).2.1
 obtain ⟨Z,hZ⟩:∃ Z,Z=sizeC e s:=⟨_,rfl⟩
 have hZ9:Z≤16777216:=by
  rw [hZ]
  unfold sizeC
  rw [if_pos hmay]
  exact (two_e h24).2
 rw [← hZ] at HSz
 have H24:=hid (two_e h24).2
 clear hZ hmay HMy h24
 go_enter Tryz.func9,Tryz.ntmps9
 go_wp2_with fail
 refine (HP.out _ (HI.out.keep HK.out)).mono ?_
 rintro e9 w1 ⟨v1,rfl,hv1⟩
 rcases hv1 with ⟨h0,-⟩|⟨-,sp,qr,M,dr,rfl,hpg,hin,hM,hMl,-,-,hrow,hk⟩
 ·exact absurd rfl h0
 have HK1:=hid (HK.out.trans hk)
 have HC1:=hid (HC.out.keep hk (fun h=>h))
 have HRw:=hid hrow
 have HGj:=hid (fun j (hj:j<sp.length)=>HGd.out (by trivial) sp hpg hin j hj)
 rw [hpg,List.length_map,← hM] at HE
 have HMs:=hid hM
 have hM9:M≤10000:=by have:=HNl.out;omega
 clear hk hrow hpg hin hM hMl HGd HP HK HC
 have g0:=HC1.out.cell 0 rfl
 have g1:=HC1.out.cell 1 rfl
 simp only [confCells,List.getElem_toArray,List.getElem_cons_zero,List.getElem_cons_succ] at g0 g1
 go_wp2_with fail
 refine (HSz.out _).mono ?_
 rintro e9 w2 ⟨rfl,hk⟩
 have HK2:=hid (HK1.out.trans hk)
 have HC2:=hid (HC1.out.keep hk (fun h=>h))
 have HR2:=hid (OnesAt.keep HRw.out hk (fun _ _ h=>h))
 clear hk g0 g1
 obtain ⟨K,hK⟩:∃ K,K=M*Z:=⟨_,rfl⟩
 have hK9:K≤167772160000:=by rw [hK];exact Nat.le_trans (Nat.mul_le_mul hM9 hZ9) (by decide)
 have hKI:(M:Int)*(Z:Int)=(K:Int):=by rw [hK];push_cast;rfl
 have hwK:IntKind.i64.wrap ((M:Int)*(Z:Int))=(K:Int):=by rw [hKI,IntKind.wrap_i64];omega
 have hwK2:wrap64 ((M:Int)*(Z:Int))=(K:Int):=by rw [hKI];unfold wrap64;omega
 clear hK
 go_wp2_with (at_make;refine wpList_make_own _ rfl _ _ 29 rfl w2.heap.size 5 i0 (.int .u8 0) 1 Tryz.underlying29 hi hz0 hz1 .i64 .i64 (K:Int) K rfl rfl rfl (by rw [hz2];omega) (by unfold maxLen;omega) (Nat.le_refl _) ?_)
 intro w3 hown hgrow
 have hk3:Keeps NoBlock w2 w3:=(Keeps.refl NoBlock w2).grown hgrow (fun k hk=>by simp at hk)
 have HK3:=hid hk3
 have HO3:Hid (OwnP w3 w2.heap.size (.slice (some ⟨w2.heap.size,0,none⟩) 0 K) (segsGo e s M 0 ((sp.map (segL l)).take 0)).length ((segsGo e s M 0 ((sp.map (segL l)).take 0)).map (Value.int .u8))):=hid (OwnP.ofRow hown)
 have HBs:=hid (show w.heap.size≤w2.heap.size from HK2.out.size)
 obtain ⟨base,hbase⟩:∃ b,b=w2.heap.size:=⟨_,rfl⟩
 have HBe:=hid hbase
 rw [← hbase] at HO3 HBs ⊢
 clear hown hgrow hk3 hbase hwK hwK2 hKI HSz HK1 HC1 HRw
 go_wp2_with fail
 go_loopw [8,32] (fun v i wr=>∃ j:Nat,j≤M∧i=.int .i64 (j:Int)∧Hid (OwnP wr base v (segsGo e s M 0 ((sp.map (segL l)).take j)).length ((segsGo e s M 0 ((sp.map (segL l)).take j)).map (Value.int .u8)))∧Hid ((segsGo e s M 0 ((sp.map (segL l)).take j)).length≤j*16777216)∧Hid (Keeps NoBlock w2 wr)) (fun _ i _=>M - (intOf i).toNat)
 case atStart=>exact ⟨0,Nat.zero_le _,rfl,HO3,hid (by simp [segsGo]),HK3⟩
 case round =>
  clear HO3
  obtain ⟨j,hj,rfl,HO,HLg,HKr⟩:=hrel
  by_cases hlt:j<M
  rotate_left
  ·have hdj:decide ((j:Int)<(M:Int))=false:=decide_eq_false (by omega)
   have hdj2:decide (j<M)=false:=decide_eq_false hlt
   have hall:(sp.map (segL l)).take j=sp.map (segL l):=List.take_of_length_le (by rw [List.length_map];have:=HMs.out;omega)
   rw [hall] at HO
   have HKn:=hid (HK2.out.trans HKr.out)
   clear hall HLg
   go_wp2_with fail
   rw [HE.out]
   exact bodyPost_ret (results_tmp2 rfl _ _ _) rfl ⟨_,rfl,OwnP.base HO.out HBs.out,HKn.out⟩
  have hdj:decide ((j:Int)<(M:Int))=true:=decide_eq_true (by omega)
  have hdj2:decide (j<M)=true:=decide_eq_true hlt
  have hjM:(j:Int)<(M:Int):=by omega
  have hjs:j<sp.length:=by rw [← HMs.out];exact hlt
  obtain ⟨hin,hpart,hshort,hgood,hget,hjS⟩:=HGj.out j hjs
  obtain ⟨qa,rfl,x0⟩:=(OnesAt.keep HR2.out HKr.out (fun _ _ h=>h)) j hjs
  have HC9:=hid (HC2.out.keep HKr.out (fun h=>h))
  have hIn:=((HI.out.keep HK2.out).keep HKr.out).cut hin
  have hst:=segsGo_take (e:=e) (s:=s) (m:=M) (ps:=sp.map (segL l)) (j:=j) (by rw [List.length_map];exact hjs)
  rw [hget] at hst
  unfold spanV at x0
  obtain ⟨x,hx⟩:∃ x,x=sp.getD j (0,0):=⟨_,rfl⟩
  rw [← hx] at x0 hIn hin hpart hshort hgood hst
  have hfull:=hpart.full
  rw [segL_length hin] at hfull
  have hfine:∀ r ∈ segL l x,r.Fine∧checkR r=0:=fun r hr=>⟨hIn.fine r hr,(hgood r hr).1⟩
  obtain ⟨a,hpa,-⟩:=hIn.at_ 0 (by rw [segL_length hin];exact hfull)
  rw [hpa] at x0 hIn
  have hlen:=hIn.len
  obtain ⟨q,hq⟩:∃ q,q=segL l x:=⟨_,rfl⟩
  rw [← hq] at hIn hpart hshort hgood hst hfine hlen
  obtain ⟨m',hm'⟩:∃ m',m'=x.2:=⟨_,rfl⟩
  obtain ⟨c',hc'⟩:∃ c',c'=c - x.1:=⟨_,rfl⟩
  rw [← hm',← hc'] at x0 hIn
  rw [← hm'] at hlen
  have HBj:=hid (HBd.out j a m' c' q wr hIn hpart (by omega) hgood)
  obtain ⟨b,hb⟩:∃ b,b=decide (j+1=M):=⟨_,rfl⟩
  have hbb:decide (j+1<M)=!b:=by
   rw [hb]
   by_cases h1:j+1=M
   ·rw [decide_eq_true h1,decide_eq_false (by omega)];rfl
   ·rw [decide_eq_false h1,decide_eq_true (by omega)];rfl
  rw [hbb] at hst
  have HWj:=hid (fun F v w h=>HWh.out F v j q b w h hpart hshort hfine)
  have htl:=(hpart.length (!b)).1
  obtain ⟨Y,hY⟩:∃ Y,Y=textS e s j q (!b):=⟨_,rfl⟩
  rw [← hY] at hst htl HWj
  obtain ⟨O,hO⟩:∃ O,O=segsGo e s M 0 ((sp.map (segL l)).take j):=⟨_,rfl⟩
  rw [← hO] at HO HLg hst
  have hb1:((j:Int) == (M:Int) - 1)=b:=by
   rw [hb,Bool.eq_iff_iff,beq_iff_eq,decide_eq_true_iff]
   omega
  have hb2:decide ((j:Int)=(M:Int) - 1)=b:=by
   rw [hb,decide_eq_decide]
   omega
  have hwj:IntKind.u32.wrap (j:Int)=(j:Int):=by rw [IntKind.wrap_u32];omega
  have hwj2:(j:Int) % 4294967296=(j:Int):=by omega
  have HSt:=hid hst
  have HTl:=hid (show Y.length≤16777216∧0<Y.length from ⟨by rw [htl];exact H24.out,by rw [htl];exact Nat.one_le_two_pow⟩)
  have HRs:=hid (show ∀ k,u8.ownBlock=some k→base≤k∧k<wr.heap.size from fun k hk=>OwnP.lt HO.out k hk)
  have g0:=HC9.out.cell 0 rfl
  have g1:=HC9.out.cell 1 rfl
  simp only [confCells,List.getElem_toArray,List.getElem_cons_zero,List.getElem_cons_succ] at g0 g1
  clear hin hpart hshort hgood hget hjS hIn hst hx hfull hfine hpa hlen hq hm' hc' hb hbb htl hY hO hjs
  go_wp2_with fail
  refine HBj.out.mono ?_
  rintro e9 w5 ⟨F,v5,u5,rfl,hk,hat,hF,q5,m5,d5,rfl,-,-,-,-,-,-⟩
  obtain ⟨gb,rfl⟩:=HPt.out _ _ _ _ _ hat
  have HA5:=hid hat
  have HF5:=hid hF
  have HO5:=hid (OwnP.kept HO.out (fun k hk1=>hk.block k (HRs.out k hk1).2 (fun h=>h)))
  have HK5:=hid (HKr.out.trans hk)
  have HZ5:=hid hk.size
  clear hk hat hF g0 g1 x0 HBj
  go_wp2_with fail
  refine (HWj.out _ _ _ HA5.out).mono ?_
  rintro e9 w6 ⟨u6,rfl,hk,hou,-⟩
  have HO6:=hid (OwnP.kept HO5.out (fun k hk1=>hk.block k (by have:=(HRs.out k hk1).2;have:=HZ5.out;omega) (fun hf=>by have:=HF5.out k hf;have:=(HRs.out k hk1).2;omega)))
  have HK6:=hid (HK5.out.then hk (fun k hk1 hf=>by have:=HF5.out k hf;have:=HKr.out.size;omega))
  obtain ⟨q6,d6,rfl,-,-,h8,-,-⟩:=hou.read
  obtain ⟨a6,rfl,hc6⟩:=h8 HTl.out.2
  have HC6:=hid hc6
  clear hk hou h8 hc6 HWj
  go_wp2_with (at_builtin;refine wpList_append_P rfl _ _ rfl base u8 O.length (O.map (Value.int .u8)) rfl HO6.out a6 Y.length d6 (Y.map (Value.int .u8)) rfl (by rw [List.length_map,Nat.mul_one]) ?na1 ?na2 ?na3 ?na4 ?na5 ?_)
  case na1 =>
   intro k u hu
   have hk:k<Y.length:=by
    have:=(List.getElem?_eq_some_iff.1 hu).1
    rwa [List.length_map] at this
   rw [HC6.out k hk,← hu]
   simp [hk]
  case na2 =>
   intro u hu
   obtain ⟨z,-,rfl⟩:=List.mem_map.1 hu
   rfl
  case na3 =>
   have h1:=HLg.out
   have h2:=HTl.out.1
   have h3:j*16777216≤10000*16777216:=Nat.mul_le_mul_right _ (by omega)
   unfold maxLen
   omega
  case na4 =>
   have h1:=HLg.out
   have h2:=HTl.out.1
   have h3:j*16777216≤10000*16777216:=Nat.mul_le_mul_right _ (by omega)
   omega
  case na5 =>
   rw [HBe.out]
   exact HK6.out.size
  intro v' w7 ho7 hg7
  have HO7:Hid (OwnP w7 base v' (segsGo e s M 0 ((sp.map (segL l)).take (j+1))).length ((segsGo e s M 0 ((sp.map (segL l)).take (j+1))).map (Value.int .u8))):=hid (by rw [HSt.out,List.length_append,List.map_append];exact ho7)
  have HL7:Hid ((segsGo e s M 0 ((sp.map (segL l)).take (j+1))).length≤(j+1)*16777216):=hid (by rw [HSt.out,List.length_append];have:=HLg.out;have:=HTl.out.1;omega)
  have HK7:=hid (HK6.out.grown hg7 (fun k hk=>.inr (by rw [← HBe.out];exact (HRs.out k hk).1)))
  clear ho7 hg7
  go_wp2_with fail
  exact ⟨⟨j+1,by omega,by go_num,HO7,HL7,HK7⟩,by simp [intOf];omega⟩
end
section
open Go.RowKit
end
section
open Go.RowKit
end
section
open Go.RowKit
set_option maxHeartbeats 800000 in
set_option maxRecDepth 10000 in
theorem equal_bytes (p q:Option Addr) (n c m d:Nat) (xs ys:List Int) (w:World) (hx:n=xs.length) (hy:m=ys.length) (ox:Octets xs) (oy:Octets ys) (hp:Bytes8 w p xs) (hq:Bytes8 w q ys) :
  Calls Tryz.prog 39 #[.slice p n c,.slice q m d] w fun e w'=>e=.returned (.bool (decide (xs=ys)))∧w'=w:=by
 have t1:=textOf p n c xs w hx hp
 have t2:=textOf q m d ys w hy hq
 have he:((strOfNums xs).toList == (strOfNums ys).toList)=decide (xs=ys):=by
  rw [text_beq,decide_eq_decide]
  exact ⟨fun h=>strOf_inj ox oy h,fun h=>by rw [h]⟩
 obtain ⟨A,hA⟩:∃ A,A=strOfNums xs:=⟨_,rfl⟩
 obtain ⟨B,hB⟩:∃ B,B=strOfNums ys:=⟨_,rfl⟩
 rw [← hA] at t1 he
 rw [← hB] at t2 he
 obtain ⟨z,hz⟩:∃ z,z=decide (xs=ys):=⟨_,rfl⟩
 rw [← hz] at he ⊢
 clear hA hB hz hx hy ox oy hp hq
 go_enter Tryz.func39,Tryz.ntmps39
 go_wp2_with fail
 go_ret
 exact ⟨rfl,rfl⟩
set_option maxHeartbeats 1600000 in
set_option maxRecDepth 10000 in
theorem prefix_bytes (p q:Option Addr) (n c m d:Nat) (xs ys:List Int) (w:World) (h1:In8 w p n c xs) (h2:In8 w q m d ys) :
  Calls Tryz.prog 54 #[.slice p n c,.slice q m d] w fun e w'=>e=.returned (.bool (decide (m≤n∧xs.take m=ys)))∧w'=w:=by
 by_cases hmn:m≤n
 ·have hE:=hid (fun q' c' (h8:Bytes8 w q' (xs.take m))=>equal_bytes q' q m c' m d (xs.take m) ys w (by rw [List.length_take,← h1.len];omega) h2.len (h1.oct.take _) h2.oct h8 h2.at_)
  have hpc:Hid (∀ q',(0<m→q'=p)→Bytes8 w q' (xs.take m)):=hid (fun q' hq'=>by
   have:=h1.at_.piece (q:=q') 0 m (by have:=h1.len;omega) (fun h0=>by rw [hq' h0];cases p <;> simp [Addr.add])
   rwa [List.drop_zero] at this)
  have hd:decide (m≤n∧xs.take m=ys)=decide (xs.take m=ys):=by simp [hmn]
  rw [hd]
  obtain ⟨z,hz⟩:∃ z,z=decide (xs.take m=ys):=⟨_,rfl⟩
  rw [← hz] at hE ⊢
  have hge:(m:Int)≤(n:Int):=by omega
  have hmc:(m:Int)≤(c:Int):=by have:=h1.cap;omega
  have hm0:(0:Int)≤(m:Int):=by omega
  have hc9:=h1.room
  clear hd hz h1 h2 hmn
  go_enter Tryz.func54,Tryz.ntmps54
  go_wp2_with fail
  refine (hE.out _ _ (hpc.out _ (fun h0=>by first|rfl|(cases p <;> simp [Addr.add])))).mono ?_
  rintro e w2 ⟨rfl,rfl⟩
  go_wp2_with fail
  go_ret
  exact ⟨rfl,rfl⟩
 ·have hd:decide (m≤n∧xs.take m=ys)=false:=decide_eq_false (fun h=>hmn h.1)
  rw [hd]
  have hge:decide ((m:Int)≤(n:Int))=false:=decide_eq_false (by omega)
  have hlt:¬ (m:Int)≤(n:Int):=by omega
  clear hd h1 h2
  go_enter Tryz.func54,Tryz.ntmps54
  go_wp2_with fail
  go_ret
  exact ⟨rfl,rfl⟩
theorem run_count (w:World) (p:Option Addr) (n c:Nat) (xs:List Int) (hx:n=xs.length) (hb:Bytes8 w p xs) (hn0:p=none→n=0) (x:Int) :
  (Extern.BytealgCount.count #[.slice p n c,.int .u8 x]).run Tryz.prog w=.ok (.int .i64 ((Lib.countByte (Lib.bytesOf xs) x.toNat.toUInt8:Nat):Int)) w:=by
 have hs:=Lib.run_countString (P:=Tryz.prog) ⟨(Lib.bytesOf xs).toArray⟩ x w
 have hl:(Extern.Bytes.bytesOf (.slice p n c)).run Tryz.prog w=.ok (⟨(Lib.bytesOf xs).toArray⟩:ByteArray) w:=by
  cases p with
  | none =>
   have h0:=hn0 rfl
   obtain rfl:xs=[]:=List.length_eq_zero_iff.1 (by omega)
   rfl
  | some a =>
   have h:=Lib.run_loadBytesX (P:=Tryz.prog) w xs a .empty (fun j x hj=>by
    have hjl:j<xs.length:=(List.getElem?_eq_some_iff.1 hj).1
    obtain ⟨a',ha',hc⟩:=hb (by omega)
    obtain rfl:=Option.some.inj ha'
    rw [hc j hjl,List.getD_eq_getElem?_getD,hj]
    rfl)
   rw [← hx] at h
   have he:(⟨ByteArray.empty.data ++ (Lib.bytesOf xs).toArray⟩:ByteArray)=⟨(Lib.bytesOf xs).toArray⟩:=by
    apply ByteArray.ext
    show (#[]:Array UInt8) ++ (Lib.bytesOf xs).toArray=(Lib.bytesOf xs).toArray
    simp
   rw [he] at h
   exact h
 change Sem.run Tryz.prog (do
  let b ← Extern.Bytes.bytesOf (.slice p n c)
  let c' ← Extern.Bytes.asByte (.int .u8 x)
  pure (goInt (b.foldl (fun n x=>if x == c' then n+1 else n) (0:Nat)))) w=_
 change Sem.run Tryz.prog (do
  let b ← Extern.Bytes.bytesOf (.string ⟨(Lib.bytesOf xs).toArray⟩)
  let c' ← Extern.Bytes.asByte (.int .u8 x)
  pure (goInt (b.foldl (fun n x=>if x == c' then n+1 else n) (0:Nat)))) w=_ at hs
 rw [Sem.run_bind,hl]
 simp only [Extern.Bytes.bytesOf,Sem.run_bind,Sem.run_pure,Result.andThen] at hs ⊢
 simpa using hs
theorem count_all {xs:List Int} (ho:Octets xs):Lib.countByte (Lib.bytesOf xs) ((255:Int).toNat.toUInt8)=xs.length ↔ xs=List.replicate xs.length 255:=by
 have hl:(Lib.bytesOf xs).length=xs.length:=by simp [Lib.bytesOf]
 unfold Lib.countByte
 rw [show xs.length=(Lib.bytesOf xs).length from hl.symm,List.count_eq_length,hl,List.eq_replicate_iff]
 constructor
 ·intro h
  refine ⟨rfl,fun b hb=>?_⟩
  have h1:=h b.toNat.toUInt8 (by unfold Lib.bytesOf;exact List.mem_map.2 ⟨b,hb,rfl⟩)
  have h2:=congrArg UInt8.toNat h1
  have h3:=ho b hb
  have e1:((255:Int).toNat.toUInt8).toNat=255:=rfl
  rw [e1] at h2
  have e2:(b.toNat.toUInt8).toNat=b.toNat % 256:=by simp
  rw [e2] at h2
  omega
 ·rintro ⟨-,h⟩ b hb
  unfold Lib.bytesOf at hb
  obtain ⟨x,hx,rfl⟩:=List.mem_map.1 hb
  rw [h x hx]
set_option maxHeartbeats 1600000 in
set_option maxRecDepth 10000 in
theorem count_bytes (p:Option Addr) (n c:Nat) (xs:List Int) (g:Nat) (x:Int) (w:World) (h:In8 w p n c xs) (hg:w.cell? ⟨g,0,none⟩=some (.int .u8 x)) :
  Calls Tryz.prog 114 #[.slice p n c,.slice (some ⟨g,0,none⟩) 1 1] w fun e w'=>e=.returned (.int .i64 ((Lib.countByte (Lib.bytesOf xs) x.toNat.toUInt8:Nat):Int))∧w'=w:=by
 have hr:(callFunc 148 #[.slice p n c,.int .u8 x]).run Tryz.prog w=.ok (.value (.int .i64 ((Lib.countByte (Lib.bytesOf xs) x.toNat.toUInt8:Nat):Int))) w:=by
  rw [run_callFunc_extern (e:=Extern.BytealgCount.count) Tryz.func148 (by kernel_rfl) (by kernel_rfl) (by kernel_rfl) (by kernel_rfl),run_count w p n c xs h.len h.at_ (fun h0=>(h.bare h0).1) x]
  rfl
 obtain ⟨z,hz⟩:∃ z:Int,z=((Lib.countByte (Lib.bytesOf xs) x.toNat.toUInt8:Nat):Int):=⟨_,rfl⟩
 rw [← hz] at hr ⊢
 clear h hz
 go_enter Tryz.func114,Tryz.ntmps114
 go_wp2_with fail
 go_ret
 exact ⟨rfl,rfl⟩
end
end Go.Proofs.YtehkjkcnigknkaaGreat

/-
  ImRoom; ConfRef2; DeNum2; DeGuess; SgLaws; SgSt.
-/
import Derived.Deep.AppendLies
import Derived.Lib.Hide
import Derived.Test.YtehkjkcnigknkaaGreatM03
import Derived.Test.YtehkjkcnigknkaaGreatM10
import Derived.Test.YtehkjkcnigknkaaGreatM11
import Derived.Test.YtehkjkcnigknkaaGreatM15
import Derived.Test.YtehkjkcnigknkaaGreatM17
namespace Go.Proofs.YtehkjkcnigknkaaGreat
open Lib (hid)
section
structure PartIn (e s i:Nat) (p:List Rec):Prop where
 room:∃ r:Rm,InRoom r p∧r.e=e∧r.s=s∧r.num=i
 full:0<p.length
theorem PartIn.length {e s i:Nat} {p:List Rec} (h:PartIn e s i p) (b:Bool):(textS e s i p b).length=2 ^ e∧(framesS e s i p b).length≤2 ^ e:=by
 obtain ⟨r,h1,rfl,rfl,rfl⟩:=h.room
 exact ⟨text_length h1 b (fun _=>h.full),frames_fit h1 b (fun _=>h.full)⟩
inductive PartsOk (e s:Nat):List (List Rec)→Rm→Prop
 | start:PartsOk e s [] (emptyP e s 0)
 | more (init:List (List Rec)) (last:List Rec) (r:Rm):InRoom r last→r.e=e→r.s=s→r.num=init.length→0<last.length →
   (∀ i p,init[i]?=some p→PartIn e s i p)→PartsOk e s (init ++ [last]) r
theorem PartsOk.all {e s:Nat} {out:List (List Rec)} {r:Rm} (h:PartsOk e s out r):∀ i p,out[i]?=some p→PartIn e s i p:=by
 cases h with
 | start=>intro i p h;simp at h
 | more init last r h1 h2 h3 h4 h5 h6 =>
  intro i p hp
  by_cases hi:i<init.length
  ·rw [List.getElem?_append_left hi] at hp
   exact h6 i p hp
  ·rw [List.getElem?_append_right (by omega)] at hp
   by_cases he:i - init.length=0
   ·rw [he] at hp
    have hpl:last=p:=by simpa using hp
    subst hpl
    exact ⟨⟨r,h1,h2,h3,by omega⟩,h5⟩
   ·have:i - init.length ≥ ([last]:List (List Rec)).length:=by simp;omega
    rw [List.getElem?_eq_none this] at hp
    simp at hp
theorem parts_step {e s:Nat} (hm:mayC e s=true) {out:List (List Rec)} {st:PSt} (x:Rec) (hy:st.y=0) (h:PartsOk e s out st.r) (hc:out.flatten.length<10000) (h2:(stepP e s st ((recB x).length:Int)).y=0) :
  ∃ k,(stepP e s st ((recB x).length:Int)).out=st.out ++ [k]∧PartsOk e s (putPart out k x) (stepP e s st ((recB x).length:Int)).r:=by
 obtain ⟨m1,m2,m3,m4⟩:=mayC_true.1 hm
 have hmay:∀ k,k<s→mayHead e s k=true:=fun k hk=>mayHead_true.2 ⟨m1,m2,m3,m4,hk⟩
 unfold stepP at h2 ⊢
 rw [if_neg (by rw [hy];simp)] at h2 ⊢
 split at h2
 ·rename_i q2
  rw [if_pos q2]
  split at h2
  ·rename_i q3
   rw [if_pos q3]
   refine ⟨_,rfl,?_⟩
   obtain ⟨y,r,o⟩:=st
   simp only at h q3 ⊢
   cases h with
   | start =>
    have h1:=inRoom_take (inRoom_empty (hmay 0 (by omega))) q3 (by show 0<_;omega)
    show PartsOk e s (putPart [] 0 x) _
    rw [show putPart ([]:List (List Rec)) 0 x=[] ++ [[x]] from putPart_next [] x]
    exact .more [] [x] _ h1 rfl rfl rfl (by simp) (fun i p hp=>by simp at hp)
   | more init last r a1 a2 a3 a4 a5 a6 =>
    have hcl:last.length<10000:=by
     rw [List.flatten_append,List.length_append] at hc
     simp at hc
     omega
    have h1:=inRoom_take a1 q3 (by rw [a1.count];exact hcl)
    rw [show r.num=init.length from a4,putPart_last]
    exact .more init (last ++ [x]) _ h1 a2 a3 a4 (by simp) a6
  ·rename_i q3
   rw [if_neg q3]
   split at h2
   ·exact absurd h2 (by decide)
   ·rename_i q4
    rw [if_neg q4]
    refine ⟨_,rfl,?_⟩
    obtain ⟨y,r,o⟩:=st
    simp only at h q3 q4 ⊢
    cases h with
    | start =>
     exfalso
     exact q3 (fits_empty (by omega) (by omega) (Nat.zero_le _) q2)
    | more init last r a1 a2 a3 a4 a5 a6 =>
     have hk:r.num+1=(init ++ [last]).length:=by simp;omega
     have hall:=(PartsOk.more init last r a1 a2 a3 a4 a5 a6).all
     have hf:=fits_empty (e:=e) (s:=s) (m:=r.num+1) (n:=s - 1) (by omega) (by omega) (by omega) q2
     have h1:=inRoom_take (inRoom_empty (hmay (r.num+1) (by omega))) hf (by show 0<_;omega)
     have hpp:putPart (init ++ [last]) (r.num+1) x=(init ++ [last]) ++ [[x]]:=by rw [hk];exact putPart_next _ x
     rw [hpp]
     exact .more (init ++ [last]) [x] _ h1 rfl rfl hk (by simp) hall
 ·exact absurd h2 (by decide)
theorem fold_parts {e s:Nat} (hm:mayC e s=true):∀ (l:List Rec) (out:List (List Rec)) (st:PSt),st.y=0→PartsOk e s out st.r→out.flatten.length+l.length≤10000→((sizesR l).foldl (stepP e s) st).y=0 →
  ∃ t r,((sizesR l).foldl (stepP e s) st).out=st.out ++ t∧PartsOk e s (partsGo out l t) r
 | [],out,st,_,h,_,_=>⟨[],st.r,by simp [sizesR],h⟩
 | x :: l,out,st,hy,h,hc,h2=>by
  have e1:sizesR (x :: l)=((recB x).length:Int) :: sizesR l:=rfl
  rw [e1,List.foldl_cons] at h2 ⊢
  have hy2:(stepP e s st ((recB x).length:Int)).y=0:=by
   by_cases hq:(stepP e s st ((recB x).length:Int)).y=0
   ·exact hq
   ·rw [foldP_gone _ hq] at h2;exact h2
  obtain ⟨k,hk,hp⟩:=parts_step hm x hy h (by rw [List.length_cons] at hc;omega) hy2
  have hkk:(putPart out k x).flatten.length≤out.flatten.length+1:=by
   unfold putPart
   have hset:∀ (o:List (List Rec)) (j:Nat),(o.set j (o.getD j [] ++ [x])).flatten.length≤o.flatten.length+1:=by
    intro o
    induction o with
    | nil=>intro j;simp
    | cons a o ih =>
     intro j
     cases j with
     | zero =>
      simp only [List.set_cons_zero,List.flatten_cons,List.length_append,List.getD_cons_zero,List.length_cons,List.length_nil]
      omega
     | succ j =>
      have:=ih j
      simp only [List.set_cons_succ,List.flatten_cons,List.length_append,List.getD_cons_succ] at this ⊢
      omega
   split
   ·have:=hset (out ++ [[]]) k
    simp only [List.flatten_append,List.length_append,List.flatten_cons,List.flatten_nil,List.length_nil,Nat.add_zero] at this
    exact this
   ·exact hset out k
  obtain ⟨t,r,ht,hr⟩:=fold_parts hm l (putPart out k x) _ hy2 hp (by rw [List.length_cons] at hc;omega) h2
  exact ⟨k :: t,r,by rw [ht,hk];simp,hr⟩
theorem plan_parts {e s:Nat} {l:List Rec} (h9:l.length≤10000) (h:(planI e s l).1=0):mayC e s=true∧∀ i p,(partsGo [] l (planI e s l).2)[i]?=some p→PartIn e s i p:=by
 unfold planI at h ⊢
 split at h
 ·rename_i hm
  rw [if_pos hm]
  split at h
  ·rename_i hr;exact absurd h hr
  ·rename_i hr
   rw [if_neg hr]
   have hy:(runP e s (sizesR l)).y=0:=by
    unfold planP at h
    rw [if_pos hm] at h
    exact h
   obtain ⟨t,r,ht,hp⟩:=fold_parts hm l [] ⟨0,emptyP e s 0,[]⟩ rfl .start (by simpa using h9) hy
   have ho:(planP e s (sizesR l)).2=t:=by
    unfold planP
    rw [if_pos hm]
    show (runP e s (sizesR l)).out=t
    unfold runP
    rw [ht]
    rfl
   rw [ho]
   exact ⟨hm,hp.all⟩
 ·exact absurd h (by decide)
theorem segs_length {e s:Nat} (m:Nat):∀ (ps:List (List Rec)) (i:Nat),(∀ j p,ps[j]?=some p→PartIn e s (i+j) p)→(segsGo e s m i ps).length=ps.length*2 ^ e
 | [],i,_=>by simp [segsGo]
 | p :: ps,i,h=>by
  have h0:=(h 0 p rfl).length (decide (i+1<m))
  rw [Nat.add_zero] at h0
  rw [segsGo,List.length_append,h0.1,segs_length m ps (i+1) (fun j q hq=>by
   have:=h (j+1) q (by simpa using hq)
   rwa [show i+(j+1)=i+1+j by omega] at this),List.length_cons,Nat.add_mul,Nat.one_mul]
  omega
theorem image_length {e s:Nat} {l:List Rec} (h9:l.length≤10000) (h:(planI e s l).1=0):(encI e s l).2.length=(partsGo [] l (planI e s l).2).length*2 ^ e:=by
 unfold encI
 rw [if_neg (by rw [h];simp)]
 exact segs_length _ _ 0 (fun j p hp=>by rw [Nat.zero_add];exact (plan_parts h9 h).2 j p hp)
end
section
open Go.RowKit
def countC (e s n:Nat):Nat × Int:=if mayC e s=true then (if s*2 ^ e<n then (0,7) else if n % 2 ^ e=0 then (n / 2 ^ e,0) else (0,4)) else (0,1)
theorem whole_parts {q n:Nat} (hq:1≤q):∃ k m:Nat,n / q=k∧m=k*q∧m≤n∧n<m+q∧(n % q=0 ↔ m=n)∧∀ s,(s*q<n ↔ s<k ∨ s=k∧m<n):=by
 have h:=Nat.div_add_mod n q
 have hr:=Nat.mod_lt n (show 0<q by omega)
 have hc:q*(n / q)=n / q*q:=Nat.mul_comm _ _
 refine ⟨n / q,n / q*q,rfl,rfl,by omega,by omega,by omega,fun s=>?_⟩
 rcases Nat.lt_trichotomy s (n / q) with hs|hs|hs
 ·have:(s+1)*q≤n / q*q:=Nat.mul_le_mul_right q hs
  rw [Nat.succ_mul] at this
  constructor
  ·intro _;exact .inl hs
  ·intro _;omega
 ·rw [hs]
  constructor
  ·intro h;exact .inr ⟨rfl,h⟩
  ·rintro (h|⟨_,h⟩)
   ·omega
   ·exact h
 ·have:(n / q+1)*q≤s*q:=Nat.mul_le_mul_right q hs
  rw [Nat.succ_mul] at this
  constructor
  ·intro h;omega
  ·rintro (h|⟨h,_⟩) <;> omega
def countOut (t:Nat × Int):Value:=.tuple #[.int .u64 (t.1:Int),.int .i64 t.2]
set_option maxHeartbeats 4000000 in
set_option maxRecDepth 10000 in
theorem count_ref (e s n:Nat) (hs:s<4294967296) (hn:n<18446744073709551616) (w:World):Calls Tryz.prog 23 #[confV e s,.int .u64 (n:Int)] w fun r w'=>r=.returned (countOut (countC e s n))∧Keeps NoBlock w w':=by
 have HR:=hid (Whole.new w 27 (confCells e s))
 have HK:=hid ((Keeps.refl NoBlock w).alloc (.cells (confCells e s) 27))
 have HMay:=hid (fun w=>may_ref e s w)
 by_cases hm:mayC e s=true
 ·have he:=(mayC_true.1 hm).2.1
  have HSz:=hid (fun w=>size8_ref e s he w)
  obtain ⟨q1,q2⟩:=two_e he
  obtain ⟨k,m,hk,hmk,hmn,hnm,h0,hsk⟩:=whole_parts (q:=2 ^ e) (n:=n) q1
  have HC:Hid (countC e s n=if s*2 ^ e<n then (0,7) else if n % 2 ^ e=0 then (n / 2 ^ e,0) else (0,4)):=hid (by unfold countC;rw [if_pos hm])
  rw [hm] at HMay
  rw [hk] at HC
  have HSK:=hid (hsk s)
  have H0:=hid h0
  obtain ⟨q,hq⟩:∃ q,q=2 ^ e:=⟨_,rfl⟩
  rw [← hq] at HSz HC HSK H0 q1 q2 hk hmk hnm
  have e1:(n:Int) / (q:Int)=(k:Int):=by rw [← hk];exact (Int.natCast_ediv n q).symm
  have e2:(k:Int)*(q:Int)=(m:Int):=by rw [hmk,Int.natCast_mul]
  have wk:IntKind.u64.wrap (k:Int)=(k:Int):=by
   have:k≤n:=by rw [← hk];exact Nat.div_le_self _ _
   rw [IntKind.wrap_u64];omega
  have wm:IntKind.u64.wrap (m:Int)=(m:Int):=by rw [IntKind.wrap_u64];omega
  clear h0 hsk hq hk hmk he hm
  unfold confV at HMay HSz
  unfold confV
  go_enter Tryz.func23,Tryz.ntmps23
  go_wp2_with fail
  refine (HMay.out _).mono ?_
  rintro r w1 ⟨rfl,hk⟩
  have HR:=hid (HR.out.keep hk (fun h=>h))
  have HK:=hid (HK.out.trans hk)
  have c0:=HR.out.cell 0 rfl
  have c1:=HR.out.cell 1 rfl
  simp only [confCells,List.getElem_toArray,List.getElem_cons_zero,List.getElem_cons_succ] at c0 c1
  clear hk
  go_wp2_with fail
  refine (HSz.out _).mono ?_
  rintro r w2 ⟨rfl,hk⟩
  have HR:=hid (HR.out.keep hk (fun h=>h))
  have HK:=hid (HK.out.trans hk)
  clear c0 c1 hk
  have c0:=HR.out.cell 0 rfl
  have c1:=HR.out.cell 1 rfl
  simp only [confCells,List.getElem_toArray,List.getElem_cons_zero,List.getElem_cons_succ] at c0 c1
  rcases Nat.lt_trichotomy s k with h|h|h
  ·have d1:decide ((s:Int)<(k:Int))=true:=decide_eq_true (by omega)
   have HV:Hid (countC e s n=(0,7)):=hid (by rw [HC.out];rw [if_pos (HSK.out.2 (.inl h))])
   go_wp2_with fail
   refine bodyPost_ret (results_tmp2 rfl _ _ _) rfl ?_
   rw [HV.out]
   exact ⟨rfl,HK.out⟩
  ·subst h
   have d1:decide ((s:Int)<(s:Int))=false:=decide_eq_false (by omega)
   have d2:((s:Int) == (s:Int))=true:=by simp
   by_cases hmn':m<n
   ·have d3:decide ((m:Int)<(n:Int))=true:=decide_eq_true (by omega)
    have HV:Hid (countC e s n=(0,7)):=hid (by rw [HC.out];rw [if_pos (HSK.out.2 (.inr ⟨rfl,hmn'⟩))])
    go_wp2_with fail
    refine (HSz.out _).mono ?_
    rintro r w3 ⟨rfl,hk⟩
    have HR:=hid (HR.out.keep hk (fun h=>h))
    have HK:=hid (HK.out.trans hk)
    clear c0 c1 hk
    have c0:=HR.out.cell 0 rfl
    have c1:=HR.out.cell 1 rfl
    simp only [confCells,List.getElem_toArray,List.getElem_cons_zero,List.getElem_cons_succ] at c0 c1
    go_wp2_with fail
    refine bodyPost_ret (results_tmp2 rfl _ _ _) rfl ?_
    rw [HV.out]
    exact ⟨rfl,HK.out⟩
   ·have d3:decide ((m:Int)<(n:Int))=false:=decide_eq_false (by omega)
    have d4:((m:Int) != (n:Int))=false:=by simp;omega
    have d5:decide ((m:Int)=(n:Int))=true:=decide_eq_true (by omega)
    have HV:Hid (countC e s n=(s,0)):=hid (by rw [HC.out];rw [if_neg (fun hh=>by have:=HSK.out.1 hh;omega),if_pos (H0.out.2 (by omega))])
    go_wp2_with fail
    refine (HSz.out _).mono ?_
    rintro r w3 ⟨rfl,hk⟩
    have HR:=hid (HR.out.keep hk (fun h=>h))
    have HK:=hid (HK.out.trans hk)
    clear c0 c1 hk
    have c0:=HR.out.cell 0 rfl
    have c1:=HR.out.cell 1 rfl
    simp only [confCells,List.getElem_toArray,List.getElem_cons_zero,List.getElem_cons_succ] at c0 c1
    go_wp2_with fail
    refine (HSz.out _).mono ?_
    rintro r w3 ⟨rfl,hk⟩
    have HR:=hid (HR.out.keep hk (fun h=>h))
    have HK:=hid (HK.out.trans hk)
    clear c0 c1 hk
    have c0:=HR.out.cell 0 rfl
    have c1:=HR.out.cell 1 rfl
    simp only [confCells,List.getElem_toArray,List.getElem_cons_zero,List.getElem_cons_succ] at c0 c1
    go_wp2_with fail
    refine bodyPost_ret (results_tmp2 rfl _ _ _) rfl ?_
    rw [HV.out]
    exact ⟨rfl,HK.out⟩
  ·have d1:decide ((s:Int)<(k:Int))=false:=decide_eq_false (by omega)
   have d2:((k:Int) == (s:Int))=false:=by simp;omega
   by_cases hmn':m<n
   ·have d4:((m:Int) != (n:Int))=true:=by simp;omega
    have d5:decide ((m:Int)=(n:Int))=false:=decide_eq_false (by omega)
    have HV:Hid (countC e s n=(0,4)):=hid (by rw [HC.out];rw [if_neg (fun hh=>by have:=HSK.out.1 hh;omega),if_neg (fun hh=>by have:=H0.out.1 hh;omega)])
    go_wp2_with fail
    refine (HSz.out _).mono ?_
    rintro r w3 ⟨rfl,hk⟩
    have HR:=hid (HR.out.keep hk (fun h=>h))
    have HK:=hid (HK.out.trans hk)
    clear c0 c1 hk
    have c0:=HR.out.cell 0 rfl
    have c1:=HR.out.cell 1 rfl
    simp only [confCells,List.getElem_toArray,List.getElem_cons_zero,List.getElem_cons_succ] at c0 c1
    go_wp2_with fail
    refine bodyPost_ret (results_tmp2 rfl _ _ _) rfl ?_
    rw [HV.out]
    exact ⟨rfl,HK.out⟩
   ·have d4:((m:Int) != (n:Int))=false:=by simp;omega
    have d5:decide ((m:Int)=(n:Int))=true:=decide_eq_true (by omega)
    have HV:Hid (countC e s n=(k,0)):=hid (by rw [HC.out];rw [if_neg (fun hh=>by have:=HSK.out.1 hh;omega),if_pos (H0.out.2 (by omega))])
    go_wp2_with fail
    refine (HSz.out _).mono ?_
    rintro r w3 ⟨rfl,hk⟩
    have HR:=hid (HR.out.keep hk (fun h=>h))
    have HK:=hid (HK.out.trans hk)
    clear c0 c1 hk
    have c0:=HR.out.cell 0 rfl
    have c1:=HR.out.cell 1 rfl
    simp only [confCells,List.getElem_toArray,List.getElem_cons_zero,List.getElem_cons_succ] at c0 c1
    go_wp2_with fail
    refine bodyPost_ret (results_tmp2 rfl _ _ _) rfl ?_
    rw [HV.out]
    exact ⟨rfl,HK.out⟩
 ·have hmf:mayC e s=false:=by simpa using hm
  rw [hmf] at HMay
  have HV:Hid (countC e s n=(0,1)):=hid (by unfold countC;rw [if_neg hm])
  clear hm hmf
  unfold confV at HMay
  unfold confV
  go_enter Tryz.func23,Tryz.ntmps23
  go_wp2_with fail
  refine (HMay.out _).mono ?_
  rintro r w1 ⟨rfl,hk⟩
  have HK:=hid (HK.out.trans hk)
  clear hk
  go_wp2_with fail
  refine bodyPost_ret (results_tmp2 rfl _ _ _) rfl ?_
  rw [HV.out]
  exact ⟨rfl,HK.out⟩
end
section
def decI (e s:Nat) (ys:List Int):Int × List Rec :=
 if (countC e s ys.length).2 ≠ 0 then ((countC e s ys.length).2,[])
 else if encI e s (guessI ys)=(0,ys) then (0,guessI ys) else (4,[])
theorem plan_checks {e s:Nat} {l:List Rec} (h:(planI e s l).1=0):∀ r ∈ l,checkR r=0:=by
 unfold planI at h
 split at h
 ·split at h
  ·rename_i hr;exact absurd h hr
  ·rename_i hr
   have hr0:risingR l=0:=by simpa using hr
   unfold risingR at hr0
   split at hr0
   ·rename_i hb;exact absurd hr0 hb
   ·rename_i hb
    exact firstBad_zero.1 (by simpa using hb)
 ·exact absurd h (by decide)
theorem enc_ok {e s:Nat} {l:List Rec}:(encI e s l).1=0 ↔ (planI e s l).1=0:=by
 unfold encI
 by_cases h:(planI e s l).1 ≠ 0
 ·rw [if_pos h]
 ·rw [if_neg h]
  simp only [true_iff]
  simpa using h
theorem parts_few {e s:Nat} {l:List Rec} (h9:l.length≤10000) (h:(planI e s l).1=0):(partsGo [] l (planI e s l).2).length≤s:=by
 obtain ⟨_,hp⟩:=plan_parts h9 h
 obtain ⟨ps,hps⟩:∃ ps,ps=partsGo [] l (planI e s l).2:=⟨_,rfl⟩
 rw [← hps] at hp ⊢
 rcases Nat.eq_zero_or_pos ps.length with h0|h0
 ·omega
 ·obtain ⟨r,h1,h2,h3,h4⟩:=(hp (ps.length - 1) _ (List.getElem?_eq_getElem (by omega))).room
  have:=h1.real.small
  omega
theorem dec_enc {e s:Nat} (he:e<256) (hs:s<4294967296) {l:List Rec} (h9:l.length≤10000) (hf:∀ r ∈ l,r.Fine) (h:(encI e s l).1=0):decI e s (encI e s l).2=(0,l):=by
 have hp:=enc_ok.1 h
 have hc:=plan_checks hp
 have hg:=guess_image he hs (by omega) (fun x hx=>⟨hf x hx,hc x hx⟩) hp
 have hm:=(plan_parts h9 hp).1
 have hle:=image_length h9 hp
 have hfew:=parts_few h9 hp
 have hcount:(countC e s (encI e s l).2.length).2=0:=by
  rw [hle]
  unfold countC
  have hpos:0<2 ^ e:=Nat.two_pow_pos e
  have h1:¬ s*2 ^ e<(partsGo [] l (planI e s l).2).length*2 ^ e:=Nat.not_lt.2 (Nat.mul_le_mul_right _ hfew)
  rw [if_pos hm,if_neg h1,if_pos (Nat.mul_mod_left _ _)]
 unfold decI
 rw [if_neg (by rw [hcount];simp),hg,if_pos (show encI e s l=(0,(encI e s l).2) from Prod.ext h rfl)]
theorem dec_only {e s:Nat} {ys:List Int} {l:List Rec} (h:decI e s ys=(0,l)):encI e s l=(0,ys):=by
 unfold decI at h
 split at h
 ·rename_i hq
  exact absurd (congrArg Prod.fst h) hq
 ·split at h
  ·rename_i hq
   obtain rfl:=(Prod.mk.inj h).2
   exact hq
  ·exact absurd (congrArg Prod.fst h) (show ¬ (4:Int)=0 by decide)
end
section
open Go.RowKit
theorem recB_big {r:Rec} (h:r.Fine) (hc:checkR r=0):r.key.length+r.val.length≤(recB r).length∧10≤(recB r).length:=by
 have ho:=bodyR_octets h
 have hz:=ho.app (sumB_octets (bodyR r))
 have hb:=(unst_octets (xs:=chunkN (bodyR r)) (chunk_solid ho).octets).2
 have hu:unst (chunkN (bodyR r))=(0,bodyR r ++ sumB (bodyR r)):=unst_stuff hz
 rw [hu] at hb
 have hb:(bodyR r).length+8≤(chunkN (bodyR r)).length:=by
  have h2:(bodyR r ++ sumB (bodyR r)).length≤(chunkN (bodyR r)).length:=hb
  rwa [List.length_append,sumB_length] at h2
 have hd:r.del=true→r.val.length=0:=fun hd=>by
  unfold checkR at hc
  split at hc
  ·omega
  ·split at hc
   ·omega
   ·split at hc
    ·omega
    ·rename_i h3
     rcases Nat.eq_zero_or_pos r.val.length with h4|h4
     ·exact h4
     ·exact absurd ⟨hd,h4⟩ h3
 have hl:r.key.length+r.val.length≤(bodyR r).length∧1≤(bodyR r).length:=by
  unfold bodyR textB
  cases hdel:r.del with
  | true =>
   have:=hd hdel
   simp
   omega
  | false =>
   simp
   omega
 unfold recB
 rw [(seal_length _).1]
 omega
theorem recsB_mem:∀ {l:List Rec} {r:Rec},r ∈ l→(recB r).length≤(recsB l).length
 | [],_,h=>by simp at h
 | x :: l,r,h=>by
  have e:recsB (x :: l)=recB x ++ recsB l:=by unfold recsB;rw [List.flatMap_cons]
  rw [e,List.length_append]
  rcases List.mem_cons.1 h with rfl|h
  ·omega
  ·have:=recsB_mem h
   omega
theorem recsB_dear:∀ (l:List Rec),(∀ r ∈ l,r.Fine∧checkR r=0)→l.length*10≤(recsB l).length
 | [],_=>by simp
 | x :: l,h=>by
  have e:recsB (x :: l)=recB x ++ recsB l:=by unfold recsB;rw [List.flatMap_cons]
  have h1:=recsB_dear l (fun r hr=>h r (List.mem_cons_of_mem _ hr))
  have h2:=(recB_big (h x List.mem_cons_self).1 (h x List.mem_cons_self).2).2
  rw [e,List.length_append,List.length_cons]
  omega
structure GuSt (ys:List Int) (i f:Nat) (l:List Rec):Prop where
 le:f≤i∧i≤ys.length
 at_:guessI ys=l ++ guessC (chunksGo ((ys.take i).drop f) (ys.drop i))
 many:(recsB l).length≤f
 fine:∀ r ∈ l,r.Fine∧checkR r=0
theorem GuSt.start (ys:List Int):GuSt ys 0 0 []:=⟨⟨Nat.le_refl _,Nat.zero_le _⟩,by simp [guessI],by simp [recsB],fun r hr=>by simp at hr⟩
theorem GuSt.other {ys:List Int} {i f:Nat} {l:List Rec} (h:GuSt ys i f l) (hi:i<ys.length) (hb:ys.getD i 0 ≠ 0):GuSt ys (i+1) f l:=by
 have hd:=drop_cons_getD ys i hi
 have hle:=h.le
 refine ⟨by omega,?_,h.many,h.fine⟩
 rw [h.at_,hd,chunksGo,if_neg hb,take_one hi,List.drop_append_of_le_length (by rw [List.length_take];omega)]
theorem GuSt.chunk {ys:List Int} {i f:Nat} {l:List Rec} (h:GuSt ys i f l) (hi:i<ys.length) (hb:ys.getD i 0=0) :
  guessI ys=l ++ guessC (((ys.take i).drop f) :: chunksGo [] (ys.drop (i+1))):=by
 have hd:=drop_cons_getD ys i hi
 rw [h.at_,hd,chunksGo,if_pos hb]
theorem GuSt.good {ys:List Int} {i f:Nat} {l:List Rec} (h:GuSt ys i f l) (ho:Octets ys) (hi:i<ys.length) (hb:ys.getD i 0=0) (hg:(getR ((ys.take i).drop f)).1=0) :
  GuSt ys (i+1) (i+1) (l ++ [(getR ((ys.take i).drop f)).2]):=by
 have h1:=h.chunk hi hb
 have hle:=h.le
 have hm:=h.many
 have hoc:Octets ((ys.take i).drop f):=fun b hb=>ho b (List.mem_of_mem_take (List.mem_of_mem_drop hb))
 obtain ⟨g1,g2,g3⟩:=getR_only hoc (r:=(getR ((ys.take i).drop f)).2) (by rw [← hg])
 refine ⟨by omega,?_,?_,fun r hr=>?_⟩
 rotate_left
 ·rw [recsB_snoc,List.length_append]
  have e:(recB (getR ((ys.take i).drop f)).2).length=((ys.take i).drop f).length+1:=by
   unfold recB
   rw [(seal_length _).1,← g3]
  rw [e,List.length_drop,List.length_take]
  omega
 rotate_left
 ·rw [h1,drop_all ys i,List.append_assoc]
  unfold guessC
  rw [List.filterMap_cons,if_pos hg]
  rfl
 ·rcases List.mem_append.1 hr with hr|hr
  ·exact h.fine r hr
  ·obtain rfl:r=_:=by simpa using hr
   exact ⟨g1,g2⟩
theorem GuSt.bad {ys:List Int} {i f:Nat} {l:List Rec} (h:GuSt ys i f l) (hi:i<ys.length) (hb:ys.getD i 0=0) (hg:(getR ((ys.take i).drop f)).1 ≠ 0) :
  GuSt ys (i+1) (i+1) l:=by
 have h1:=h.chunk hi hb
 have hle:=h.le
 have hm:=h.many
 refine ⟨by omega,?_,by omega,h.fine⟩
 rw [h1,drop_all ys i]
 unfold guessC
 rw [List.filterMap_cons,if_neg hg]
theorem GuSt.done {ys:List Int} {i f:Nat} {l:List Rec} (h:GuSt ys i f l) (hi:¬ i<ys.length):l=guessI ys:=by
 have hd:ys.drop i=[]:=List.drop_eq_nil_of_le (by omega)
 rw [h.at_,hd]
 simp [chunksGo,guessC]
theorem guess_fine {ys:List Int} (ho:Octets ys):(∀ r ∈ guessI ys,r.Fine∧checkR r=0∧r.key.length+r.val.length≤ys.length)∧(guessI ys).length*10≤ys.length:=by
 have hgo:∀ i,i≤ys.length→∃ f l,GuSt ys i f l:=by
  intro i
  induction i with
  | zero=>exact fun _=>⟨0,[],GuSt.start ys⟩
  | succ i ih =>
   intro hi
   obtain ⟨f,l,h⟩:=ih (by omega)
   by_cases hb:ys.getD i 0=0
   ·by_cases hg:(getR ((ys.take i).drop f)).1=0
    ·exact ⟨_,_,h.good ho (by omega) hb hg⟩
    ·exact ⟨_,_,h.bad (by omega) hb hg⟩
   ·exact ⟨_,_,h.other (by omega) hb⟩
 obtain ⟨f,l,h⟩:=hgo ys.length (Nat.le_refl _)
 rw [← h.done (Nat.lt_irrefl _)]
 have h1:=h.many
 have h2:=h.le
 have h3:=recsB_dear l h.fine
 refine ⟨fun r hr=>⟨(h.fine r hr).1,(h.fine r hr).2,?_⟩,by omega⟩
 have:=(recB_big (h.fine r hr).1 (h.fine r hr).2).1
 have:=recsB_mem hr
 omega
set_option maxHeartbeats 8000000 in
set_option maxRecDepth 10000 in
theorem guess17_ref (ys:List Int) (ho:Octets ys) (hl:ys.length≤100000) (w:World) :
  Calls Tryz.prog 24 #[.string (strOfNums ys)] w fun e w'=>∃ v,e=.returned v∧NewRecs w (guessI ys) v w':=by
 have HGr:=hid (fun c h1 h2 w=>getrec9_ref c h1 h2 w)
 have HO:=hid ho
 have HL:=hid hl
 have hsz:=str_size ys
 clear ho
 unfold readOut7 recV at HGr
 go_enter Tryz.func24,Tryz.ntmps24
 go_wp2_with fail
 go_loopw [3,4,5] (fun v z i wr=>∃ (j f:Nat) (l:List Rec),i=.int .i64 (j:Int)∧z=.int .i64 (f:Int)∧Hid (GuSt ys j f l)∧Hid (RecsSoFar w l v wr)) (fun _ _ i _=>ys.length+1 - (intOf i).toNat)
 case atStart=>exact ⟨0,0,[],rfl,rfl,hid (GuSt.start ys),hid (RecsSoFar.start w)⟩
 case round =>
  obtain ⟨j,f,l,rfl,rfl,HSt,HS⟩:=hrel
  have hle:=HSt.out.le
  have hL:=HL.out
  by_cases hlt:j<ys.length
  ·have hdj:decide ((j:Int)<(ys.length:Int))=true:=decide_eq_true (by omega)
   have hdj2:decide (j<ys.length)=true:=decide_eq_true hlt
   have hjz:j<(strOfNums ys).size:=by omega
   have hsg:=str_get ys HO.out j hjz
   have hb8:=HO.out.getD j
   obtain ⟨b,hb⟩:∃ b,b=ys.getD j 0:=⟨_,rfl⟩
   rw [← hb] at hsg hb8
   have HBd:=hid hb
   obtain ⟨hb0,hb1⟩:=hb8
   clear hb
   by_cases hbz:b=0
   ·have HB0:Hid (ys.getD j 0=0):=hid (by rw [← HBd.out];exact hbz)
    subst hbz
    have hcut:=str_part ys f j
    have hce:(ys.drop f).take (j - f)=(ys.take j).drop f:=by rw [List.drop_take]
    rw [hce] at hcut
    have HCh:=hid (fun w=>HGr.out ((ys.take j).drop f) (fun x hx=>HO.out x (List.mem_of_mem_take (List.mem_of_mem_drop hx))) (by rw [List.length_drop,List.length_take];omega) w)
    have HNx:=hid (fun h=>HSt.out.good HO.out hlt HB0.out h)
    have HBd2:=hid (fun h=>HSt.out.bad hlt HB0.out h)
    obtain ⟨C,hC⟩:∃ C,C=(ys.take j).drop f:=⟨_,rfl⟩
    rw [← hC] at hcut HCh HNx HBd2
    obtain ⟨y,hy⟩:∃ y,y=(getR C).1:=⟨_,rfl⟩
    obtain ⟨r,hr⟩:∃ r,r=(getR C).2:=⟨_,rfl⟩
    rw [← hy] at HCh HNx HBd2
    rw [← hr] at HCh HNx
    have hfj2:(f:Int)≤(j:Int):=by omega
    clear hC hy hr hce HBd
    by_cases hy0:y=0
    ·have hyb:(y == 0)=true:=by simpa using hy0
     have HNy:=hid (HNx.out hy0)
     have hlfew:l.length≤100000:=by have:=HSt.out.many;have:=recsB_many l;omega
     have HFw:=hid hlfew
     clear HNx HBd2 hy0 hlfew
     go_wp2_with fail
     refine (HCh.out _).mono ?_
     rintro e1 w1 ⟨rfl,hk⟩
     have HS1:=hid (HS.out.keep hk)
     have HS2:=hid ((HS1.out.alloc (.cells (recCells r) 48)).alloc (.cells (recCells r) 48))
     have HBx:=hid (Whole.newAt (w1.alloc (.cells (recCells r) 48)) 48 (recCells r) (w1.heap.size+1) (by simp))
     clear hk
     go_wp2_with (at_builtin;refine wpList_append_rec rfl _ _ rfl _ l rfl HS2.out (w1.heap.size+1) r rfl HBx.out (by have:=HFw.out;omega) ?_)
     intro v5 w5 h5 g5
     have HS5:=hid h5
     clear h5 g5
     go_wp2_with fail
     go_roundw
     case rel=>exact ⟨j+1,j+1,l ++ [r],by go_num,by go_num,HNy,HS5⟩
     case measure=>simp [intOf];omega
    ·have hyb:(y == 0)=false:=by simpa using hy0
     have HNy:=hid (HBd2.out hy0)
     clear HNx HBd2 hy0
     go_wp2_with fail
     refine (HCh.out _).mono ?_
     rintro e1 w1 ⟨rfl,hk⟩
     have HS5:=hid ((HS.out.keep hk).alloc (.cells (recCells r) 48))
     clear hk
     go_wp2_with fail
     go_roundw
     case rel=>exact ⟨j+1,j+1,l,by go_num,by go_num,HNy,HS5⟩
     case measure=>simp [intOf];omega
   ·have hbz2:(b == 0)=false:=by simpa using hbz
    have HNy:=hid (HSt.out.other hlt (by rw [← HBd.out];exact hbz))
    clear HBd
    go_wp2_with fail
    go_roundw
    case rel=>exact ⟨j+1,f,l,by go_num,rfl,HNy,HS⟩
    case measure=>simp [intOf];omega
  ·have hdj:decide ((j:Int)<(ys.length:Int))=false:=decide_eq_false (by omega)
   have hdj2:decide (j<ys.length)=false:=decide_eq_false hlt
   have HD:=hid (HSt.out.done hlt)
   go_wp2_with fail
   go_ret
   rw [← HD.out]
   exact ⟨_,rfl,HS.out.new⟩
end
section
open Go.RowKit
def OwnP (w:World) (base:Nat) (u:Value) (n:Nat) (xs:List Value):Prop :=
 xs.length=n∧((u=.slice none 0 0∧n=0) ∨ ∃ g cap cur,u=.slice (some ⟨g,0,none⟩) n cap∧base≤g∧w.heap[g]?=some (.cells cur 5 (0,0))∧n≤cap∧cap≤maxLen∧cap≤cur.size∧cur.toList.take n=xs)
theorem OwnP.ofRow {w:World} {base n:Nat} {u:Value} {xs:List Value} (h:w.ownsRow base 5 1 u n xs):OwnP w base u n xs:=by
 obtain ⟨hl,hn|⟨g,cap,cur,rfl,hg,hh,hc1,hc2,hc3,hc4⟩⟩:=h
 ·exact ⟨by omega,.inl hn⟩
 ·exact ⟨by omega,.inr ⟨g,cap,cur,rfl,hg,hh,hc1,hc2,by omega,by rw [Nat.mul_one] at hc4;exact hc4⟩⟩
theorem OwnP.kept {w w':World} {base n:Nat} {u:Value} {xs:List Value} (h:OwnP w base u n xs) (hb:∀ k,u.ownBlock=some k→w'.heap[k]?=w.heap[k]?):OwnP w' base u n xs:=by
 refine ⟨h.1,?_⟩
 rcases h.2 with hn|⟨g,cap,cur,rfl,hg,hh,rest⟩
 ·exact .inl hn
 ·exact .inr ⟨g,cap,cur,rfl,hg,(hb g rfl).trans hh,rest⟩
theorem OwnP.base {w:World} {b1 b2 n:Nat} {u:Value} {xs:List Value} (h:OwnP w b1 u n xs) (hb:b2≤b1):OwnP w b2 u n xs:=by
 refine ⟨h.1,?_⟩
 rcases h.2 with hn|⟨g,cap,cur,rfl,hg,rest⟩
 ·exact .inl hn
 ·exact .inr ⟨g,cap,cur,rfl,Nat.le_trans hb hg,rest⟩
theorem OwnP.lt {w:World} {base n:Nat} {u:Value} {xs:List Value} (h:OwnP w base u n xs) (k:Nat) (hk:u.ownBlock=some k):base≤k∧k<w.heap.size:=by
 rcases h.2 with ⟨rfl,_⟩|⟨g,cap,cur,rfl,hg,hh,rest⟩
 ·simp [Value.ownBlock] at hk
 ·have:g=k:=by simpa [Value.ownBlock] using hk
  subst this
  exact ⟨hg,lt_of_block hh⟩
theorem OwnP.whole {w:World} {base N:Nat} {u:Value} {ys:List Int} (h:OwnP w base u N (ys.map (Value.int .u8))) (hN:N=ys.length) (h0:0<N) :
  ∃ g d cur,u=.slice (some ⟨g,0,none⟩) N d∧N≤d∧d≤9223372036854775807∧base≤g∧Whole w g 5 cur∧∀ i,i<N→cur[i]?=some (.int .u8 (ys.getD i 0)):=by
 obtain ⟨_,⟨rfl,h1⟩|⟨g,cap,cur,rfl,hg,hh,hc1,hc2,hc3,hc4⟩⟩:=h
 ·omega
 ·unfold maxLen at hc2
  refine ⟨g,cap,cur,rfl,hc1,by omega,hg,hh,fun i hi=>?_⟩
  have e:(cur.toList.take N)[i]?=(ys.map (Value.int .u8))[i]?:=by rw [hc4]
  rw [List.getElem?_take,if_pos (by omega)] at e
  rw [← Array.getElem?_toList,e]
  have:i<ys.length:=by omega
  simp [this]
def OwnB (w:World) (ys:List Int) (u:Value) (w':World):Prop:=OwnP w' w.heap.size u ys.length (ys.map (Value.int .u8))
theorem OwnB.read {w w':World} {ys:List Int} {u:Value} (h:OwnB w ys u w'):∃ q d,u=.slice q ys.length d∧ys.length≤d∧d≤9223372036854775807∧Bytes8 w' q ys∧(q=none→ys.length=0∧d=0)∧(∀ a,q=some a→u.ownBlock=some a.block∧a=⟨a.block,0,none⟩):=by
 obtain ⟨_,⟨rfl,h0⟩|⟨g,cap,cur,rfl,hg,hh,hc1,hc2,hc3,hc4⟩⟩:=h
 ·exact ⟨none,0,by rw [h0],by omega,by decide,fun hx=>by omega,fun _=>⟨h0,rfl⟩,fun a ha=>by simp at ha⟩
 ·unfold maxLen at hc2
  refine ⟨_,cap,rfl,hc1,by omega,fun hx=>⟨_,rfl,fun i hi=>?_⟩,fun h=>by simp at h,fun a ha=>by obtain rfl:=Option.some.inj ha;exact ⟨rfl,rfl⟩⟩
  have hw:Whole w' g 5 cur:=hh
  have hcell:cur[i]?=some (.int .u8 (ys.getD i 0)):=by
   have e:(cur.toList.take ys.length)[i]?=(ys.map (Value.int .u8))[i]?:=by rw [hc4]
   rw [List.getElem?_take,if_pos (by omega)] at e
   rw [← Array.getElem?_toList,e]
   simp [hi]
  rw [addZero]
  exact hw.cell i hcell
abbrev BAt:=World→(Nat→Prop)→Value→Nat→Nat→Nat→List Rec→Prop
structure SgBuild (At:BAt):Prop where
 keep:∀ {w w':World} {F S:Nat→Prop} {v:Value} {e s n:Nat} {l:List Rec},At w F v e s n l→Keeps S w w'→(∀ k,F k→¬ S k)→At w' F v e s n l
 old:∀ {w:World} {F:Nat→Prop} {v:Value} {e s n:Nat} {l:List Rec},At w F v e s n l→∀ k,F k→k<w.heap.size
 ptr:∀ {w:World} {F:Nat→Prop} {v:Value} {e s n:Nat} {l:List Rec},At w F v e s n l→∃ g,v=.pointer (some ⟨g,0,none⟩)
def SgSame (At:BAt) (F:Nat→Prop) (w:World) (v:Value) (e s n:Nat) (l:List Rec) (w':World):Prop :=
 Keeps F w w'∧∃ F':Nat→Prop,(∀ k,F' k→F k ∨ w.heap.size≤k)∧At w' F' v e s n l
def SgGives (At:BAt) (F:Nat→Prop) (w:World) (v:Value) (e s n:Nat) (l:List Rec) (ys:List Int) (u:Value) (w':World):Prop :=
 Keeps F w w'∧OwnB w ys u w'∧∃ F':Nat→Prop,(∀ k,F' k→F k ∨ w.heap.size≤k)∧At w' F' v e s n l∧∀ k,F' k→u.ownBlock ≠ some k
def sgRoom (e s n:Nat) (l:List Rec):Rm:=⟨e,s,n,(outS e s n l).length,l.length⟩
def addE (e s n:Nat) (l:List Rec) (r:Rec):Int :=
 if checkR r ≠ 0 then checkR r else if fitsP (emptyP e s (s - 1)) ((recB r).length:Int)=false then 6 else if fitsP (sgRoom e s n l) ((recB r).length:Int)=false then 7 else 0
def addL (e s n:Nat) (l:List Rec) (r:Rec):List Rec:=if addE e s n l r=0 then l ++ [r] else l
def addAt (e s n:Nat) (l:List Rec) (r:Rec):Nat:=if addE e s n l r=0 then (outS e s n l).length else 0
structure SgNewOk (At:BAt):Prop where
 may:∀ (e s n:Nat) (w:World),e<256→s<4294967296→n<4294967296→mayHead e s n=true →
  Calls Tryz.prog 35 #[confV e s,.int .u32 (n:Int)] w fun r w'=>Keeps NoBlock w w'∧∃ F v,r=.returned (.tuple #[v,.int .i64 0])∧At w' F v e s n []∧∀ k,F k→w.heap.size≤k
 not:∀ (e s n:Nat) (w:World),e<256→s<4294967296→n<4294967296→mayHead e s n=false →
  Calls Tryz.prog 35 #[confV e s,.int .u32 (n:Int)] w fun r w'=>r=.returned (.tuple #[.pointer none,.int .i64 1])∧Keeps NoBlock w w'
structure SgAddOk (At:BAt):Prop where
 add:∀ (F:Nat→Prop) (v:Value) (e s n:Nat) (l:List Rec) (r:Rec) (w:World),At w F v e s n l→InRoom (sgRoom e s n l) l→l.length<1000→(∀ x ∈ l,x.Fine∧checkR x=0)→r.Fine→r.key.length≤100000→r.val.length≤100000 →
  Calls Tryz.prog 36 #[v,recV r] w fun x w'=>x=.returned (.tuple #[.int .u32 (addAt e s n l r:Int),.int .i64 (addE e s n l r)])∧SgSame At F w v e s n (addL e s n l r) w'
structure SgOpenOk (At:BAt):Prop where
 open_:∀ (F:Nat→Prop) (v:Value) (e s n:Nat) (l:List Rec) (w:World),At w F v e s n l→InRoom (sgRoom e s n l) l→l.length<1000→(∀ x ∈ l,x.Fine∧checkR x=0) →
  Calls Tryz.prog 37 #[v] w fun x w'=>∃ u,x=.returned u∧SgGives At F w v e s n l (textS e s n l false) u w'
structure SgSealOk (At:BAt):Prop where
 seals:∀ (F:Nat→Prop) (v:Value) (e s n:Nat) (l:List Rec) (w:World),At w F v e s n l→InRoom (sgRoom e s n l) l→l.length<1000→(∀ x ∈ l,x.Fine∧checkR x=0)→0<l.length →
  Calls Tryz.prog 38 #[v] w fun x w'=>∃ u,x=.returned (.tuple #[u,.int .i64 0])∧SgGives At F w v e s n l (textS e s n l true) u w'
 none:∀ (F:Nat→Prop) (v:Value) (e s n:Nat) (w:World),At w F v e s n []→InRoom (sgRoom e s n []) [] →
  Calls Tryz.prog 38 #[v] w fun x w'=>∃ q d,x=.returned (.tuple #[.slice q 0 d,.int .i64 10])∧SgSame At F w v e s n [] w'
def noView:Value:=.agg #[.slice none 0 0,.slice none 0 0,.int .u32 0,.bool false]
def placesS (e s n:Nat) (l:List Rec):List Nat:=(entsS e s n l).map En.at_
def ViewPost (e s n:Nat) (ys:List Int) (w:World) (r:Ending) (w':World):Prop :=
 (mayHead e s n=false∧r=.returned (.tuple #[noView,.int .i64 1])∧Keeps NoBlock w w') ∨
 (mayHead e s n=true∧parseS e s n ys=none∧r=.returned (.tuple #[noView,.int .i64 4])∧Keeps NoBlock w w') ∨
 (mayHead e s n=true∧∃ l b vr va,parseS e s n ys=some (l,b)∧r=.returned (.tuple #[.agg #[vr,va,.int .u32 ((outS e s n l).length:Int),.bool b],.int .i64 0])∧NewRecs w l vr w'∧NewRow32 w (placesS e s n l) va w'∧∀ k,vr.ownBlock=some k ∨ va.ownBlock=some k→w.heap.size≤k)
structure SgParseOk:Prop where
 parse:∀ (e s n:Nat) (p:Option Addr) (N c:Nat) (ys:List Int) (w:World),In8 w p N c ys→N≤100000→N≤2 ^ e→e<256→s<4294967296→n<4294967296 →
  Calls Tryz.prog 31 #[confV e s,.int .u32 (n:Int),.slice p N c] w (ViewPost e s n ys w)
def smallE (k:Nat):Nat:=12+k % 2
def smallS (k:Nat):Nat:=1+k / 2 % 8
set_option maxHeartbeats 1000000 in
theorem small15_go (k:Nat) (hk:k<256) (w:World):Calls Tryz.prog 8 #[.int .u8 (k:Int)] w fun r w'=>r=.returned (confV (smallE k) (smallS k))∧Keeps NoBlock w w':=by
 have e1:(12:Int)+(k:Int) % 2=((12+k % 2:Nat):Int):=by omega
 have e2:(1:Int)+(k:Int) / 2 % 8=((1+k / 2 % 8:Nat):Int):=by omega
 have E1:=hid e1
 have E2:=hid e2
 clear e1 e2
 have HK:=hid ((Keeps.refl NoBlock w).alloc (.cells #[.int .u8 (smallE k:Int),.int .u32 (smallS k:Int)] 27))
 unfold smallE smallS confV at *
 go_enter Tryz.func8,Tryz.ntmps8
 go_wp2_with fail
 rw [E1.out,E2.out]
 exact bodyPost_ret (v:=.agg #[.int .u8 ((12+k % 2:Nat):Int),.int .u32 ((1+k / 2 % 8:Nat):Int)]) (by simp only [results,Tryz.results8];simp [go_sem]) rfl ⟨rfl,HK.out⟩
theorem sgRoom_nil (e s n:Nat):sgRoom e s n []=emptyP e s n:=by
 unfold sgRoom
 rw [outS_nil]
 rfl
theorem sgRoom_empty {e s n:Nat} (h:mayHead e s n=true):InRoom (sgRoom e s n []) []:=by
 rw [sgRoom_nil]
 exact inRoom_empty h
theorem small_room (k:Nat):12≤smallE k∧smallE k≤13∧1≤smallS k∧smallS k≤8:=by
 unfold smallE smallS
 omega
theorem lives_text:(textS 12 1 0 [] false).length=4096∧(textS 12 1 0 [] false).getD 14 0=0∧(textS 12 1 0 [] false).getD 15 0=255∧(textS 12 1 0 [] false).getD 4095 0=255:=by
 have hm:mayHead 12 1 0=true:=by decide
 have hr:=inRoom_empty hm
 have h1:(textS 12 1 0 [] false).length=4096:=text_length hr false (fun h=>by simp at h)
 have hh:(sealN (headB 12 1 0)).length=15:=by
  have:=headLen_eq 12 1 0 (by decide) (by decide)
  unfold headLen at this
  rw [this]
  decide +kernel
 have hd:textS 12 1 0 [] false=sealN (headB 12 1 0) ++ List.replicate (4096 - 15) 255:=by
  unfold textS framesS
  rw [if_neg (by simp),List.append_nil,outS_nil,hh]
 refine ⟨h1,?_,?_,?_⟩
 ·rw [hd,List.getD_eq_getElem?_getD,List.getElem?_append_left (by omega)]
  have:=(seal_nought (headB_octets (e:=12) (s:=1) (n:=0) (by decide)) (i:=14) (by omega)).1
  rw [hh] at this
  rw [← List.getD_eq_getElem?_getD]
  simpa using this
 ·rw [hd,List.getD_eq_getElem?_getD,List.getElem?_append_right (by omega),hh]
  rfl
 ·rw [hd,List.getD_eq_getElem?_getD,List.getElem?_append_right (by omega),hh]
  rw [List.getElem?_replicate]
  rfl
set_option maxHeartbeats 2000000 in
set_option maxRecDepth 10000 in
theorem lives15_true {At:BAt} (HB:SgBuild At) (HNw:SgNewOk At) (HOp:SgOpenOk At) (w:World):Calls Tryz.prog 32 #[] w fun e w'=>e=.returned (.bool true)∧Keeps NoBlock w w':=by
 have hm:mayHead 12 1 0=true:=by decide
 have HN:=hid (fun w=>HNw.may 12 1 0 w (by decide) (by decide) (by decide) hm)
 have HO:=hid (fun F v w h=>HOp.open_ F v 12 1 0 [] w h (sgRoom_empty hm) (by decide) (fun x hx=>by simp at hx))
 have HPt:=hid (fun F v w h=>HB.ptr (w:=w) (F:=F) (v:=v) (e:=12) (s:=1) (n:=0) (l:=[]) h)
 obtain ⟨t1,t2,t3,t4⟩:=lives_text
 obtain ⟨T,hT⟩:∃ T,T=textS 12 1 0 [] false:=⟨_,rfl⟩
 rw [← hT] at HO t1 t2 t3 t4
 clear hT HB HNw HOp hm
 unfold confV at HN
 go_enter Tryz.func32,Tryz.ntmps32
 go_wp2_with fail
 refine (HN.out _).mono ?_
 rintro e1 w1 ⟨hk,F,v,rfl,hat,hF⟩
 have HK:=hid hk
 have HA:=hid hat
 have HF:=hid hF
 obtain ⟨g,rfl⟩:=HPt.out _ _ _ hat
 clear hk hat hF
 go_wp2_with fail
 refine (HO.out _ _ _ HA.out).mono ?_
 rintro e2 w2 ⟨u,rfl,hk,hown,_⟩
 obtain ⟨q,d,rfl,h1,h2,h8,_,hq⟩:=hown.read
 have HK2:=hid (HK.out.then hk (fun k hk9 hf=>by have:=HF.out k hf;omega))
 obtain ⟨a,rfl,hc⟩:=h8 (by omega)
 have c14:=hc 14 (by omega)
 have c15:=hc 15 (by omega)
 have c95:=hc 4095 (by omega)
 rw [t2] at c14
 rw [t3] at c15
 rw [t4] at c95
 obtain ⟨_,ha⟩:=hq a rfl
 rw [ha] at c14 c15 c95 ⊢
 simp only [Addr.add_lit,Nat.zero_add] at c14 c15 c95
 rw [t1]
 rw [t1] at h1
 clear hk hown h8 hc hq ha HO t1 t2 t3 t4
 go_wp2_with fail
 go_ret
 exact ⟨rfl,HK2.out⟩
end
section
open Go.RowKit
def SubF (F' F:Nat→Prop) (w:World):Prop:=∀ k,F' k→F k ∨ w.heap.size≤k
structure BSt (At:BAt) (w0 wr:World) (F:Nat→Prop) (v:Value) (e s n:Nat) (l:List Rec):Prop where
 at_:At wr F v e s n l
 new:∀ k,F k→w0.heap.size≤k
 kept:Keeps NoBlock w0 wr
theorem BSt.keep {At:BAt} (HB:SgBuild At) {w0 wr w':World} {F:Nat→Prop} {v:Value} {e s n:Nat} {l:List Rec} (h:BSt At w0 wr F v e s n l) (hk:Keeps NoBlock wr w'):BSt At w0 w' F v e s n l :=
 ⟨HB.keep h.at_ hk (fun _ _ h=>h),h.new,h.kept.trans hk⟩
theorem BSt.call {At:BAt} {w0 wr w':World} {F:Nat→Prop} {v:Value} {e s n:Nat} {l l2:List Rec} (h:BSt At w0 wr F v e s n l) (hs:SgSame At F wr v e s n l2 w'):Keeps F wr w'∧∃ F',SubF F' F wr∧BSt At w0 w' F' v e s n l2:=by
 obtain ⟨hk,F',h1,h2⟩:=hs
 exact ⟨hk,F',h1,h2,fun k hk'=>(h1 k hk').elim (h.new k) (fun h3=>Nat.le_trans h.kept.size h3),h.kept.then hk (fun k _ hf=>by have:=h.new k hf;omega)⟩
theorem BSt.gives {At:BAt} {w0 wr w':World} {F:Nat→Prop} {v u:Value} {e s n:Nat} {l:List Rec} {ys:List Int} (h:BSt At w0 wr F v e s n l) (hs:SgGives At F wr v e s n l ys u w') :
  Keeps F wr w'∧OwnB wr ys u w'∧∃ F',SubF F' F wr∧BSt At w0 w' F' v e s n l∧∀ k,F' k→u.ownBlock ≠ some k:=by
 obtain ⟨hk,ho,F',h1,h2,h3⟩:=hs
 exact ⟨hk,ho,F',h1,⟨h2,fun k hk'=>(h1 k hk').elim (h.new k) (fun h3=>Nat.le_trans h.kept.size h3),h.kept.then hk (fun k _ hf=>by have:=h.new k hf;omega)⟩,h3⟩
theorem keepsOfGrown {w w':World} {row:Option Nat} (hg:w.grownBy w' row):Keeps (fun k=>row=some k) w w' :=
 (Keeps.refl _ w).grown hg (fun _ hk=>.inl hk)
theorem BSt.grown {At:BAt} (HB:SgBuild At) {w0 wr w':World} {F:Nat→Prop} {v hv:Value} {e s n:Nat} {l:List Rec} (h:BSt At w0 wr F v e s n l) (hg:wr.grownBy w' hv.ownBlock) (hf:∀ k,F k→hv.ownBlock ≠ some k) (hb:∀ k,hv.ownBlock=some k→w0.heap.size≤k):BSt At w0 w' F v e s n l :=
 ⟨HB.keep h.at_ (keepsOfGrown hg) hf,h.new,h.kept.then (keepsOfGrown hg) (fun k _ hr=>by have:=hb k hr;omega)⟩
def OwnR (w0:World) (F:Nat→Prop) (t:TypeId) (size:Nat) (hv:Value) (n:Nat) (xs:List Value) (wr:World):Prop:=wr.ownsRow w0.heap.size t size hv n xs∧∀ k,F k→hv.ownBlock ≠ some k
theorem OwnR.start (w0:World) (F:Nat→Prop) (t:TypeId) (size:Nat) (wr:World):OwnR w0 F t size (.slice none 0 0) 0 [] wr:=⟨World.ownsRow_nil _ _ _ _,fun k _ h=>by simp [Value.ownBlock] at h⟩
theorem ownBlocks {w w':World} {base size n:Nat} {t:TypeId} {v:Value} {xs:List Value} (h:w.ownsRow base t size v n xs) (hb:∀ k,v.ownBlock=some k→w'.heap[k]?=w.heap[k]?):w'.ownsRow base t size v n xs:=by
 refine ⟨h.1,?_⟩
 rcases h.2 with hn|⟨g,cap,cur,rfl,hg,hh,rest⟩
 ·exact .inl hn
 ·exact .inr ⟨g,cap,cur,rfl,hg,(hb g rfl).trans hh,rest⟩
theorem OwnR.keep {w0 wr w':World} {F:Nat→Prop} {t:TypeId} {size n:Nat} {hv:Value} {xs:List Value} (h:OwnR w0 F t size hv n xs wr) (hk:Keeps NoBlock wr w'):OwnR w0 F t size hv n xs w' :=
 ⟨ownBlocks h.1 (fun k hk'=>hk.block k (h.1.lt k hk').2 (fun h=>h)),h.2⟩
theorem OwnR.call {w0 wr w':World} {F F':Nat→Prop} {t:TypeId} {size n:Nat} {hv:Value} {xs:List Value} (h:OwnR w0 F t size hv n xs wr) (hk:Keeps F wr w') (hs:SubF F' F wr):OwnR w0 F' t size hv n xs w' :=
 ⟨ownBlocks h.1 (fun k hk'=>hk.block k (h.1.lt k hk').2 (fun hf=>h.2 k hf hk')),fun k hf he=>(hs k hf).elim (fun h1=>h.2 k h1 he) (fun h1=>by have:=(h.1.lt k he).2;omega)⟩
theorem OwnR.grown {w0 wr w':World} {F:Nat→Prop} {t:TypeId} {size n:Nat} {hv ov:Value} {xs:List Value} (h:OwnR w0 F t size hv n xs wr) (hg:wr.grownBy w' ov.ownBlock) (ho:∀ k,hv.ownBlock=some k→ov.ownBlock ≠ some k):OwnR w0 F t size hv n xs w' :=
 ⟨ownBlocks h.1 (fun k hk'=>hg.block k (h.1.lt k hk').2 (fun e=>ho k hk' e.symm)),h.2⟩
theorem OwnR.added {w0 wr w':World} {F:Nat→Prop} {t:TypeId} {size n m g cap:Nat} {hv:Value} {xs xs':List Value} (h:OwnR w0 F t size hv n xs wr) (hF:∀ k,F k→k<wr.heap.size) (hr:w'.ownsRow w0.heap.size t size (.slice (some ⟨g,0,none⟩) m cap) m xs') (hg:hv.ownBlock=some g ∨ g=wr.heap.size) :
  OwnR w0 F t size (.slice (some ⟨g,0,none⟩) m cap) m xs' w' :=
 ⟨hr,fun k hf e=>by
  have e':g=k:=by simpa [Value.ownBlock] using e
  subst e'
  rcases hg with h1|h1
  ·exact h.2 _ hf h1
  ·have:=hF _ hf;omega⟩
theorem OwnR.from_ {w0 wr:World} {F:Nat→Prop} {t:TypeId} {size n:Nat} {hv:Value} {xs:List Value} (h:OwnR w0 F t size hv n xs wr):∀ k,hv.ownBlock=some k→w0.heap.size≤k:=fun k hk=>(h.1.lt k hk).1
def OwnG (w0:World) (F:Nat→Prop) (hv:Value) (n:Nat) (xs:List Value) (wr:World):Prop:=OwnP wr w0.heap.size hv n xs∧∀ k,F k→hv.ownBlock ≠ some k
theorem OwnG.keep {w0 wr w':World} {F:Nat→Prop} {n:Nat} {hv:Value} {xs:List Value} (h:OwnG w0 F hv n xs wr) (hk:Keeps NoBlock wr w'):OwnG w0 F hv n xs w' :=
 ⟨h.1.kept (fun k hk'=>hk.block k (h.1.lt k hk').2 (fun h=>h)),h.2⟩
theorem OwnG.call {w0 wr w':World} {F F':Nat→Prop} {n:Nat} {hv:Value} {xs:List Value} (h:OwnG w0 F hv n xs wr) (hk:Keeps F wr w') (hs:SubF F' F wr):OwnG w0 F' hv n xs w' :=
 ⟨h.1.kept (fun k hk'=>hk.block k (h.1.lt k hk').2 (fun hf=>h.2 k hf hk')),fun k hf he=>(hs k hf).elim (fun h1=>h.2 k h1 he) (fun h1=>by have:=(h.1.lt k he).2;omega)⟩
theorem OwnG.given {w0 wr w':World} {F':Nat→Prop} {u:Value} {ys:List Int} (h:OwnB wr ys u w') (hk:w0.heap.size≤wr.heap.size) (hf:∀ k,F' k→u.ownBlock ≠ some k):OwnG w0 F' u ys.length (ys.map (Value.int .u8)) w':=⟨h.base hk,hf⟩
theorem rows_apart {w:World} {b1 b2 s1 s2 n1 n2:Nat} {t1 t2:TypeId} {v1 v2:Value} {x1 x2:List Value} (ht:t1 ≠ t2) (h1:w.ownsRow b1 t1 s1 v1 n1 x1) (h2:w.ownsRow b2 t2 s2 v2 n2 x2):∀ k,v1.ownBlock=some k→v2.ownBlock ≠ some k:=fun k e1 e2=>by
 rcases h1.2 with ⟨rfl,_⟩|⟨g,cap,cur,rfl,_,hh,_⟩
 ·simp [Value.ownBlock] at e1
 ·rcases h2.2 with ⟨rfl,_⟩|⟨g',cap',cur',rfl,_,hh',_⟩
  ·simp [Value.ownBlock] at e2
  ·have a1:g=k:=by simpa [Value.ownBlock] using e1
   have a2:g'=k:=by simpa [Value.ownBlock] using e2
   subst a1
   subst a2
   rw [hh] at hh'
   simp at hh'
   exact ht hh'.2
theorem addL_none {e s n:Nat} {l:List Rec} {r:Rec} (h:addE e s n l r ≠ 0):addL e s n l r=l:=by unfold addL;rw [if_neg h]
theorem addL_some {e s n:Nat} {l:List Rec} {r:Rec} (h:addE e s n l r=0):addL e s n l r=l ++ [r]:=by unfold addL;rw [if_pos h]
theorem addE_zero {e s n:Nat} {l:List Rec} {r:Rec} (h:addE e s n l r=0):checkR r=0∧fitsP (sgRoom e s n l) ((recB r).length:Int)=true:=by
 unfold addE at h
 split at h
 ·rename_i h1
  exact absurd h h1
 ·rename_i h1
  split at h
  ·simp at h
  ·split at h
   ·simp at h
   ·rename_i h2 h3
    exact ⟨by simpa using h1,by simpa using h3⟩
theorem sgRoom_take (e s n:Nat) (l:List Rec) (r:Rec):sgRoom e s n (l ++ [r])=takeP (sgRoom e s n l) ((recB r).length:Int):=by
 unfold sgRoom takeP
 rw [outS_snoc,List.length_append,List.length_append,Int.toNat_natCast]
 rfl
structure AccOk (e s n:Nat) (m:Nat) (l:List Rec):Prop where
 room:InRoom (sgRoom e s n l) l
 fine:∀ x ∈ l,x.Fine∧checkR x=0
 few:l.length≤m
theorem AccOk.start {e s n:Nat} (h:mayHead e s n=true):AccOk e s n 0 []:=⟨sgRoom_empty h,fun x hx=>by simp at hx,Nat.le_refl _⟩
theorem AccOk.step {e s n m:Nat} {l:List Rec} (h:AccOk e s n m l) (hm:m<10000) {r:Rec} (hr:r.Fine):AccOk e s n (m+1) (addL e s n l r):=by
 by_cases h0:addE e s n l r=0
 ·rw [addL_some h0]
  obtain ⟨h1,h2⟩:=addE_zero h0
  have hf:=h.few
  refine ⟨by rw [sgRoom_take];exact inRoom_take h.room h2 (by show l.length<10000;omega),fun x hx=>?_,by rw [List.length_append];simp;omega⟩
  rcases List.mem_append.1 hx with hx|hx
  ·exact h.fine x hx
  ·obtain rfl:=List.mem_singleton.1 hx
   exact ⟨hr,h1⟩
 ·rw [addL_none h0]
  exact ⟨h.room,h.fine,by have:=h.few;omega⟩
theorem places_snoc (e s n:Nat) (l:List Rec) (r:Rec):placesS e s n (l ++ [r])=placesS e s n l ++ [(outS e s n l).length]:=by
 unfold placesS
 rw [entsS_snoc,List.map_append]
 rfl
end
end Go.Proofs.YtehkjkcnigknkaaGreat

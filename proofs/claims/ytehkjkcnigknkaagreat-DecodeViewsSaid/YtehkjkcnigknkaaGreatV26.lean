/-
  ImOwnNum; RowV; ImBuild; FenByIn; BufK; FenOwn.
-/
import Derived.Lib.Hide
import Derived.Test.YtehkjkcnigknkaaGreatV02
import Derived.Test.YtehkjkcnigknkaaGreatV03
import Derived.Test.YtehkjkcnigknkaaGreatV05
import Derived.Test.YtehkjkcnigknkaaGreatV06
import Derived.Test.YtehkjkcnigknkaaGreatV09
import Derived.Test.YtehkjkcnigknkaaGreatV10
import Derived.Test.YtehkjkcnigknkaaGreatV16
import Derived.Test.YtehkjkcnigknkaaGreatV17
import Derived.Test.YtehkjkcnigknkaaGreatV18
import Derived.Test.YtehkjkcnigknkaaGreatV19
import Derived.Test.YtehkjkcnigknkaaGreatV20
import Derived.Test.YtehkjkcnigknkaaGreatV23
namespace Go.Proofs.YtehkjkcnigknkaaGreat
open Lib (hid)
section
def segL (l:List Rec) (x:Nat × Nat):List Rec:=(l.drop x.1).take x.2
theorem segL_one {l:List Rec} {j:Nat} (h:j<l.length):segL l (j,1)=[l.getD j Rec.none]:=by
 unfold segL
 show (l.drop j).take 1=_
 rw [List.drop_eq_getElem_cons h,List.take_succ_cons,List.take_zero]
 simp [h]
theorem segL_more {l:List Rec} {f j:Nat} (hf:f≤j) (h:j<l.length):segL l (f,j+1 - f)=segL l (f,j - f) ++ [l.getD j Rec.none]:=by
 unfold segL
 show (l.drop f).take (j+1 - f)=(l.drop f).take (j - f) ++ _
 rw [show j+1 - f=(j - f)+1 by omega,List.take_succ_eq_append_getElem (by rw [List.length_drop];omega),List.getElem_drop]
 simp [show f+(j - f)=j by omega,h]
theorem segL_length {l:List Rec} {x:Nat × Nat} (h:x.1+x.2≤l.length):(segL l x).length=x.2:=by
 unfold segL
 rw [List.length_take,List.length_drop]
 omega
theorem segL_at {l:List Rec} {x:Nat × Nat} {i:Nat} (hi:i<x.2):(segL l x).getD i Rec.none=l.getD (x.1+i) Rec.none:=by
 unfold segL
 rw [List.getD_eq_getElem?_getD,List.getElem?_take,if_pos hi,List.getElem?_drop,← List.getD_eq_getElem?_getD]
theorem segL_mem {l:List Rec} {x:Nat × Nat} {r:Rec} (h:r ∈ segL l x):r ∈ l:=List.mem_of_mem_drop (List.mem_of_mem_take h)
structure Spans (l:List Rec) (ks:List Nat) (j f:Nat) (sp:List (Nat × Nat)):Prop where
 le:f≤j
 most:j≤l.length
 parts:partsTo l ks j=sp.map (segL l) ++ (if f=j then [] else [segL l (f,j - f)])
 inn:∀ x ∈ sp,x.1+x.2≤l.length
 few:sp.length≤j
 next:j<l.length→ks.getD j 0=sp.length
 last:j=l.length→f=j
theorem spans_start {l:List Rec} {ks:List Nat} (h:l.length=ks.length) (hst:Steps 0 ks):Spans l ks 0 0 [] where
 le:=Nat.le_refl _
 most:=Nat.zero_le _
 parts:=by simp [partsTo,partsGo]
 inn:=fun x hx=>by simp at hx
 few:=Nat.le_refl _
 next:=fun hl=>by
  have:=steps_at ks l [] 0 hst h (by omega)
  simp [partsGo] at this
  simpa using this
 last:=fun _=>rfl
theorem Spans.grown {l:List Rec} {ks:List Nat} {j f:Nat} {sp:List (Nat × Nat)} (h:Spans l ks j f sp) (hl:l.length=ks.length) (hj:j<l.length):partsTo l ks (j+1)=sp.map (segL l) ++ [segL l (f,j+1 - f)]:=by
 rw [partsTo_step hl hj,h.parts,h.next hj]
 have hle:=h.le
 by_cases hf:f=j
 ·subst hf
  rw [if_pos rfl,List.append_nil,show f+1 - f=1 by omega,segL_one hj]
  have:=putPart_next (sp.map (segL l)) (l.getD f Rec.none)
  rw [List.length_map] at this
  exact this
 ·rw [if_neg hf,segL_more h.le hj]
  have:=putPart_last (sp.map (segL l)) (segL l (f,j - f)) (l.getD j Rec.none)
  rw [List.length_map] at this
  exact this
theorem Spans.flush {l:List Rec} {ks:List Nat} {j f:Nat} {sp:List (Nat × Nat)} (h:Spans l ks j f sp) (hl:l.length=ks.length) (hst:Steps 0 ks) (hj:j<l.length) (hx:j+1=l.length ∨ ks.getD (j+1) 0 ≠ ks.getD j 0):Spans l ks (j+1) (j+1) (sp ++ [(f,j+1 - f)]) where
 le:=Nat.le_refl _
 most:=hj
 parts:=by rw [h.grown hl hj,if_pos rfl,List.append_nil,List.map_append];rfl
 inn:=fun x hm=>by
  rcases List.mem_append.1 hm with hm|hm
  ·exact h.inn x hm
  ·rw [List.mem_singleton.1 hm]
   have:=h.le
   show f+(j+1 - f)≤_
   omega
 few:=by
  have:=h.few
  rw [List.length_append,List.length_singleton]
  omega
 next:=fun hj1=>by
  have h1:=steps_at ks l [] (j+1) hst hl (by omega)
  change ks.getD (j+1) 0=(partsTo l ks (j+1)).length ∨ ks.getD (j+1) 0+1=(partsTo l ks (j+1)).length at h1
  rw [h.grown hl hj,List.length_append,List.length_map,List.length_singleton] at h1
  have h2:=h.next hj
  rw [List.length_append,List.length_singleton]
  rcases hx with hx|hx
  ·omega
  ·omega
 last:=fun _=>rfl
theorem Spans.go {l:List Rec} {ks:List Nat} {j f:Nat} {sp:List (Nat × Nat)} (h:Spans l ks j f sp) (hl:l.length=ks.length) (hj:j+1<l.length) (hx:ks.getD (j+1) 0=ks.getD j 0):Spans l ks (j+1) f sp where
 le:=by have:=h.le;omega
 most:=by omega
 parts:=by rw [h.grown hl (by omega),if_neg (by have:=h.le;omega)]
 inn:=h.inn
 few:=by have:=h.few;omega
 next:=fun _=>by rw [hx];exact h.next (by omega)
 last:=fun e=>by omega
theorem Spans.all {l:List Rec} {ks:List Nat} {f:Nat} {sp:List (Nat × Nat)} (h:Spans l ks l.length f sp) (hl:l.length=ks.length):partsGo [] l ks=sp.map (segL l):=by
 have:=h.parts
 rw [if_pos (h.last rfl),List.append_nil] at this
 unfold partsTo at this
 rwa [List.take_of_length_le (Nat.le_refl _),List.take_of_length_le (by omega)] at this
theorem outS_take_le (e s n:Nat) (l:List Rec) (k:Nat):(outS e s n (l.take k)).length≤(outS e s n l).length:=by
 have h:outS e s n l=outS e s n (l.take k) ++ recsB (l.drop k):=by
  unfold outS
  rw [List.append_assoc]
  congr 1
  unfold recsB
  rw [← List.flatMap_append,List.take_append_drop]
 rw [h,List.length_append]
 omega
theorem room_is {r:Rm} {l:List Rec} (h:InRoom r l):r=sgRoom r.e r.s r.num l:=by
 obtain ⟨e,s,n,u,c⟩:=r
 have h1:=h.used
 have h2:=h.count
 simp only at h1 h2
 unfold sgRoom
 rw [h1,h2]
theorem PartIn.fits {e s i:Nat} {p:List Rec} (h:PartIn e s i p) {k:Nat} (hk:k<p.length):fitsP (sgRoom e s i (p.take k)) ((recB (p.getD k Rec.none)).length:Int)=true:=by
 obtain ⟨r,h1,rfl,rfl,rfl⟩:=h.room
 refine fitsP_true.2 ⟨by have:=recB_pos (p.getD k Rec.none);omega,?_⟩
 have h2:=h1.real.room (by rw [h1.count];omega)
 have h3:=outS_take_le r.e r.s r.num p (k+1)
 rw [List.take_succ_eq_append_getElem hk,outS_snoc,List.length_append] at h3
 have h4:p[k]=p.getD k Rec.none:=by simp [hk]
 rw [h4,← h1.used] at h3
 have h5:mostFt ((p.take k).length+1)≤mostFt r.count:=mostFt_le (by rw [List.length_take,h1.count];omega)
 show (((outS r.e r.s r.num (p.take k)).length:Nat):Int)+_+(mostFt ((p.take k).length+1):Int)≤((2 ^ r.e:Nat):Int)
 obtain ⟨q,hq⟩:∃ q,q=2 ^ r.e:=⟨_,rfl⟩
 rw [← hq] at h2 ⊢
 omega
theorem PartIn.rooms {e s i:Nat} {p:List Rec} (h:PartIn e s i p) (hf:p.length≤10000):∀ k,k≤p.length→InRoom (sgRoom e s i (p.take k)) (p.take k)
 | 0,_=>by
  obtain ⟨r,h1,rfl,rfl,rfl⟩:=h.room
  rw [List.take_zero]
  exact sgRoom_empty h1.real.may
 | k+1,hk=>by
  have h1:=inRoom_take (h.rooms hf k (by omega)) (h.fits (k:=k) (by omega)) (by show (p.take k).length<10000;rw [List.length_take];omega)
  have h2:p.take (k+1)=p.take k ++ [p.getD k Rec.none]:=by
   rw [List.take_succ_eq_append_getElem (by omega)]
   simp [show k<p.length by omega]
  rw [h2]
  have h3:=room_is h1
  have h4:sgRoom e s i (p.take k ++ [p.getD k Rec.none])=takeP (sgRoom e s i (p.take k)) ((recB (p.getD k Rec.none)).length:Int):=h3.symm
  rw [h4]
  exact h1
theorem foldP_fits {e s:Nat}:∀ (zs:List Int) (st:PSt),(zs.foldl (stepP e s) st).y=0→∀ z ∈ zs,fitsP (emptyP e s (s - 1)) z=true
 | [],_,_,z,hz=>by simp at hz
 | a :: zs,st,h,z,hz=>by
  rw [List.foldl_cons] at h
  rcases List.mem_cons.1 hz with rfl|hz
  ·have hy:(stepP e s st z).y=0:=by
    by_cases hq:(stepP e s st z).y=0
    ·exact hq
    ·rw [foldP_gone _ hq] at h;exact h
   unfold stepP at hy
   split at hy
   ·rename_i h1;exact absurd hy h1
   ·split at hy
    ·rename_i h2;exact h2
    ·exact absurd hy (by decide)
  ·exact foldP_fits zs _ h z hz
theorem plan_tells {e s:Nat} {l:List Rec} (h:(planI e s l).1=0):∀ r ∈ l,checkR r=0∧fitsP (emptyP e s (s - 1)) ((recB r).length:Int)=true:=by
 unfold planI at h
 split at h
 ·rename_i hm
  split at h
  ·rename_i hr;exact absurd h hr
  ·rename_i hr
   have hy:(runP e s (sizesR l)).y=0:=by
    unfold planP at h
    rw [if_pos hm] at h
    exact h
   intro r hr'
   refine ⟨?_,foldP_fits _ _ hy _ (List.mem_map_of_mem hr')⟩
   have h0:risingR l=0:=by omega
   unfold risingR at h0
   by_cases hb:firstBad l=0
   ·exact firstBad_zero.1 hb r hr'
   ·simp [hb] at h0
 ·exact absurd h (by decide)
theorem part_add {e s i:Nat} {p:List Rec} (h:PartIn e s i p) (hc:∀ r ∈ p,checkR r=0∧fitsP (emptyP e s (s - 1)) ((recB r).length:Int)=true) {k:Nat} (hk:k<p.length):addE e s i (p.take k) (p.getD k Rec.none)=0:=by
 obtain ⟨h1,h2⟩:=hc (p.getD k Rec.none) (by simp [hk])
 unfold addE
 rw [if_neg (by rw [h1];simp),if_neg (by rw [h2];simp),if_neg (by rw [h.fits hk];simp)]
end
section
open Go.RowKit
def RowV (t:TypeId) (w:World) (g d:Nat) (f:Nat→Value):Prop :=
 ∃ cur,Whole w g t cur∧cur.size=d∧∀ i,i<d→cur[i]?=some (f i)
theorem RowV.lt {t:TypeId} {w:World} {g d:Nat} {f:Nat→Value} (h:RowV t w g d f):g<w.heap.size:=by
 obtain ⟨cur,hw,_⟩:=h
 exact hw.lt
theorem RowV.cell {t:TypeId} {w:World} {g d:Nat} {f:Nat→Value} (h:RowV t w g d f) {i:Nat} (hi:i<d):w.cell? ⟨g,i,none⟩=some (f i):=by
 obtain ⟨cur,hw,_,hc⟩:=h
 exact hw.cell _ (hc i hi)
theorem RowV.free {t:TypeId} {w:World} {g d:Nat} {f:Nat→Value} (h:RowV t w g d f) (i:Nat):w.frozen? ⟨g,i,none⟩=false:=by
 obtain ⟨cur,hw,_⟩:=h
 exact hw.free i
theorem RowV.keep {t:TypeId} {w w':World} {g d:Nat} {f:Nat→Value} (h:RowV t w g d f) {S:Nat→Prop} (hk:Keeps S w w') (hs:¬ S g):RowV t w' g d f:=by
 obtain ⟨cur,hw,h1⟩:=h
 exact ⟨cur,hw.keep hk hs,h1⟩
theorem RowV.congr {t:TypeId} {w:World} {g d:Nat} {f f':Nat→Value} (h:RowV t w g d f) (he:∀ i,i<d→f i=f' i):RowV t w g d f':=by
 obtain ⟨cur,hw,h1,h3⟩:=h
 exact ⟨cur,hw,h1,fun i hi=>by rw [← he i hi];exact h3 i hi⟩
theorem RowV.put {t:TypeId} {w:World} {g d:Nat} {f:Nat→Value} (h:RowV t w g d f) {k:Nat} (hk:k<d) (x:Value) :
  RowV t (w.setCell ⟨g,k,none⟩ x) g d (fun i=>if i=k then x else f i):=by
 obtain ⟨cur,hw,h1,h3⟩:=h
 refine ⟨_,hw.set _ _,by simpa using h1,fun i hi=>?_⟩
 dsimp only
 by_cases e:i=k
 ·subst e
  rw [if_pos rfl,Array.getElem?_setIfInBounds_self_of_lt (by omega)]
 ·rw [if_neg e,Array.getElem?_setIfInBounds_ne (by omega)]
  exact h3 i hi
theorem RowV.ofOwn {t:TypeId} {w:World} {base g n size:Nat} {xs:List Value} (h:w.ownsRow base t size (.slice (some ⟨g,0,none⟩) n n) n xs):RowV t w g (n*size) (fun i=>xs.getD i (.bool false)):=by
 rcases h with ⟨hl,⟨h0,_⟩|⟨g',cap,cur,hv,hb,hg,h1,h2,h3,h4⟩⟩
 ·simp at h0
 ·simp only [Value.slice.injEq,Option.some.injEq,Addr.mk.injEq,and_true,true_and] at hv
  obtain ⟨rfl,rfl⟩:=hv
  have e:cur.toList=xs:=by
   rw [← h4,List.take_of_length_le (by rw [Array.length_toList];omega)]
  refine ⟨cur,hg,by omega,fun i hi=>?_⟩
  rw [← Array.getElem?_toList,← e]
  show cur.toList[i]?=some (cur.toList.getD i (.bool false))
  have hl:i<cur.toList.length:=by rw [Array.length_toList];omega
  rw [List.getD_eq_getElem?_getD,List.getElem?_eq_getElem hl]
  rfl
end
section
open Go.RowKit
def placeF (e s i:Nat) (q:List Rec) (j y:Nat):Value :=
 if y<j*2 then (if y % 2=0 then .int .u32 (i:Int) else .int .u32 (((outS e s i (q.take (y / 2))).length:Nat):Int)) else .int .u32 0
theorem placeF_step (e s i:Nat) (q:List Rec) (j y:Nat):(if y=j*2+1 then Value.int .u32 (((outS e s i (q.take j)).length:Nat):Int) else if y=j*2 then .int .u32 (i:Int) else placeF e s i q j y)=placeF e s i q (j+1) y:=by
 unfold placeF
 by_cases h1:y=j*2+1
 ·subst h1
  rw [if_pos rfl,if_pos (by omega),if_neg (by omega),show (j*2+1) / 2=j by omega]
 ·rw [if_neg h1]
  by_cases h2:y=j*2
  ·rw [if_pos h2,if_pos (show y<(j+1)*2 by omega),if_pos (show y % 2=0 by omega)]
  ·rw [if_neg h2]
   by_cases h3:y<j*2
   ·rw [if_pos h3,if_pos (show y<(j+1)*2 by omega)]
   ·rw [if_neg h3,if_neg (show ¬ y<(j+1)*2 by omega)]
theorem placeF_made (e s i n:Nat) (q:List Rec):∀ y,y<n*2→((madeCells #[Value.int .u32 0,Value.int .u32 0] (n*2)).toList).getD y (.bool false)=placeF e s i q 0 y:=fun y hy=>by
 unfold placeF
 rw [if_neg (by omega)]
 have h:y % 2=0 ∨ y % 2=1:=by omega
 rcases h with h|h <;> simp [madeCells,hy,h]
theorem takeR_succ {q:List Rec} {j:Nat} (h:j<q.length):q.take (j+1)=q.take j ++ [q.getD j Rec.none]:=by
 rw [List.take_succ_eq_append_getElem h]
 simp [h]
theorem infoPl:(Tryz.prog.info? 91).map (fun i=>(i.zero,i.size,i.bytes))=some (some (.agg #[.int .u32 0,.int .u32 0]),2,8):=by kernel_rfl
set_option maxHeartbeats 8000000 in
set_option maxRecDepth 10000 in
theorem imbuild_own {At:BAt} (HB:SgBuild At) (HNw:SgNewOk At) (HAd:SgAddOk At) (e s i:Nat) (p:Option Addr) (n c:Nat) (q:List Rec) (w:World) (hq:InR w p n c q) (hp:PartIn e s i q) (hn9:n≤1000) (hc:∀ r ∈ q,checkR r=0∧fitsP (emptyP e s (s - 1)) ((recB r).length:Int)=true) :
  Calls Tryz.prog 19 #[confV e s,.int .u32 (i:Int),.slice p n c] w fun r w'=>∃ F v u,r=.returned (.tuple #[v,u,.int .i64 0])∧Keeps NoBlock w w'∧At w' F v e s i q∧(∀ k,F k→w.heap.size≤k)∧NewTwos p32A p32B (0,0) w ((placesS e s i q).map (fun a=>(i,a))) u w':=by
 obtain ⟨r0,hr0,hre,hrs,hri⟩:=hp.room
 have hmay:mayHead e s i=true:=by have:=hr0.real.may;rwa [hre,hrs,hri] at this
 have hmm:=mayHead_true.1 hmay
 have hsi:i<s:=hmm.2.2.2.2
 have hs16:s≤65536:=hmm.2.2.2.1
 have he24:e≤24:=hmm.2.1
 have HNew:=hid (fun w=>HNw.may e s i w (by omega) (by omega) (by omega) hmay)
 have hnq:=hq.len
 have HAdd:=hid (fun j (hj:j<q.length) F v w (h:At w F v e s i (q.take j))=>HAd.add F v e s i (q.take j) (q.getD j Rec.none) w h (hp.rooms (by omega) j (by omega)) (by rw [List.length_take];omega) (fun x hx=>⟨hq.fine x (List.mem_of_mem_take hx),(hc x (List.mem_of_mem_take hx)).1⟩) (hq.fine _ (getR_mem hj)) (hq.key _ (getR_mem hj)) (hq.val _ (getR_mem hj)))
 have HE:=hid (fun j (hj:j<q.length)=>(show addE e s i (q.take j) (q.getD j Rec.none)=0∧addL e s i (q.take j) (q.getD j Rec.none)=q.take (j+1)∧addAt e s i (q.take j) (q.getD j Rec.none)=(outS e s i (q.take j)).length from by
  have h:=part_add hp hc hj
  exact ⟨h,by unfold addL;rw [if_pos h,takeR_succ hj],by unfold addAt;rw [if_pos h]⟩))
 have HPa:=hid (fun k (hk:k<q.length)=>places_at (e:=e) (s:=s) (n:=i) (l:=q) hk)
 have HPl:=hid (places_length e s i q)
 have HI:=hid hq
 have HPt:=hid (fun F v w l (h:At w F v e s i l)=>HB.ptr h)
 have HOl:=hid (fun F v w l (h:At w F v e s i l)=>HB.old h)
 have HKp:=hid (fun F v w w' l (h:At w F v e s i l) (hk:Keeps NoBlock w w')=>HB.keep h hk (fun _ _ h=>h))
 have HKs:=hid (fun F v w w' g l (h:At w F v e s i l) (hg:¬ F g) (hk:Keeps (Just g) w w')=>HB.keep h hk (fun k hf hj=>hg (by rw [← show k=g from hj];exact hf)))
 have HK:=hid ((Keeps.refl NoBlock w).alloc (.cells (confCells e s) 27))
 obtain ⟨i0,hi,hz0,hz1,hz2⟩:=info_parts infoPl
 have HN:=hid hnq
 clear HB HNw HAd hq hp hc hr0 hre hrs hri hmay hmm hsi hs16 he24 hnq
 unfold confV at HNew ⊢
 go_enter Tryz.func19,Tryz.ntmps19
 go_wp2_with fail
 refine (HNew.out _).mono ?_
 rintro e9 w1 ⟨hk,F0,v,rfl,hat,hF⟩
 have hK1:=HK.out.trans hk
 have HF0:=hid (show ∀ k,F0 k→w.heap.size≤k from fun k hf=>Nat.le_trans HK.out.size (hF k hf))
 obtain ⟨gb,rfl⟩:=HPt.out _ _ _ _ hat
 have HK1:=hid hK1
 have HA1:=hid hat
 clear hk hat hF hK1 HK HNew
 go_wp2_with (at_make;refine wpList_make_full _ rfl _ _ 61 rfl w1.heap.size 91 i0 (.agg #[.int .u32 0,.int .u32 0]) 2 Tryz.underlying61 hi hz0 hz1 .i64 .i64 (n:Int) (n:Int) n rfl rfl rfl rfl (by rw [hz2];omega) (by unfold maxLen;omega) (Nat.le_refl _) ?_)
 intro w3 hown hgrow
 have hR0:=(RowV.ofOwn hown).congr (placeF_made e s i n q)
 have hk3:Keeps NoBlock w1 w3:=(Keeps.refl NoBlock w1).grown hgrow (fun k hk=>by simp at hk)
 have HA3:=hid (HKp.out _ _ _ _ _ HA1.out hk3)
 obtain ⟨g,hgd⟩:∃ g,g=w1.heap.size:=⟨_,rfl⟩
 have HFg:=hid (show ∀ k,F0 k→w.heap.size≤k∧k ≠ g from fun k hf=>⟨HF0.out k hf,by have:=HOl.out _ _ _ _ HA1.out k hf;omega⟩)
 have HG:=hid (show w.heap.size≤g by have:=HK1.out.size;omega)
 have HK3:=hid (HK1.out.trans hk3)
 rw [← hgd] at hR0 ⊢
 have HR:=hid hR0
 clear hown hgrow hR0 hk3 hgd HA1 HK1 HF0
 go_wp2_with fail
 go_loopw [30] (fun x wr=>∃ (j:Nat) (F:Nat→Prop),j≤n∧x=.int .i64 (j:Int)∧Hid (At wr F (.pointer (some ⟨gb,0,none⟩)) e s i (q.take j))∧Hid (∀ k,F k→w.heap.size≤k∧k ≠ g)∧Hid (RowV 91 wr g (n*2) (placeF e s i q j))∧Hid (Keeps NoBlock w wr)) (fun x _=>n - (intOf x).toNat)
 case atStart=>exact ⟨0,F0,Nat.zero_le _,rfl,HA3,HFg,HR,HK3⟩
 case round =>
  clear HA3 HFg HR HK3
  obtain ⟨j,F,hj,rfl,HA,HFg,HR,HK⟩:=hrel
  by_cases hlt:j<n
  ·have hdj:decide ((j:Int)<(n:Int))=true:=decide_eq_true (by omega)
   have hdj2:decide (j<n)=true:=decide_eq_true hlt
   have hjn:(j:Int)<(n:Int):=by omega
   have hjl:j<q.length:=by rw [← HN.out];exact hlt
   obtain ⟨a,rfl,c0,c1,c2,c3⟩:=(HI.out.at_.keep HK.out (fun _ _ h=>h)) j hjl
   obtain ⟨hE0,hL,hAt⟩:=HE.out j hjl
   have HAd:=hid (fun w h=>HAdd.out j hjl F (.pointer (some ⟨gb,0,none⟩)) w h)
   have HSt:=hid (fun y=>placeF_step e s i q j y)
   rw [hE0,hL,hAt] at HAd
   obtain ⟨r,hr⟩:∃ r,r=q.getD j Rec.none:=⟨_,rfl⟩
   rw [← hr] at c0 c1 c2 c3 HAd
   obtain ⟨Z,hZ⟩:∃ Z,Z=(outS e s i (q.take j)).length:=⟨_,rfl⟩
   rw [← hZ] at HSt HAd
   have hkA:=(Keeps.refl NoBlock wr).alloc (.cells #[.bool r.del,.int .u64 (r.seq:Int),.string (strOfNums r.key),.string (strOfNums r.val)] 48)
   have HKA:=hid hkA
   have HA4:=hid (HKp.out _ _ _ _ _ HA.out hkA)
   unfold recV at HAd
   clear hr hjl hE0 hL hAt hZ hkA
   go_wp2_with fail
   refine (HAd.out _ HA4.out).mono ?_
   rintro e9 w5 ⟨rfl,hk,F',hF',hat⟩
   have hRk:RowV 91 w5 g (n*2) (placeF e s i q j):=(HR.out.keep HKA.out (fun h=>h)).keep hk (fun hf=>(HFg.out g hf).2 rfl)
   have HR5:=hid hRk
   have HK5:=hid ((HK.out.trans HKA.out).then hk (fun k hk1 hf=>by have:=(HFg.out k hf).1;omega))
   have HF5:=hid (show ∀ k,F' k→w.heap.size≤k∧k ≠ g from fun k hf=>by
    rcases hF' k hf with h|h
    ·exact HFg.out k h
    ·have h1:=HR.out.lt
     have h2:=HKA.out.size
     have h3:=HK.out.size
     exact ⟨by omega,by omega⟩)
   have hSet:Keeps (Just g) w5 ((w5.setCell ⟨g,j*2,none⟩ (.int .u32 (i:Int))).setCell ⟨g,j*2+1,none⟩ (.int .u32 (Z:Int))):=((Keeps.refl _ _).setIn (Just.self g) _ _).setIn (Just.self g) _ _
   have HAn:=hid (HKs.out _ _ _ _ g _ hat (fun hf=>(HF5.out g hf).2 rfl) hSet)
   have x0:=hRk.cell (show j*2<n*2 by omega)
   have x1:=hRk.cell (show j*2+1<n*2 by omega)
   have f0:=hRk.free (j*2)
   have f1:=hRk.free (j*2+1)
   have HRn:=hid (((hRk.put (show j*2<n*2 by omega) (.int .u32 (i:Int))).put (show j*2+1<n*2 by omega) (.int .u32 (Z:Int))).congr (fun y _=>HSt.out y))
   have HKn:=hid ((HK5.out.setNew (g:=g) HG.out (j*2) (.int .u32 (i:Int))).setNew (g:=g) HG.out (j*2+1) (.int .u32 (Z:Int)))
   clear hk hF' hat hRk hSet HAd HKA HA4 c0 c1 c2 c3
   go_wp2_with fail
   go_roundw
   case rel=>exact ⟨j+1,F',by omega,by go_num,HAn,HF5,HRn,HKn⟩
   case measure=>simp [intOf];omega
  ·have hdj:decide ((j:Int)<(n:Int))=false:=decide_eq_false (by omega)
   have hdj2:decide (j<n)=false:=decide_eq_false hlt
   obtain rfl:j=n:=by omega
   have HAe:=hid (show At wr F (.pointer (some ⟨gb,0,none⟩)) e s i q by have:=HA.out;rwa [List.take_of_length_le (by have:=HN.out;omega)] at this)
   have HNt:Hid (NewTwos p32A p32B (0,0) w ((placesS e s i q).map (fun a=>(i,a))) (.slice (some ⟨g,0,none⟩) j j) wr):=hid ⟨_,_,_,rfl,by rw [List.length_map,HPl.out];exact HN.out,Nat.le_refl _,by omega,fun h=>by simp at h,fun k hk=>by
    rw [List.length_map,HPl.out] at hk
    have h1:=HPa.out k hk
    have h2:((placesS e s i q).map (fun a=>(i,a))).getD k (0,0)=(i,(outS e s i (q.take k)).length):=by
     rw [← h1,List.getD_eq_getElem?_getD,List.getElem?_map,List.getElem?_eq_getElem (by rw [HPl.out];exact hk)]
     simp [show k<(placesS e s i q).length by rw [HPl.out];exact hk]
    have h3:=HR.out.cell (show k*2<j*2 by have:=HN.out;omega)
    have h4:=HR.out.cell (show k*2+1<j*2 by have:=HN.out;omega)
    unfold placeF at h3 h4
    rw [if_pos (by have:=HN.out;omega),if_pos (by omega)] at h3
    rw [if_pos (by have:=HN.out;omega),if_neg (by omega),show (k*2+1) / 2=k by omega] at h4
    refine ⟨_,rfl,?_,?_⟩
    ·rw [addZero,h2]
     exact h3
    ·rw [addZero,h2]
     exact h4,HK.out⟩
   clear HA HR
   go_wp2_with fail
   refine bodyPost_ret (v:=.tuple #[.pointer (some ⟨gb,0,none⟩),.slice (some ⟨g,0,none⟩) j j,.int .i64 0]) (by simp [results,Tryz.results19,go_sem]) rfl ?_
   exact ⟨F,_,_,rfl,HK.out,HAe.out,fun k hf=>(HFg.out k hf).1,HNt.out⟩
set_option maxHeartbeats 2000000 in
set_option maxRecDepth 10000 in
theorem imwhole_own {At:BAt} (HB:SgBuild At) (HOp:SgOpenOk At) (HSl:SgSealOk At) (F:Nat→Prop) (v:Value) (e s i:Nat) (q:List Rec) (b:Bool) (w:World) (h:At w F v e s i q) (hp:PartIn e s i q) (h9:q.length<1000) (hq:∀ r ∈ q,r.Fine∧checkR r=0) :
  Calls Tryz.prog 20 #[v,.bool b] w fun r w'=>∃ u,r=.returned (.tuple #[u,.int .i64 0])∧SgGives At F w v e s i q (textS e s i q (!b)) u w':=by
 have hr:=hp.rooms (by omega) q.length (Nat.le_refl _)
 rw [List.take_of_length_le (Nat.le_refl _)] at hr
 have H1:=hid (HOp.open_ F v e s i q w h hr h9 hq)
 have H2:=hid (HSl.seals F v e s i q w h hr h9 hq hp.full)
 obtain ⟨gb,rfl⟩:=HB.ptr h
 clear HB HOp HSl h hp h9 hq hr
 cases b with
 | true =>
  rw [show (!true)=false from rfl]
  go_enter Tryz.func20,Tryz.ntmps20
  go_wp2_with fail
  refine H1.out.mono ?_
  rintro e9 w1 ⟨u,rfl,hg⟩
  have HG:=hid hg
  clear hg
  go_wp2_with fail
  exact bodyPost_ret (results_tmp2 rfl _ _ _) rfl ⟨_,rfl,HG.out⟩
 | false =>
  rw [show (!false)=true from rfl]
  go_enter Tryz.func20,Tryz.ntmps20
  go_wp2_with fail
  refine H2.out.mono ?_
  rintro e9 w1 ⟨u,rfl,hg⟩
  have HG:=hid hg
  clear hg
  go_wp2_with fail
  exact bodyPost_ret (results_tmp2 rfl _ _ _) rfl ⟨_,rfl,HG.out⟩
end
section
open Go.RowKit
end
section
open Go.RowKit
def InLoopK (base g:Nat) (xs:List Int) (x:Int) (w:World) (k:Nat) (wr:World):Prop:=BufAt wr base g (xs ++ digits x k)∧Keeps (OnBuf base g) w wr
set_option maxHeartbeats 800000 in
theorem bufNumberK (base g:Nat) (xs:List Int) (x:Int) (n:Nat) (z:Int) (hz:z=n) (w:World) (h:BufAt w base g xs) (hs:base≤w.heap.size) (hx:xs.length+n≤140737488355328) (hn:n≤8) (_x0:0≤x) (x1:x<18446744073709551616) :
  Calls Tryz.prog 133 #[.pointer (some ⟨g,0,none⟩),.int .u64 x,.int .i64 z] w (BufOkK base g (xs ++ digits x n) w):=by
 subst hz
 have H:=hid h;have HX:=hid hx;have HX1:=hid x1
 clear h hx x1
 go_enter Tryz.func133,Tryz.ntmps133
 go_wp2_with fail
 go_loopw [9] (fun i wr=>∃ k:Nat,k≤n∧i=.int .i64 k∧InLoopK base g xs x w k wr) (fun i _=>n - (intOf i).toNat)
 case atStart=>exact ⟨0,Nat.zero_le _,rfl,by simpa [digits] using H.out,Keeps.refl _ _⟩
 case round =>
  obtain ⟨k,hk,rfl,hin⟩:=hrel
  have HI:=hid hin
  clear hin
  by_cases hlt:k<n
  ·go_wp2_with fail
   refine (bufByteK base g (xs ++ digits x k) _ _ HI.out.1 (by have:=HI.out.2.size;omega) (by have:=HX.out;simp [digits_length];omega)).mono ?_
   rintro e w2 ⟨rfl,hbuf,hbel⟩
   have HB:=hid hbuf;have HL:=hid (HI.out.2.trans hbel)
   clear hbuf hbel
   go_wp2_with fail
   go_roundw
   case rel =>
    refine ⟨k+1,by omega,by go_num,?_,HL.out⟩
    have:=HB.out
    rw [List.append_assoc] at this
    exact this
   case measure=>simp [intOf];omega
  ·go_wp2_with fail
   go_ret
   obtain rfl:k=n:=by omega
   exact ⟨rfl,HI.out.1,HI.out.2⟩
theorem bufFourK (base g:Nat) (xs:List Int) (x:Int) (w:World) (h:BufAt w base g xs) (hs:base≤w.heap.size) (hx:xs.length+4≤140737488355328) (x0:0≤x) (x1:x<4294967296) :
  Calls Tryz.prog 121 #[.pointer (some ⟨g,0,none⟩),.int .u32 x] w (BufOkK base g (xs ++ digits x 4) w):=by
 have H:=hid h
 clear h
 go_enter Tryz.func121,Tryz.ntmps121
 go_wp2_with fail
 refine (bufNumberK base g xs _ 4 _ (by rfl) _ H.out hs hx (by omega) (by omega) (by omega)).mono ?_
 rintro e w2 ⟨rfl,hbuf,hbel⟩
 have HB:=hid hbuf;have HL:=hid hbel
 clear hbuf hbel
 go_wp2_with fail
 go_ret
 exact ⟨rfl,HB.out,HL.out⟩
end
section
open Go.RowKit
set_option maxHeartbeats 1000000 in
theorem fcount_own (n:Int) (w:World) (h0:-1000000000≤n) (h1:n≤1000000000) :
  Calls Tryz.prog 155 #[.int .i64 n] w fun e w'=>e=.returned (.int .i64 (countF n:Int))∧Keeps NoBlock w w':=by
 by_cases hz:n≤0
 ·have hd:decide (n≤0)=true:=decide_eq_true hz
  have e:countF n=0:=by unfold countF;omega
  rw [e]
  clear e
  go_enter Tryz.func155,Tryz.ntmps155
  go_wp2_with fail
  go_ret
  exact ⟨rfl,Keeps.refl _ _⟩
 ·obtain ⟨m,rfl⟩:∃ m:Nat,n=(m:Int)+1:=⟨n.toNat - 1,by omega⟩
  have hd:decide ((m:Int)+1≤0)=false:=decide_eq_false hz
  have e:countF ((m:Int)+1)=m / 16+1:=by unfold countF;omega
  have hq:((m:Int)).tdiv 16=((m / 16:Nat):Int):=by rw [Int.tdiv_eq_ediv_of_nonneg (by omega)];omega
  have hq2:(m:Int) / 16=((m / 16:Nat):Int):=by omega
  obtain ⟨k,hk⟩:∃ k,k=m / 16:=⟨_,rfl⟩
  rw [← hk] at hq hq2 e
  have hk9:k≤1000000000:=by omega
  rw [e]
  have hs:(m:Int)+1 - 1=(m:Int):=by omega
  clear hk e
  go_enter Tryz.func155,Tryz.ntmps155
  go_wp2_with fail
  go_ret
  exact ⟨by go_num,Keeps.refl _ _⟩
theorem textF_takeO {l:List Nat} {j:Nat} (hj:j<l.length):textF (l.take (j+1))=textF (l.take j) ++ digits ((l.getD j 0:Nat):Int) 8:=by
 have e:l.take (j+1)=l.take j ++ [l.getD j 0]:=by rw [List.take_succ_eq_append_getElem hj];simp [hj]
 rw [e,textF_snoc]
end
end Go.Proofs.YtehkjkcnigknkaaGreat

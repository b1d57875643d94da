/-
  SgAdd; SgAddW; SgAddOk; SgAddAll; SgSeal; ImAll.
-/
import Derived.Deep.AppendLies
import Derived.Deep.RegionHeld3
import Derived.Lib.Hide
import Derived.Test.YtehkjkcnigknkaaGreatV22
import Derived.Test.YtehkjkcnigknkaaGreatV32
import Derived.Test.YtehkjkcnigknkaaGreatV33
import Derived.Test.YtehkjkcnigknkaaGreatV34
import Derived.Test.YtehkjkcnigknkaaGreatV41
namespace Go.Proofs.YtehkjkcnigknkaaGreat
open Lib (hid)
section
open Go.RowKit
structure AddSt (w0 w:World) (F:Nat→Prop) (g:Nat) (f p:Value) (e s n u k:Nat) (xs:List Int) (es:List En):Prop where
 cells:Whole w g 126 (bCells e s n u k f p)
 frames:w.ownsRow 0 5 1 f xs.length (xs.map (Value.int .u8))
 places:w.ownsRow 0 129 2 p es.length (twoFlat enH enA es)
 mine:∀ j,bF g f p j→F j ∨ w0.heap.size≤j
 kept:Keeps F w0 w
theorem AddSt.start {w:World} {g:Nat} {f p:Value} {e s n:Nat} {l:List Rec} (h:BuildAt w g f p e s n l):AddSt w w (bF g f p) g f p e s n (outS e s n l).length l.length (outS e s n l) (entsS e s n l) :=
 ⟨h.cells,h.frames,by rw [ents_len];exact h.places,fun _ hj=>.inl hj,Keeps.refl _ _⟩
theorem row_not {w:World} {b size n g:Nat} {t t':TypeId} {v:Value} {xs:List Value} {cs:Array Value} (h:w.ownsRow b t size v n xs) (hw:Whole w g t' cs) (ht:t ≠ t'):v.ownBlock ≠ some g:=fun hv=>by
 rcases h.2 with ⟨rfl,_⟩|⟨g',cap,cur,rfl,_,hh,_⟩
 ·simp [Value.ownBlock] at hv
 ·have e:g'=g:=by simpa [Value.ownBlock] using hv
  subst e
  exact ht (Whole.unique (show Whole w g' t cur from hh) hw).1
theorem AddSt.notF {w0 w:World} {F:Nat→Prop} {g e s n u k:Nat} {f p:Value} {xs:List Int} {es:List En} (h:AddSt w0 w F g f p e s n u k xs es):f.ownBlock ≠ some g:=row_not h.frames h.cells (by decide)
theorem AddSt.notP {w0 w:World} {F:Nat→Prop} {g e s n u k:Nat} {f p:Value} {xs:List Int} {es:List En} (h:AddSt w0 w F g f p e s n u k xs es):p.ownBlock ≠ some g:=row_not h.places h.cells (by decide)
theorem AddSt.apart {w0 w:World} {F:Nat→Prop} {g e s n u k:Nat} {f p:Value} {xs:List Int} {es:List En} (h:AddSt w0 w F g f p e s n u k xs es):∀ j,f.ownBlock=some j→p.ownBlock ≠ some j:=rows_apart (by decide) h.frames h.places
theorem AddSt.keep {w0 w w':World} {F:Nat→Prop} {g e s n u k:Nat} {f p:Value} {xs:List Int} {es:List En} (h:AddSt w0 w F g f p e s n u k xs es) (hk:Keeps NoBlock w w'):AddSt w0 w' F g f p e s n u k xs es :=
 ⟨h.cells.keep hk (fun h=>h),ownBlocks h.frames (fun j hj=>hk.block j (h.frames.lt j hj).2 (fun h=>h)),ownBlocks h.places (fun j hj=>hk.block j (h.places.lt j hj).2 (fun h=>h)),h.mine,h.kept.then hk (fun _ _ h=>h.elim)⟩
theorem set_far {w:World} {g i j:Nat} {v:Value} (hj:j ≠ g):(w.setCell ⟨g,i,none⟩ v).heap[j]?=w.heap[j]?:=Below.heap_setCell w ⟨g,i,none⟩ v j hj
theorem AddSt.room {w0 w:World} {F:Nat→Prop} {g e s n u k:Nat} {f p:Value} {xs:List Int} {es:List En} (h:AddSt w0 w F g f p e s n u k xs es) (u' k':Nat) :
  AddSt w0 (((((w.setCell ⟨g,0,none⟩ (.int .u8 (e:Int))).setCell ⟨g,1,none⟩ (.int .u32 (s:Int))).setCell ⟨g,2,none⟩ (.int .u32 (n:Int))).setCell ⟨g,3,none⟩ (.int .i64 (u':Int))).setCell ⟨g,4,none⟩ (.int .i64 (k':Int))) F g f p e s n u' k' xs es:=by
 have hg:=h.mine g (.inl rfl)
 refine ⟨((((h.cells.set 0 _).set 1 _).set 2 _).set 3 _).set 4 _,ownBlocks h.frames (fun j hj=>?_),ownBlocks h.places (fun j hj=>?_),h.mine,((((h.kept.set hg _).set hg _).set hg _).set hg _).set hg _⟩
 ·have hne:j ≠ g:=fun e=>h.notF (e ▸ hj)
  rw [set_far hne,set_far hne,set_far hne,set_far hne,set_far hne]
 ·have hne:j ≠ g:=fun e=>h.notP (e ▸ hj)
  rw [set_far hne,set_far hne,set_far hne,set_far hne,set_far hne]
theorem AddSt.frame {w0 w w':World} {F:Nat→Prop} {g e s n u k g1 N cap:Nat} {f p:Value} {xs ys:List Int} {es:List En} (h:AddSt w0 w F g f p e s n u k xs es)
  (hr:w'.ownsRow 0 5 1 (.slice (some ⟨g1,0,none⟩) N cap) N (xs.map (Value.int .u8) ++ ys.map (Value.int .u8))) (hg:w.grownBy w' f.ownBlock) (hl:f.ownBlock=some g1 ∨ g1=w.heap.size) :
  AddSt w0 (w'.setCell ⟨g,5,none⟩ (.slice (some ⟨g1,0,none⟩) N cap)) F g (.slice (some ⟨g1,0,none⟩) N cap) p e s n u k (xs ++ ys) es:=by
 have hlt:=h.cells.lt
 have hN:N=(xs ++ ys).length:=by have:=hr.1;simp at this;rw [List.length_append];omega
 have hgg:g1 ≠ g:=fun e=>by
  rcases hl with hl|hl
  ·exact h.notF (e ▸ hl)
  ·omega
 have hc:Whole w' g 126 (bCells e s n u k f p):=(hg.block g hlt (fun e=>h.notF e.symm)).trans h.cells
 refine ⟨hc.set 5 _,?_,ownBlocks h.places (fun j hj=>?_),fun j hj=>?_,(h.kept.grown hg (fun j hj=>h.mine j (.inr (.inl hj)))).set (h.mine g (.inl rfl)) _⟩
 ·rw [List.map_append,← hN]
  exact ownBlocks hr (fun j hj=>set_far (fun e=>by
   have:g1=j:=by simpa [Value.ownBlock] using hj
   omega))
 ·have hne:j ≠ g:=fun e=>h.notP (e ▸ hj)
  rw [set_far hne]
  exact hg.block j (h.places.lt j hj).2 (fun e=>h.apart j e.symm hj)
 ·rcases hj with hj|hj|hj
  ·exact h.mine j (.inl hj)
  ·have hj1:g1=j:=by simpa [Value.ownBlock] using hj
   subst hj1
   rcases hl with hl|hl
   ·exact h.mine _ (.inr (.inl hl))
   ·have:=h.kept.size
    exact .inr (by omega)
  ·exact h.mine j (.inr (.inr hj))
theorem AddSt.place {w0 w w':World} {F:Nat→Prop} {g e s n u k g1 N cap:Nat} {f p:Value} {xs:List Int} {es:List En} {x:En} (h:AddSt w0 w F g f p e s n u k xs es)
  (hr:w'.ownsRow 0 129 2 (.slice (some ⟨g1,0,none⟩) N cap) N (twoFlat enH enA es ++ [enH x,enA x])) (hg:w.grownBy w' p.ownBlock) (hl:p.ownBlock=some g1 ∨ g1=w.heap.size) :
  AddSt w0 (w'.setCell ⟨g,6,none⟩ (.slice (some ⟨g1,0,none⟩) N cap)) F g f (.slice (some ⟨g1,0,none⟩) N cap) e s n u k xs (es ++ [x]):=by
 have hlt:=h.cells.lt
 have hN:N=(es ++ [x]).length:=by
  have:=hr.1
  rw [List.length_append,twoFlat_length] at this
  simp only [List.length_cons,List.length_nil] at this
  rw [List.length_append]
  simp only [List.length_cons,List.length_nil]
  omega
 have hgg:g1 ≠ g:=fun e=>by
  rcases hl with hl|hl
  ·exact h.notP (e ▸ hl)
  ·omega
 have hc:Whole w' g 126 (bCells e s n u k f p):=(hg.block g hlt (fun e=>h.notP e.symm)).trans h.cells
 refine ⟨hc.set 6 _,ownBlocks h.frames (fun j hj=>?_),?_,fun j hj=>?_,(h.kept.grown hg (fun j hj=>h.mine j (.inr (.inr hj)))).set (h.mine g (.inl rfl)) _⟩
 ·have hne:j ≠ g:=fun e=>h.notF (e ▸ hj)
  rw [set_far hne]
  exact hg.block j (h.frames.lt j hj).2 (fun e=>h.apart j hj e.symm)
 ·rw [twoFlat_append,← hN]
  exact ownBlocks hr (fun j hj=>set_far (fun e=>by
   have:g1=j:=by simpa [Value.ownBlock] using hj
   omega))
 ·rcases hj with hj|hj|hj
  ·exact h.mine j (.inl hj)
  ·exact h.mine j (.inr (.inl hj))
  ·have hj1:g1=j:=by simpa [Value.ownBlock] using hj
   subst hj1
   rcases hl with hl|hl
   ·exact h.mine _ (.inr (.inr hl))
   ·have:=h.kept.size
    exact .inr (by omega)
theorem AddSt.done {w w':World} {F:Nat→Prop} {g e s n:Nat} {f p:Value} {xs:List Int} {es:List En} {l:List Rec} {v:Value} (h:AddSt w w' F g f p e s n xs.length l.length xs es) (hv:v=.pointer (some ⟨g,0,none⟩)) (hx:xs=outS e s n l) (he:es=entsS e s n l):SgSame SgAt F w v e s n l w':=by
 subst hx he hv
 refine ⟨h.kept,bF g f p,h.mine,g,f,p,rfl,rfl,h.cells,h.frames,?_⟩
 have:=h.places
 rwa [ents_len] at this
theorem bytes_not {w:World} {g:Nat} {t:TypeId} {cs:Array Value} {p:Option Addr} {ys:List Int} (h8:Bytes8 w p ys) (hw:Whole w g t cs) (hl:cs.size<ys.length) (h2:2≤ys.length):∀ a,p=some a→a.block ≠ g:=fun a ha e=>by
 obtain ⟨a',ha',hc⟩:=h8 (by omega)
 obtain rfl:=Option.some.inj (ha.symm.trans ha')
 have h1:=hc (ys.length - 1) (by omega)
 have h3:a.add (ys.length - 1)=⟨g,a.off+(ys.length - 1),none⟩:=by unfold Addr.add;rw [if_neg (by omega),e]
 rw [h3] at h1
 unfold World.cell? at h1
 simp only [show w.heap[g]?=_ from hw] at h1
 have:cs[a.off+(ys.length - 1)]?=none:=Array.getElem?_eq_none (by omega)
 simp [this] at h1
theorem AddSt.grown {w0 w w':World} {F:Nat→Prop} {g e s n u k:Nat} {f p:Value} {xs:List Int} {es:List En} {row:Option Nat} (h:AddSt w0 w F g f p e s n u k xs es) (hg:w.grownBy w' row) (hr:row ≠ some g) :
  Whole w' g 126 (bCells e s n u k f p):=(hg.block g h.cells.lt (fun e=>hr e.symm)).trans h.cells
theorem AddSt.lower {w0 w1 w:World} {F:Nat→Prop} {g e s n u k:Nat} {f p:Value} {xs:List Int} {es:List En} (h:AddSt w1 w F g f p e s n u k xs es) (hk:Keeps NoBlock w0 w1):AddSt w0 w F g f p e s n u k xs es :=
 ⟨h.cells,h.frames,h.places,fun j hj=>(h.mine j hj).elim .inl (fun h1=>.inr (Nat.le_trans hk.size h1)),(hk.wider (fun _ _ h=>h.elim)).trans h.kept⟩
end
section
open Go.RowKit
set_option maxHeartbeats 4000000 in
set_option maxRecDepth 10000 in
theorem sgadd_bad (F:Nat→Prop) (v:Value) (e s n:Nat) (l:List Rec) (r:Rec) (w:World) (h:SgAt w F v e s n l) (hr:r.Little) (hc:checkR r ≠ 0) :
  Calls Tryz.prog 36 #[v,recV r] w fun x w'=>x=.returned (.tuple #[.int .u32 0,.int .i64 (checkR r)])∧SgSame SgAt F w v e s n l w':=by
 have HS:=hid (fun w' hk=>sg_same (w:=w) (w':=w') h hk)
 have HP:=hid (fun w=>putrec_own r w hr)
 have HW:=hid (Whole.new w 48 (recCells r))
 have HK0:=hid ((Keeps.refl NoBlock w).alloc (.cells (recCells r) 48))
 obtain ⟨y,hy⟩:∃ y,y=checkR r:=⟨_,rfl⟩
 rw [← hy] at HP hc ⊢
 obtain ⟨ys,hys⟩:∃ ys,ys=putR r:=⟨_,rfl⟩
 rw [← hys] at HP
 clear hy hys h hr
 obtain ⟨c0,c1,c2,c3⟩:=RecAt.ofWhole HW.out
 obtain ⟨del,seq,key,val⟩:=r
 unfold recV at *
 unfold recCells at HW HK0 c0 c1 c2 c3
 simp only at HP HW HK0 c0 c1 c2 c3 ⊢
 go_enter Tryz.func36,Tryz.ntmps36
 go_wp2_with fail
 refine (HP.out _).mono ?_
 rintro x w1 ⟨v1,rfl,q1,m1,d1,rfl,hm1,hmd1,hd1,hq1,hb1,hk⟩
 have HN:=hid (HS.out w1 (HK0.out.trans hk))
 clear hm1 hmd1 hd1 hq1 hb1 hk c0 c1 c2 c3
 go_wp2_with fail
 refine bodyPost_ret (results_tmp2 rfl _ _ _) rfl ?_
 exact ⟨rfl,HN.out⟩
set_option maxHeartbeats 4000000 in
set_option maxRecDepth 10000 in
theorem sgadd_large (F:Nat→Prop) (v:Value) (e s n:Nat) (l:List Rec) (r:Rec) (w:World) (h:SgAt w F v e s n l) (he:e<256) (hs:s<4294967296) (hr:r.Little) (hc:checkR r=0) (hl:largeP e s ((recB r).length:Int)=true) :
  Calls Tryz.prog 36 #[v,recV r] w fun x w'=>x=.returned (.tuple #[.int .u32 0,.int .i64 6])∧SgSame SgAt F w v e s n l w':=by
 obtain ⟨g,f,p,rfl,rfl,hb⟩:=h
 have HS:=hid (fun w' hk=>sg_same (w:=w) (w':=w') ⟨g,f,p,rfl,rfl,hb⟩ hk)
 have HC:=hid hb.cells
 have HP:=hid (fun w=>putrec_own r w hr)
 have HL:=hid (fun w=>large_own e s ((recB r).length:Int) w he hs)
 rw [hl] at HL
 rw [hc,show putR r=recB r by unfold putR;rw [if_pos hc];rfl] at HP
 have HW:=hid (Whole.new w 48 (recCells r))
 have HK0:=hid ((Keeps.refl NoBlock w).alloc (.cells (recCells r) 48))
 obtain ⟨T,hT⟩:∃ T,T=recB r:=⟨_,rfl⟩
 rw [← hT] at HP HL
 obtain ⟨u,hu⟩:∃ u,u=(outS e s n l).length:=⟨_,rfl⟩
 obtain ⟨k,hk⟩:∃ k,k=l.length:=⟨_,rfl⟩
 rw [← hu,← hk] at HC
 have hlt:=HC.out.lt
 clear hT hu hk hb hr hc hl he hs
 obtain ⟨c0,c1,c2,c3⟩:=RecAt.ofWhole HW.out
 obtain ⟨del,seq,key,val⟩:=r
 unfold recV confV at *
 unfold recCells at HW HK0 c0 c1 c2 c3
 simp only at HP HW HK0 c0 c1 c2 c3 ⊢
 go_enter Tryz.func36,Tryz.ntmps36
 go_wp2_with fail
 refine (HP.out _).mono ?_
 rintro x w1 ⟨v1,rfl,q1,m1,d1,rfl,rfl,hmd1,hd1,hq1,hb1,hk⟩
 have HK1:=hid (HK0.out.trans hk)
 obtain ⟨b0,b1,-,-,-,-,-⟩:=bcells_at (HC.out.keep HK1.out (fun h=>h))
 clear hmd1 hd1 hq1 hb1 hk c0 c1 c2 c3
 go_wp2_with fail
 refine (HL.out _).mono ?_
 rintro x w2 ⟨rfl,hk⟩
 have HN:=hid (HS.out w2 (HK1.out.trans hk))
 clear hk b0 b1
 go_wp2_with fail
 refine bodyPost_ret (results_tmp2 rfl _ _ _) rfl ?_
 exact ⟨rfl,HN.out⟩
set_option maxHeartbeats 4000000 in
set_option maxRecDepth 10000 in
theorem sgadd_full (F:Nat→Prop) (v:Value) (e s n:Nat) (l:List Rec) (r:Rec) (w:World) (h:SgAt w F v e s n l) (he:e<256) (hs:s<4294967296) (hr:r.Little) (hc:checkR r=0) (hl:largeP e s ((recB r).length:Int)=false)
  (hre:(sgRoom e s n l).Real) (h9:l.length<10000) (hft:fitsP (sgRoom e s n l) ((recB r).length:Int)=false) :
  Calls Tryz.prog 36 #[v,recV r] w fun x w'=>x=.returned (.tuple #[.int .u32 0,.int .i64 7])∧SgSame SgAt F w v e s n l w':=by
 obtain ⟨g,f,p,rfl,rfl,hb⟩:=h
 have HS:=hid (fun w' hk=>sg_same (w:=w) (w':=w') ⟨g,f,p,rfl,rfl,hb⟩ hk)
 have HC:=hid hb.cells
 have HP:=hid (fun w=>putrec_own r w hr)
 have HL:=hid (fun w=>large_own e s ((recB r).length:Int) w he hs)
 have HT:=hid (fun w=>take_own (sgRoom e s n l) ((recB r).length:Int) w hre h9)
 rw [if_neg (by rw [hft];simp),if_neg (by rw [hft];simp),show roomV (sgRoom e s n l)=.agg #[.int .u8 (e:Int),.int .u32 (s:Int),.int .u32 (n:Int),.int .i64 ((outS e s n l).length:Int),.int .i64 (l.length:Int)] from rfl,show roomV Rm.none=.agg #[.int .u8 0,.int .u32 0,.int .u32 0,.int .i64 0,.int .i64 0] from rfl] at HT
 rw [hl] at HL
 rw [hc,show putR r=recB r by unfold putR;rw [if_pos hc];rfl] at HP
 have HW:=hid (Whole.new w 48 (recCells r))
 have HK0:=hid ((Keeps.refl NoBlock w).alloc (.cells (recCells r) 48))
 obtain ⟨T,hT⟩:∃ T,T=recB r:=⟨_,rfl⟩
 rw [← hT] at HP HL HT
 obtain ⟨u,hu⟩:∃ u,u=(outS e s n l).length:=⟨_,rfl⟩
 obtain ⟨k,hk⟩:∃ k,k=l.length:=⟨_,rfl⟩
 rw [← hu,← hk] at HC HT
 have hlt:=HC.out.lt
 clear hT hu hk hb hr hc hl he hs hre h9 hft
 obtain ⟨c0,c1,c2,c3⟩:=RecAt.ofWhole HW.out
 obtain ⟨del,seq,key,val⟩:=r
 unfold recV confV at *
 unfold recCells at HW HK0 c0 c1 c2 c3
 simp only at HP HW HK0 c0 c1 c2 c3 ⊢
 go_enter Tryz.func36,Tryz.ntmps36
 go_wp2_with fail
 refine (HP.out _).mono ?_
 rintro x w1 ⟨v1,rfl,q1,m1,d1,rfl,rfl,hmd1,hd1,hq1,hb1,hk⟩
 have HK1:=hid (HK0.out.trans hk)
 obtain ⟨b0,b1,-,-,-,-,-⟩:=bcells_at (HC.out.keep HK1.out (fun h=>h))
 clear hmd1 hd1 hq1 hb1 hk c0 c1 c2 c3
 go_wp2_with fail
 refine (HL.out _).mono ?_
 rintro x w2 ⟨rfl,hk⟩
 have HK2:=hid (HK1.out.trans hk)
 clear hk b0 b1
 obtain ⟨b0,b1,b2,b3,b4,-,-⟩:=bcells_at (HC.out.keep HK2.out (fun h=>h))
 go_wp2_with fail
 refine (HT.out _).mono ?_
 rintro x w3 ⟨rfl,hk⟩
 have HN:=hid (HS.out _ ((HK2.out.trans hk).alloc (.cells #[.int .u8 0,.int .u32 0,.int .u32 0,.int .i64 0,.int .i64 0] 121)))
 clear hk b0 b1 b2 b3 b4
 go_wp2_with fail
 refine bodyPost_ret (results_tmp2 rfl _ _ _) rfl ?_
 exact ⟨rfl,HN.out⟩
end
section
open Go.RowKit
set_option maxHeartbeats 8000000 in
set_option maxRecDepth 10000 in
theorem sgadd_good (F:Nat→Prop) (v:Value) (e s n:Nat) (l:List Rec) (r:Rec) (w:World) (h:SgAt w F v e s n l) (he:e<256) (hs:s<4294967296) (hr:r.Little) (hc:checkR r=0) (hl:largeP e s ((recB r).length:Int)=false)
  (hre:(sgRoom e s n l).Real) (h9:l.length<1000) (hft:fitsP (sgRoom e s n l) ((recB r).length:Int)=true) :
  Calls Tryz.prog 36 #[v,recV r] w fun x w'=>x=.returned (.tuple #[.int .u32 ((outS e s n l).length:Int),.int .i64 0])∧SgSame SgAt F w v e s n (l ++ [r]) w':=by
 obtain ⟨i0,hi,hz0,hz1,hz2⟩:=info_parts infoByte
 obtain ⟨j0,hj,hy0,hy1,hy2⟩:=info_parts infoEnL
 obtain ⟨g,f,p,rfl,rfl,hb⟩:=h
 have hK0:=(Keeps.refl NoBlock w).alloc (.cells (recCells r) 48)
 have hb1:=hb.keep hK0 (fun _ _ h=>h)
 have HA0:=hid (AddSt.start hb1)
 have HOld:=hid hb.old
 have HP:=hid (fun w=>putrec_own r w hr)
 have HL:=hid (fun w=>large_own e s ((recB r).length:Int) w he hs)
 have HT:=hid (fun w=>take_own (sgRoom e s n l) ((recB r).length:Int) w hre (by show l.length<10000;omega))
 have HPl:=hid (fun w=>place_own r (outS e s n l).length w hr.fine.key (by have:=hr.key;omega))
 have hsm:=hre.small
 have hz9:(recB r).length≤16777216:=by
  have hf:=hft
  unfold fitsP at hf
  rw [Bool.and_eq_true] at hf
  have hf2:=of_decide_eq_true hf.2
  have:=(two_e (mayHead_true.1 hre.may).2.1).2
  omega
 have hu9:(outS e s n l).length≤16777216:=hsm.2.1
 rw [if_pos hft,if_pos hft,show roomV (sgRoom e s n l)=.agg #[.int .u8 (e:Int),.int .u32 (s:Int),.int .u32 (n:Int),.int .i64 ((outS e s n l).length:Int),.int .i64 (l.length:Int)] from rfl,show roomV (takeP (sgRoom e s n l) ((recB r).length:Int))=.agg #[.int .u8 (e:Int),.int .u32 (s:Int),.int .u32 (n:Int),.int .i64 (((outS e s n l).length+(recB r).length:Nat):Int),.int .i64 ((l.length+1:Nat):Int)] from rfl] at HT
 rw [hl] at HL
 rw [hc,show putR r=recB r by unfold putR;rw [if_pos hc];rfl] at HP
 have HXs:=hid (outS_snoc e s n l r)
 have HEs:=hid (ents_snoc e s n l r)
 obtain ⟨gf,d,rfl,hd1,hd2,_⟩:=hb.read
 have hTp:=recB_least hr.fine
 have hK0':=hK0
 have hW0:=Whole.new w 48 (recCells r)
 obtain ⟨W0,hW0d⟩:∃ W0,W0=w.alloc (.cells (recCells r) 48):=⟨_,rfl⟩
 rw [← hW0d] at HA0 hK0' hW0
 have HW:=hid hW0
 have HK0:=hid hK0'
 obtain ⟨T,hT⟩:∃ T,T=recB r:=⟨_,rfl⟩
 rw [← hT] at HP HL HT HXs hz9 hTp
 obtain ⟨xs,hxs⟩:∃ xs,xs=outS e s n l:=⟨_,rfl⟩
 rw [← hxs] at HA0 HT HPl HXs HEs hu9 hd1 ⊢
 obtain ⟨es,hes⟩:∃ es,es=entsS e s n l:=⟨_,rfl⟩
 rw [← hes] at HA0 HEs
 have hel:es.length=l.length:=by rw [hes,ents_len]
 obtain ⟨m,hm⟩:∃ m,m=xs.length:=⟨_,rfl⟩
 rw [← hm] at HA0 HT HPl HEs hu9 hd1 ⊢
 obtain ⟨k,hk⟩:∃ k,k=l.length:=⟨_,rfl⟩
 rw [← hk] at HA0 HT h9 hel
 obtain ⟨z,hz⟩:∃ z,z=T.length:=⟨_,rfl⟩
 rw [← hz] at HL HT hz9 hTp
 obtain ⟨u2,hu2⟩:∃ u2,u2=m+z:=⟨_,rfl⟩
 obtain ⟨k2,hk2⟩:∃ k2,k2=k+1:=⟨_,rfl⟩
 rw [← hu2,← hk2] at HT
 have HU2:=hid hu2
 have HK2:=hid hk2
 obtain ⟨hh,hhd⟩:∃ hh,hh=(wxxh 0 r.key).toNat:=⟨_,rfl⟩
 rw [← hhd] at HPl HEs
 have HM:=hid hm
 have HZ:=hid hz
 have HKl:=hid hk
 have HEl:=hid hel
 have hwm:IntKind.u32.wrap (m:Int)=(m:Int):=by rw [IntKind.wrap_u32];omega
 have HRd:Hid (∀ W,Keeps (bF g (.slice (some ⟨gf,0,none⟩) m d) p) W0 W→Whole W w.heap.size 48 (recCells r)):=hid (fun W hk=>HW.out.keep hk (fun h=>by have:=HOld.out _ h;omega))
 clear hb hb1 hK0 hK0' hW0 hT hxs hes hm hk hz hhd hu2 hk2 hel hr hc hl he hs hre hft hsm
 obtain ⟨c0,c1,c2,c3⟩:=RecAt.ofWhole HW.out
 rw [hW0d] at c0 c1 c2 c3
 obtain ⟨del,seq,key,val⟩:=r
 unfold enV at HPl
 unfold recV confV at *
 unfold recCells at hW0d HRd c0 c1 c2 c3
 simp only at hW0d HP HRd HPl c0 c1 c2 c3 ⊢
 go_enter Tryz.func36,Tryz.ntmps36
 go_wp2_with fail
 rw [← hW0d]
 clear hW0d c0 c1 c2 c3
 refine (HP.out _).mono ?_
 rintro x w1 ⟨v1,rfl,q1,m1,d1,rfl,hm1,hmd1,hd1',hq1,hb1,hk⟩
 obtain rfl:m1=z:=by rw [hm1,HZ.out]
 have HA1:=hid (HA0.out.keep hk)
 have HB1:=hid hb1
 obtain ⟨b0,b1,-,-,-,-,-⟩:=bcells_at HA1.out.cells
 have hlt1:=HA1.out.cells.lt
 clear hm1 hb1 hk HA0 HW HP
 go_wp2_with fail
 refine (HL.out _).mono ?_
 rintro x w2 ⟨rfl,hk⟩
 have HA2:=hid (HA1.out.keep hk)
 have HB2:=hid (HB1.out.keep hk (fun _ _ h=>h))
 clear hk b0 b1 hlt1 HA1 HB1 HL
 obtain ⟨b0,b1,b2,b3,b4,-,-⟩:=bcells_at HA2.out.cells
 have hlt2:=HA2.out.cells.lt
 go_wp2_with fail
 refine (HT.out _).mono ?_
 rintro x w3 ⟨rfl,hk⟩
 have hkA:=hk.alloc (.cells #[.int .u8 (e:Int),.int .u32 (s:Int),.int .u32 (n:Int),.int .i64 (u2:Int),.int .i64 (k2:Int)] 121)
 have HX3:=hid (Whole.new w3 121 #[.int .u8 (e:Int),.int .u32 (s:Int),.int .u32 (n:Int),.int .i64 (u2:Int),.int .i64 (k2:Int)])
 have HA3:=hid (HA2.out.keep hkA)
 have HB3:=hid (HB2.out.keep hkA (fun _ _ h=>h))
 have HA4:=hid (HA3.out.room u2 k2)
 have HB4:=hid (HB3.out.keepPos ((((((Keeps.refl (Just g) _).setIn (Just.self g) 0 (.int .u8 (e:Int))).setIn (Just.self g) 1 (.int .u32 (s:Int))).setIn (Just.self g) 2 (.int .u32 (n:Int))).setIn (Just.self g) 3 (.int .i64 (u2:Int))).setIn (Just.self g) 4 (.int .i64 (k2:Int))) (fun h0 a ha hj=>bytes_not HB3.out HA3.out.cells (by show 7<T.length;have:=HZ.out;omega) (by have:=HZ.out;omega) a ha hj))
 clear hk hkA b0 b1 b2 b3 b4 hlt2 HA2 HB2 HT
 obtain ⟨x0,x1,x2,x3,x4⟩:=room_at5 HX3.out
 obtain ⟨b0,b1,b2,b3,b4,b5,b6⟩:=bcells_at HA3.out.cells
 obtain ⟨q0,q1',q2,q3,q4⟩:=room_free HA3.out.cells
 have hlt3:g<w3.heap.size+1:=by have:=HA3.out.cells.lt;simpa using this
 obtain ⟨-,-,-,-,-,y5,-⟩:=bcells_at HA4.out.cells
 have h4fr:=HA4.out.frames
 rw [← HM.out] at h4fr
 obtain ⟨a1,rfl,ha1⟩:=HB4.out (by have:=HZ.out;omega)
 have hm9:m≤16777216:=hu9
 go_wp2_with (at_builtin;refine wpList_append_lies _ rfl _ _ 29 rfl 0 5 i0 (.int .u8 0) 1 1 Tryz.underlying29 hi hz0 hz1 hz2 rfl (by decide) _ m (xs.map (Value.int .u8)) rfl h4fr a1 m1 d1 (T.map (Value.int .u8)) rfl ?ap1 ?ap2 ?ap3 ?ap4 ?ap5 ?ap6 (Nat.zero_le _) _ rfl ?_)
 case ap1=>rw [List.length_map,HZ.out];omega
 case ap2 =>
  intro j u hj
  have hjl:j<T.length:=by have:=(List.getElem?_eq_some_iff.1 hj).1;simpa using this
  rw [ha1 j hjl,← hj]
  simp [hjl]
 case ap3=>intro u hu;obtain ⟨x,_,rfl⟩:=List.mem_map.1 hu;rfl
 case ap4=>omega
 case ap5=>unfold maxLen;omega
 case ap6=>omega
 intro g1 cap w6 hown hgrow hat hlt6
 have h6c:=HA4.out.grown hgrow HA4.out.notF
 have HA7:=hid (HA4.out.frame hown hgrow (by simpa using hat))
 have f5:=h6c.free 5
 have y5':=h6c.cell 5 rfl
 obtain ⟨W7,hW7⟩:∃ W7,W7=w6.setCell ⟨g,5,none⟩ (.slice (some ⟨g1,0,none⟩) (m+m1) cap):=⟨_,rfl⟩
 rw [← hW7] at HA7
 clear hown hgrow hat hlt6 h6c x0 x1 x2 x3 x4 b0 b1 b2 b3 b4 b5 b6 q0 q1' q2 q3 q4 y5 h4fr ha1 HB3 HB4 HA3 HA4 HX3
 go_wp2_with fail
 rw [← hW7]
 clear hW7 f5 y5'
 obtain ⟨r0,r1,r2,r3⟩:=RecAt.ofWhole (r:=⟨del,seq,key,val⟩) (HRd.out _ HA7.out.kept)
 simp only at r0 r1 r2 r3
 obtain ⟨-,-,-,-,-,-,b6⟩:=bcells_at HA7.out.cells
 have hwm2:=HA7.out.kept.size
 have hlt7:=HA7.out.cells.lt
 refine wp_region_held_drew (S:=fun w':World=>w'.cell? ⟨w.heap.size,0,none⟩=some (.bool del)∧w'.cell? ⟨w.heap.size,1,none⟩=some (.int .u64 (seq:Int))∧w'.cell? ⟨w.heap.size,2,none⟩=some (.string (strOfNums key))∧w'.cell? ⟨w.heap.size,3,none⟩=some (.string (strOfNums val))) (by kernel_rfl) ⟨r0,r1,r2,r3⟩ (fun hS=>?_)
 have b6:W7.drew.cell? ⟨g,6,none⟩=some p:=b6
 refine wpAnyH_take (i:=0) (v:=?vT1) rfl ?aT1 ?bT1 ?cT1 ?dT1 (Or.inl ⟨?eT1,?fT1⟩) hS ?gT1
 case fT1=>intro w hSw;(try dsimp only at hSw);go_simp;(try with_reducible rfl)
 case aT1=>kernel_rfl
 case bT1=>kernel_rfl
 case cT1=>kernel_rfl
 case dT1=>exact fun _ _ _ h=>h
 case eT1=>rfl
 simp only [Act.put,List.getElem_toArray,List.getElem_cons_zero,List.setIfInBounds_toArray,List.set_cons_zero,List.set_cons_succ]
 refine wpAnyH_take (i:=1) (v:=?vT2) rfl ?aT2 ?bT2 ?cT2 ?dT2 (Or.inl ⟨?eT2,?fT2⟩) hS ?gT2
 case fT2=>intro w hSw;(try dsimp only at hSw);go_simp;(try with_reducible rfl)
 case aT2=>kernel_rfl
 case bT2=>kernel_rfl
 case cT2=>kernel_rfl
 case dT2=>exact fun _ _ _ h=>h
 case eT2=>rfl
 simp only [Act.put,List.getElem_toArray,List.getElem_cons_zero,List.getElem_cons_succ,List.setIfInBounds_toArray,List.set_cons_zero,List.set_cons_succ]
 refine wpAnyH_take (i:=2) (v:=?vT3) rfl ?aT3 ?bT3 ?cT3 ?dT3 (Or.inl ⟨?eT3,?fT3⟩) hS ?gT3
 case fT3=>intro w hSw;(try dsimp only at hSw);go_simp;(try with_reducible rfl)
 case aT3=>kernel_rfl
 case bT3=>kernel_rfl
 case cT3=>kernel_rfl
 case dT3=>exact fun _ _ _ h=>h
 case eT3=>rfl
 simp only [Act.put,List.getElem_toArray,List.getElem_cons_zero,List.getElem_cons_succ,List.setIfInBounds_toArray,List.set_cons_zero,List.set_cons_succ]
 refine wpAnyH_take (i:=3) (v:=?vT4) rfl ?aT4 ?bT4 ?cT4 ?dT4 (Or.inl ⟨?eT4,?fT4⟩) hS ?gT4
 case fT4=>intro w hSw;(try dsimp only at hSw);go_simp;(try with_reducible rfl)
 case aT4=>kernel_rfl
 case bT4=>kernel_rfl
 case cT4=>kernel_rfl
 case dT4=>exact fun _ _ _ h=>h
 case eT4=>rfl
 simp only [Act.put,List.getElem_toArray,List.getElem_cons_zero,List.getElem_cons_succ,List.setIfInBounds_toArray,List.set_cons_zero,List.set_cons_succ]
 refine wpAnyH_take (i:=5) (v:=?vT5) rfl ?aT5 ?bT5 ?cT5 ?dT5 (Or.inl ⟨?eT5,?fT5⟩) hS ?gT5
 case fT5=>intro w hSw;(try dsimp only at hSw);go_simp;(try with_reducible rfl)
 case aT5=>kernel_rfl
 case bT5=>kernel_rfl
 case cT5=>kernel_rfl
 case dT5=>exact fun _ _ _ h=>h
 case eT5=>rfl
 simp only [Act.put,List.getElem_toArray,List.getElem_cons_zero,List.getElem_cons_succ,List.setIfInBounds_toArray,List.set_cons_zero,List.set_cons_succ]
 refine wpAnyH_take (i:=6) (v:=?vT6) rfl ?aT6 ?bT6 ?cT6 ?dT6 (Or.inl ⟨?eT6,?fT6⟩) hS ?gT6
 case fT6=>intro w hSw;(try dsimp only at hSw);go_simp;(try with_reducible rfl)
 case aT6=>kernel_rfl
 case bT6=>kernel_rfl
 case cT6=>kernel_rfl
 case dT6=>exact fun _ _ _ h=>h
 case eT6=>rfl
 simp only [Act.put,List.getElem_toArray,List.getElem_cons_zero,List.getElem_cons_succ,List.setIfInBounds_toArray,List.set_cons_zero,List.set_cons_succ]
 refine wpAnyH_ready (rs:=[4,7]) (by kernel_rfl) (by simp) ?_
 refine (AllReadyH.cons (o:=_) rfl (fun K hK=>?_) (AllReadyH.cons (o:=_) rfl (fun K hK=>?_) AllReadyH.nil))
 ·go_simp
  refine hK.out _ _ hS (fun _=>?_)
  clear hK K b6
  refine wpAnyH_ready (rs:=[7]) (by kernel_rfl) (by simp) ?_
  refine (AllReadyH.cons (o:=_) rfl (fun K hK=>?_) AllReadyH.nil)
  go_simp
  refine (HPl.out _).mono ?_
  rintro x8 w8 ⟨rfl,hk8⟩
  have HA8:=hid (HA7.out.keep (Keeps.ofDrew hk8))
  have hS:(fun w':World=>w'.cell? ⟨w.heap.size,0,none⟩=some (.bool del)∧w'.cell? ⟨w.heap.size,1,none⟩=some (.int .u64 (seq:Int))∧w'.cell? ⟨w.heap.size,2,none⟩=some (.string (strOfNums key))∧w'.cell? ⟨w.heap.size,3,none⟩=some (.string (strOfNums val))) w8:=RecAt.ofWhole (r:=⟨del,seq,key,val⟩) (HRd.out _ HA8.out.kept)
  have HB8:=hid (bcells_at HA8.out.cells)
  have b6:=HB8.out.2.2.2.2.2.2
  clear hk8
  go_wp2_with fail
  refine hK.out _ _ hS (fun _=>?_)
  clear hK K
  refine wpAnyH_ready (rs:=[8]) (by kernel_rfl) (by simp) ?_
  refine (AllReadyH.cons (o:=_) rfl (fun K hK=>?_) AllReadyH.nil)
  go_simp
  have HA9:=hid (HA8.out.keep ((Keeps.refl NoBlock w8).alloc (.cells #[.int .u64 (hh:Int),.int .u32 (m:Int)] 129)))
  have HE9:=hid (Whole.new w8 129 #[.int .u64 (hh:Int),.int .u32 (m:Int)])
  have hS:(fun w':World=>w'.cell? ⟨w.heap.size,0,none⟩=some (.bool del)∧w'.cell? ⟨w.heap.size,1,none⟩=some (.int .u64 (seq:Int))∧w'.cell? ⟨w.heap.size,2,none⟩=some (.string (strOfNums key))∧w'.cell? ⟨w.heap.size,3,none⟩=some (.string (strOfNums val))) (w8.alloc (.cells #[.int .u64 (hh:Int),.int .u32 (m:Int)] 129)):=RecAt.ofWhole (r:=⟨del,seq,key,val⟩) (HRd.out _ HA9.out.kept)
  have HB9:=hid (bcells_at HA9.out.cells)
  have b6:=HB9.out.2.2.2.2.2.2
  refine hK.out _ _ hS (fun _=>?_)
  clear hK K
  refine wpAnyH_ready (rs:=[9]) (by kernel_rfl) (by simp) ?_
  refine (AllReadyH.cons (o:=_) rfl (fun K hK=>?_) AllReadyH.nil)
  refine step_append_lies _ rfl _ _ 124 rfl 0 129 j0 (.agg #[.int .u64 0,.int .u32 0]) 2 16 Tryz.underlying124 hj hy0 hy1 hy2 rfl (by decide) p k (twoFlat enH enA es) rfl (by have h:=HA9.out.places;rw [HEl.out] at h;exact h) ⟨w8.heap.size,0,none⟩ 1 1 [enH ⟨hh,m⟩,enA ⟨hh,m⟩] rfl rfl (by intro j u hj;exact World.news_of_block HE9.out j u hj) (by intro u hu;simp only [List.mem_cons,List.not_mem_nil,or_false] at hu;rcases hu with rfl|rfl <;> rfl) (by decide) (by unfold maxLen;omega) (by omega) (Nat.zero_le _) _ rfl ?_
  intro g2 cap2 w10 hown hgrow hat hlt10
  have h10:=HA9.out.grown hgrow HA9.out.notP
  have HA11:=hid (HA9.out.place hown hgrow (by first|exact hat|simpa using hat))
  have f6:=h10.free 6
  have y6:=h10.cell 6 rfl
  have hS:(fun w':World=>w'.cell? ⟨w.heap.size,0,none⟩=some (.bool del)∧w'.cell? ⟨w.heap.size,1,none⟩=some (.int .u64 (seq:Int))∧w'.cell? ⟨w.heap.size,2,none⟩=some (.string (strOfNums key))∧w'.cell? ⟨w.heap.size,3,none⟩=some (.string (strOfNums val))) w10:=RecAt.ofWhole (r:=⟨del,seq,key,val⟩) (HRd.out _ (HA9.out.kept.grown hgrow (fun j hj=>HA9.out.mine j (.inr (.inr hj)))))
  clear hown hgrow hat hlt10 h10
  refine hK.out _ _ hS (fun _=>?_)
  clear hK K
  refine wpAnyH_ready (rs:=[10]) (by kernel_rfl) (by simp) ?_
  refine (AllReadyH.cons (o:=_) rfl (fun K hK=>?_) AllReadyH.nil)
  go_simp
  refine hK.out _ _ hS (fun _=>?_)
  clear hK K
  refine wpAnyH_ready (rs:=[11]) (by kernel_rfl) (by simp) ?_
  refine (AllReadyH.cons (o:=_) rfl (fun K hK=>?_) AllReadyH.nil)
  go_simp
  refine hK.out _ _ hS (fun _=>?_)
  clear hK K
  refine wpAnyH_ready (rs:=[12]) (by kernel_rfl) (by simp) ?_
  refine (AllReadyH.cons (o:=_) rfl (fun K hK=>?_) AllReadyH.nil)
  go_simp
  have hS:(fun w':World=>w'.cell? ⟨w.heap.size,0,none⟩=some (.bool del)∧w'.cell? ⟨w.heap.size,1,none⟩=some (.int .u64 (seq:Int))∧w'.cell? ⟨w.heap.size,2,none⟩=some (.string (strOfNums key))∧w'.cell? ⟨w.heap.size,3,none⟩=some (.string (strOfNums val))) (w10.setCell ⟨g,6,none⟩ (.slice (some ⟨g2,0,none⟩) (k+1) cap2)):=RecAt.ofWhole (r:=⟨del,seq,key,val⟩) (HRd.out _ HA11.out.kept)
  refine hK.out _ _ hS (fun _=>?_)
  clear hK K y6 f6
  refine wpAnyH_done (by kernel_rfl) ?_ _
  clear hS
  go_wp2_with fail
  refine bodyPost_ret (results_tmp2 rfl _ _ _) rfl ?_
  refine ⟨rfl,?_⟩
  have h:=HA11.out.lower HK0.out
  have e1:u2=(xs ++ T).length:=by have:=HU2.out;have:=HM.out;have:=HZ.out;rw [List.length_append];omega
  have e2:k2=(l ++ [(⟨del,seq,key,val⟩:Rec)]).length:=by have:=HK2.out;have:=HKl.out;rw [List.length_append,List.length_singleton];omega
  rw [e1,e2] at h
  exact h.done rfl HXs.out.symm HEs.out.symm
 ·go_simp
  refine (HPl.out _).mono ?_
  rintro x8 w8 ⟨rfl,hk8⟩
  have HA8:=hid (HA7.out.keep (Keeps.ofDrew hk8))
  have hS:(fun w':World=>w'.cell? ⟨w.heap.size,0,none⟩=some (.bool del)∧w'.cell? ⟨w.heap.size,1,none⟩=some (.int .u64 (seq:Int))∧w'.cell? ⟨w.heap.size,2,none⟩=some (.string (strOfNums key))∧w'.cell? ⟨w.heap.size,3,none⟩=some (.string (strOfNums val))) w8:=RecAt.ofWhole (r:=⟨del,seq,key,val⟩) (HRd.out _ HA8.out.kept)
  have HB8:=hid (bcells_at HA8.out.cells)
  have b6:=HB8.out.2.2.2.2.2.2
  clear hk8
  go_wp2_with fail
  refine hK.out _ _ hS (fun _=>?_)
  clear hK K
  refine wpAnyH_ready (rs:=[4,8]) (by kernel_rfl) (by simp) ?_
  refine (AllReadyH.cons (o:=_) rfl (fun K hK=>?_) (AllReadyH.cons (o:=_) rfl (fun K hK=>?_) AllReadyH.nil))
  ·go_simp
   refine hK.out _ _ hS (fun _=>?_)
   clear hK K b6
   refine wpAnyH_ready (rs:=[8]) (by kernel_rfl) (by simp) ?_
   refine (AllReadyH.cons (o:=_) rfl (fun K hK=>?_) AllReadyH.nil)
   go_simp
   have HA9:=hid (HA8.out.keep ((Keeps.refl NoBlock w8).alloc (.cells #[.int .u64 (hh:Int),.int .u32 (m:Int)] 129)))
   have HE9:=hid (Whole.new w8 129 #[.int .u64 (hh:Int),.int .u32 (m:Int)])
   have hS:(fun w':World=>w'.cell? ⟨w.heap.size,0,none⟩=some (.bool del)∧w'.cell? ⟨w.heap.size,1,none⟩=some (.int .u64 (seq:Int))∧w'.cell? ⟨w.heap.size,2,none⟩=some (.string (strOfNums key))∧w'.cell? ⟨w.heap.size,3,none⟩=some (.string (strOfNums val))) (w8.alloc (.cells #[.int .u64 (hh:Int),.int .u32 (m:Int)] 129)):=RecAt.ofWhole (r:=⟨del,seq,key,val⟩) (HRd.out _ HA9.out.kept)
   have HB9:=hid (bcells_at HA9.out.cells)
   have b6:=HB9.out.2.2.2.2.2.2
   refine hK.out _ _ hS (fun _=>?_)
   clear hK K
   refine wpAnyH_ready (rs:=[9]) (by kernel_rfl) (by simp) ?_
   refine (AllReadyH.cons (o:=_) rfl (fun K hK=>?_) AllReadyH.nil)
   refine step_append_lies _ rfl _ _ 124 rfl 0 129 j0 (.agg #[.int .u64 0,.int .u32 0]) 2 16 Tryz.underlying124 hj hy0 hy1 hy2 rfl (by decide) p k (twoFlat enH enA es) rfl (by have h:=HA9.out.places;rw [HEl.out] at h;exact h) ⟨w8.heap.size,0,none⟩ 1 1 [enH ⟨hh,m⟩,enA ⟨hh,m⟩] rfl rfl (by intro j u hj;exact World.news_of_block HE9.out j u hj) (by intro u hu;simp only [List.mem_cons,List.not_mem_nil,or_false] at hu;rcases hu with rfl|rfl <;> rfl) (by decide) (by unfold maxLen;omega) (by omega) (Nat.zero_le _) _ rfl ?_
   intro g2 cap2 w10 hown hgrow hat hlt10
   have h10:=HA9.out.grown hgrow HA9.out.notP
   have HA11:=hid (HA9.out.place hown hgrow (by first|exact hat|simpa using hat))
   have f6:=h10.free 6
   have y6:=h10.cell 6 rfl
   have hS:(fun w':World=>w'.cell? ⟨w.heap.size,0,none⟩=some (.bool del)∧w'.cell? ⟨w.heap.size,1,none⟩=some (.int .u64 (seq:Int))∧w'.cell? ⟨w.heap.size,2,none⟩=some (.string (strOfNums key))∧w'.cell? ⟨w.heap.size,3,none⟩=some (.string (strOfNums val))) w10:=RecAt.ofWhole (r:=⟨del,seq,key,val⟩) (HRd.out _ (HA9.out.kept.grown hgrow (fun j hj=>HA9.out.mine j (.inr (.inr hj)))))
   clear hown hgrow hat hlt10 h10
   refine hK.out _ _ hS (fun _=>?_)
   clear hK K
   refine wpAnyH_ready (rs:=[10]) (by kernel_rfl) (by simp) ?_
   refine (AllReadyH.cons (o:=_) rfl (fun K hK=>?_) AllReadyH.nil)
   go_simp
   refine hK.out _ _ hS (fun _=>?_)
   clear hK K
   refine wpAnyH_ready (rs:=[11]) (by kernel_rfl) (by simp) ?_
   refine (AllReadyH.cons (o:=_) rfl (fun K hK=>?_) AllReadyH.nil)
   go_simp
   refine hK.out _ _ hS (fun _=>?_)
   clear hK K
   refine wpAnyH_ready (rs:=[12]) (by kernel_rfl) (by simp) ?_
   refine (AllReadyH.cons (o:=_) rfl (fun K hK=>?_) AllReadyH.nil)
   go_simp
   have hS:(fun w':World=>w'.cell? ⟨w.heap.size,0,none⟩=some (.bool del)∧w'.cell? ⟨w.heap.size,1,none⟩=some (.int .u64 (seq:Int))∧w'.cell? ⟨w.heap.size,2,none⟩=some (.string (strOfNums key))∧w'.cell? ⟨w.heap.size,3,none⟩=some (.string (strOfNums val))) (w10.setCell ⟨g,6,none⟩ (.slice (some ⟨g2,0,none⟩) (k+1) cap2)):=RecAt.ofWhole (r:=⟨del,seq,key,val⟩) (HRd.out _ HA11.out.kept)
   refine hK.out _ _ hS (fun _=>?_)
   clear hK K y6 f6
   refine wpAnyH_done (by kernel_rfl) ?_ _
   clear hS
   go_wp2_with fail
   refine bodyPost_ret (results_tmp2 rfl _ _ _) rfl ?_
   refine ⟨rfl,?_⟩
   have h:=HA11.out.lower HK0.out
   have e1:u2=(xs ++ T).length:=by have:=HU2.out;have:=HM.out;have:=HZ.out;rw [List.length_append];omega
   have e2:k2=(l ++ [(⟨del,seq,key,val⟩:Rec)]).length:=by have:=HK2.out;have:=HKl.out;rw [List.length_append,List.length_singleton];omega
   rw [e1,e2] at h
   exact h.done rfl HXs.out.symm HEs.out.symm
  ·go_simp
   have HA9:=hid (HA8.out.keep ((Keeps.refl NoBlock w8).alloc (.cells #[.int .u64 (hh:Int),.int .u32 (m:Int)] 129)))
   have HE9:=hid (Whole.new w8 129 #[.int .u64 (hh:Int),.int .u32 (m:Int)])
   have hS:(fun w':World=>w'.cell? ⟨w.heap.size,0,none⟩=some (.bool del)∧w'.cell? ⟨w.heap.size,1,none⟩=some (.int .u64 (seq:Int))∧w'.cell? ⟨w.heap.size,2,none⟩=some (.string (strOfNums key))∧w'.cell? ⟨w.heap.size,3,none⟩=some (.string (strOfNums val))) (w8.alloc (.cells #[.int .u64 (hh:Int),.int .u32 (m:Int)] 129)):=RecAt.ofWhole (r:=⟨del,seq,key,val⟩) (HRd.out _ HA9.out.kept)
   have HB9:=hid (bcells_at HA9.out.cells)
   have b6:=HB9.out.2.2.2.2.2.2
   refine hK.out _ _ hS (fun _=>?_)
   clear hK K
   refine wpAnyH_ready (rs:=[4]) (by kernel_rfl) (by simp) ?_
   refine (AllReadyH.cons (o:=_) rfl (fun K hK=>?_) AllReadyH.nil)
   go_simp
   refine hK.out _ _ hS (fun _=>?_)
   clear hK K b6
   refine wpAnyH_ready (rs:=[9]) (by kernel_rfl) (by simp) ?_
   refine (AllReadyH.cons (o:=_) rfl (fun K hK=>?_) AllReadyH.nil)
   refine step_append_lies _ rfl _ _ 124 rfl 0 129 j0 (.agg #[.int .u64 0,.int .u32 0]) 2 16 Tryz.underlying124 hj hy0 hy1 hy2 rfl (by decide) p k (twoFlat enH enA es) rfl (by have h:=HA9.out.places;rw [HEl.out] at h;exact h) ⟨w8.heap.size,0,none⟩ 1 1 [enH ⟨hh,m⟩,enA ⟨hh,m⟩] rfl rfl (by intro j u hj;exact World.news_of_block HE9.out j u hj) (by intro u hu;simp only [List.mem_cons,List.not_mem_nil,or_false] at hu;rcases hu with rfl|rfl <;> rfl) (by decide) (by unfold maxLen;omega) (by omega) (Nat.zero_le _) _ rfl ?_
   intro g2 cap2 w10 hown hgrow hat hlt10
   have h10:=HA9.out.grown hgrow HA9.out.notP
   have HA11:=hid (HA9.out.place hown hgrow (by first|exact hat|simpa using hat))
   have f6:=h10.free 6
   have y6:=h10.cell 6 rfl
   have hS:(fun w':World=>w'.cell? ⟨w.heap.size,0,none⟩=some (.bool del)∧w'.cell? ⟨w.heap.size,1,none⟩=some (.int .u64 (seq:Int))∧w'.cell? ⟨w.heap.size,2,none⟩=some (.string (strOfNums key))∧w'.cell? ⟨w.heap.size,3,none⟩=some (.string (strOfNums val))) w10:=RecAt.ofWhole (r:=⟨del,seq,key,val⟩) (HRd.out _ (HA9.out.kept.grown hgrow (fun j hj=>HA9.out.mine j (.inr (.inr hj)))))
   clear hown hgrow hat hlt10 h10
   refine hK.out _ _ hS (fun _=>?_)
   clear hK K
   refine wpAnyH_ready (rs:=[10]) (by kernel_rfl) (by simp) ?_
   refine (AllReadyH.cons (o:=_) rfl (fun K hK=>?_) AllReadyH.nil)
   go_simp
   refine hK.out _ _ hS (fun _=>?_)
   clear hK K
   refine wpAnyH_ready (rs:=[11]) (by kernel_rfl) (by simp) ?_
   refine (AllReadyH.cons (o:=_) rfl (fun K hK=>?_) AllReadyH.nil)
   go_simp
   refine hK.out _ _ hS (fun _=>?_)
   clear hK K
   refine wpAnyH_ready (rs:=[12]) (by kernel_rfl) (by simp) ?_
   refine (AllReadyH.cons (o:=_) rfl (fun K hK=>?_) AllReadyH.nil)
   go_simp
   have hS:(fun w':World=>w'.cell? ⟨w.heap.size,0,none⟩=some (.bool del)∧w'.cell? ⟨w.heap.size,1,none⟩=some (.int .u64 (seq:Int))∧w'.cell? ⟨w.heap.size,2,none⟩=some (.string (strOfNums key))∧w'.cell? ⟨w.heap.size,3,none⟩=some (.string (strOfNums val))) (w10.setCell ⟨g,6,none⟩ (.slice (some ⟨g2,0,none⟩) (k+1) cap2)):=RecAt.ofWhole (r:=⟨del,seq,key,val⟩) (HRd.out _ HA11.out.kept)
   refine hK.out _ _ hS (fun _=>?_)
   clear hK K y6 f6
   refine wpAnyH_done (by kernel_rfl) ?_ _
   clear hS
   go_wp2_with fail
   refine bodyPost_ret (results_tmp2 rfl _ _ _) rfl ?_
   refine ⟨rfl,?_⟩
   have h:=HA11.out.lower HK0.out
   have e1:u2=(xs ++ T).length:=by have:=HU2.out;have:=HM.out;have:=HZ.out;rw [List.length_append];omega
   have e2:k2=(l ++ [(⟨del,seq,key,val⟩:Rec)]).length:=by have:=HK2.out;have:=HKl.out;rw [List.length_append,List.length_singleton];omega
   rw [e1,e2] at h
   exact h.done rfl HXs.out.symm HEs.out.symm
end
section
open Go.RowKit
theorem sg_add:SgAddOk SgAt:=⟨fun F v e s n l r w h hr h9 hf hrf hk hv=>by
 have hm:=mayHead_true.1 hr.real.may
 have he:e≤24:=hm.2.1
 have hs:s≤65536:=hm.2.2.2.1
 have hmc:mayC e s=true:=mayC_true.2 ⟨hm.1,hm.2.1,by have h5:n<s:=hm.2.2.2.2;omega,hm.2.2.2.1⟩
 have hli:r.Little:=⟨hrf,hk,hv⟩
 have hlg:largeP e s ((recB r).length:Int)=!(fitsP (emptyP e s (s - 1)) ((recB r).length:Int)):=by unfold largeP;rw [hmc];rfl
 by_cases hc:checkR r=0
 ·by_cases hn:fitsP (emptyP e s (s - 1)) ((recB r).length:Int)=true
  ·have hl0:largeP e s ((recB r).length:Int)=false:=by rw [hlg,hn];rfl
   by_cases hft:fitsP (sgRoom e s n l) ((recB r).length:Int)=true
   ·have hE:addE e s n l r=0:=by unfold addE;rw [if_neg (by simp [hc]),if_neg (by rw [hn];simp),if_neg (by rw [hft];simp)]
    rw [addL_some hE,hE,show addAt e s n l r=(outS e s n l).length by unfold addAt;rw [if_pos hE]]
    exact sgadd_good F v e s n l r w h (by omega) (by omega) hli hc hl0 hr.real h9 hft
   ·have hft':fitsP (sgRoom e s n l) ((recB r).length:Int)=false:=by simpa using hft
    have hE:addE e s n l r=7:=by unfold addE;rw [if_neg (by simp [hc]),if_neg (by rw [hn];simp),if_pos hft']
    rw [addL_none (by rw [hE];decide),hE,show addAt e s n l r=0 by unfold addAt;rw [if_neg (by rw [hE];decide)]]
    exact sgadd_full F v e s n l r w h (by omega) (by omega) hli hc hl0 hr.real (by omega) hft'
  ·have hn':fitsP (emptyP e s (s - 1)) ((recB r).length:Int)=false:=by simpa using hn
   have hE:addE e s n l r=6:=by unfold addE;rw [if_neg (by simp [hc]),if_pos hn']
   rw [addL_none (by rw [hE];decide),hE,show addAt e s n l r=0 by unfold addAt;rw [if_neg (by rw [hE];decide)]]
   exact sgadd_large F v e s n l r w h (by omega) (by omega) hli hc (by rw [hlg,hn'];rfl)
 ·have hE:addE e s n l r=checkR r:=by unfold addE;rw [if_pos hc]
  rw [addL_none (by rw [hE];exact hc),hE,show addAt e s n l r=0 by unfold addAt;rw [if_neg (by rw [hE];exact hc)]]
  exact sgadd_bad F v e s n l r w h hli hc⟩
end
section
open Go.RowKit
set_option maxHeartbeats 4000000 in
set_option maxRecDepth 10000 in
theorem sgseal_some (F:Nat→Prop) (v:Value) (e s n:Nat) (l:List Rec) (w:World) (h:SgAt w F v e s n l) (hr:InRoom (sgRoom e s n l) l) (h9:l.length<1000) (h0:0<l.length) :
  Calls Tryz.prog 38 #[v] w fun x w'=>∃ u,x=.returned (.tuple #[u,.int .i64 0])∧SgGives SgAt F w v e s n l (textS e s n l true) u w':=by
 obtain ⟨g,f,p,rfl,rfl,hb⟩:=h
 have HS:=hid (fun w' u hk ho=>sg_gives (w:=w) (w':=w') (u:=u) (ys:=textS e s n l true) ⟨g,f,p,rfl,rfl,hb⟩ hk ho)
 have hm:=mayHead_true.1 hr.real.may
 have hmc:mayC e s=true:=mayC_true.2 ⟨hm.1,hm.2.1,by have h5:n<s:=hm.2.2.2.2;omega,hm.2.2.2.1⟩
 have h2:2 ^ e≤16777216:=(two_e hm.2.1).2
 have hfit:=frames_fit hr true (fun _=>h0)
 have hfit2:(outS e s n l ++ footS e s n l).length≤2 ^ e:=by
  have:framesS e s n l true=outS e s n l ++ footS e s n l:=by unfold framesS;rw [if_pos rfl]
  rw [← this]
  exact hfit
 rw [List.length_append] at hfit2
 obtain ⟨gf,d,rfl,hd1,hd2,h8⟩:=hb.read
 obtain ⟨q,dp,rfl,hin⟩:=hb.row (by omega)
 have HW:=hid (fun W (p':Option Addr) N c (hk:Keeps NoBlock w W) (hN:N=(footS e s n l).length) (hy:Bytes8 W p' (footS e s n l))=>whole_own g e s n _ _ (some ⟨gf,0,none⟩) (outS e s n l).length d (.slice q l.length dp) (outS e s n l) p' N c (footS e s n l) W (hb.cells.keep hk (fun h=>h)) hmc rfl (h8.keep hk (fun _ _ h=>h)) hN hy (by omega))
 have HP:=hid (fun W (hk:Keeps NoBlock w W)=>seal_places (outS e s n l).length q l.length dp (entsS e s n l) W (by omega) ⟨hin.len,hin.cap,hin.room,hin.bare,hin.fine,hin.at_.keep hk⟩ (by omega))
 rw [seal_check h0 (by omega),seal_put h0 (by omega)] at HP
 have ht:textS e s n l true=outS e s n l ++ footS e s n l ++ List.replicate (2 ^ e - (outS e s n l ++ footS e s n l).length) 255:=rfl
 rw [← ht] at HW
 obtain ⟨-,-,-,-,-,c5,c6⟩:=bcells_at hb.cells
 have hlt:=hb.cells.lt
 have HB:=hid hb
 obtain ⟨m,hm⟩:∃ m,m=(outS e s n l).length:=⟨_,rfl⟩
 rw [← hm] at HP c5
 have hwm:IntKind.u32.wrap (m:Int)=(m:Int):=by rw [IntKind.wrap_u32];omega
 obtain ⟨k,hk⟩:∃ k,k=l.length:=⟨_,rfl⟩
 rw [← hk] at HP c6 h0
 have k0:¬ (k:Int)=0:=by omega
 clear hb ht hm hmc h2 hfit hfit2 hd1 hd2 h8 hin h9 hr hk
 go_enter Tryz.func38,Tryz.ntmps38
 go_wp2_with fail
 have s0:w.drew.cell? ⟨g,5,none⟩=some (.slice (some ⟨gf,0,none⟩) m d)∧w.drew.cell? ⟨g,6,none⟩=some (.slice q k dp):=⟨c5,c6⟩
 have sN:w.cell? ⟨g,5,none⟩=some (.slice (some ⟨gf,0,none⟩) m d)∧w.cell? ⟨g,6,none⟩=some (.slice q k dp):=⟨c5,c6⟩
 go_region_held3 (fun w'=>w'.cell? ⟨g,5,none⟩=some (.slice (some ⟨gf,0,none⟩) m d)∧w'.cell? ⟨g,6,none⟩=some (.slice q k dp))
  (first|exact s5|exact s0|exact sN)
  (first|(go_at_call 64;refine (HP.out _ (by first|exact (Keeps.refl NoBlock w).drew|exact Keeps.refl NoBlock w)).mono ?_;rintro e w5 ⟨v5,rfl,q5,m5,d5,rfl,hm5,hmd5,hd5,hq5,hb5,hk5⟩;have hk':Keeps NoBlock w w5:=(by first|exact hk5.ofDrew|exact hk5);have HN:=hid hb5;have HK:=hid hk';have HM5:=hid hm5;have s5:w5.cell? ⟨g,5,none⟩=some (.slice (some ⟨gf,0,none⟩) m d)∧w5.cell? ⟨g,6,none⟩=some (.slice q k dp):=⟨hk'.cell c5 (fun h=>h),hk'.cell c6 (fun h=>h)⟩;clear hk5 hm5 hmd5 hd5 hq5 hb5 hk'))
 clear s0 sN s5 c5 c6
 go_wp2_with fail
 refine (HW.out _ _ _ _ HK.out HM5.out HN.out).mono ?_
 rintro r w6 ⟨u,rfl,ho,hk⟩
 have HG:=hid (HS.out w6 u (HK.out.trans hk) (OwnP.base ho HK.out.size))
 clear ho hk
 go_wp2_with fail
 refine bodyPost_ret (results_tmp2 rfl _ _ _) rfl ?_
 exact ⟨u,rfl,HG.out⟩
set_option maxHeartbeats 4000000 in
set_option maxRecDepth 10000 in
theorem sgseal_none (F:Nat→Prop) (v:Value) (e s n:Nat) (w:World) (h:SgAt w F v e s n []) :
  Calls Tryz.prog 38 #[v] w fun x w'=>∃ q d,x=.returned (.tuple #[.slice q 0 d,.int .i64 10])∧SgSame SgAt F w v e s n [] w':=by
 obtain ⟨g,f,p,rfl,rfl,hb⟩:=h
 have HS:=hid (sg_same (w:=w) (w':=w) ⟨g,f,p,rfl,rfl,hb⟩ (Keeps.refl _ _))
 obtain ⟨q,d,hv,_⟩:=TwosAt.ofOwn (dd:=En.none) hb.places (ents_len e s n []).symm
 have hv':p=.slice q 0 d:=hv
 subst hv'
 obtain ⟨-,-,-,-,-,-,c6⟩:=bcells_at hb.cells
 have hlt:=hb.cells.lt
 clear hv hb
 go_enter Tryz.func38,Tryz.ntmps38
 go_wp2_with fail
 refine bodyPost_ret (results_tmp2 rfl _ _ _) rfl ?_
 exact ⟨none,0,rfl,HS.out⟩
theorem sg_seal:SgSealOk SgAt:=⟨fun F v e s n l w h hr h9 _ h0=>sgseal_some F v e s n l w h hr h9 h0,fun F v e s n w h _=>sgseal_none F v e s n w h⟩
end
section
theorem im_enc:ImEncOk:=⟨fun e s p n c l w he hs hn hw h=>imencode_own sg_build sg_new sg_add sg_open sg_seal e s p n c l w he hs hn hw h⟩
end
end Go.Proofs.YtehkjkcnigknkaaGreat

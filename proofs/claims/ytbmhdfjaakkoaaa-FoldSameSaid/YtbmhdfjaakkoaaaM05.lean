/-
  FoRows; FoIns; FoLive; ThinNum; CobsNum; WideNum.
-/
import Derived.Laws.BitsAllLaws
import Derived.Laws.Bits64
import Derived.Lib.Hide
import Derived.Test.YtbmhdfjaakkoaaaM01
import Derived.Test.YtbmhdfjaakkoaaaM04
namespace Go.Proofs.Ytbmhdfjaakkoaaa
open Lib (hid)
section
open Go.RowKit
theorem NewRecs.inR {w w0:World} {l P:List Rec} {v:Value} {w':World} {p:Option Addr} {n c:Nat} (hi:InR w0 p n c l) (h:NewRecs w P v w') (hs:∀ r ∈ P,r ∈ l):∃ q m d,v=.slice q m d∧InR w' q m d P∧Keeps NoBlock w w':=by
 obtain ⟨q,m,d,rfl,hm,hmd,hd,_,hat,hk⟩:=h
 exact ⟨q,m,d,rfl,⟨hm,hmd,hd,fun r hr=>hi.fine r (hs r hr),fun r hr=>hi.key r (hs r hr),fun r hr=>hi.val r (hs r hr),hat⟩,hk⟩
theorem RecsSoFar.lower {w w1 wr:World} {l:List Rec} {v:Value} (h:RecsSoFar w1 l v wr) (hk:Keeps NoBlock w w1):RecsSoFar w l v wr:=by
 refine ⟨⟨h.1.1,?_⟩,(hk.trans h.keeps).below (Nat.le_refl _) (fun _ _ h=>h)⟩
 rcases h.1.2 with hn|⟨g,cap,cur,rfl,hb,rest⟩
 ·exact .inl hn
 ·exact .inr ⟨g,cap,cur,rfl,Nat.le_trans hk.size hb,rest⟩
set_option maxHeartbeats 4000000 in
set_option maxRecDepth 10000 in
theorem compact18_ref (p:Option Addr) (n c:Nat) (l:List Rec) (hn9:n≤100000) (w:World) (hi:InR w p n c l) :
  Calls Try.prog 18 #[.slice p n c] w fun e w'=>∃ v,e=.returned v∧NewRecs w (compactF l) v w':=by
 have HI:=hid hi
 have HLt:=hid (fun i w h hi=>later18_ref p n c l i w h hi)
 clear hi
 go_enter Try.func18,Try.ntmps18
 go_wp2_with fail
 go_loopw [3,8] (fun v x wr=>∃ (j:Nat) (P:List Rec),j≤n∧x=.int .i64 (j:Int)∧P.length≤j∧Hid (compactF l=P ++ compactF (l.drop j))∧Hid (RecsSoFar w P v wr)) (fun _ x _=>n - (intOf x).toNat)
 case atStart=>exact ⟨0,[],Nat.zero_le _,rfl,Nat.le_refl _,hid rfl,hid (RecsSoFar.start w)⟩
 case round =>
  obtain ⟨j,P,hj,rfl,hP,HC,HS⟩:=hrel
  by_cases hlt:j<n
  rotate_left
  ·have hdj:decide ((j:Int)<(n:Int))=false:=decide_eq_false (by omega)
   have hdj2:decide (j<n)=false:=decide_eq_false hlt
   have HE:=hid (show compactF l=P by
    have h:=HC.out
    rw [List.drop_eq_nil_of_le (by have:=HI.out.len;omega),compactF,List.append_nil] at h
    exact h)
   obtain ⟨L,hL⟩:∃ L,L=compactF l:=⟨_,rfl⟩
   rw [← hL] at HE
   obtain rfl:=HE.out
   clear HC HE
   go_wp2_with fail
   go_ret
   rw [← hL]
   exact ⟨_,rfl,HS.out.new⟩
  have hdj:decide ((j:Int)<(n:Int))=true:=decide_eq_true (by omega)
  have hdj2:decide (j<n)=true:=decide_eq_true hlt
  have hjl:j<l.length:=by rw [← HI.out.len];exact hlt
  have HIr:=hid (HI.out.keep HS.out.keeps)
  obtain ⟨a,rfl,x0,x1,x2,x3⟩:=HIr.out.at_ j hjl
  have hst:=compact_step hjl HC.out
  have HLj:=hid (fun w hi=>HLt.out j w hlt hi)
  obtain ⟨b,hb⟩:∃ b,b=laterF (l.getD j Rec.none).key (l.drop (j+1)):=⟨_,rfl⟩
  rw [← hb] at hst HLj
  obtain ⟨r,hr⟩:∃ r,r=l.getD j Rec.none:=⟨_,rfl⟩
  rw [← hr] at x0 x1 x2 x3 hst
  have HS1:=hid (HS.out.alloc (.cells (recCells r) 30))
  have HI1:=hid (HIr.out.keep ((Keeps.refl NoBlock wr).alloc (.cells (recCells r) 30)))
  have HW1:=hid (Whole.new wr 30 (recCells r))
  unfold recCells at HS1 HI1 HW1
  clear hb hr hjl HC HIr HS
  have hlt2:=hid hlt
  go_wp2_with fail
  refine (HLj.out _ HI1.out).mono ?_
  rintro e w1 ⟨rfl,hk⟩
  have HS2:=hid (HS1.out.keep hk)
  have HW2:=hid (HW1.out.keep hk (fun h=>h))
  clear hk HI1 HS1 HW1 x0 x1 x2 x3
  cases b with
  | true =>
   rw [if_pos rfl] at hst
   have HE:=hid hst
   clear hst
   go_wp2_with fail
   go_roundw
   case rel=>exact ⟨j+1,P,by omega,by go_num,by omega,HE,HS2⟩
   case measure=>simp [intOf];omega
  | false =>
   rw [if_neg (by simp)] at hst
   have HE:=hid hst
   clear hst
   obtain ⟨y0,y1,y2,y3⟩:w1.cell? ⟨wr.heap.size,0,none⟩=some (.bool r.del)∧w1.cell? ⟨wr.heap.size,1,none⟩=some (.int .u64 (r.seq:Int))∧w1.cell? ⟨wr.heap.size,2,none⟩=some (.string (strOfNums r.key))∧w1.cell? ⟨wr.heap.size,3,none⟩=some (.string (strOfNums r.val)):=⟨HW2.out.cell 0 rfl,HW2.out.cell 1 rfl,HW2.out.cell 2 rfl,HW2.out.cell 3 rfl⟩
   have HS3:=hid (HS2.out.alloc (.cells (recCells r) 30))
   have HW3:=hid (Whole.new w1 30 (recCells r))
   unfold recCells at HS3 HW3
   go_wp2_with (at_builtin;refine wpList_append_rec rfl _ _ rfl _ P rfl HS3.out w1.heap.size r rfl HW3.out (by omega) ?_)
   intro v' w2 h2 _
   have HS4:=hid h2
   clear h2 HS3 HW3 y0 y1 y2 y3
   go_wp2_with fail
   exact ⟨⟨j+1,P ++ [r],by omega,by go_num,by simp;omega,HE,HS4⟩,by simp [intOf];omega⟩
end
section
open Go.RowKit
theorem NewRecs.keep {w w' w'':World} {l:List Rec} {v:Value} (h:NewRecs w l v w') (hk:Keeps NoBlock w' w''):NewRecs w l v w'':=by
 obtain ⟨q,m,d,rfl,hm,hmd,hd,hq,hat,hk0⟩:=h
 exact ⟨q,m,d,rfl,hm,hmd,hd,hq,hat.keep hk (fun _ _ h=>h),hk0.trans hk⟩
theorem rec_cells {w:World} {g:Nat} {t:TypeId} {r:Rec} (h:Whole w g t (recCells r)):w.cell? ⟨g,0,none⟩=some (.bool r.del)∧w.cell? ⟨g,1,none⟩=some (.int .u64 (r.seq:Int))∧w.cell? ⟨g,2,none⟩=some (.string (strOfNums r.key))∧w.cell? ⟨g,3,none⟩=some (.string (strOfNums r.val)) :=
 ⟨h.cell 0 rfl,h.cell 1 rfl,h.cell 2 rfl,h.cell 3 rfl⟩
theorem RecsSoFar.apart {w0 wr:World} {l:List Rec} {v:Value} (h:RecsSoFar w0 l v wr) {k:Nat} (hk:wr.heap.size≤k):v.ownBlock ≠ some k:=fun e=>by
 have:=(h.1.lt k e).2
 omega
theorem byKey_go_len:∀ (l O:List Rec),(l.foldl insK O).length=O.length+l.length:=fun l O=>by
 rw [(byKey_perm_go l O).length_eq,List.length_append]
theorem byKey_go_mem {l O:List Rec} {x:Rec} (h:x ∈ l.foldl insK O):x ∈ O ∨ x ∈ l:=List.mem_append.1 ((byKey_perm_go l O).mem_iff.1 h)
set_option maxHeartbeats 8000000 in
set_option maxRecDepth 10000 in
theorem byKey18_ref (p:Option Addr) (n c:Nat) (l:List Rec) (hn9:n≤100000) (w:World) (hi:InR w p n c l) :
  Calls Try.prog 9 #[.slice p n c] w fun e w'=>∃ v,e=.returned v∧NewRecs w (byKeyF l) v w':=by
 have HI0:=hid hi
 have HCo:=hid (compact18_ref p n c l hn9 w hi)
 have hcl:(compactF l).length≤n:=by rw [hi.len];exact compactF_length l
 obtain ⟨C,hC⟩:∃ C,C=compactF l:=⟨_,rfl⟩
 have HSub:=hid (show ∀ x ∈ C,x ∈ l from fun x hx=>compactF_mem (by rw [← hC];exact hx))
 rw [show byKeyF l=C.foldl insK [] from by rw [hC];rfl]
 rw [← hC] at HCo hcl
 clear hi hC
 obtain ⟨R,hR⟩:∃ R,R=C.foldl insK []:=⟨_,rfl⟩
 have HR:=hid hR
 rw [← hR]
 clear hR
 go_enter Try.func9,Try.ntmps9
 go_wp2_with fail
 refine HCo.out.mono ?_
 rintro e wC ⟨v,rfl,hnew⟩
 obtain ⟨qC,mC,dC,rfl,hic,hkc⟩:=hnew.inR HI0.out HSub.out
 have HI:=hid hic
 have HKc:=hid hkc
 have hm9:mC≤100000:=by rw [hic.len];omega
 clear hnew hic hkc HCo hcl
 go_wp2_with fail
 go_loopw [3,13] (fun v x wr=>∃ j:Nat,j≤mC∧x=.int .i64 (j:Int)∧Hid (NewRecs w ((C.take j).foldl insK []) v wr)∧Hid (Keeps NoBlock wC wr)) (fun _ x _=>mC - (intOf x).toNat)
 case atStart=>exact ⟨0,Nat.zero_le _,rfl,hid ⟨none,0,0,rfl,rfl,Nat.le_refl _,by decide,fun _=>⟨rfl,rfl⟩,RecsAt.nil _ _,HKc.out⟩,hid (Keeps.refl _ _)⟩
 case round =>
  obtain ⟨j,hj,rfl,HO,HK⟩:=hrel
  by_cases hlt:j<mC
  rotate_left
  ·have hdj:decide ((j:Int)<(mC:Int))=false:=decide_eq_false (by omega)
   have hdj2:decide (j<mC)=false:=decide_eq_false hlt
   have HO2:=hid HO.out
   rw [List.take_of_length_le (by have:=HI.out.len;omega),← HR.out] at HO2
   clear HO
   go_wp2_with fail
   go_ret
   exact ⟨_,rfl,HO2.out⟩
  have hdj:decide ((j:Int)<(mC:Int))=true:=decide_eq_true (by omega)
  have hdj2:decide (j<mC)=true:=decide_eq_true hlt
  have hjl:j<C.length:=by rw [← HI.out.len];exact hlt
  have hIr:=HI.out.keep HK.out
  obtain ⟨a,hqa,x0,x1,x2,x3⟩:=hIr.at_ j hjl
  obtain rfl:=hqa
  have hmem:=getR_mem hjl
  have HRf:=hid (hIr.fine _ hmem)
  have hon:((C.take j).foldl insK []).length≤100000∧∀ x ∈ (C.take j).foldl insK [],x ∈ C:=by
   rw [byKey_go_len,List.length_take]
   refine ⟨by simp;omega,fun x hx=>?_⟩
   rcases byKey_go_mem hx with h|h
   ·simp at h
   ·exact List.mem_of_mem_take h
  have HSn:=hid (foldl_snoc insK [] C j Rec.none hjl)
  obtain ⟨O,hO⟩:∃ O,O=(C.take j).foldl insK []:=⟨_,rfl⟩
  rw [← hO] at HO hon HSn
  obtain ⟨q,m,d,rfl,hIo,hko⟩:=HO.out.inR (l:=C) hIr hon.2
  have hm9':m≤100000:=by rw [hIo.len];exact hon.1
  obtain ⟨r,hr⟩:∃ r,r=C.getD j Rec.none:=⟨_,rfl⟩
  rw [← hr] at x0 x1 x2 x3 HRf HSn
  have hka:Keeps NoBlock wr (wr.alloc (.cells (recCells r) 30)):=(Keeps.refl NoBlock wr).alloc _
  have HIo:=hid (hIo.keep hka)
  have HKw:=hid (hko.trans hka)
  have HKc2:=hid (HK.out.trans hka)
  have HBx:=hid (Whole.new wr 30 (recCells r))
  have HJ:=hid (And.intro hj hlt)
  clear hr hjl hmem hIr hO hon hIo hko HO HK
  obtain ⟨Ws,hWs⟩:∃ W,W=wr.alloc (.cells (recCells r) 30):=⟨_,rfl⟩
  rw [← hWs] at HIo HKw HKc2 HBx hka
  unfold recCells at hWs
  obtain ⟨g,hg⟩:∃ g,g=wr.heap.size:=⟨_,rfl⟩
  rw [← hg] at HBx
  go_wp2_with fail
  rw [← hWs,← hg]
  clear hWs x0 x1 x2 x3 hka hg
  go_loopw [6,7,19] (fun u b x wi=>∃ (i:Nat) (bb:Bool) (P:List Rec),i≤m∧x=.int .i64 (i:Int)∧b=.bool bb∧P.length≤2*i∧Hid ((O.take i).foldl (insStep r) (false,[])=(bb,P))∧Hid (RecsSoFar Ws P u wi)) (fun _ _ x _=>m - (intOf x).toNat)
  case atStart=>exact ⟨0,false,[],Nat.zero_le _,rfl,rfl,Nat.le_refl _,hid rfl,hid (RecsSoFar.start Ws)⟩
  case round =>
   obtain ⟨i,bb,P,hi,rfl,rfl,hP,HF,HS⟩:=hrel
   by_cases hli:i<m
   rotate_left
   ·have hdi:decide ((i:Int)<(m:Int))=false:=decide_eq_false (by omega)
    have hdi2:decide (i<m)=false:=decide_eq_false hli
    have HEnd:=hid (show insK O r=insEnd r (bb,P) by
     have h:=HF.out
     rw [List.take_of_length_le (by have:=HIo.out.len;omega)] at h
     unfold insK
     rw [h])
    have hJ:=HJ.out
    cases bb with
    | true =>
     have HO':=hid (show NewRecs w ((C.take (j+1)).foldl insK []) _ wr from by rw [HSn.out,HEnd.out];exact (HS.out.lower HKw.out).new)
     have HK':=hid (HKc2.out.trans HS.out.keeps)
     clear HF HS HEnd
     go_wp2_with fail
     exact ⟨⟨j+1,by omega,by go_num,HO',HK'⟩,by simp [intOf];omega⟩
    | false =>
     obtain ⟨y0,y1,y2,y3⟩:=rec_cells (HBx.out.keep HS.out.keeps (fun h=>h))
     have HS3:=hid (HS.out.alloc (.cells (recCells r) 30))
     have HW3:=hid (Whole.new wr 30 (recCells r))
     unfold recCells at HS3 HW3
     clear HF HS
     go_wp2_with (at_builtin;refine wpList_append_rec rfl _ _ rfl _ P rfl HS3.out wr.heap.size r rfl HW3.out (by omega) ?_)
     intro v' w2 h2 _
     have HO':=hid (show NewRecs w ((C.take (j+1)).foldl insK []) v' w2 from by rw [HSn.out,HEnd.out];exact (h2.lower HKw.out).new)
     have HK':=hid (HKc2.out.trans h2.keeps)
     clear h2 HS3 HW3 y0 y1 y2 y3 HEnd
     go_wp2_with fail
     exact ⟨⟨j+1,by omega,by go_num,HO',HK'⟩,by simp [intOf];omega⟩
   have hdi:decide ((i:Int)<(m:Int))=true:=decide_eq_true (by omega)
   have hdi2:decide (i<m)=true:=decide_eq_true hli
   have hil:i<O.length:=by rw [← HIo.out.len];exact hli
   obtain ⟨a2,hqa2,x0,x1,x2,x3⟩:=(HIo.out.at_.keep HS.out.keeps (fun _ _ h=>h)) i hil
   obtain rfl:=hqa2
   have hst:=foldl_snoc (insStep r) (false,[]) O i Rec.none hil
   rw [HF.out] at hst
   have hxf:=HIo.out.fine _ (getR_mem hil)
   have hcmp:=less_str HRf.out.key hxf.key
   obtain ⟨x,hx⟩:∃ x,x=O.getD i Rec.none:=⟨_,rfl⟩
   rw [← hx] at x0 x1 x2 x3 hst hcmp
   have hap:=HS.out.apart (Nat.le_refl wr.heap.size)
   have HSa:=hid (HS.out.alloc (.cells (recCells x) 30))
   have HXa:=hid (Whole.new wr 30 (recCells x))
   have HBa:=hid ((HBx.out.keep HS.out.keeps (fun h=>h)).alloc (.cells (recCells x) 30))
   clear hx hil hxf HF HS
   obtain ⟨y0,y1,y2,y3⟩:=rec_cells HBa.out
   have HIl:=hid (And.intro hi hli)
   have hcases:bb=true ∨ (bb=false∧lessK r.key x.key=true) ∨ (bb=false∧lessK r.key x.key=false):=by
    cases bb
    ·cases lessK r.key x.key
     ·exact .inr (.inr ⟨rfl,rfl⟩)
     ·exact .inr (.inl ⟨rfl,rfl⟩)
    ·exact .inl rfl
   rcases hcases with rfl|⟨rfl,hl1⟩|⟨rfl,hl1⟩
   ·have HE:=hid (show (O.take (i+1)).foldl (insStep r) (false,[])=(true,P ++ [x]) from by rw [hst];exact (rfl))
    clear hst
    clear hcmp
    obtain ⟨z0,z1,z2,z3⟩:=rec_cells HXa.out
    have HSb:=hid (HSa.out.alloc (.cells (recCells x) 30))
    have HXb:=hid (Whole.new (wr.alloc (.cells (recCells x) 30)) 30 (recCells x))
    rw [World.size_alloc] at HXb
    unfold recCells at HSb HXb y0 y1 y2 y3 z0 z1 z2 z3
    go_wp2_with (at_builtin;refine wpList_append_rec rfl _ _ rfl _ P rfl HSb.out (wr.heap.size+1) x rfl HXb.out (by omega) ?_)
    intro v1 w1 h1 _
    have HSc:=hid h1
    have hIl:=HIl.out
    clear h1 hap HSb HXb HSa HXa HBa x0 x1 x2 x3 y0 y1 y2 y3 z0 z1 z2 z3
    go_wp2_with fail
    exact ⟨⟨i+1,true,P ++ [x],by omega,by go_num,rfl,by simp;omega,HE,HSc⟩,by simp [intOf];omega⟩
   ·have HE:=hid (show (O.take (i+1)).foldl (insStep r) (false,[])=(true,P ++ [r,x]) from by rw [hst];exact (by unfold insStep;rw [hl1];simp))
    clear hst
    rw [hl1] at hcmp
    clear hl1
    have HSb:=hid (HSa.out.alloc (.cells (recCells r) 30))
    have HRb:=hid (Whole.new (wr.alloc (.cells (recCells x) 30)) 30 (recCells r))
    rw [World.size_alloc] at HRb
    unfold recCells at HSb HRb HXa y0 y1 y2 y3
    go_wp2_with (at_builtin;refine wpList_append_rec rfl _ _ rfl _ P rfl HSb.out (wr.heap.size+1) r rfl HRb.out (by omega) ?_)
    intro v1 w1 h1 hg1
    have HXc:=hid ((HXa.out.alloc (.cells #[.bool r.del,.int .u64 (r.seq:Int),.string (strOfNums r.key),.string (strOfNums r.val)] 30)).grown hg1 hap)
    have HSc:=hid h1
    clear h1 hg1 hap HSb HRb HSa HXa HBa x0 x1 x2 x3 y0 y1 y2 y3
    obtain ⟨z0,z1,z2,z3⟩:=rec_cells HXc.out
    have HSd:=hid (HSc.out.alloc (.cells (recCells x) 30))
    have HXd:=hid (Whole.new w1 30 (recCells x))
    unfold recCells at HSd HXd
    go_wp2_with (at_builtin;refine wpList_append_rec rfl _ _ rfl _ (P ++ [r]) rfl HSd.out w1.heap.size x rfl HXd.out (by simp;omega) ?_)
    intro v2 w2 h2 _
    have HSe:=hid h2
    have hIl:=HIl.out
    clear h2 HSd HXd HSc HXc z0 z1 z2 z3
    go_wp2_with fail
    exact ⟨⟨i+1,true,P ++ [r,x],by omega,by go_num,rfl,by simp;omega,HE,HSe⟩,by simp [intOf];omega⟩
   ·have HE:=hid (show (O.take (i+1)).foldl (insStep r) (false,[])=(false,P ++ [x]) from by rw [hst];exact (by unfold insStep;rw [hl1];rfl))
    clear hst
    rw [hl1] at hcmp
    clear hl1
    obtain ⟨z0,z1,z2,z3⟩:=rec_cells HXa.out
    have HSb:=hid (HSa.out.alloc (.cells (recCells x) 30))
    have HXb:=hid (Whole.new (wr.alloc (.cells (recCells x) 30)) 30 (recCells x))
    rw [World.size_alloc] at HXb
    unfold recCells at HSb HXb y0 y1 y2 y3 z0 z1 z2 z3
    go_wp2_with (at_builtin;refine wpList_append_rec rfl _ _ rfl _ P rfl HSb.out (wr.heap.size+1) x rfl HXb.out (by omega) ?_)
    intro v1 w1 h1 _
    have HSc:=hid h1
    have hIl:=HIl.out
    clear h1 hap HSb HXb HSa HXa HBa x0 x1 x2 x3 y0 y1 y2 y3 z0 z1 z2 z3
    go_wp2_with fail
    exact ⟨⟨i+1,false,P ++ [x],by omega,by go_num,rfl,by simp;omega,HE,HSc⟩,by simp [intOf];omega⟩
set_option maxHeartbeats 8000000 in
set_option maxRecDepth 10000 in
theorem sorted18_ref (p:Option Addr) (n c:Nat) (l:List Rec) (hn9:n≤100000) (w:World) (hi:InR w p n c l) :
  Calls Try.prog 20 #[.slice p n c] w fun e w'=>∃ v,e=.returned v∧NewRecs w (sortedF l) v w':=by
 have HI:=hid hi
 rw [show sortedF l=l.foldl insS [] from rfl]
 clear hi
 obtain ⟨R,hR⟩:∃ R,R=l.foldl insS []:=⟨_,rfl⟩
 have HR:=hid hR
 rw [← hR]
 clear hR
 go_enter Try.func20,Try.ntmps20
 go_wp2_with fail
 go_loopw [3,12] (fun v x wr=>∃ j:Nat,j≤n∧x=.int .i64 (j:Int)∧Hid (NewRecs w ((l.take j).foldl insS []) v wr)∧Hid (Keeps NoBlock w wr)) (fun _ x _=>n - (intOf x).toNat)
 case atStart=>exact ⟨0,Nat.zero_le _,rfl,hid ⟨none,0,0,rfl,rfl,Nat.le_refl _,by decide,fun _=>⟨rfl,rfl⟩,RecsAt.nil _ _,(Keeps.refl NoBlock w)⟩,hid (Keeps.refl _ _)⟩
 case round =>
  obtain ⟨j,hj,rfl,HO,HK⟩:=hrel
  by_cases hlt:j<n
  rotate_left
  ·have hdj:decide ((j:Int)<(n:Int))=false:=decide_eq_false (by omega)
   have hdj2:decide (j<n)=false:=decide_eq_false hlt
   have HO2:=hid HO.out
   rw [List.take_of_length_le (by have:=HI.out.len;omega),← HR.out] at HO2
   clear HO
   go_wp2_with fail
   go_ret
   exact ⟨_,rfl,HO2.out⟩
  have hdj:decide ((j:Int)<(n:Int))=true:=decide_eq_true (by omega)
  have hdj2:decide (j<n)=true:=decide_eq_true hlt
  have hjl:j<l.length:=by rw [← HI.out.len];exact hlt
  have hIr:=HI.out.keep HK.out
  obtain ⟨a,hqa,x0,x1,x2,x3⟩:=hIr.at_ j hjl
  obtain rfl:=hqa
  have hmem:=getR_mem hjl
  have HRf:=hid (hIr.fine _ hmem)
  have hon:((l.take j).foldl insS []).length≤100000∧∀ x ∈ (l.take j).foldl insS [],x ∈ l:=by
   have hg:=sorted_go (l.take j) []
   refine ⟨by have:=hg.1;rw [List.length_take,List.length_nil] at this;omega,fun x hx=>?_⟩
   rcases hg.2 x hx with h|h
   ·simp at h
   ·exact List.mem_of_mem_take h
  have HSn:=hid (foldl_snoc insS [] l j Rec.none hjl)
  obtain ⟨O,hO⟩:∃ O,O=(l.take j).foldl insS []:=⟨_,rfl⟩
  rw [← hO] at HO hon HSn
  obtain ⟨q,m,d,rfl,hIo,hko⟩:=HO.out.inR (l:=l) hIr hon.2
  have hm9':m≤100000:=by rw [hIo.len];exact hon.1
  obtain ⟨r,hr⟩:∃ r,r=l.getD j Rec.none:=⟨_,rfl⟩
  rw [← hr] at x0 x1 x2 x3 HRf HSn
  have hka:Keeps NoBlock wr (wr.alloc (.cells (recCells r) 30)):=(Keeps.refl NoBlock wr).alloc _
  have HIo:=hid (hIo.keep hka)
  have HKw:=hid (hko.trans hka)
  have HKc2:=hid (HK.out.trans hka)
  have HBx:=hid (Whole.new wr 30 (recCells r))
  have HJ:=hid (And.intro hj hlt)
  clear hr hjl hmem hIr hO hon hIo hko HO HK
  obtain ⟨Ws,hWs⟩:∃ W,W=wr.alloc (.cells (recCells r) 30):=⟨_,rfl⟩
  rw [← hWs] at HIo HKw HKc2 HBx hka
  unfold recCells at hWs
  obtain ⟨g,hg⟩:∃ g,g=wr.heap.size:=⟨_,rfl⟩
  rw [← hg] at HBx
  go_wp2_with fail
  rw [← hWs,← hg]
  clear hWs x0 x1 x2 x3 hka hg
  go_loopw [6,7,18] (fun u b x wi=>∃ (i:Nat) (bb:Bool) (P:List Rec),i≤m∧x=.int .i64 (i:Int)∧b=.bool bb∧P.length≤2*i∧Hid ((O.take i).foldl (seqStep r) (false,[])=(bb,P))∧Hid (RecsSoFar Ws P u wi)) (fun _ _ x _=>m - (intOf x).toNat)
  case atStart=>exact ⟨0,false,[],Nat.zero_le _,rfl,rfl,Nat.le_refl _,hid rfl,hid (RecsSoFar.start Ws)⟩
  case round =>
   obtain ⟨i,bb,P,hi,rfl,rfl,hP,HF,HS⟩:=hrel
   by_cases hli:i<m
   rotate_left
   ·have hdi:decide ((i:Int)<(m:Int))=false:=decide_eq_false (by omega)
    have hdi2:decide (i<m)=false:=decide_eq_false hli
    have HEnd:=hid (show insS O r=insEnd r (bb,P) by
     have h:=HF.out
     rw [List.take_of_length_le (by have:=HIo.out.len;omega)] at h
     unfold insS
     rw [h])
    have hJ:=HJ.out
    cases bb with
    | true =>
     have HO':=hid (show NewRecs w ((l.take (j+1)).foldl insS []) _ wr from by rw [HSn.out,HEnd.out];exact (HS.out.lower HKw.out).new)
     have HK':=hid (HKc2.out.trans HS.out.keeps)
     clear HF HS HEnd
     go_wp2_with fail
     exact ⟨⟨j+1,by omega,by go_num,HO',HK'⟩,by simp [intOf];omega⟩
    | false =>
     obtain ⟨y0,y1,y2,y3⟩:=rec_cells (HBx.out.keep HS.out.keeps (fun h=>h))
     have HS3:=hid (HS.out.alloc (.cells (recCells r) 30))
     have HW3:=hid (Whole.new wr 30 (recCells r))
     unfold recCells at HS3 HW3
     clear HF HS
     go_wp2_with (at_builtin;refine wpList_append_rec rfl _ _ rfl _ P rfl HS3.out wr.heap.size r rfl HW3.out (by omega) ?_)
     intro v' w2 h2 _
     have HO':=hid (show NewRecs w ((l.take (j+1)).foldl insS []) v' w2 from by rw [HSn.out,HEnd.out];exact (h2.lower HKw.out).new)
     have HK':=hid (HKc2.out.trans h2.keeps)
     clear h2 HS3 HW3 y0 y1 y2 y3 HEnd
     go_wp2_with fail
     exact ⟨⟨j+1,by omega,by go_num,HO',HK'⟩,by simp [intOf];omega⟩
   have hdi:decide ((i:Int)<(m:Int))=true:=decide_eq_true (by omega)
   have hdi2:decide (i<m)=true:=decide_eq_true hli
   have hil:i<O.length:=by rw [← HIo.out.len];exact hli
   obtain ⟨a2,hqa2,x0,x1,x2,x3⟩:=(HIo.out.at_.keep HS.out.keeps (fun _ _ h=>h)) i hil
   obtain rfl:=hqa2
   have hst:=foldl_snoc (seqStep r) (false,[]) O i Rec.none hil
   rw [HF.out] at hst
   have hxf:=HIo.out.fine _ (getR_mem hil)
   have hcmp:=less_str HRf.out.key hxf.key
   obtain ⟨x,hx⟩:∃ x,x=O.getD i Rec.none:=⟨_,rfl⟩
   rw [← hx] at x0 x1 x2 x3 hst hcmp
   have hap:=HS.out.apart (Nat.le_refl wr.heap.size)
   have HSa:=hid (HS.out.alloc (.cells (recCells x) 30))
   have HXa:=hid (Whole.new wr 30 (recCells x))
   have HBa:=hid ((HBx.out.keep HS.out.keeps (fun h=>h)).alloc (.cells (recCells x) 30))
   clear hx hil hxf HF HS
   obtain ⟨y0,y1,y2,y3⟩:=rec_cells HBa.out
   have HIl:=hid (And.intro hi hli)
   clear hcmp
   have hcases:(bb=true∧x.seq=r.seq) ∨ (bb=true∧¬ x.seq=r.seq) ∨ (bb=false∧x.seq=r.seq) ∨ (bb=false∧¬ x.seq=r.seq∧r.seq<x.seq) ∨ (bb=false∧¬ x.seq=r.seq∧¬ r.seq<x.seq):=by
    by_cases h1:x.seq=r.seq <;> by_cases h2:r.seq<x.seq <;> cases bb <;> simp [h1,h2] <;> omega
   rcases hcases with ⟨rfl,hl1⟩|⟨rfl,hl1⟩|⟨rfl,hl1⟩|⟨rfl,hl1,hl2⟩|⟨rfl,hl1,hl2⟩
   ·have HE:=hid (show (O.take (i+1)).foldl (seqStep r) (false,[])=(true,P ++ [x]) from by rw [hst];exact (by unfold seqStep;simp [hl1]))
    clear hst
    have e1:((x.seq:Int) == (r.seq:Int))=true:=by rw [beq_iff_eq];omega
    have e4:(x.seq == r.seq)=true:=by rw [beq_iff_eq];exact hl1
    clear hl1
    obtain ⟨z0,z1,z2,z3⟩:=rec_cells HXa.out
    have HSb:=hid (HSa.out.alloc (.cells (recCells x) 30))
    have HXb:=hid (Whole.new (wr.alloc (.cells (recCells x) 30)) 30 (recCells x))
    rw [World.size_alloc] at HXb
    unfold recCells at HSb HXb y0 y1 y2 y3 z0 z1 z2 z3
    go_wp2_with (at_builtin;refine wpList_append_rec rfl _ _ rfl _ P rfl HSb.out (wr.heap.size+1) x rfl HXb.out (by omega) ?_)
    intro v1 w1 h1 _
    have HSc:=hid h1
    have hIl:=HIl.out
    clear h1 hap HSb HXb HSa HXa HBa x0 x1 x2 x3 y0 y1 y2 y3 z0 z1 z2 z3
    go_wp2_with fail
    exact ⟨⟨i+1,true,P ++ [x],by omega,by go_num,rfl,by simp;omega,HE,HSc⟩,by simp [intOf];omega⟩
   ·have HE:=hid (show (O.take (i+1)).foldl (seqStep r) (false,[])=(true,P ++ [x]) from by rw [hst];exact (by unfold seqStep;simp [hl1]))
    clear hst
    have e1:((x.seq:Int) == (r.seq:Int))=false:=by rw [beq_eq_false_iff_ne,ne_eq];omega
    have e4:(x.seq == r.seq)=false:=by rw [beq_eq_false_iff_ne,ne_eq];exact hl1
    clear hl1
    obtain ⟨z0,z1,z2,z3⟩:=rec_cells HXa.out
    have HSb:=hid (HSa.out.alloc (.cells (recCells x) 30))
    have HXb:=hid (Whole.new (wr.alloc (.cells (recCells x) 30)) 30 (recCells x))
    rw [World.size_alloc] at HXb
    unfold recCells at HSb HXb y0 y1 y2 y3 z0 z1 z2 z3
    go_wp2_with (at_builtin;refine wpList_append_rec rfl _ _ rfl _ P rfl HSb.out (wr.heap.size+1) x rfl HXb.out (by omega) ?_)
    intro v1 w1 h1 _
    have HSc:=hid h1
    have hIl:=HIl.out
    clear h1 hap HSb HXb HSa HXa HBa x0 x1 x2 x3 y0 y1 y2 y3 z0 z1 z2 z3
    go_wp2_with fail
    exact ⟨⟨i+1,true,P ++ [x],by omega,by go_num,rfl,by simp;omega,HE,HSc⟩,by simp [intOf];omega⟩
   ·have HE:=hid (show (O.take (i+1)).foldl (seqStep r) (false,[])=(true,P ++ [x]) from by rw [hst];exact (by unfold seqStep;simp [hl1]))
    clear hst
    have e1:((x.seq:Int) == (r.seq:Int))=true:=by rw [beq_iff_eq];omega
    have e4:(x.seq == r.seq)=true:=by rw [beq_iff_eq];exact hl1
    clear hl1
    obtain ⟨z0,z1,z2,z3⟩:=rec_cells HXa.out
    have HSb:=hid (HSa.out.alloc (.cells (recCells x) 30))
    have HXb:=hid (Whole.new (wr.alloc (.cells (recCells x) 30)) 30 (recCells x))
    rw [World.size_alloc] at HXb
    unfold recCells at HSb HXb y0 y1 y2 y3 z0 z1 z2 z3
    go_wp2_with (at_builtin;refine wpList_append_rec rfl _ _ rfl _ P rfl HSb.out (wr.heap.size+1) x rfl HXb.out (by omega) ?_)
    intro v1 w1 h1 _
    have HSc:=hid h1
    have hIl:=HIl.out
    clear h1 hap HSb HXb HSa HXa HBa x0 x1 x2 x3 y0 y1 y2 y3 z0 z1 z2 z3
    go_wp2_with fail
    exact ⟨⟨i+1,true,P ++ [x],by omega,by go_num,rfl,by simp;omega,HE,HSc⟩,by simp [intOf];omega⟩
   ·have HE:=hid (show (O.take (i+1)).foldl (seqStep r) (false,[])=(true,P ++ [r,x]) from by rw [hst];exact (by unfold seqStep;simp [hl1,hl2]))
    clear hst
    have e1:((x.seq:Int) == (r.seq:Int))=false:=by rw [beq_eq_false_iff_ne,ne_eq];omega
    have e4:(x.seq == r.seq)=false:=by rw [beq_eq_false_iff_ne,ne_eq];exact hl1
    have e2:decide ((r.seq:Int)<(x.seq:Int))=true:=decide_eq_true (by omega)
    have e3:decide (r.seq<x.seq)=true:=decide_eq_true (by omega)
    clear hl1 hl2
    have HSb:=hid (HSa.out.alloc (.cells (recCells r) 30))
    have HRb:=hid (Whole.new (wr.alloc (.cells (recCells x) 30)) 30 (recCells r))
    rw [World.size_alloc] at HRb
    unfold recCells at HSb HRb HXa y0 y1 y2 y3
    go_wp2_with (at_builtin;refine wpList_append_rec rfl _ _ rfl _ P rfl HSb.out (wr.heap.size+1) r rfl HRb.out (by omega) ?_)
    intro v1 w1 h1 hg1
    have HXc:=hid ((HXa.out.alloc (.cells #[.bool r.del,.int .u64 (r.seq:Int),.string (strOfNums r.key),.string (strOfNums r.val)] 30)).grown hg1 hap)
    have HSc:=hid h1
    clear h1 hg1 hap HSb HRb HSa HXa HBa x0 x1 x2 x3 y0 y1 y2 y3
    obtain ⟨z0,z1,z2,z3⟩:=rec_cells HXc.out
    have HSd:=hid (HSc.out.alloc (.cells (recCells x) 30))
    have HXd:=hid (Whole.new w1 30 (recCells x))
    unfold recCells at HSd HXd
    go_wp2_with (at_builtin;refine wpList_append_rec rfl _ _ rfl _ (P ++ [r]) rfl HSd.out w1.heap.size x rfl HXd.out (by simp;omega) ?_)
    intro v2 w2 h2 _
    have HSe:=hid h2
    have hIl:=HIl.out
    clear h2 HSd HXd HSc HXc z0 z1 z2 z3
    go_wp2_with fail
    exact ⟨⟨i+1,true,P ++ [r,x],by omega,by go_num,rfl,by simp;omega,HE,HSe⟩,by simp [intOf];omega⟩
   ·have HE:=hid (show (O.take (i+1)).foldl (seqStep r) (false,[])=(false,P ++ [x]) from by rw [hst];exact (by unfold seqStep;simp [hl1,hl2]))
    clear hst
    have e1:((x.seq:Int) == (r.seq:Int))=false:=by rw [beq_eq_false_iff_ne,ne_eq];omega
    have e4:(x.seq == r.seq)=false:=by rw [beq_eq_false_iff_ne,ne_eq];exact hl1
    have e2:decide ((r.seq:Int)<(x.seq:Int))=false:=decide_eq_false (by omega)
    have e3:decide (r.seq<x.seq)=false:=decide_eq_false (by omega)
    clear hl1 hl2
    obtain ⟨z0,z1,z2,z3⟩:=rec_cells HXa.out
    have HSb:=hid (HSa.out.alloc (.cells (recCells x) 30))
    have HXb:=hid (Whole.new (wr.alloc (.cells (recCells x) 30)) 30 (recCells x))
    rw [World.size_alloc] at HXb
    unfold recCells at HSb HXb y0 y1 y2 y3 z0 z1 z2 z3
    go_wp2_with (at_builtin;refine wpList_append_rec rfl _ _ rfl _ P rfl HSb.out (wr.heap.size+1) x rfl HXb.out (by omega) ?_)
    intro v1 w1 h1 _
    have HSc:=hid h1
    have hIl:=HIl.out
    clear h1 hap HSb HXb HSa HXa HBa x0 x1 x2 x3 y0 y1 y2 y3 z0 z1 z2 z3
    go_wp2_with fail
    exact ⟨⟨i+1,false,P ++ [x],by omega,by go_num,rfl,by simp;omega,HE,HSc⟩,by simp [intOf];omega⟩
end
section
open Go.RowKit
theorem filter_snoc {f:Rec→Bool} {l:List Rec} {j:Nat} (hj:j<l.length):(l.take (j+1)).filter f=(l.take j).filter f ++ (if f (l.getD j Rec.none)=true then [l.getD j Rec.none] else []):=by
 rw [List.take_succ_eq_append_getElem hj,List.filter_append]
 simp [hj,List.filter_cons]
set_option maxHeartbeats 4000000 in
set_option maxRecDepth 10000 in
theorem live18_ref (p:Option Addr) (n c:Nat) (l:List Rec) (hn9:n≤100000) (w:World) (hi:InR w p n c l) :
  Calls Try.prog 16 #[.slice p n c] w fun e w'=>∃ v,e=.returned v∧NewRecs w (liveF l) v w':=by
 have HI0:=hid hi
 have HBy:=hid (byKey18_ref p n c l hn9 w hi)
 have hcl:(byKeyF l).length≤n:=by rw [hi.len];exact byKeyF_length l
 obtain ⟨C,hC⟩:∃ C,C=byKeyF l:=⟨_,rfl⟩
 have HSub:=hid (show ∀ x ∈ C,x ∈ l from fun x hx=>compactF_mem (byKeyF_mem.1 (by rw [← hC];exact hx)))
 obtain ⟨R,hR⟩:∃ R,R=liveF l:=⟨_,rfl⟩
 have HR:=hid (show R=C.filter fun r=>!r.del from by rw [hR,hC];rfl)
 rw [← hR]
 rw [← hC] at HBy hcl
 clear hi hC hR
 go_enter Try.func16,Try.ntmps16
 go_wp2_with fail
 refine HBy.out.mono ?_
 rintro e wC ⟨v,rfl,hnew⟩
 obtain ⟨qC,mC,dC,rfl,hic,hkc⟩:=hnew.inR HI0.out HSub.out
 have HI:=hid hic
 have HKc:=hid hkc
 have hm9:mC≤100000:=by rw [hic.len];omega
 clear hnew hic hkc HBy hcl
 go_wp2_with fail
 go_loopw [3,9] (fun v x wr=>∃ j:Nat,j≤mC∧x=.int .i64 (j:Int)∧Hid (RecsSoFar wC ((C.take j).filter fun r=>!r.del) v wr)) (fun _ x _=>mC - (intOf x).toNat)
 case atStart=>exact ⟨0,Nat.zero_le _,rfl,hid (RecsSoFar.start wC)⟩
 case round =>
  obtain ⟨j,hj,rfl,HS⟩:=hrel
  by_cases hlt:j<mC
  rotate_left
  ·have hdj:decide ((j:Int)<(mC:Int))=false:=decide_eq_false (by omega)
   have hdj2:decide (j<mC)=false:=decide_eq_false hlt
   have HS2:=hid HS.out
   rw [List.take_of_length_le (by have:=HI.out.len;omega),← HR.out] at HS2
   clear HS
   go_wp2_with fail
   go_ret
   exact ⟨_,rfl,(HS2.out.lower HKc.out).new⟩
  have hdj:decide ((j:Int)<(mC:Int))=true:=decide_eq_true (by omega)
  have hdj2:decide (j<mC)=true:=decide_eq_true hlt
  have hjl:j<C.length:=by rw [← HI.out.len];exact hlt
  obtain ⟨a,hqa,x0,x1,x2,x3⟩:=(HI.out.at_.keep HS.out.keeps (fun _ _ h=>h)) j hjl
  obtain rfl:=hqa
  have HSn:=hid (filter_snoc (f:=fun r=>!r.del) hjl)
  have hpl:((C.take j).filter fun r=>!r.del).length≤100000:=Nat.le_trans (List.length_filter_le _ _) (by rw [List.length_take];omega)
  obtain ⟨P,hP⟩:∃ P,P=(C.take j).filter fun r=>!r.del:=⟨_,rfl⟩
  obtain ⟨r,hr⟩:∃ r,r=C.getD j Rec.none:=⟨_,rfl⟩
  rw [← hr] at x0 x1 x2 x3 HSn
  rw [← hP] at HS HSn hpl
  have HS1:=hid (HS.out.alloc (.cells (recCells r) 30))
  have HW1:=hid (Whole.new wr 30 (recCells r))
  have HJ:=hid (And.intro hj hlt)
  clear hr hP hjl HS
  cases hd:r.del with
  | true =>
   have HE:=hid (show (C.take (j+1)).filter (fun r=>!r.del)=P by rw [HSn.out];simp [hd])
   rw [hd] at x0
   unfold recCells at HS1 HW1
   rw [hd] at HS1 HW1
   clear hd HSn
   go_wp2_with fail
   have hJ:=HJ.out
   go_roundw
   case rel=>exact ⟨j+1,by omega,by go_num,by rw [HE.out];exact HS1⟩
   case measure=>simp [intOf];omega
  | false =>
   have HE:=hid (show (C.take (j+1)).filter (fun r=>!r.del)=P ++ [r] by rw [HSn.out];simp [hd])
   obtain ⟨y0,y1,y2,y3⟩:=rec_cells HW1.out
   have HS3:=hid (HS1.out.alloc (.cells (recCells r) 30))
   have HW3:=hid (Whole.new (wr.alloc (.cells (recCells r) 30)) 30 (recCells r))
   rw [World.size_alloc] at HW3
   have HWr:=hid (show recCells r=#[.bool false,.int .u64 (r.seq:Int),.string (strOfNums r.key),.string (strOfNums r.val)] from by unfold recCells;rw [hd])
   rw [HWr.out] at HS3 y0 y1 y2 y3
   rw [hd] at x0 y0
   clear HS1 HW1 HSn hd
   go_wp2_with (at_builtin;refine wpList_append_rec rfl _ _ rfl _ P rfl HS3.out (wr.heap.size+1) r rfl (by have h:=HW3.out;rw [HWr.out] at h ⊢;exact h) (by omega) ?_)
   intro v' w2 h2 _
   have HS4:=hid h2
   have hJ:=HJ.out
   clear h2 HS3 HW3 y0 y1 y2 y3
   go_wp2_with fail
   exact ⟨⟨j+1,by omega,by go_num,by rw [HE.out];exact HS4⟩,by simp [intOf];omega⟩
end
section
end
section
def Solid (xs:List Int):Prop:=∀ b ∈ xs,1≤b∧b<256
theorem Solid.nil:Solid []:=fun b hb=>by simp at hb
theorem Solid.cons {xs:List Int} (h:Solid xs) {b:Int} (hb:1≤b∧b<256):Solid (b :: xs):=fun x hx =>
 (List.mem_cons.1 hx).elim (fun e=>by rw [e];exact hb) (h x)
end
section
end
end Go.Proofs.Ytbmhdfjaakkoaaa

/-
  FoCompF.
-/
import Derived.Shelf.SlSortCmp.KitK
import Derived.Lib.Hide
import Derived.Test.YtbmhdfjaakkoaaaM21
namespace Go.Proofs.Ytbmhdfjaakkoaaa
open Lib (hid)
section
open Go.RowKit Go.Lib Go.Sort Go.Shelf
structure CompI (A f:Nat→Rec) (p kk:Nat):Prop where
 len:(compS A p).length=kk
 lt:kk<p
 low:∀ i,i<kk→f i=(compS A p).getD i Rec.none
 high:∀ i,p≤i+1→f i=A i
theorem compS_all {A:Nat→Rec}:∀ {m:Nat},(∀ j,j<m→keepS A j=true)→compS A m=(List.range m).map A
 | 0,_=>rfl
 | m+1,h=>by
  rw [compS_succ,if_pos (h m (by omega)),compS_all (fun j hj=>h j (by omega)),List.range_succ,List.map_append]
  rfl
theorem range_getD (A:Nat→Rec) {m i:Nat} (h:i<m):((List.range m).map A).getD i Rec.none=A i:=by
 rw [List.getD_eq_getElem?_getD,List.getElem?_map,List.getElem?_range h]
 rfl
theorem CompI.start {A:Nat→Rec} {q:Nat} (h:∀ j,j<q→keepS A j=true) (hq:keepS A q=false):CompI A A (q+1) q:=by
 have e:compS A (q+1)=(List.range q).map A:=by rw [compS_succ,if_neg (by rw [hq];simp),List.append_nil,compS_all h]
 exact ⟨by rw [e];simp,by omega,fun i hi=>by rw [e,range_getD A hi],fun _ _=>rfl⟩
theorem CompI.skip {A f:Nat→Rec} {p kk:Nat} (h:CompI A f p kk) (hk:keepS A p=false):CompI A f (p+1) kk:=by
 have e:compS A (p+1)=compS A p:=by rw [compS_succ,if_neg (by rw [hk];simp),List.append_nil]
 exact ⟨by rw [e];exact h.len,by have:=h.lt;omega,fun i hi=>by rw [e];exact h.low i hi,fun i hi=>h.high i (by omega)⟩
theorem CompI.keep {A f:Nat→Rec} {p kk:Nat} (h:CompI A f p kk) (hk:keepS A p=true):CompI A (fun i=>if i=kk then A p else f i) (p+1) (kk+1):=by
 have e:compS A (p+1)=compS A p ++ [A p]:=by rw [compS_succ,if_pos hk]
 have hl:=h.len
 have hlt:=h.lt
 refine ⟨by rw [e,List.length_append,List.length_singleton,hl],by omega,fun i hi=>?_,fun i hi=>?_⟩
 ·rw [e]
  by_cases c:i=kk
  ·subst c
   simp only [if_true]
   rw [List.getD_eq_getElem?_getD,List.getElem?_append_right (by omega),hl]
   simp
  ·simp only [if_neg c]
   rw [List.getD_eq_getElem?_getD,List.getElem?_append_left (by omega),← List.getD_eq_getElem?_getD]
   exact h.low i (by omega)
 ·simp only [if_neg (show i ≠ kk by omega)]
  exact h.high i (by omega)
theorem keepS_pos {A:Nat→Rec} {j:Nat} (h:(A j).seq ≠ (A (j - 1)).seq):keepS A j=true:=decide_eq_true (.inr h)
theorem keepS_neg {A:Nat→Rec} {j:Nat} (hj:j ≠ 0) (h:(A j).seq=(A (j - 1)).seq):keepS A j=false:=decide_eq_false (fun h2=>h2.elim hj (fun h3=>h3 h))
theorem keepS_lt_one (A:Nat→Rec):∀ j,j<0+1→keepS A j=true:=fun j hj=>decide_eq_true (.inl (by omega))
def CompactedS (A:Nat→Rec) (g d n:Nat) (w:World) (e:Ending) (w':World):Prop :=
 ∃ m,m=(compS A n).length∧e=.returned (.slice (some ⟨g,0,none⟩) m d)∧RowR w' g d m (fun i=>(compS A n).getD i Rec.none)∧Keeps (Just g) w w'
theorem CompactedS.all {A:Nat→Rec} {g d n:Nat} {w w':World} (h:∀ j,j<n→keepS A j=true) (hr:RowR w' g d n A) (hk:Keeps (Just g) w w'):CompactedS A g d n w (.returned (.slice (some ⟨g,0,none⟩) n d)) w':=by
 refine ⟨n,by rw [compS_all h];simp,rfl,?_,hk⟩
 rw [compS_all h]
 exact hr.congr (Nat.le_refl _) (fun i hi=>(range_getD A hi).symm)
theorem rowR_grown {W:World} {g d n:Nat} {f:Nat→Rec} (h:RowR W g d n f) {i:Nat} (hi:i<n) {x:Rec} (hx:f i=x) :
  (∀ k os,(grow (W.drewN k) os).cell? ⟨g,i*4,none⟩=some (.bool x.del))∧(∀ k os,(grow (W.drewN k) os).cell? ⟨g,i*4+1,none⟩=some (.int .u64 (x.seq:Int)))∧(∀ k os,(grow (W.drewN k) os).cell? ⟨g,i*4+2,none⟩=some (.string (strOfNums x.key)))∧(∀ k os,(grow (W.drewN k) os).cell? ⟨g,i*4+3,none⟩=some (.string (strOfNums x.val))):=by
 have hk:∀ k os,RowR (grow (W.drewN k) os) g d n f:=fun k os=>h.keep (Grown.keeps ⟨k,os,rfl⟩) (fun h=>h)
 subst hx
 exact ⟨fun k os=>((hk k os).cell hi).1,fun k os=>((hk k os).cell hi).2.1,fun k os=>((hk k os).cell hi).2.2.1,fun k os=>((hk k os).cell hi).2.2.2⟩
theorem one_grown (x y:Rec) (W:World):∀ k os,Calls Try.prog 32 #[.agg #[.bool x.del,.int .u64 (x.seq:Int),.string (strOfNums x.key),.string (strOfNums x.val)],.agg #[.bool y.del,.int .u64 (y.seq:Int),.string (strOfNums y.key),.string (strOfNums y.val)]] (grow (W.drewN k) os) fun e w'=>e=.returned (.bool (decide (x.seq=y.seq)))∧∃ q os',w'=grow ((grow (W.drewN k) os).drewN q) os' :=
 fun _ _=>oneSeq_grown x y _
set_option maxHeartbeats 8000000 in
set_option maxRecDepth 100000 in
theorem compactF_own (g d n:Nat) (A:Nat→Rec) (w:World) (h:RowR w g d n A) (_hd:d≤9223372036854775807) (hn9:n≤1000000) :
  Calls Try.prog 31 #[.slice (some ⟨g,0,none⟩) n d,.func (.func 32) #[] #[]] w (CompactedS A g d n w):=by
 have mixed:Try.prog.follows .mixedOrders=true:=by kernel_rfl
 have hnd:n≤d:=h.le
 have HR:=hid h
 clear h
 by_cases h2:n<2
 ·have h2d:decide ((n:Int)<2)=true:=decide_eq_true (by omega)
  have h2e:decide (n<2)=true:=decide_eq_true h2
  go_enter Try.func31,Try.ntmps31
  go_wp2_with fail
  go_ret
  exact CompactedS.all (fun j hj=>keepS_lt_one A j (by omega)) HR.out (Keeps.refl _ _)
 ·have h2d:decide ((n:Int)<2)=false:=decide_eq_false (by omega)
  have h2e:decide (n<2)=false:=decide_eq_false h2
  go_enter Try.func31,Try.ntmps31
  go_wp2_with fail
  go_loopw [5] (fun i wr=>∃ k:Nat,k+1≤n∧i=.int .i64 ((k+1:Nat):Int)∧Hid (∀ j,j<k+1→keepS A j=true)∧Hid (Keeps NoBlock w wr)) (fun i _=>n - (intOf i).toNat)
  case atStart=>exact ⟨0,by omega,rfl,hid (keepS_lt_one A),hid (Keeps.refl _ _)⟩
  case round =>
   obtain ⟨k,hk,rfl,HA,HK⟩:=hrel
   by_cases hlt:k+1<n
   ·have hdk:decide (((k+1:Nat):Int)<(n:Int))=true:=decide_eq_true (by omega)
    have hdk2:decide ((k:Int)+1<(n:Int))=true:=decide_eq_true (by omega)
    have hdk3:decide (k+1<n)=true:=decide_eq_true hlt
    obtain ⟨x,hx⟩:∃ x,A (k+1)=x:=⟨_,rfl⟩
    obtain ⟨y,hy⟩:∃ y,A k=y:=⟨_,rfl⟩
    have hrow:=HR.out.keep HK.out (fun h=>h)
    obtain ⟨x0,x1,x2,x3⟩:=rowR_grown hrow hlt hx
    obtain ⟨y0,y1,y2,y3⟩:=rowR_grown hrow (i:=k) (by omega) hy
    have hcall:=one_grown x y wr
    have HX:=hid hx
    have HY:=hid hy
    have hkn:(k:Int)<(n:Int):=by omega
    have hkn3:(k:Int)+1<(n:Int):=by omega
    have hk3:(0:Int)≤(k:Int)+1:=by omega
    have hk4:((k:Int)+1).toNat=k+1:=by omega
    have w1:IntKind.i64.wrap (k:Int)=(k:Int):=by rw [IntKind.wrap_i64];omega
    have hk0:(0:Int)≤(k:Int):=by omega
    clear hx hy hrow
    by_cases hxy:x.seq=y.seq
    ·have HE:=hid hxy
     rw [decide_eq_true hxy] at hcall
     clear hxy
     go_wp2_with fail
     go_quiet_grown ((go_at_call 32;exact Calls.grown_of (hcall _ _)))
     go_wp2_with fail
     obtain ⟨W,hW⟩:∃ W,W=grow (wr.drewN nq) osq:=⟨_,rfl⟩
     have HK1:Hid (Keeps NoBlock w W):=hid (by rw [hW];exact HK.out.trans (Grown.keeps ⟨nq,osq,rfl⟩))
     rw [← hW]
     clear hW
     have HKn:Hid (keepS A (k+1)=false):=hid (keepS_neg (by omega) (by rw [show k+1 - 1=k by omega,HX.out,HY.out];exact HE.out))
     have HI0:Hid (CompI A A (k+1+(0+1)) (k+1)):=hid (CompI.start HA.out HKn.out)
     obtain ⟨q,hq⟩:∃ q,q=k+1:=⟨_,rfl⟩
     obtain ⟨M,hM⟩:∃ M,M=n - q:=⟨_,rfl⟩
     obtain ⟨D,hD⟩:∃ D,D=d - q:=⟨_,rfl⟩
     rw [← hq] at hlt HI0
     simp only [← hq]
     rw [← hM,← hD]
     have hqM:q+M=n:=by omega
     have hqD:q+D=d:=by omega
     have HQk:=hid hq
     have HQM:=hid hqM
     have HQD:=hid hqD
     have HQ1:=hid (show 1≤M by omega)
     clear x0 x1 x2 x3 y0 y1 y2 y3 hcall HX HY HE HKn HA hk hk0 w1 hk4 hk3 hkn3 hkn hdk hdk2 hdk3 hq hM hD hqM hqD hlt HK
     go_loopw [5,7] (fun s3 s5 wz=>∃ (kk k2:Nat) (f:Nat→Rec),s3=.int .i64 (kk:Int)∧s5=.int .i64 ((k2+1:Nat):Int)∧k2+1≤M∧Hid (RowR wz g d n f)∧Hid (CompI A f (q+(k2+1)) kk)∧Hid (Keeps (Just g) w wz)) (fun _ s5 _=>M - (intOf s5).toNat)
     case atStart=>exact ⟨q,0,A,by rw [HQk.out];go_num,rfl,HQ1.out,hid (HR.out.keep HK1.out (fun h=>h)),HI0,hid (HK1.out.wider (fun _ _ h=>h.elim))⟩
     case round =>
      obtain ⟨kk,k2,f,rfl,rfl,hk2,HR2,HI,HK2⟩:=hrel
      have hM9:M≤1000000:=by have:=HQM.out;omega
      have hlt0:=HI.out.lt
      have hkn:kk<n:=by have:=HQM.out;omega
      by_cases hlt:k2+1<M
      ·have d1:decide (((k2+1:Nat):Int)<(M:Int))=true:=decide_eq_true (by omega)
       have d2:decide ((k2:Int)+1<(M:Int))=true:=decide_eq_true (by omega)
       have d3:decide (k2+1<M)=true:=decide_eq_true hlt
       obtain ⟨x,hx⟩:∃ x,A (q+(k2+1))=x:=⟨_,rfl⟩
       obtain ⟨y,hy⟩:∃ y,A (q+k2)=y:=⟨_,rfl⟩
       obtain ⟨v,hv⟩:∃ v,f kk=v:=⟨_,rfl⟩
       obtain ⟨x0,x1,x2,x3⟩:=rowR_grown HR2.out (i:=q+(k2+1)) (by have:=HQM.out;omega) ((HI.out.high (q+(k2+1)) (by omega)).trans hx)
       obtain ⟨y0,y1,y2,y3⟩:=rowR_grown HR2.out (i:=q+k2) (by have:=HQM.out;omega) ((HI.out.high (q+k2) (by omega)).trans hy)
       rw [show (q+(k2+1))*4=q*4+(k2+1)*4 by omega] at x0 x1 x2 x3
       rw [show (q+k2)*4=q*4+k2*4 by omega] at y0 y1 y2 y3
       have hcall:=one_grown x y wr
       have HX:=hid hx
       have HY:=hid hy
       have HV:=hid hv
       have HKn:=hid hkn
       clear hx hy hv hlt0
       have b1:(k2:Int)<(M:Int):=by omega
       have b2:(k2:Int)+1<(M:Int):=by omega
       have b3:(0:Int)≤(k2:Int)+1:=by omega
       have b4:((k2:Int)+1).toNat=k2+1:=by omega
       have w1:IntKind.i64.wrap (k2:Int)=(k2:Int):=by rw [IntKind.wrap_i64];omega
       have b5:(0:Int)≤(k2:Int):=by omega
       have b6:(kk:Int)<(n:Int):=by omega
       by_cases hxy:x.seq=y.seq
       ·have HE:=hid hxy
        rw [decide_eq_true hxy] at hcall
        clear hxy
        go_wp2_with fail
        go_quiet_grown ((go_at_call 32;exact Calls.grown_of (hcall _ _)))
        go_wp2_with fail
        go_roundw
        case rel =>
         refine ⟨kk,k2+1,f,rfl,by go_num,by omega,hid (HR2.out.keep (Grown.keeps ⟨nq,osq,rfl⟩) (fun h=>h)),hid ?_,hid (HK2.out.trans ((Grown.keeps ⟨nq,osq,rfl⟩).wider (fun _ _ h=>h.elim)))⟩
         exact HI.out.skip (keepS_neg (by omega) (by rw [show q+(k2+1) - 1=q+k2 by omega,HX.out,HY.out];exact HE.out))
        case measure=>simp [intOf];omega
       ·have HE:=hid hxy
        rw [decide_eq_false hxy] at hcall
        clear hxy
        go_wp2_with fail
        go_quiet_grown ((go_at_call 32;exact Calls.grown_of (hcall _ _)))
        have t0:=x0 nq osq
        have t1:=x1 nq osq
        have t2:=x2 nq osq
        have t3:=x3 nq osq
        obtain ⟨W2,hW2⟩:∃ W2,W2=grow (wr.drewN nq) osq:=⟨_,rfl⟩
        have HR3:Hid (RowR W2 g d n f):=hid (by rw [hW2];exact HR2.out.keep (Grown.keeps ⟨nq,osq,rfl⟩) (fun h=>h))
        have HK3:Hid (Keeps (Just g) w W2):=hid (by rw [hW2];exact HK2.out.trans ((Grown.keeps ⟨nq,osq,rfl⟩).wider (fun _ _ h=>h.elim)))
        rw [← hW2] at t0 t1 t2 t3 ⊢
        clear hW2 x0 x1 x2 x3 y0 y1 y2 y3 hcall
        obtain ⟨r0,r1,r2,r3⟩:=HR3.out.cell HKn.out
        rw [HV.out] at r0 r1 r2 r3
        have f0:=HR3.out.free (kk*4)
        have f1:=HR3.out.free (kk*4+1)
        have f2:=HR3.out.free (kk*4+2)
        have f3:=HR3.out.free (kk*4+3)
        have HRn:=hid (HR3.out.put HKn.out x)
        have HKx:=hid (keepsPut4 HK3.out (.inl (Just.self g)) (kk*4) (.bool x.del) (.int .u64 (x.seq:Int)) (.string (strOfNums x.key)) (.string (strOfNums x.val)))
        go_wp2_with fail
        go_roundw
        case rel =>
         refine ⟨kk+1,k2+1,fun i=>if i=kk then x else f i,by go_num,by go_num,by omega,hid (by first|exact HRn.out|exact HRn.out.drew),hid ?_,hid (by first|exact HKx.out|exact HKx.out.drew)⟩
         have h:=HI.out.keep (keepS_pos (by rw [show q+(k2+1) - 1=q+k2 by omega,HX.out,HY.out];exact HE.out))
         rw [HX.out] at h
         exact h
        case measure=>simp [intOf];omega
      ·have d1:decide (((k2+1:Nat):Int)<(M:Int))=false:=decide_eq_false (by omega)
       have d2:decide ((k2:Int)+1<(M:Int))=false:=decide_eq_false (by omega)
       have d3:decide (k2+1<M)=false:=decide_eq_false hlt
       have hall:q+(k2+1)=n:=by have:=HQM.out;omega
       have HI2:Hid (CompI A f n kk):=hid (by rw [← hall];exact HI.out)
       have hcl:=fun ty=>run_clear_recs HR2.out kk (n - kk) (d - kk) (by omega) (by omega) ty
       have HRc:=hid (HR2.out.setCells kk (by omega) (Builtin.zeroCells #[.bool false,.int .u64 0,.string ⟨#[]⟩,.string ⟨#[]⟩] (n - kk)).toList)
       have HKc:=hid (setCells_keepsR (g:=g) (.inl (Just.self g)) (Builtin.zeroCells #[.bool false,.int .u64 0,.string ⟨#[]⟩,.string ⟨#[]⟩] (n - kk)).toList (kk*4) _ HK2.out)
       obtain ⟨V,hV⟩:∃ V,V=wr.setCells g (kk*4) (Builtin.zeroCells #[.bool false,.int .u64 0,.string ⟨#[]⟩,.string ⟨#[]⟩] (n - kk)).toList:=⟨_,rfl⟩
       rw [← hV] at HRc HKc
       simp only [← hV] at hcl
       have b6:(kk:Int)≤(n:Int):=by omega
       have b7:kk≤n:=by omega
       have b8:kk≤d:=by omega
       have b9:(kk:Int)≤(d:Int):=by omega
       clear hV hall hlt0 HI
       go_wp2_with fail
       go_ret
       refine ⟨kk,HI2.out.len.symm,rfl,?_,HKc.out⟩
       exact HRc.out.congr (Nat.le_refl _) (fun i hi=>HI2.out.low i hi)
    ·have HE:=hid hxy
     rw [decide_eq_false hxy] at hcall
     clear hxy
     go_wp2_with fail
     go_quiet_grown ((go_at_call 32;exact Calls.grown_of (hcall _ _)))
     go_wp2_with fail
     go_roundw
     case rel =>
      refine ⟨k+1,by omega,by go_num,hid (fun j hj=>?_),hid (HK.out.trans (Grown.keeps ⟨nq,osq,rfl⟩))⟩
      by_cases e:j=k+1
      ·subst e
       exact keepS_pos (by rw [show k+1 - 1=k by omega,HX.out,HY.out];exact HE.out)
      ·exact HA.out j (by omega)
     case measure=>simp [intOf];omega
   ·have hdk:decide (((k+1:Nat):Int)<(n:Int))=false:=decide_eq_false (by omega)
    have hdk2:decide ((k:Int)+1<(n:Int))=false:=decide_eq_false (by omega)
    have hdk3:decide (k+1<n)=false:=decide_eq_false hlt
    go_wp2_with fail
    go_ret
    exact CompactedS.all (fun j hj=>HA.out j (by omega)) (HR.out.keep HK.out (fun h=>h)) (HK.out.wider (fun _ _ h=>h.elim))
end
end Go.Proofs.Ytbmhdfjaakkoaaa

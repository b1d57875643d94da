/-
  FoSymC.
-/
import Derived.Deep.Cut
import Derived.Deep.CutRange
import Derived.Deep.DeepCutAuto
import Derived.Lib.Hide
import Derived.Test.YtbmhdfjaakkoaaaM18
import Derived.Test.YtbmhdfjaakkoaaaM19
namespace Go.Proofs.Ytbmhdfjaakkoaaa
open Lib (hid)
section
open Go.RowKit Go.Lib Go.Sort Go.Shelf
structure Halves (d:Array Tg) (a s mid e b:Nat):Prop where
 l1:RunT d a s
 l2:RunT d s mid
 lt:TagsT d a s mid
 r1:RunT d mid e
 r2:RunT d e b
 rt:TagsT d mid e b
 cross:∀ i j,a≤i→i<mid→mid≤j→j<b→ltT d[j]! d[i]! = false
theorem Halves.left {d d2:Array Tg} {a s mid e b:Nat} (h:Halves d a s mid e b) (hme:mid≤e) (p:PermIn a mid d d2):RunT d2 mid e∧RunT d2 e b∧TagsT d2 mid e b:=by
 have v:∀ i,mid≤i→d2[i]! = d[i]!:=fun i hi=>p.2.1 i (.inr hi)
 refine ⟨fun i j h1 h2 h3=>?_,fun i j h1 h2 h3=>?_,fun i j h1 h2 h3 h4=>?_⟩
 ·rw [v i h1,v j (by omega)];exact h.r1 i j h1 h2 h3
 ·rw [v i (by omega),v j (by omega)];exact h.r2 i j h1 h2 h3
 ·rw [v i h1,v j (by omega)];exact h.rt i j h1 h2 h3 h4
set_option maxHeartbeats 4000000 in
set_option maxRecDepth 100000 in
theorem symC_own (cap N:Nat) (w0:World) (g:Nat) (d0:Array Tg) (R:RowK encT 4 w0 g 0 d0) (hN:N=d0.size) (hN9:N≤100000) (L:Nat)
  (IH:∀ (a m b:Nat) (dk:Array Tg) (W:World),b - a<L→dk.size=d0.size→a<m→m<b→b≤N→RunT dk a m→RunT dk m b→TagsT dk a m b→SWK encT 4 w0 g 0 dk W →
   Calls Try.prog 44 #[.slice (some ⟨g,0,none⟩) N cap,.int .i64 (a:Int),.int .i64 (m:Int),.int .i64 (b:Int),bySeqV] W (Merged4 w0 g a b dk))
  (a m b:Nat) (dk:Array Tg) (hs:dk.size=d0.size) (hL:b - a≤L) (hma:a+1<m) (hmb:m+1<b) (hb:b≤N) (hR1:RunT dk a m) (hR2:RunT dk m b) (hT:TagsT dk a m b) (W:World) (hW:SWK encT 4 w0 g 0 dk W) :
  Calls Try.prog 44 #[.slice (some ⟨g,0,none⟩) N cap,.int .i64 (a:Int),.int .i64 (m:Int),.int .i64 (b:Int),bySeqV] W (Merged4 w0 g a b dk):=by
 have mixed:Try.prog.follows .mixedOrders=true:=by kernel_rfl
 have HRot:=hid (fun a m b dk hs ham hmb hb W hW=>rot_own cap N w0 g d0 R hN hN9 bySeqV a m b dk hs ham hmb hb W hW)
 have HIH:=hid IH
 have HR:Hid (RowK encT 4 w0 g 0 d0):=R
 have HW:=hid hW
 have HS:=hid hs
 have HN:=hid hN
 have HR1:Hid (RunT dk a m):=hR1
 have HR2:Hid (RunT dk m b):=hR2
 have HT:Hid (TagsT dk a m b):=hT
 obtain ⟨D,hD1,hD2⟩:∃ D,m≤a+D∧a+D≤m:=⟨m - a,by omega,by omega⟩
 obtain ⟨E,hE1,hE2⟩:∃ E,b≤m+E∧m+E≤b:=⟨b - m,by omega,by omega⟩
 have w1:IntKind.i64.wrap ((m:Int) - (a:Int))=(D:Int):=by rw [IntKind.wrap_i64];omega
 have w1a:decide ((D:Int)=1)=false:=decide_eq_false (by omega)
 have w1b:((D:Int) == 1)=false:=by rw [beq_eq_false_iff_ne];omega
 have w2:IntKind.i64.wrap ((b:Int) - (m:Int))=(E:Int):=by rw [IntKind.wrap_i64];omega
 have w2a:decide ((E:Int)=1)=false:=decide_eq_false (by omega)
 have w2b:((E:Int) == 1)=false:=by rw [beq_eq_false_iff_ne];omega
 obtain ⟨mid,hm1,hm2⟩:∃ mid,mid*2≤a+b∧a+b≤mid*2+1:=⟨(a+b) / 2,by omega,by omega⟩
 have w3:IntKind.i64.wrap ((a:Int)+(b:Int))=((a+b:Nat):Int):=by rw [IntKind.wrap_i64];omega
 have w4:((a:Int)+(b:Int)) / 2=(mid:Int):=by omega
 obtain ⟨n,hn1,hn2⟩:∃ n,n≤mid+m∧mid+m≤n:=⟨mid+m,by omega,by omega⟩
 have w5:IntKind.i64.wrap ((mid:Int)+(m:Int))=(n:Int):=by rw [IntKind.wrap_i64];omega
 obtain ⟨s0,r0,hway⟩:∃ s0 r0,(mid<m∧s0+b≤n∧n≤s0+b∧r0≤mid∧mid≤r0) ∨ (m≤mid∧s0≤a∧a≤s0∧r0≤m∧m≤r0):=by
  by_cases h:mid<m
  ·exact ⟨n - b,mid,.inl ⟨h,by omega,by omega,by omega,by omega⟩⟩
  ·exact ⟨a,m,.inr ⟨by omega,by omega,by omega,by omega,by omega⟩⟩
 have HWAY:=hid hway
 have hs0a:a≤s0:=by omega
 have hs0r:s0≤r0:=by omega
 have hr0m:r0≤m:=by omega
 clear R hW hs hN hR1 hR2 hT hway IH
 go_enter Try.func44,Try.ntmps44
 go_upto_if 140 with (fail)
 go_cut [20,21] (fun u v wx=>u=.int .i64 (s0:Int)∧v=.int .i64 (r0:Int)∧wx=W)
 case first =>
  as_aux_lemma =>
  rcases HWAY.out with ⟨h1,h2,h3,h4,h5⟩|⟨h1,h2,h3,h4,h5⟩
  ·have hd:decide ((m:Int) > (mid:Int))=true:=decide_eq_true (by omega)
   have hd2:decide ((mid:Int)<(m:Int))=true:=decide_eq_true (by omega)
   have w6:IntKind.i64.wrap ((n:Int) - (b:Int))=(s0:Int):=by rw [IntKind.wrap_i64];omega
   go_wp2_with fail
   go_meet
   exact ⟨rfl,by congr 1;omega,rfl⟩
  ·have hd:decide ((m:Int) > (mid:Int))=false:=decide_eq_false (by omega)
   have hd2:decide ((mid:Int)<(m:Int))=false:=decide_eq_false (by omega)
   go_wp2_with fail
   go_meet
   exact ⟨by congr 1;omega,by congr 1;omega,rfl⟩
 case rest =>
 obtain ⟨rfl,rfl,rfl⟩:=hcut
 rename World=>W
 obtain ⟨p,hp1,hp2⟩:∃ p,p+1≤n∧n≤p+1:=⟨n - 1,by omega,by omega⟩
 have w7:IntKind.i64.wrap ((n:Int) - 1)=(p:Int):=by rw [IntKind.wrap_i64];omega
 go_wp2_with fail
 go_loopw [20,21] (fun u v wr=>∃ (st r:Nat),u=.int .i64 (st:Int)∧v=.int .i64 (r:Int)∧s0≤st∧st≤r∧r≤r0∧Hid (st=s0 ∨ 0≤cmpT dk[n - st]! dk[st - 1]!)∧Hid (r=r0 ∨ cmpT dk[n - 1 - r]! dk[r]!<0)∧Hid (SWK encT 4 w0 g 0 dk wr)) (fun u v _=>(intOf v - intOf u).toNat)
 case atStart=>exact ⟨s0,r0,rfl,rfl,Nat.le_refl _,hs0r,Nat.le_refl _,hid (.inl rfl),hid (.inl rfl),HW⟩
 case round =>
  obtain ⟨st,r,rfl,rfl,hst,hsr,hr,HLO,HHI,HSW⟩:=hrel
  by_cases hlt:st<r
  ·as_aux_lemma =>
   have hd:decide ((st:Int)<(r:Int))=true:=decide_eq_true (by omega)
   obtain ⟨c,hc1,hc2⟩:∃ c,c*2≤st+r∧st+r≤c*2+1:=⟨(st+r) / 2,by omega,by omega⟩
   have hway:=HWAY.out
   obtain ⟨q,hq1,hq2⟩:∃ q,q+c≤p∧p≤q+c:=⟨p - c,by omega,by omega⟩
   have w8:IntKind.i64.wrap ((st:Int)+(r:Int))=((st+r:Nat):Int):=by rw [IntKind.wrap_i64];omega
   have w9:((st:Int)+(r:Int)) / 2=(c:Int):=by omega
   have w10:IntKind.i64.wrap ((p:Int) - (c:Int))=(q:Int):=by rw [IntKind.wrap_i64];omega
   have hcN:c<dk.size:=by rw [HS.out,← HN.out];omega
   have hqN:q<dk.size:=by rw [HS.out,← HN.out];omega
   obtain ⟨x,hx⟩:∃ x,dk[q]! = x:=⟨_,rfl⟩
   obtain ⟨y,hy⟩:∃ y,dk[c]! = y:=⟨_,rfl⟩
   obtain ⟨x0,x1,x2,x3⟩:=swk_grown_cells HSW.out HR.out HS.out q hqN hx
   obtain ⟨y0,y1,y2,y3⟩:=swk_grown_cells HSW.out HR.out HS.out c hcN hy
   have hcall:=cmp_grown x y wr
   have HX:=hid hx
   have HY:=hid hy
   have b1:(c:Int)<(N:Int):=by omega
   have b2:(q:Int)<(N:Int):=by omega
   have HC1:=hid hc1
   have HC2:=hid hc2
   have HQ1:=hid hq1
   have HQ2:=hid hq2
   clear hx hy hcN hqN hc1 hc2 hq1 hq2 hway
   by_cases hlv:cmpT x y<0
   ·have hd5:decide (cmpT x y<0)=true:=decide_eq_true hlv
    have HLV:=hid hlv
    go_wp2_with fail
    go_quiet_grown ((go_at_call 29;exact Calls.grown_of (hcall _ _)))
    go_wp2_with fail
    have:=HC1.out
    have:=HC2.out
    have:=HQ1.out
    have:=HQ2.out
    exact ⟨⟨st,c,rfl,rfl,hst,by omega,by omega,HLO,hid (.inr (by rw [show n - 1 - c=q by omega,HX.out,HY.out];have:=HLV.out;omega)),hid (HSW.out.grown nq osq)⟩,by simp [intOf];omega⟩
   ·have hd5:decide (cmpT x y<0)=false:=decide_eq_false hlv
    have HLV:=hid hlv
    go_wp2_with fail
    go_quiet_grown ((go_at_call 29;exact Calls.grown_of (hcall _ _)))
    go_wp2_with fail
    have:=HC1.out
    have:=HC2.out
    have:=HQ1.out
    have:=HQ2.out
    exact ⟨⟨c+1,r,by go_num,rfl,by omega,by omega,hr,hid (.inr (by rw [show n - (c+1)=q by omega,Nat.add_sub_cancel,HX.out,HY.out];have:=HLV.out;omega)),HHI,hid (HSW.out.grown nq osq)⟩,by simp [intOf];omega⟩
  ·as_aux_lemma =>
   obtain rfl:st=r:=by omega
   have hd:decide ((st:Int)<(st:Int))=false:=by simp
   have hway:=HWAY.out
   obtain ⟨e,he1,he2⟩:∃ e,e+st≤n∧n≤e+st:=⟨n - st,by omega,by omega⟩
   have w11:IntKind.i64.wrap ((n:Int) - (st:Int))=(e:Int):=by rw [IntKind.wrap_i64];omega
   have hme:m≤e:=by omega
   have heb:e≤b:=by omega
   have hsm:st≤m:=by omega
   have hmid1:st≤mid:=by omega
   have hmid2:mid≤e:=by omega
   have HLO':Hid (st=a ∨ e=b ∨ ltT dk[e]! dk[st - 1]! = false):=by
    rcases HLO.out with h|h
    ·rcases HWAY.out with ⟨h1,h2,h3,h4,h5⟩|⟨h1,h2,h3,h4,h5⟩
     ·exact .inr (.inl (by omega))
     ·exact .inl (by omega)
    ·by_cases h8:st=a
     ·exact .inl h8
     ·by_cases h9:e=b
      ·exact .inr (.inl h9)
      ·rw [show n - st=e by omega] at h
       exact .inr (.inr (cmp_later_ge (HT.out (st - 1) e (by omega) (by omega) (by omega) (by omega)) (Int.not_lt.2 h)))
   have HHI':Hid (e=m ∨ st=m ∨ ltT dk[st]! dk[e - 1]! = false):=by
    rcases HHI.out with h|h
    ·rcases HWAY.out with ⟨h1,h2,h3,h4,h5⟩|⟨h1,h2,h3,h4,h5⟩
     ·exact .inl (by omega)
     ·exact .inr (.inl (by omega))
    ·rw [show n - 1 - st=e - 1 by omega] at h
     exact .inr (.inr (cmp_later_lt h))
   have HV:=hid (fun (d':Array Tg) (hd:∀ x,d'[x]! = rotF (fun x=>dk[x]!) st m e x)=>show Halves d' a st mid e b from by
    obtain ⟨⟨h1,h2,h3⟩,⟨h4,h5,h6⟩,h7⟩:=sym_halves (s:=st) (e:=e) (mid:=mid) HR1.out HR2.out HT.out (by omega) hsm hme heb (by omega) hd HLO'.out HHI'.out
    exact ⟨h1,h2,h3,h4,h5,h6,h7⟩)
   clear HLO HHI HLO' HHI' hway
   go_upto_region 39 with (fail)
   go_cut [185] (fun v wx=>v=.bool (decide (st<m∧m<e))∧wx=wr)
   case first =>
    as_aux_lemma =>
    by_cases h1:st<m
    ·have e1:decide ((st:Int)<(m:Int))=true:=decide_eq_true (by omega)
     by_cases h2:m<e
     ·have e2:decide ((m:Int)<(e:Int))=true:=decide_eq_true (by omega)
      have e3:decide (st<m∧m<e)=true:=decide_eq_true ⟨h1,h2⟩
      go_wp2_with fail
      go_meet
      exact ⟨by rw [e3],rfl⟩
     ·have e2:decide ((m:Int)<(e:Int))=false:=decide_eq_false (by omega)
      have e3:decide (st<m∧m<e)=false:=decide_eq_false (fun h=>h2 h.2)
      go_wp2_with fail
      go_meet
      exact ⟨by rw [e3],rfl⟩
    ·have e1:decide ((st:Int)<(m:Int))=false:=decide_eq_false (by omega)
     have e3:decide (st<m∧m<e)=false:=decide_eq_false (fun h=>h1 h.1)
     go_wp2_with fail
     go_meet
     exact ⟨by rw [e3],rfl⟩
   case rest =>
   obtain ⟨rfl,rfl⟩:=hcut
   rename World=>wr
   obtain ⟨B185,hB185⟩:∃ B,B=decide (st<m∧m<e):=⟨_,rfl⟩
   rw [← hB185]
   have HB185:=hid hB185
   clear hB185
   go_upto_if 185 with (fail)
   go_cut [24] (fun v wx=>v=.int .i64 (e:Int)∧∃ d1,Hid (PermIn a b dk d1)∧Hid (Halves d1 a st mid e b)∧Hid (SWK encT 4 w0 g 0 d1 wx))
   case first =>
    as_aux_lemma =>
    by_cases h12:st<m∧m<e
    ·obtain rfl:B185=true:=by rw [HB185.out];exact decide_eq_true h12
     have HC:=hid (HRot.out st m e dk HS.out h12.1 h12.2 (by omega) _ HSW.out)
     go_wp2_with fail
     refine HC.out.mono ?_
     rintro e w1 ⟨rfl,d',h3,h4,h5⟩
     have HQ:=hid (show PermIn a b dk d'∧Halves d' a st mid _ b∧SWK encT 4 w0 g 0 d' w1 from ⟨permIn_mono _ _ _ _ _ _ (by omega) heb (by rw [HS.out,← HN.out];exact hb) h3,HV.out d' h4,h5⟩)
     clear h3 h4 h5 HC
     go_wp2_with fail
     go_meet
     exact ⟨rfl,d',hid HQ.out.1,hid HQ.out.2.1,hid HQ.out.2.2⟩
    ·obtain rfl:B185=false:=by rw [HB185.out];exact decide_eq_false h12
     have HQ:=hid (HV.out dk (fun x=>by
      by_cases h1:st<m
      ·rw [show e=m by omega];exact (rot_none _ _ _ _).symm
      ·rw [show st=m by omega];exact (rot_none2 _ _ _ _).symm))
     go_wp2_with fail
     go_meet
     exact ⟨rfl,dk,hid (permIn_refl _ _ _),HQ,HSW⟩
   case rest =>
   obtain ⟨rfl,d1,HP1,HH1,HSW1⟩:=hcut
   rename World=>wr1
   have HS1:=hid (show d1.size=d0.size by rw [HP1.out.1,HS.out])
   clear HV HRot
   go_upto_region 41 with (fail)
   go_cut [199] (fun v wx=>v=.bool (decide (a<st∧st<mid))∧wx=wr1)
   case first =>
    as_aux_lemma =>
    by_cases h1:a<st
    ·have e1:decide ((a:Int)<(st:Int))=true:=decide_eq_true (by omega)
     by_cases h2:st<mid
     ·have e2:decide ((st:Int)<(mid:Int))=true:=decide_eq_true (by omega)
      have e3:decide (a<st∧st<mid)=true:=decide_eq_true ⟨h1,h2⟩
      go_wp2_with fail
      go_meet
      exact ⟨by rw [e3],rfl⟩
     ·have e2:decide ((st:Int)<(mid:Int))=false:=decide_eq_false (by omega)
      have e3:decide (a<st∧st<mid)=false:=decide_eq_false (fun h=>h2 h.2)
      go_wp2_with fail
      go_meet
      exact ⟨by rw [e3],rfl⟩
    ·have e1:decide ((a:Int)<(st:Int))=false:=decide_eq_false (by omega)
     have e3:decide (a<st∧st<mid)=false:=decide_eq_false (fun h=>h1 h.1)
     go_wp2_with fail
     go_meet
     exact ⟨by rw [e3],rfl⟩
   case rest =>
   obtain ⟨rfl,rfl⟩:=hcut
   rename World=>wr1
   obtain ⟨B199,hB199⟩:∃ B,B=decide (a<st∧st<mid):=⟨_,rfl⟩
   rw [← hB199]
   have HB199:=hid hB199
   clear hB199
   go_upto_if 199 with (fail)
   go_cut [24] (fun v wx=>v=.int .i64 (e:Int)∧∃ d2,Hid (PermIn a mid d1 d2)∧Hid (RunT d2 a mid)∧Hid (SWK encT 4 w0 g 0 d2 wx))
   case first =>
    as_aux_lemma =>
    by_cases h12:a<st∧st<mid
    ·obtain rfl:B199=true:=by rw [HB199.out];exact decide_eq_true h12
     have HC:=hid (HIH.out a st mid d1 _ (by omega) HS1.out h12.1 h12.2 (by omega) HH1.out.l1 HH1.out.l2 HH1.out.lt HSW1.out)
     go_wp2_with fail
     refine HC.out.mono ?_
     rintro e w1 ⟨rfl,d',h3,h4,h5⟩
     have HQ:=hid (show PermIn a mid d1 d'∧RunT d' a mid∧SWK encT 4 w0 g 0 d' w1 from ⟨h3,h4,h5⟩)
     clear h3 h4 h5 HC
     go_wp2_with fail
     go_meet
     exact ⟨rfl,d',hid HQ.out.1,hid HQ.out.2.1,hid HQ.out.2.2⟩
    ·obtain rfl:B199=false:=by rw [HB199.out];exact decide_eq_false h12
     have HQ:=hid (show RunT d1 a mid from by
      by_cases h1:a<st
      ·rw [show mid=st by omega];exact HH1.out.l1
      ·have h:=HH1.out.l2;rwa [show st=a by omega] at h)
     go_wp2_with fail
     go_meet
     exact ⟨rfl,d1,hid (permIn_refl _ _ _),HQ,HSW1⟩
   case rest =>
   obtain ⟨rfl,d2,HP2,HR3,HSW2⟩:=hcut
   have HS2:=hid (show d2.size=d0.size by rw [HP2.out.1,HS1.out])
   have HRi:=hid (HH1.out.left hmid2 HP2.out)
   have HEnd:=hid (fun (d3:Array Tg) (h1:PermIn mid b d2 d3) (h2:RunT d3 mid b)=>show PermIn a b dk d3∧RunT d3 a b from by
    have hz:b≤d1.size:=by rw [HS1.out,← HN.out];exact hb
    refine ⟨permIn_trans _ _ _ _ _ HP1.out (permIn_trans _ _ _ _ _ (permIn_mono _ _ _ _ _ _ (Nat.le_refl _) (by omega) hz HP2.out) (permIn_mono _ _ _ _ _ _ (by omega) (Nat.le_refl _) (by rw [HP2.out.1];exact hz) h1)),?_⟩
    refine join_runs (fun i j h3 h4 h5=>by rw [h1.2.1 i (.inl (by omega)),h1.2.1 j (.inl h5)];exact HR3.out i j h3 h4 h5) h2 (cross_perm (by omega) hz HP2.out h1 HH1.out.cross))
   clear HH1 HP1 HP2 HR3
   by_cases h1:mid<e
   ·have e1:decide ((mid:Int)<(e:Int))=true:=decide_eq_true (by omega)
    by_cases h2:e<b
    ·have e2:decide ((e:Int)<(b:Int))=true:=decide_eq_true (by omega)
     have HC:=hid (HIH.out mid e b d2 _ (by omega) HS2.out h1 h2 hb HRi.out.1 HRi.out.2.1 HRi.out.2.2 HSW2.out)
     go_wp2_with fail
     refine HC.out.mono ?_
     rintro e w1 ⟨rfl,d',h3,h4,h5⟩
     have HQ:=hid (show (PermIn a b dk d'∧RunT d' a b)∧SWK encT 4 w0 g 0 d' w1 from ⟨HEnd.out d' h3 h4,h5⟩)
     clear h3 h4 h5 HC
     go_wp2_with fail
     go_end0
     exact ⟨rfl,d',HQ.out.1.1,HQ.out.1.2,HQ.out.2⟩
    ·have e2:decide ((e:Int)<(b:Int))=false:=decide_eq_false (by omega)
     have HQ:=hid (HEnd.out d2 (permIn_refl _ _ _) (by have h:=HRi.out.1;rwa [show e=b by omega] at h))
     go_wp2_with fail
     go_end0
     exact ⟨rfl,d2,HQ.out.1,HQ.out.2,HSW2.out⟩
   ·have e1:decide ((mid:Int)<(e:Int))=false:=decide_eq_false (by omega)
    have HQ:=hid (HEnd.out d2 (permIn_refl _ _ _) (by have h:=HRi.out.2.1;rwa [show e=mid by omega] at h))
    go_wp2_with fail
    go_end0
    exact ⟨rfl,d2,HQ.out.1,HQ.out.2,HSW2.out⟩
theorem sym_own (cap N:Nat) (w0:World) (g:Nat) (d0:Array Tg) (R:RowK encT 4 w0 g 0 d0) (hN:N=d0.size) (hN9:N≤100000):∀ (L a m b:Nat) (dk:Array Tg) (W:World),b - a<L→dk.size=d0.size→a<m→m<b→b≤N→RunT dk a m→RunT dk m b→TagsT dk a m b→SWK encT 4 w0 g 0 dk W →
  Calls Try.prog 44 #[.slice (some ⟨g,0,none⟩) N cap,.int .i64 (a:Int),.int .i64 (m:Int),.int .i64 (b:Int),bySeqV] W (Merged4 w0 g a b dk)
 | 0,a,m,b,dk,W,hL,_,_,_,_,_,_,_,_=>by omega
 | L+1,a,m,b,dk,W,hL,hs,ham,hmb,hb,h1,h2,hT,hW=>by
  by_cases c1:m=a+1
  ·exact symA_own cap N w0 g d0 R hN hN9 a m b dk hs c1 hmb hb h2 hT W hW
  ·by_cases c2:b=m+1
   ·exact symB_own cap N w0 g d0 R hN hN9 a m b dk hs (by omega) c2 hb h1 hT W hW
   ·exact symC_own cap N w0 g d0 R hN hN9 L (sym_own cap N w0 g d0 R hN hN9 L) a m b dk hs (by omega) (by omega) (by omega) hb h1 h2 hT W hW
end
end Go.Proofs.Ytbmhdfjaakkoaaa

/-
  FoRot.
-/
import Derived.Lib.Hide
import Derived.Test.YtbmhdfjaakkoaaaM16
namespace Go.Proofs.Ytbmhdfjaakkoaaa
open Lib (hid)
section
open Go.RowKit Go.Lib Go.Sort Go.Shelf
set_option maxHeartbeats 4000000 in
set_option maxRecDepth 100000 in
theorem rot_own (cap N:Nat) (w0:World) (g:Nat) (d0:Array Tg) (R:RowK encT 4 w0 g 0 d0) (hN:N=d0.size) (hN9:N≤100000) (cv:Value) (a m b:Nat) (dk:Array Tg) (hs:dk.size=d0.size) (ham:a<m) (hmb:m<b) (hb:b≤N) (W:World) (hW:SWK encT 4 w0 g 0 dk W) :
  Calls Try.prog 48 #[.slice (some ⟨g,0,none⟩) N cap,.int .i64 (a:Int),.int .i64 (m:Int),.int .i64 (b:Int),cv] W fun e w' =>
   e=.returned (.tuple #[])∧∃ d',PermIn a b dk d'∧(∀ x,d'[x]! = rotF (fun x=>dk[x]!) a m b x)∧SWK encT 4 w0 g 0 d' w':=by
 have HSw:=hid (fun a b n dk hs hab hb W hW=>swap_own cap N w0 g d0 R hN hN9 cv a b n dk hs hab hb W hW)
 have HR:Hid (RowK encT 4 w0 g 0 d0):=R
 have HW:=hid hW
 have HS:=hid hs
 have HN:=hid hN
 clear R hW hs hN
 obtain ⟨i0,hi1,hi2⟩:∃ i0,m≤a+i0∧a+i0≤m:=⟨m - a,by omega,by omega⟩
 obtain ⟨j0,hj1,hj2⟩:∃ j0,b≤m+j0∧m+j0≤b:=⟨b - m,by omega,by omega⟩
 have w1:IntKind.i64.wrap ((m:Int) - (a:Int))=(i0:Int):=by rw [IntKind.wrap_i64];omega
 have w2:IntKind.i64.wrap ((b:Int) - (m:Int))=(j0:Int):=by rw [IntKind.wrap_i64];omega
 go_enter Try.func48,Try.ntmps48
 go_wp2_with fail
 go_loopw [10,11] (fun u v wr=>∃ (i j:Nat) (dq:Array Tg),u=.int .i64 (i:Int)∧v=.int .i64 (j:Int)∧0<i∧0<j∧i≤i0∧j≤j0∧Hid (PermIn a b dk dq)∧Hid (∀ x,rotF (fun x=>dq[x]!) (m - i) m (m+j) x=rotF (fun x=>dk[x]!) a m b x)∧Hid (SWK encT 4 w0 g 0 dq wr)) (fun u v _=>(intOf u+intOf v).toNat)
 case atStart=>exact ⟨i0,j0,dk,rfl,rfl,by omega,by omega,Nat.le_refl _,Nat.le_refl _,hid (permIn_refl _ _ _),hid (fun x=>by rw [show m - i0=a by omega,show m+j0=b by omega]),HW⟩
 case round =>
  obtain ⟨i,j,dq,rfl,rfl,hi,hj,hi9,hj9,HP,HF,HSW⟩:=hrel
  have hsz:dq.size=d0.size:=by rw [HP.out.1,HS.out]
  obtain ⟨p,hp1,hp2⟩:∃ p,m≤p+i∧p+i≤m:=⟨m - i,by omega,by omega⟩
  have w3:IntKind.i64.wrap ((m:Int) - (i:Int))=(p:Int):=by rw [IntKind.wrap_i64];omega
  have hsd:b≤dq.size:=by rw [hsz,← HN.out];exact hb
  have HSD:=hid hsd
  have HSZ:=hid hsz
  have HPM:=hid (show m - i=p by omega)
  rw [HPM.out] at HF
  clear hsd hsz
  by_cases hij:i=j
  ·subst hij
   have hd:decide ((i:Int)=(i:Int))=true:=by simp
   have hd2:((i:Int) != (i:Int))=false:=by simp
   have hd3:((i:Int) == (i:Int))=true:=by simp
   have HC:=hid (HSw.out p m i dq HSZ.out (by omega) (by omega) wr HSW.out)
   clear HSw
   go_wp2_with fail
   refine HC.out.mono ?_
   rintro e w1 ⟨rfl,d',h1,h2,h3⟩
   have HQ:=hid (show PermIn a b dk d'∧(∀ x,d'[x]! = rotF (fun x=>dk[x]!) a m b x)∧SWK encT 4 w0 g 0 d' w1 from ⟨permIn_trans _ _ _ _ _ HP.out (permIn_mono _ _ _ _ _ _ (by omega) (by omega) HSD.out h1),fun x=>by
    rw [h2,← HF.out,← HPM.out]
    exact (rot_same _ m i x (by omega)).symm,h3⟩)
   clear h1 h2 h3 HC
   go_wp2_with fail
   go_end0
   exact ⟨rfl,d',HQ.out⟩
  ·have hd:decide ((i:Int)=(j:Int))=false:=decide_eq_false (by omega)
   have hd2:((i:Int) != (j:Int))=true:=by simp;omega
   have hd3:((i:Int) == (j:Int))=false:=by simp;omega
   by_cases hlt:j<i
   ·have hd4:decide ((j:Int)<(i:Int))=true:=decide_eq_true (by omega)
    have hd5:decide ((i:Int) > (j:Int))=true:=decide_eq_true (by omega)
    have w4:IntKind.i64.wrap ((i:Int) - (j:Int))=((i - j:Nat):Int):=by rw [IntKind.wrap_i64];omega
    have HC:=hid (HSw.out p m j dq HSZ.out (by omega) (by omega) wr HSW.out)
    clear HSw
    go_wp2_with fail
    refine HC.out.mono ?_
    rintro e w1 ⟨rfl,d',h1,h2,h3⟩
    have HQ:=hid (show PermIn a b dk d'∧(∀ x,rotF (fun x=>d'[x]!) (m - (i - j)) m (m+j) x=rotF (fun x=>dk[x]!) a m b x)∧SWK encT 4 w0 g 0 d' w1 from ⟨permIn_trans _ _ _ _ _ HP.out (permIn_mono _ _ _ _ _ _ (by omega) (by omega) HSD.out h1),fun x=>by
     rw [← HF.out,← HPM.out]
     exact rot_left _ _ m i j (by omega) hlt hj (fun x=>by rw [HPM.out];exact h2 x) x,h3⟩)
    clear h1 h2 h3 HC
    go_wp2_with fail
    exact ⟨⟨i - j,j,d',rfl,rfl,by omega,by omega,by omega,by omega,hid HQ.out.1,hid HQ.out.2.1,hid HQ.out.2.2⟩,by simp [intOf];omega⟩
   ·have hd4:decide ((j:Int)<(i:Int))=false:=decide_eq_false (by omega)
    have hd5:decide ((i:Int) > (j:Int))=false:=decide_eq_false (by omega)
    have w4:IntKind.i64.wrap ((j:Int) - (i:Int))=((j - i:Nat):Int):=by rw [IntKind.wrap_i64];omega
    have w5:IntKind.i64.wrap ((m:Int)+(j:Int))=((m+j:Nat):Int):=by rw [IntKind.wrap_i64];omega
    have w6:IntKind.i64.wrap (((m+j:Nat):Int) - (i:Int))=((m+j - i:Nat):Int):=by rw [IntKind.wrap_i64];omega
    have w7:IntKind.i64.wrap ((m:Int)+(j:Int) - (i:Int))=((m+j - i:Nat):Int):=by rw [IntKind.wrap_i64];omega
    have HC:=hid (HSw.out p (m+j - i) i dq HSZ.out (by omega) (by omega) wr HSW.out)
    clear HSw
    go_wp2_with fail
    refine HC.out.mono ?_
    rintro e w1 ⟨rfl,d',h1,h2,h3⟩
    have HQ:=hid (show PermIn a b dk d'∧(∀ x,rotF (fun x=>d'[x]!) (m - i) m (m+(j - i)) x=rotF (fun x=>dk[x]!) a m b x)∧SWK encT 4 w0 g 0 d' w1 from ⟨permIn_trans _ _ _ _ _ HP.out (permIn_mono _ _ _ _ _ _ (by omega) (by omega) HSD.out h1),fun x=>by
     rw [← HF.out,← HPM.out]
     exact rot_right _ _ m i j (by omega) (by omega) hi (fun x=>by rw [HPM.out];exact h2 x) x,h3⟩)
    clear h1 h2 h3 HC
    go_wp2_with fail
    exact ⟨⟨i,j - i,d',rfl,rfl,by omega,by omega,by omega,by omega,hid HQ.out.1,hid HQ.out.2.1,hid HQ.out.2.2⟩,by simp [intOf];omega⟩
end
end Go.Proofs.Ytbmhdfjaakkoaaa

/-
  DeStWalk.
-/
import Derived.Lib.Hide
import Derived.Test.YtehkjkcnigknkaaGreatM04
import Derived.Test.YtehkjkcnigknkaaGreatM20
import Derived.Test.YtehkjkcnigknkaaGreatM22
import Derived.Test.YtehkjkcnigknkaaGreatM31
namespace Go.Proofs.YtehkjkcnigknkaaGreat
open Lib (hid)
section
open Go.RowKit
def edA (x:Nat × Nat):Value:=.int .u16 (x.1:Int)
def edB (x:Nat × Nat):Value:=.int .u8 (x.2:Int)
theorem dec_none_of {e s:Nat} {ys:List Int} (h:(decI e s ys).1 ≠ 0):(decI e s ys).2=[]:=by
 unfold decI at h ⊢
 split
 ·rfl
 ·rename_i h1
  rw [if_neg h1] at h
  split
  ·rename_i h2
   rw [if_pos h2] at h
   exact absurd rfl h
  ·rfl
theorem dec_fine {e s:Nat} {ys:List Int} (ho:Octets ys):(∀ r ∈ (decI e s ys).2,r.Fine∧r.key.length≤ys.length∧r.val.length≤ys.length)∧(decI e s ys).2.length*10≤ys.length:=by
 have h0:(∀ r ∈ ([]:List Rec),r.Fine∧r.key.length≤ys.length∧r.val.length≤ys.length)∧([]:List Rec).length*10≤ys.length:=⟨fun r hr=>by simp at hr,by simp⟩
 obtain ⟨g1,g2⟩:=guess_fine ho
 unfold decI
 split
 ·exact h0
 ·split
  ·exact ⟨fun r hr=>⟨(g1 r hr).1,by have:=(g1 r hr).2.2;omega,by have:=(g1 r hr).2.2;omega⟩,g2⟩
  ·exact h0
set_option maxHeartbeats 4000000 in
set_option maxRecDepth 10000 in
theorem destrict_many {At:BAt} (HB:SgBuild At) (HNw:SgNewOk At) (HOp:SgOpenOk At) (H:ImEncOk) (HD:DeDecOk) (k:Nat) (p:Option Addr) (n c:Nat) (l:List Rec) (p2:Option Addr) (n2 c2:Nat) (cut:Int) (w:World) (hn:n=l.length) (hc:n≤c) (hc':c≤9223372036854775807) (hb:∀ r ∈ l,r.key.length≤9223372036854775807∧r.val.length≤9223372036854775807) (hl:RecsAt w p l) (hn2:n2≤9223372036854775807) (hno:fewR l 20 500=false ∨ 20<n2) :
  Calls Tryz.prog 4 #[.int .u8 (k:Int),.slice p n c,.slice p2 n2 c2,.int .i64 cut] w fun e w'=>e=.returned (.bool true)∧Keeps NoBlock w w':=by
 have HL:=hid (fun w=>lives17_true HB HNw HOp H HD w)
 have HFw:=hid (fun (w:World) hl=>few_any p n c l 20 500 20 500 rfl rfl hn (by omega) hb w hl)
 have HR:=hid hl
 by_cases h1:fewR l 20 500=true
 ·have h2:20<n2:=hno.resolve_left (by rw [h1];simp)
  have hd1:decide ((20:Int)<(n2:Int))=true:=decide_eq_true (by omega)
  have hd2:decide (20<n2)=true:=decide_eq_true h2
  rw [h1] at HFw
  clear hl hb HB HNw HOp H HD hn hno h1
  go_enter Tryz.func4,Tryz.ntmps4
  go_wp2_with fail
  refine (HL.out _).mono ?_
  rintro e w1 ⟨rfl,hk1⟩
  have HK:=hid hk1
  have HR:=hid (HR.out.keep hk1 (fun _ _ h=>h))
  clear hk1
  go_wp2_with fail
  refine (HFw.out _ HR.out).mono ?_
  rintro e w2 ⟨rfl,hk1⟩
  have HK:=hid (HK.out.trans hk1)
  clear hk1
  go_wp2_with fail
  refine (HL.out _).mono ?_
  rintro e w3 ⟨rfl,hk1⟩
  have HK:=hid (HK.out.trans hk1)
  clear hk1
  go_wp2_with fail
  go_ret
  exact ⟨rfl,HK.out⟩
 ·rw [Bool.not_eq_true] at h1
  rw [h1] at HFw
  clear hl hb HB HNw HOp H HD hn hno h1
  go_enter Tryz.func4,Tryz.ntmps4
  go_wp2_with fail
  refine (HL.out _).mono ?_
  rintro e w1 ⟨rfl,hk1⟩
  have HK:=hid hk1
  have HR:=hid (HR.out.keep hk1 (fun _ _ h=>h))
  clear hk1
  go_wp2_with fail
  refine (HFw.out _ HR.out).mono ?_
  rintro e w2 ⟨rfl,hk1⟩
  have HK:=hid (HK.out.trans hk1)
  clear hk1
  go_wp2_with fail
  refine (HL.out _).mono ?_
  rintro e w3 ⟨rfl,hk1⟩
  have HK:=hid (HK.out.trans hk1)
  clear hk1
  go_wp2_with fail
  go_ret
  exact ⟨rfl,HK.out⟩
set_option maxHeartbeats 16000000 in
set_option maxRecDepth 10000 in
theorem destrict_few {At:BAt} (HB:SgBuild At) (HNw:SgNewOk At) (HOp:SgOpenOk At) (H:ImEncOk) (HD:DeDecOk) (HIs:DeIsOk) (k:Nat) (p:Option Addr) (n c:Nat) (l:List Rec) (p2:Option Addr) (n2 c2:Nat) (el:List (Nat × Nat)) (cut:Int) (w:World) (hk:k<256) (hn:n=l.length) (hc:n≤c) (hc':c≤9223372036854775807) (hf:∀ r ∈ l,r.Fine) (hb:∀ r ∈ l,r.key.length≤9223372036854775807∧r.val.length≤9223372036854775807) (hl:RecsAt w p l)
  (hn2:n2=el.length) (he:∀ x ∈ el,x.1<65536∧x.2<256) (hel:TwosAt edA edB (0,0) w p2 el) (hcut:-9223372036854775808≤cut∧cut≤9223372036854775807) (hlt:fewR l 20 500=true) (hn20:n2≤20) :
  Calls Tryz.prog 4 #[.int .u8 (k:Int),.slice p n c,.slice p2 n2 c2,.int .i64 cut] w fun e w'=>e=.returned (.bool true)∧Keeps NoBlock w w':=by
 have HL:=hid (fun w=>lives17_true HB HNw HOp H HD w)
 have HFw:=hid (fun (w:World) hl=>few_any p n c l 20 500 20 500 rfl rfl hn (by omega) hb w hl)
 rw [hlt] at HFw
 obtain ⟨i0,hi,hz0,hz1,hz2⟩:=info_parts infoByte
 obtain ⟨l1,l2⟩:=few_lit hlt
 have HI:=hid (show InR w p n c l from ⟨hn,hc,hc',hf,fun r hr=>by have:=(l2 r hr).1;omega,fun r hr=>by have:=(l2 r hr).2;omega,hl⟩)
 obtain ⟨he1,he2,hs1,hs2⟩:=small_room k
 have HSm:=hid (fun w=>small15_go k hk w)
 have HEn:=hid (fun p n c l w hn h=>H.enc (smallE k) (smallS k) p n c l w (by omega) (by omega) hn (.inr (by omega)) h)
 have hsmall:=fun h=>enc_small (k:=k) (l:=l) (by omega) h
 have hXo:=enc_octets (e:=smallE k) (s:=smallS k) (by omega) hf
 have HDd:=hid (fun p n c ys w h hn=>HD.dec (smallE k) (smallS k) p n c ys w (by omega) (by omega) h hn)
 have HDi:=hid (fun p n c ys w h hn=>HIs.is_ (smallE k) (smallS k) p n c ys w (by omega) (by omega) h hn)
 have HDr:=hid (fun ys w ho hl=>dec17_ref (smallE k) (smallS k) (by omega) (by omega) ys ho hl w)
 obtain ⟨e,hed⟩:∃ e,e=smallE k:=⟨_,rfl⟩
 obtain ⟨s,hsd⟩:∃ s,s=smallS k:=⟨_,rfl⟩
 rw [← hed,← hsd] at HSm HEn hsmall hXo HDd HDi HDr
 have hXn:(encI e s l).1 ≠ 0→(encI e s l).2.length=0:=fun h=>by
  unfold encI
  unfold encI at h
  split
  ·rfl
  ·rename_i h2
   rw [if_neg h2] at h
   exact absurd rfl h
 have HE1:=hid (fun w h=>HEn.out p n c l w (by omega) h)
 obtain ⟨X,hX⟩:∃ X,X=(encI e s l).2:=⟨_,rfl⟩
 obtain ⟨y,hy⟩:∃ y,y=(encI e s l).1:=⟨_,rfl⟩
 rw [← hX,← hy] at HE1 hsmall hXn
 rw [← hX] at hXo
 obtain ⟨N,hN⟩:∃ N,N=X.length:=⟨_,rfl⟩
 have HN:=hid hN
 rw [← hN] at hsmall hXn
 have HXo:=hid hXo
 have HEl:=hid hel
 have HEf:=hid he
 have HEn2:=hid hn2
 have hd1:decide ((20:Int)<(n2:Int))=false:=decide_eq_false (by omega)
 have hd2:decide (20<n2)=false:=decide_eq_false (by omega)
 clear hX hy hed hsd hl hb hf HB HNw HOp H HD HIs he1 he2 hs1 hs2 l1 l2 hn hXo hN hlt hel he hn2
 unfold confV at HSm HE1 HEn HDd HDi HDr
 go_enter Tryz.func4,Tryz.ntmps4
 go_wp2_with fail
 refine (HL.out _).mono ?_
 rintro e1 w1 ⟨rfl,hk1⟩
 have HK:=hid hk1
 clear hk1
 go_wp2_with fail
 refine (HFw.out _ (HI.out.at_.keep HK.out (fun _ _ h=>h))).mono ?_
 rintro e2 w2 ⟨rfl,hk1⟩
 have HK:=hid (HK.out.trans hk1)
 clear hk1
 go_wp2_with fail
 refine (HSm.out _).mono ?_
 rintro e3 w3 ⟨rfl,hk1⟩
 have HK:=hid (HK.out.trans hk1)
 clear hk1
 go_wp2_with fail
 obtain ⟨wC,hwC⟩:∃ wC,wC=w3.alloc (.cells #[.int .u8 (e:Int),.int .u32 (s:Int)] 27):=⟨_,rfl⟩
 have HK:Hid (Keeps NoBlock w wC):=hid (by rw [hwC];exact HK.out.alloc _)
 have HC:Hid (Whole wC w3.heap.size 27 (confCells e s)):=hid (by rw [hwC];exact Whole.new w3 _ _)
 rw [← hwC]
 clear hwC
 refine (HE1.out _ (HI.out.keep HK.out)).mono ?_
 rintro e4 w4 ⟨u,rfl,ho,hk1⟩
 obtain ⟨q1,d1,rfl,hd1,hd1',-,-,-⟩:=ho.read
 have HBw:=hid (And.intro HK.out.size HC.out.lt)
 have HO:=hid (show OwnP w4 wC.heap.size (.slice q1 N d1) N (X.map (Value.int .u8)) by rw [HN.out];exact ho)
 rw [← HN.out] at hd1 ⊢
 have HK:=hid (HK.out.trans hk1)
 have HC:=hid (HC.out.keep hk1 (fun h=>h))
 have HSz4:=hid (Nat.le_trans (Nat.le_refl _) hk1.size)
 clear hk1 ho
 by_cases hy0:y=0
 rotate_left
 ·have hne:(y != 0)=true:=by rw [bne_iff_ne];exact hy0
  obtain rfl:N=0:=hXn hy0
  clear hy0 hXn hsmall
  go_wp2_with fail
  go_ret
  exact ⟨rfl,HK.out⟩
 subst hy0
 have hN9:N≤65536:=hsmall rfl
 clear hsmall hXn
 obtain ⟨B,hB⟩:∃ B,B=wC.heap.size:=⟨_,rfl⟩
 rw [← hB] at HBw HO HSz4
 clear hB
 obtain ⟨g,hg⟩:∃ g,g=w3.heap.size:=⟨_,rfl⟩
 rw [← hg] at HC HBw ⊢
 clear hg
 go_wp2_with fail
 go_loopw [48] (fun i wr=>∃ (j:Nat) (T:List Int),j≤n2∧i=.int .i64 (j:Int)∧Hid (N=T.length)∧Hid (Octets T)∧Hid (OwnP wr B (.slice q1 N d1) N (T.map (Value.int .u8)))∧Hid (Keeps NoBlock w wr)∧Hid (Whole wr g 27 (confCells e s))∧Hid (B≤wr.heap.size)) (fun i _=>n2 - (intOf i).toNat)
 case atStart=>exact ⟨0,X,Nat.zero_le _,rfl,HN,HXo,HO,HK,HC,HSz4⟩
 case round =>
  obtain ⟨j,T,hj,rfl,HTn,HTo,HOw,HKr,HCr,HSr⟩:=hrel
  by_cases hlt:j<n2
  ·have hdj:decide ((j:Int)<(n2:Int))=true:=decide_eq_true (by omega)
   have hdj2:decide (j<n2)=true:=decide_eq_true hlt
   have hjl:j<el.length:=by rw [← HEn2.out];exact hlt
   obtain ⟨a,rfl,c0,c1⟩:=(TwosAt.keep HEl.out HKr.out (fun _ _ h=>h)) j hjl
   have hx:=HEf.out (el.getD j (0,0)) (by simp [hjl])
   obtain ⟨x,hxd⟩:∃ x,x=el.getD j (0,0):=⟨_,rfl⟩
   rw [← hxd] at c0 c1 hx
   obtain ⟨pos,tob⟩:=x
   unfold edA at c0
   unfold edB at c1
   simp only at c0 c1 hx
   obtain ⟨hx1,hx2⟩:=hx
   clear hxd hjl
   have HO1:=hid (OwnP.allocP HOw.out (.cells #[.int .u16 (pos:Int),.int .u8 (tob:Int)] 41))
   have HK1:=hid (HKr.out.alloc (.cells #[.int .u16 (pos:Int),.int .u8 (tob:Int)] 41))
   have HC1:=hid (HCr.out.alloc (.cells #[.int .u16 (pos:Int),.int .u8 (tob:Int)] 41))
   have HS1:Hid (B≤(wr.alloc (.cells #[.int .u16 (pos:Int),.int .u8 (tob:Int)] 41)).heap.size):=hid (by have:=HSr.out;rw [World.size_alloc];omega)
   by_cases hN0:N=0
   ·have hp0:decide ((0:Int)<(N:Int))=false:=decide_eq_false (by omega)
    have hp1:decide (0<N)=false:=decide_eq_false (by omega)
    clear hN0
    go_wp2_with fail
    go_roundw
    case rel=>exact ⟨j+1,T,by omega,by go_num,HTn,HTo,HO1,HK1,HC1,HS1⟩
    case measure=>simp [intOf];omega
   ·have hp0:decide ((0:Int)<(N:Int))=true:=decide_eq_true (by omega)
    have hp1:decide (0<N)=true:=decide_eq_true (by omega)
    have x0:(wr.alloc (.cells #[.int .u16 (pos:Int),.int .u8 (tob:Int)] 41)).cell? ⟨wr.heap.size,0,none⟩=some (.int .u16 (pos:Int)):=(Whole.new wr 41 #[.int .u16 (pos:Int),.int .u8 (tob:Int)]).cell 0 rfl
    have x1:(wr.alloc (.cells #[.int .u16 (pos:Int),.int .u8 (tob:Int)] 41)).cell? ⟨wr.heap.size,1,none⟩=some (.int .u8 (tob:Int)):=(Whole.new wr 41 #[.int .u16 (pos:Int),.int .u8 (tob:Int)]).cell 1 rfl
    obtain ⟨W1,hW1⟩:∃ W1,W1=wr.alloc (.cells #[.int .u16 (pos:Int),.int .u8 (tob:Int)] 41):=⟨_,rfl⟩
    rw [← hW1] at HO1 HK1 HC1 x0 x1 HS1
    obtain ⟨gb,cur,rfl,hgB,hwh,hcu⟩:=OwnP.roomP HO1.out HTn.out (by omega)
    obtain ⟨i,hi2⟩:∃ i:Nat,(pos:Int).tmod (N:Int)=(i:Int):=⟨pos % N,by rw [Int.tmod_eq_emod_of_nonneg (by omega)];rfl⟩
    have hiN:i<N:=by
     have h1:=Int.emod_lt_of_pos (pos:Int) (show (0:Int)<(N:Int) by omega)
     rw [Int.tmod_eq_emod_of_nonneg (by omega)] at hi2
     omega
    have hiZ:(i:Int)<(N:Int):=by omega
    have b1:W1.cell? ⟨gb,i,none⟩=some (.int .u8 (T.getD i 0)):=hwh.cell i (hcu i hiN)
    have f1:=hwh.free i
    have x0d:W1.drew.cell? ⟨wr.heap.size,0,none⟩=some (.int .u16 (pos:Int)):=x0
    have x1d:W1.drew.cell? ⟨wr.heap.size,1,none⟩=some (.int .u8 (tob:Int)):=x1
    have b1d:W1.drew.cell? ⟨gb,i,none⟩=some (.int .u8 (T.getD i 0)):=b1
    have HOs:=hid (OwnP.setP HO1.out (i:=i) (tob:Int))
    have HKs:=hid (HK1.out.setNew (g:=gb) (by have:=HBw.out.1;omega) i (.int .u8 (tob:Int)))
    have HCs:=hid (HC1.out.setOther (p:=⟨gb,i,none⟩) (by have:=HBw.out.2;simp;omega) (.int .u8 (tob:Int)))
    have HSs:Hid (B≤(W1.setCell ⟨gb,i,none⟩ (.int .u8 (tob:Int))).heap.size):=hid (by rw [World.size_setCell];exact HS1.out)
    have HTs:Hid (N=(T.set i (tob:Int)).length):=hid (by rw [List.length_set];exact HTn.out)
    have HSo:Hid (Octets (T.set i (tob:Int))):=hid (fun b hb=>by
     rcases List.mem_or_eq_of_mem_set hb with h|h
     ·exact HTo.out b h
     ·rw [h];omega)
    obtain ⟨was,hwas⟩:∃ was,was=T.getD i 0:=⟨_,rfl⟩
    rw [← hwas] at b1 b1d
    clear hwas hwh hcu HOw HKr HCr HO1 HK1 HC1 hN0 hgB
    have wpos:IntKind.i64.wrap (pos:Int)=(pos:Int):=by rw [IntKind.wrap_i64];omega
    have hNn:¬ (N:Int)=0:=by omega
    go_wp2_with fail
    rw [← hW1]
    clear hW1
    go_region
    all_goals go_wp2_with fail
    all_goals go_roundw
    all_goals first
     | exact ⟨j+1,T.set i (tob:Int),by omega,by go_num,HTs,HSo,HOs,HKs,HCs,HSs⟩
     | exact ⟨j+1,T.set i (tob:Int),by omega,by go_num,HTs,HSo,hid (by exact HOs.out),hid (HKs.out.drew),hid (by exact HCs.out),hid (by exact HSs.out)⟩
     | (simp [intOf];omega)
  ·have hdj:decide ((j:Int)<(n2:Int))=false:=decide_eq_false (by omega)
   have hdj2:decide (j<n2)=false:=decide_eq_false hlt
   have HKz:=hid (show B≤wr.heap.size from HSr.out)
   have HBz:=hid (show w.heap.size≤B∧g<B from HBw.out)
   have HI8:=hid (OwnP.in8P HOw.out HTn.out HTo.out)
   have hNd:=HI8.out.cap
   have hdm:=HI8.out.room
   clear hd1 hd1' hlt hj HO HK HC HXo HN HEl HEf
   by_cases h0:0≤cut
   ·have k1:decide ((0:Int)≤cut)=true:=decide_eq_true h0
    go_upto_if 73 with (fail)
    go_cut [10] (fun v wx=>∃ (q:Option Addr) (N' d':Nat) (T':List Int),v=.slice q N' d'∧N'≤70000∧Hid (In8 wx q N' d' T')∧Hid (Keeps NoBlock w wx)∧Hid (Whole wx g 27 (confCells e s)))
    case first =>
     by_cases hA:cut<(N:Int)
     ·obtain ⟨m,rfl⟩:∃ m:Nat,cut=(m:Int):=⟨cut.toNat,by omega⟩
      have k2:decide ((m:Int)<(N:Int))=true:=decide_eq_true hA
      have k3:decide (m<N)=true:=decide_eq_true (by omega)
      have hmN:m<N:=by omega
      have hmd:m≤d1:=by omega
      have HP:Hid (In8 wr q1 m d1 (T.take m)):=hid (by
       have h:=HI8.out
       refine ⟨by rw [List.length_take];have:=HTn.out;omega,by omega,h.room,fun hq=>?_,h.oct.take m,?_⟩
       ·have:=(h.bare hq).1;omega
       ·have:=h.at_.piece (q:=q1) 0 m (by have:=HTn.out;omega) (fun h0=>by cases q1 with|none=>rfl|some a=>simp [Addr.add])
        simpa using this)
      clear hA h0
      go_wp2_with fail
      go_meet
      case rel=>exact ⟨q1,m,d1,T.take m,rfl,by omega,HP,HKr,HCr⟩
     ·have k2:decide (cut<(N:Int))=false:=decide_eq_false hA
      have k4:decide (cut < -8192)=false:=decide_eq_false (by omega)
      have hA2:(N:Int)≤cut:=by omega
      have hA3:¬ cut < -8192:=by omega
      go_wp2_with fail
      go_meet
      case rel=>exact ⟨q1,N,d1,T,rfl,by omega,HI8,HKr,HCr⟩
    case rest =>
     obtain ⟨q,N',d',T',rfl,hN',HI',HK',HC'⟩:=hcut
     have HDx:=hid (HDd.out q N' d' T')
     have HIx:=hid (HDi.out q N' d' T')
     have HRx:=hid (HDr.out T')
     obtain ⟨f1,f2⟩:=dec_fine (e:=e) (s:=s) HI'.out.oct
     have hno:=dec_none_of (e:=e) (s:=s) (ys:=T')
     have hon:=fun h:(decI e s T').1=0=>dec_only (e:=e) (s:=s) (ys:=T') (l:=(decI e s T').2) (Prod.ext h rfl)
     obtain ⟨z,hz⟩:∃ z,z=(decI e s T').1:=⟨_,rfl⟩
     obtain ⟨L,hL⟩:∃ L,L=(decI e s T').2:=⟨_,rfl⟩
     rw [← hz,← hL] at HDx HRx hno hon
     rw [← hz] at HIx
     rw [← hL] at f1 f2
     have hT':=HI'.out.len
     have hLl:L.length≤7000:=by omega
     have HSame:=hid (fun q m d q' m' d' w (hm:m=L.length) (hm':m'=L.length) (h:RecsAt w q L) (h':RecsAt w q' L)=>same16_ref q m d L q' m' d' L hm hm' (by omega) (fun r hr=>(f1 r hr).1) (fun r hr=>(f1 r hr).1) w h h')
     rw [decide_eq_true rfl] at HSame
     have HEx:=hid (fun q m d w (hm:m=L.length) (hmd:m≤d) (hd:d≤9223372036854775807) (h:RecsAt w q L)=>HEn.out q m d L w (by omega) ⟨hm,hmd,hd,fun r hr=>(f1 r hr).1,fun r hr=>by have:=(f1 r hr).2.1;omega,fun r hr=>by have:=(f1 r hr).2.2;omega,h⟩)
     have HT8:=hid hT'
     clear hz hL f1 f2 hT' HTn HTo HOw HKr HCr HI8 HBz HKz hNd hdm hN9 HDd HDi HDr HEn HI HFw HL HSm HE1
     obtain ⟨W,rfl⟩:∃ W,W=wc:=⟨_,rfl⟩
     have g0:=HC'.out.cell 0 rfl
     have g1:=HC'.out.cell 1 rfl
     simp only [confCells,List.getElem_toArray,List.getElem_cons_zero,List.getElem_cons_succ] at g0 g1
     go_wp2_with fail
     refine (HDx.out _ HI'.out (by omega)).mono ?_
     rintro e6 w6 ⟨v,rfl,qg,mg,dg,rfl,hmg,hmgd,hdg,hqg,hatg,hk1⟩
     have HK:=hid (HK'.out.trans hk1)
     have HC:=hid (HC'.out.keep hk1 (fun h=>h))
     have HB8:=hid (HI'.out.at_.keep hk1 (fun _ _ h=>h))
     have HG:=hid hatg
     have HGm:=hid (And.intro hmg (And.intro hmgd hdg))
     have HIo:=hid (And.intro HI'.out.cap (And.intro HI'.out.room (And.intro HI'.out.bare HI'.out.oct)))
     clear hk1 g0 g1 hmg hmgd hdg hqg hatg HI' HK' HC'
     have g0:=HC.out.cell 0 rfl
     have g1:=HC.out.cell 1 rfl
     simp only [confCells,List.getElem_toArray,List.getElem_cons_zero,List.getElem_cons_succ] at g0 g1
     have htx:=textOf q N' d' T' w6 HT8.out HB8.out
     go_wp2_with fail
     refine (HRx.out _ HIo.out.2.2.2 (by have:=HT8.out;omega)).mono ?_
     rintro e7 w7 ⟨v,rfl,qr,mr,dr,rfl,hmr,hmrd,hdr,hqr,hatr,hk1⟩
     have HK:=hid (HK.out.trans hk1)
     have HC:=hid (HC.out.keep hk1 (fun h=>h))
     have HB8:=hid (HB8.out.keep hk1 (fun _ _ h=>h))
     have HG:=hid (HG.out.keep hk1 (fun _ _ h=>h))
     have HSm:=hid (HSame.out qg mg dg qr mr dr w7 HGm.out.1 hmr HG.out hatr)
     clear hk1 g0 g1 htx hmr hmrd hdr hqr hatr
     have hzz:(z != z)=false:=by simp
     go_wp2_with fail
     refine HSm.out.mono ?_
     rintro e8 w8 ⟨rfl,hk1⟩
     have HK:=hid (HK.out.trans hk1)
     have HC:=hid (HC.out.keep hk1 (fun h=>h))
     have HB8:=hid (HB8.out.keep hk1 (fun _ _ h=>h))
     have HG:=hid (HG.out.keep hk1 (fun _ _ h=>h))
     clear hk1 HSm
     have g0:=HC.out.cell 0 rfl
     have g1:=HC.out.cell 1 rfl
     simp only [confCells,List.getElem_toArray,List.getElem_cons_zero,List.getElem_cons_succ] at g0 g1
     go_wp2_with fail
     refine (HIx.out _ ⟨HT8.out,HIo.out.1,HIo.out.2.1,HIo.out.2.2.1,HIo.out.2.2.2,HB8.out⟩ (by omega)).mono ?_
     rintro e9 w9 ⟨rfl,hk1⟩
     have HK:=hid (HK.out.trans hk1)
     have HC:=hid (HC.out.keep hk1 (fun h=>h))
     have HB8:=hid (HB8.out.keep hk1 (fun _ _ h=>h))
     have HG:=hid (HG.out.keep hk1 (fun _ _ h=>h))
     clear hk1 g0 g1
     have g0:=HC.out.cell 0 rfl
     have g1:=HC.out.cell 1 rfl
     simp only [confCells,List.getElem_toArray,List.getElem_cons_zero,List.getElem_cons_succ] at g0 g1
     by_cases hz0:z=0
     rotate_left
     ·have hne:(z != 0)=true:=by rw [bne_iff_ne];exact hz0
      have hne2:(z == 0)=false:=beq_eq_false_iff_ne.2 hz0
      have hne3:decide (z=0)=false:=decide_eq_false hz0
      have hm0:mg=0:=by rw [HGm.out.1,hno hz0];rfl
      subst hm0
      clear hz0 hno hon
      go_wp2_with fail
      go_ret
      exact ⟨rfl,HK.out⟩
     subst hz0
     have hen:=hon rfl
     have HEy:=hid (HEx.out qg mg dg w9 HGm.out.1 HGm.out.2.1 HGm.out.2.2 HG.out)
     rw [hen] at HEy
     clear hen hon hno
     go_wp2_with fail
     refine HEy.out.mono ?_
     rintro e10 w10 ⟨u,rfl,ho,hk1⟩
     obtain ⟨q3,d3,rfl,hd3,hd3',hb3,-,-⟩:=ho.read
     have HK:=hid (HK.out.trans hk1)
     have hc1:=textOf q N' d' T' w10 HT8.out (HB8.out.keep hk1 (fun _ _ h=>h))
     have hc2:=textOf q3 T'.length d3 T' w10 rfl hb3
     clear hk1 g0 g1 ho hb3 HEy
     go_wp2_with fail
     go_ret
     exact ⟨by first|rfl|simp,HK.out⟩
   ·have k1:decide ((0:Int)≤cut)=false:=decide_eq_false h0
    go_upto_if 73 with (fail)
    go_cut [10] (fun v wx=>∃ (q:Option Addr) (N' d':Nat) (T':List Int),v=.slice q N' d'∧N'≤70000∧Hid (In8 wx q N' d' T')∧Hid (Keeps NoBlock w wx)∧Hid (Whole wx g 27 (confCells e s)))
    case first =>
     by_cases hB:cut < -8192
     ·have k4:decide (cut < -8192)=true:=decide_eq_true hB
      cases q1 with
      | none =>
       obtain ⟨rfl,rfl⟩:=HI8.out.bare rfl
       go_wp2_with (at_builtin;refine wpList_append_P_none rfl _ _ rfl none 0 0 rfl rfl (fun _=>⟨rfl,rfl⟩) (Nat.le_refl _) ?_)
       go_meet
       case rel=>exact ⟨none,0,0,T,rfl,by omega,HI8,HKr,HCr⟩
      | some a =>
       obtain ⟨M,hM,hM0⟩:∃ M:Nat,(if (4096:Int)<(N:Int) then (4096:Int) else (N:Int))=(M:Int)∧M=min N 4096:=⟨min N 4096,by split <;> omega,rfl⟩
       have hMN:M≤N:=by omega
       have hM2:min (N:Int) 4096=(M:Int):=by omega
       have hM4:M≤4096:=by omega
       have hMd:M≤d1:=by omega
       have HTm:=hid (show ∃ Tm,Tm=T.take M from ⟨_,rfl⟩)
       obtain ⟨Tm,hTm⟩:=HTm.out
       have HTl:Hid (Tm.length=M):=hid (by rw [hTm,List.length_take];have:=HTn.out;omega)
       have HTc:Hid (Octets (T ++ Tm)):=hid (by rw [hTm];exact HTo.out.app (HTo.out.take M))
       have HTg:=hid (show ∀ j,j<M→(Tm.map (Value.int .u8))[j]?=some (Value.int .u8 (T.getD j 0)) from fun j hj=>by
        have:=HTn.out
        rw [hTm]
        simp [hj,List.getElem?_eq_getElem (show j<T.length by omega)])
       have Q1:=hid (show (Tm.map (Value.int .u8)).length=M*1 by rw [List.length_map,HTl.out,Nat.mul_one])
       have Q2:=hid (show ∀ j u,(Tm.map (Value.int .u8))[j]?=some u→wr.cell? (a.add j)=some u from fun j u hj=>by
        have hjn:j<M:=by
         have:=(List.getElem?_eq_some_iff.1 hj).1
         rw [List.length_map,HTl.out] at this
         exact this
        have hjT:j<T.length:=by have:=HTn.out;omega
        obtain ⟨a',ha',hcell⟩:=HI8.out.at_ (by omega)
        obtain rfl:=Option.some.inj ha'
        rw [hcell j hjT]
        rw [HTg.out j hjn] at hj
        exact hj)
       have Q3:=hid (show ∀ u ∈ Tm.map (Value.int .u8),u.oneCell'=true from fun u hu=>by obtain ⟨x,_,rfl⟩:=List.mem_map.1 hu;rfl)
       have Q4:=hid (show N+M≤maxLen by unfold maxLen;omega)
       have Q5:=hid (show (N+M)*1≤140737488355328 by omega)
       have Q6:=hid (show B≤wr.heap.size from HSr.out)
       clear hM0 hTm HTm HTg
       go_wp2_with (at_builtin;refine wpList_append_P rfl _ _ rfl B _ _ _ rfl HOw.out a M d1 (Tm.map (Value.int .u8)) rfl Q1.out Q2.out Q3.out Q4.out Q5.out Q6.out ?_)
       intro v' wg hown hgrow
       obtain ⟨p',c',rfl⟩:=hown.form
       have HCn:=hid (Whole.grown HCr.out hgrow (fun hh=>by have:=OwnP.from_ HOw.out hh;have:=HBz.out;omega))
       have HKn:=hid (HKr.out.grown hgrow (fun k hk=>.inr (by have:=OwnP.from_ HOw.out hk;have:=HBz.out;omega)))
       have HIn:=hid (OwnP.in8P (T:=T ++ Tm) (by rw [List.map_append];exact hown) (by rw [List.length_append,HTl.out,← HTn.out]) HTc.out)
       have hNM:N+M≤70000:=by omega
       clear hown hgrow
       go_wp2_with fail
       go_meet
       case rel=>exact ⟨p',N+M,c',T ++ Tm,rfl,hNM,HIn,HKn,HCn⟩
     ·have k4:decide (cut < -8192)=false:=decide_eq_false hB
      go_wp2_with fail
      go_meet
      case rel=>exact ⟨q1,N,d1,T,rfl,by omega,HI8,HKr,HCr⟩
    case rest =>
     obtain ⟨q,N',d',T',rfl,hN',HI',HK',HC'⟩:=hcut
     have HDx:=hid (HDd.out q N' d' T')
     have HIx:=hid (HDi.out q N' d' T')
     have HRx:=hid (HDr.out T')
     obtain ⟨f1,f2⟩:=dec_fine (e:=e) (s:=s) HI'.out.oct
     have hno:=dec_none_of (e:=e) (s:=s) (ys:=T')
     have hon:=fun h:(decI e s T').1=0=>dec_only (e:=e) (s:=s) (ys:=T') (l:=(decI e s T').2) (Prod.ext h rfl)
     obtain ⟨z,hz⟩:∃ z,z=(decI e s T').1:=⟨_,rfl⟩
     obtain ⟨L,hL⟩:∃ L,L=(decI e s T').2:=⟨_,rfl⟩
     rw [← hz,← hL] at HDx HRx hno hon
     rw [← hz] at HIx
     rw [← hL] at f1 f2
     have hT':=HI'.out.len
     have hLl:L.length≤7000:=by omega
     have HSame:=hid (fun q m d q' m' d' w (hm:m=L.length) (hm':m'=L.length) (h:RecsAt w q L) (h':RecsAt w q' L)=>same16_ref q m d L q' m' d' L hm hm' (by omega) (fun r hr=>(f1 r hr).1) (fun r hr=>(f1 r hr).1) w h h')
     rw [decide_eq_true rfl] at HSame
     have HEx:=hid (fun q m d w (hm:m=L.length) (hmd:m≤d) (hd:d≤9223372036854775807) (h:RecsAt w q L)=>HEn.out q m d L w (by omega) ⟨hm,hmd,hd,fun r hr=>(f1 r hr).1,fun r hr=>by have:=(f1 r hr).2.1;omega,fun r hr=>by have:=(f1 r hr).2.2;omega,h⟩)
     have HT8:=hid hT'
     clear hz hL f1 f2 hT' HTn HTo HOw HKr HCr HI8 HBz HKz hNd hdm hN9 HDd HDi HDr HEn HI HFw HL HSm HE1
     obtain ⟨W,rfl⟩:∃ W,W=wc:=⟨_,rfl⟩
     have g0:=HC'.out.cell 0 rfl
     have g1:=HC'.out.cell 1 rfl
     simp only [confCells,List.getElem_toArray,List.getElem_cons_zero,List.getElem_cons_succ] at g0 g1
     go_wp2_with fail
     refine (HDx.out _ HI'.out (by omega)).mono ?_
     rintro e6 w6 ⟨v,rfl,qg,mg,dg,rfl,hmg,hmgd,hdg,hqg,hatg,hk1⟩
     have HK:=hid (HK'.out.trans hk1)
     have HC:=hid (HC'.out.keep hk1 (fun h=>h))
     have HB8:=hid (HI'.out.at_.keep hk1 (fun _ _ h=>h))
     have HG:=hid hatg
     have HGm:=hid (And.intro hmg (And.intro hmgd hdg))
     have HIo:=hid (And.intro HI'.out.cap (And.intro HI'.out.room (And.intro HI'.out.bare HI'.out.oct)))
     clear hk1 g0 g1 hmg hmgd hdg hqg hatg HI' HK' HC'
     have g0:=HC.out.cell 0 rfl
     have g1:=HC.out.cell 1 rfl
     simp only [confCells,List.getElem_toArray,List.getElem_cons_zero,List.getElem_cons_succ] at g0 g1
     have htx:=textOf q N' d' T' w6 HT8.out HB8.out
     go_wp2_with fail
     refine (HRx.out _ HIo.out.2.2.2 (by have:=HT8.out;omega)).mono ?_
     rintro e7 w7 ⟨v,rfl,qr,mr,dr,rfl,hmr,hmrd,hdr,hqr,hatr,hk1⟩
     have HK:=hid (HK.out.trans hk1)
     have HC:=hid (HC.out.keep hk1 (fun h=>h))
     have HB8:=hid (HB8.out.keep hk1 (fun _ _ h=>h))
     have HG:=hid (HG.out.keep hk1 (fun _ _ h=>h))
     have HSm:=hid (HSame.out qg mg dg qr mr dr w7 HGm.out.1 hmr HG.out hatr)
     clear hk1 g0 g1 htx hmr hmrd hdr hqr hatr
     have hzz:(z != z)=false:=by simp
     go_wp2_with fail
     refine HSm.out.mono ?_
     rintro e8 w8 ⟨rfl,hk1⟩
     have HK:=hid (HK.out.trans hk1)
     have HC:=hid (HC.out.keep hk1 (fun h=>h))
     have HB8:=hid (HB8.out.keep hk1 (fun _ _ h=>h))
     have HG:=hid (HG.out.keep hk1 (fun _ _ h=>h))
     clear hk1 HSm
     have g0:=HC.out.cell 0 rfl
     have g1:=HC.out.cell 1 rfl
     simp only [confCells,List.getElem_toArray,List.getElem_cons_zero,List.getElem_cons_succ] at g0 g1
     go_wp2_with fail
     refine (HIx.out _ ⟨HT8.out,HIo.out.1,HIo.out.2.1,HIo.out.2.2.1,HIo.out.2.2.2,HB8.out⟩ (by omega)).mono ?_
     rintro e9 w9 ⟨rfl,hk1⟩
     have HK:=hid (HK.out.trans hk1)
     have HC:=hid (HC.out.keep hk1 (fun h=>h))
     have HB8:=hid (HB8.out.keep hk1 (fun _ _ h=>h))
     have HG:=hid (HG.out.keep hk1 (fun _ _ h=>h))
     clear hk1 g0 g1
     have g0:=HC.out.cell 0 rfl
     have g1:=HC.out.cell 1 rfl
     simp only [confCells,List.getElem_toArray,List.getElem_cons_zero,List.getElem_cons_succ] at g0 g1
     by_cases hz0:z=0
     rotate_left
     ·have hne:(z != 0)=true:=by rw [bne_iff_ne];exact hz0
      have hne2:(z == 0)=false:=beq_eq_false_iff_ne.2 hz0
      have hne3:decide (z=0)=false:=decide_eq_false hz0
      have hm0:mg=0:=by rw [HGm.out.1,hno hz0];rfl
      subst hm0
      clear hz0 hno hon
      go_wp2_with fail
      go_ret
      exact ⟨rfl,HK.out⟩
     subst hz0
     have hen:=hon rfl
     have HEy:=hid (HEx.out qg mg dg w9 HGm.out.1 HGm.out.2.1 HGm.out.2.2 HG.out)
     rw [hen] at HEy
     clear hen hon hno
     go_wp2_with fail
     refine HEy.out.mono ?_
     rintro e10 w10 ⟨u,rfl,ho,hk1⟩
     obtain ⟨q3,d3,rfl,hd3,hd3',hb3,-,-⟩:=ho.read
     have HK:=hid (HK.out.trans hk1)
     have hc1:=textOf q N' d' T' w10 HT8.out (HB8.out.keep hk1 (fun _ _ h=>h))
     have hc2:=textOf q3 T'.length d3 T' w10 rfl hb3
     clear hk1 g0 g1 ho hb3 HEy
     go_wp2_with fail
     go_ret
     exact ⟨by first|rfl|simp,HK.out⟩
theorem destrict_walk {At:BAt} (HB:SgBuild At) (HNw:SgNewOk At) (HOp:SgOpenOk At) (H:ImEncOk) (HD:DeDecOk) (HIs:DeIsOk) (k:Nat) (p:Option Addr) (n c:Nat) (l:List Rec) (p2:Option Addr) (n2 c2:Nat) (el:List (Nat × Nat)) (cut:Int) (w:World) (hk:k<256) (hn:n=l.length) (hc:n≤c) (hc':c≤9223372036854775807) (hf:∀ r ∈ l,r.Fine) (hb:∀ r ∈ l,r.key.length≤9223372036854775807∧r.val.length≤9223372036854775807) (hl:RecsAt w p l)
  (hn2:n2=el.length) (hn2':n2≤9223372036854775807) (he:∀ x ∈ el,x.1<65536∧x.2<256) (hel:TwosAt edA edB (0,0) w p2 el) (hcut:-9223372036854775808≤cut∧cut≤9223372036854775807) :
  Calls Tryz.prog 4 #[.int .u8 (k:Int),.slice p n c,.slice p2 n2 c2,.int .i64 cut] w fun e w'=>e=.returned (.bool true)∧Keeps NoBlock w w':=by
 by_cases h:fewR l 20 500=true∧n2≤20
 ·exact destrict_few HB HNw HOp H HD HIs k p n c l p2 n2 c2 el cut w hk hn hc hc' hf hb hl hn2 he hel hcut h.1 h.2
 ·refine destrict_many HB HNw HOp H HD k p n c l p2 n2 c2 cut w hn hc hc' hb hl hn2' ?_
  cases hl2:fewR l 20 500 with
  | false=>exact .inl rfl
  | true=>exact .inr (by
    rcases Nat.lt_or_ge 20 n2 with h2|h2
    ·exact h2
    ·exact absurd ⟨hl2,h2⟩ h)
end
end Go.Proofs.YtehkjkcnigknkaaGreat

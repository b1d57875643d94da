/-
  FtRef; SgText; SgScan; SgParse; PkRef; FenGet.
-/
import Derived.IntWalk
import Derived.Deep.Cut
import Derived.Lib.Hide
import Derived.Test.YtehkjkcnigknkaaGreatV03
import Derived.Test.YtehkjkcnigknkaaGreatV04
import Derived.Test.YtehkjkcnigknkaaGreatV07
import Derived.Test.YtehkjkcnigknkaaGreatV09
import Derived.Test.YtehkjkcnigknkaaGreatV10
import Derived.Test.YtehkjkcnigknkaaGreatV11
import Derived.Test.YtehkjkcnigknkaaGreatV13
import Derived.Test.YtehkjkcnigknkaaGreatV14
namespace Go.Proofs.YtehkjkcnigknkaaGreat
open Lib (hid)
section
open Go.RowKit
def ftV (u:Nat) (q:Option Addr) (n c:Nat):Value:=.agg #[.int .u32 (u:Int),.slice q n c]
def ftCells (u:Nat) (q:Option Addr) (n c:Nat):Array Value:=#[.int .u32 (u:Int),.slice q n c]
theorem bodyFt_flat (u:Nat) (l:List En):bodyFt ⟨u,l⟩=(((4 :: digits (l.length:Int) 4) ++ digits (u:Int) 4) ++ textE l) ++ textF (ofF l):=by simp [bodyFt]
set_option maxHeartbeats 4000000 in
set_option maxRecDepth 10000 in
theorem text13_ref (u:Nat) (hu:u<4294967296) (q:Option Addr) (n c:Nat) (l:List En) (hn:n=l.length) (hn9:n≤100000) (hf:∀ e ∈ l,e.Fine) (w:World) (hl:EnsAt w q l) :
  Calls Tryz.prog 27 #[ftV u q n c] w fun e w'=>e=.returned (.string (strOfNums (sealN (bodyFt ⟨u,l⟩))))∧Keeps NoBlock w w':=by
 have wn:IntKind.u64.wrap (n:Int)=(n:Int):=by rw [IntKind.wrap_u64];omega
 have wu:IntKind.u64.wrap (u:Int)=(u:Int):=by rw [IntKind.wrap_u64];omega
 have HN4:=hid (fun w=>num_any (n:Int) 4 4 rfl (by decide) (by omega) (by omega) w)
 have HU4:=hid (fun w=>num_any (u:Int) 4 4 rfl (by decide) (by omega) (by omega) w)
 have HTE:=hid (fun W h=>text11_ref q n c l hn (by omega) hf W h)
 have HOf:=hid (fun W h=>of12_ref q n c l hn (by omega) W h)
 have hfl:=ofF_length l
 have hff:=ofF_fine hf
 have HTF:=hid (fun q m d W (hm:m=(ofF l).length) h=>text12_ref q m d (ofF l) hm (by omega) hff W h)
 have hbl:=bodyFt_length ⟨u,l⟩
 have hble:=bodyLen_le l.length
 have hfl2:=bodyFt_flat u l
 have HSl:=hid (fun w=>seal9_ref (bodyFt ⟨u,l⟩) bodyFt_octets (by simp only at hbl;omega) w)
 have z1:=str_size (digits (n:Int) 4)
 have z2:=str_size (digits (u:Int) 4)
 have z3:=str_size (textE l)
 have z4:=str_size (textF (ofF l))
 rw [digits_length] at z1 z2
 rw [textE_length] at z3
 rw [textF_length,hfl] at z4
 rw [← hn] at hfl2 z3 z4
 have hl1:((4:Int) :: digits (n:Int) 4).length=5:=by rw [List.length_cons,digits_length]
 have hl2:(((4:Int) :: digits (n:Int) 4) ++ digits (u:Int) 4).length=9:=by rw [List.length_append,hl1,digits_length]
 have hl3:((((4:Int) :: digits (n:Int) 4) ++ digits (u:Int) 4) ++ textE l).length=9+12*n:=by rw [List.length_append,hl2,textE_length,← hn]
 have a1:(⟨#[4]⟩:ByteArray) ++ strOfNums (digits (n:Int) 4)=strOfNums (4 :: digits (n:Int) 4):=str_append [4] _
 have a2:=str_append (4 :: digits (n:Int) 4) (digits (u:Int) 4)
 have a3:=str_append ((4 :: digits (n:Int) 4) ++ digits (u:Int) 4) (textE l)
 have a4:=str_append (((4 :: digits (n:Int) 4) ++ digits (u:Int) 4) ++ textE l) (textF (ofF l))
 rw [← hfl2] at a4
 have z0:(⟨#[4]⟩:ByteArray).size=1:=rfl
 have z5:=str_size (4 :: digits (n:Int) 4)
 have z6:=str_size ((4 :: digits (n:Int) 4) ++ digits (u:Int) 4)
 have z7:=str_size (((4 :: digits (n:Int) 4) ++ digits (u:Int) 4) ++ textE l)
 rw [hl1] at z5
 rw [hl2] at z6
 rw [hl3] at z7
 obtain ⟨X1,hX1⟩:∃ X,X=4 :: digits (n:Int) 4:=⟨_,rfl⟩
 rw [← hX1] at a1 a2 a3 a4 z5 z6 z7
 obtain ⟨D1,hD1⟩:∃ X,X=digits (n:Int) 4:=⟨_,rfl⟩
 obtain ⟨D2,hD2⟩:∃ X,X=digits (u:Int) 4:=⟨_,rfl⟩
 rw [← hD1] at a1 z1 HN4
 rw [← hD2] at a2 a3 a4 z2 z6 z7 HU4
 obtain ⟨X2,hX2⟩:∃ X,X=X1 ++ D2:=⟨_,rfl⟩
 rw [← hX2] at a2 a3 a4 z6 z7
 obtain ⟨TE,hTE⟩:∃ X,X=textE l:=⟨_,rfl⟩
 rw [← hTE] at a3 a4 z3 z7 HTE
 obtain ⟨X3,hX3⟩:∃ X,X=X2 ++ TE:=⟨_,rfl⟩
 rw [← hX3] at a3 a4 z7
 obtain ⟨TF,hTF⟩:∃ X,X=textF (ofF l):=⟨_,rfl⟩
 rw [← hTF] at a4 z4 HTF
 obtain ⟨B,hB⟩:∃ B,B=bodyFt ⟨u,l⟩:=⟨_,rfl⟩
 rw [← hB] at a4 HSl ⊢
 obtain ⟨T,hT⟩:∃ T,T=sealN B:=⟨_,rfl⟩
 rw [← hT] at HSl ⊢
 obtain ⟨Cn,hC⟩:∃ C,C=(n+15) / 16:=⟨_,rfl⟩
 rw [← hC] at z4
 have hC9:Cn≤100000:=by omega
 have r1:¬ 9223372036854775807<1+4:=by decide
 have r2:¬ 9223372036854775807<5+4:=by decide
 have r3:¬ 9223372036854775807<9+12*n:=by omega
 have r4:¬ 9223372036854775807<9+12*n+8*Cn:=by omega
 have HW0:=hid (Whole.new w 77 (ftCells u q n c))
 have HL:=hid hl
 clear hn hX1 hD1 hD2 hX2 hTE hX3 hTF hB hT hC hl1 hl2 hl3 hbl hble hfl hff hfl2 hl hf hu
 unfold ftV
 go_enter Tryz.func27,Tryz.ntmps27
 go_wp2_with fail
 obtain ⟨W,hW⟩:∃ W,W=w.alloc (.cells #[.int .u32 (u:Int),.slice q n c] 77):=⟨_,rfl⟩
 have HR:Hid (Whole W w.heap.size 77 (ftCells u q n c)):=by rw [hW];exact HW0
 have HK:Hid (Keeps NoBlock w W):=hid (by rw [hW];exact (Keeps.refl _ _).alloc _)
 rw [← hW]
 clear hW HW0
 have s0:=And.intro ((Whole.drewN HR.out 1).cell 0 rfl) ((Whole.drewN HR.out 1).cell 1 rfl)
 have sN:=And.intro (HR.out.cell 0 rfl) (HR.out.cell 1 rfl)
 simp only [ftCells,List.getElem_toArray,List.getElem_cons_zero,List.getElem_cons_succ] at s0 sN
 go_region_held3 (fun w'=>w'.cell? ⟨w.heap.size,0,none⟩=some (.int .u32 (u:Int))∧w'.cell? ⟨w.heap.size,1,none⟩=some (.slice q n c))
  (first|exact s5|exact s0|exact sN)
  (first|(go_at_call 48;(first|(with_reducible refine (HN4.out _).mono ?_)|(with_reducible refine (HU4.out _).mono ?_));rintro e w5 ⟨rfl,hk⟩;have hk':Keeps NoBlock W w5:=(by first|exact hk|exact hk.ofDrew|exact hk.ofDrewN);have HK:=hid (HK.out.trans hk');have HR:=hid (HR.out.keep hk' (fun h=>h));have s5:=And.intro (HR.out.cell 0 rfl) (HR.out.cell 1 rfl);simp only [ftCells,List.getElem_toArray,List.getElem_cons_zero,List.getElem_cons_succ] at s5;clear hk hk';obtain ⟨W,rfl⟩:∃ x,x=w5:=⟨_,rfl⟩))
 clear s0 sN s5
 go_wp2_with fail
 have s0:=And.intro ((Whole.drewN HR.out 1).cell 0 rfl) ((Whole.drewN HR.out 1).cell 1 rfl)
 have sN:=And.intro (HR.out.cell 0 rfl) (HR.out.cell 1 rfl)
 simp only [ftCells,List.getElem_toArray,List.getElem_cons_zero,List.getElem_cons_succ] at s0 sN
 go_region_held3 (fun w'=>w'.cell? ⟨w.heap.size,0,none⟩=some (.int .u32 (u:Int))∧w'.cell? ⟨w.heap.size,1,none⟩=some (.slice q n c))
  (first|exact s5|exact s0|exact sN)
  (first|(go_at_call 50;refine (HTE.out _ (by first|exact EnsAt.keep HL.out HK.out|exact EnsAt.keep HL.out HK.out.drew|exact EnsAt.keep HL.out (HK.out.drewN _))).mono ?_;rintro e w5 ⟨rfl,hk⟩;have hk':Keeps NoBlock W w5:=(by first|exact hk|exact hk.ofDrew|exact hk.ofDrewN);have HK:=hid (HK.out.trans hk');have HR:=hid (HR.out.keep hk' (fun h=>h));have s5:=And.intro (HR.out.cell 0 rfl) (HR.out.cell 1 rfl);simp only [ftCells,List.getElem_toArray,List.getElem_cons_zero,List.getElem_cons_succ] at s5;clear hk hk';obtain ⟨W,rfl⟩:∃ x,x=w5:=⟨_,rfl⟩)|(go_at_call 52;refine (HOf.out _ (by first|exact EnsAt.keep HL.out HK.out|exact EnsAt.keep HL.out HK.out.drew|exact EnsAt.keep HL.out (HK.out.drewN _))).mono ?_;rintro e w5 ⟨v5,rfl,hnum⟩;obtain ⟨q9,m9,d9,rfl,hbare9,hm9,hc9⟩:=own_nums hnum.1;have hk:=Keeps.ofBelow (S:=NoBlock) hnum.2;have hk':Keeps NoBlock W w5:=(by first|exact hk|exact hk.ofDrew|exact hk.ofDrewN);have HK:=hid (HK.out.trans hk');have HR:=hid (HR.out.keep hk' (fun h=>h));have HRw:=hid (cells_rowN hm9 hbare9 hc9);have HM9:=hid hm9;have s5:=And.intro (HR.out.cell 0 rfl) (HR.out.cell 1 rfl);simp only [ftCells,List.getElem_toArray,List.getElem_cons_zero,List.getElem_cons_succ] at s5;clear hk hk' hnum hbare9 hm9 hc9;obtain ⟨W,rfl⟩:∃ x,x=w5:=⟨_,rfl⟩)|(go_at_call 51;refine (HTF.out _ _ _ _ HM9.out (by exact HRw.out)).mono ?_;rintro e w5 ⟨rfl,hk⟩;have hk':Keeps NoBlock W w5:=(by first|exact hk|exact hk.ofDrew|exact hk.ofDrewN);have HK:=hid (HK.out.trans hk');have HR:=hid (HR.out.keep hk' (fun h=>h));have s5:=And.intro (HR.out.cell 0 rfl) (HR.out.cell 1 rfl);simp only [ftCells,List.getElem_toArray,List.getElem_cons_zero,List.getElem_cons_succ] at s5;clear hk hk' HRw;obtain ⟨W,rfl⟩:∃ x,x=w5:=⟨_,rfl⟩)|(go_at_call 49;refine (HSl.out _).mono ?_;rintro e w5 ⟨rfl,hk⟩;have hk':Keeps NoBlock W w5:=(by first|exact hk|exact hk.ofDrew|exact hk.ofDrewN);have HK:=hid (HK.out.trans hk');have HR:=hid (HR.out.keep hk' (fun h=>h));have s5:=And.intro (HR.out.cell 0 rfl) (HR.out.cell 1 rfl);simp only [ftCells,List.getElem_toArray,List.getElem_cons_zero,List.getElem_cons_succ] at s5;clear hk hk';obtain ⟨W,rfl⟩:∃ x,x=w5:=⟨_,rfl⟩))
 go_wp2_with fail
 go_ret
 exact ⟨rfl,HK.out⟩
end
section
open Go.RowKit
theorem entsGo_fine:∀ (l:List Rec) (k:Nat),k+(recsB l).length≤4000000000→∀ x ∈ entsGo k l,x.Fine
 | [],_,_,x,hx=>by simp [entsGo] at hx
 | r :: l,k,h,x,hx=>by
  have e:recsB (r :: l)=recB r ++ recsB l:=by unfold recsB;rw [List.flatMap_cons]
  rw [e,List.length_append] at h
  rw [entsGo,List.mem_cons] at hx
  rcases hx with rfl|hx
  ·refine ⟨?_,by show k<4294967296;omega⟩
   have hu:=wxxh_u64 0 r.key
   unfold U64 at hu
   show (wxxh 0 r.key).toNat<18446744073709551616
   omega
  ·exact entsGo_fine l _ (by omega) x hx
theorem ents_fine {e s n:Nat} {l:List Rec} (h:(outS e s n l).length≤100000000):∀ x ∈ entsS e s n l,x.Fine:=by
 unfold entsS
 refine entsGo_fine l _ ?_
 unfold outS at h
 rw [List.length_append] at h
 unfold headLen
 omega
set_option maxHeartbeats 4000000 in
set_option maxRecDepth 10000 in
theorem text15_ref (e s n:Nat) (he:e≤24) (p:Option Addr) (m c:Nat) (l:List Rec) (b:Bool) (hi:SegIn e s n l) (hm:m=l.length) (w:World) (hl:RecsAt w p l) :
  Calls Tryz.prog 14 #[confV e s,.int .u64 (n:Int),.slice p m c,.bool b] w fun r w'=>r=.returned (.string (strOfNums (textS e s n l b)))∧Keeps NoBlock w w':=by
 have HW0:=hid (Whole.new w 27 (confCells e s))
 have HFr:=hid (fun w hl=>frames15_ref e s n p m c l hi hm w hl)
 have HL:=hid hl
 have HSz:=hid (fun w=>size8_ref e s he w)
 have HEr:=hid (fun z h1 h2 w=>erased15_ref z h1 h2 w)
 have hlong:=hi.long
 have hfew:=hi.few
 have h2e:=two_e he
 have hsl:=sortE_len (entsS e s n l)
 have hel:(entsS e s n l).length=l.length:=entsGo_length l _
 have hfn:=sortE_fine (ents_fine hlong)
 have HTx:=hid (fun q d w h=>text13_ref (outS e s n l).length (by omega) q (sortE (entsS e s n l)).length d (sortE (entsS e s n l)) rfl (by omega) hfn w h)
 have hfl:(footS e s n l).length≤10000000:=by
  have h1:=foot_most e s n l
  have h2:mostFt l.length≤10000000:=by
   unfold mostFt
   have h3:=sizeN_bound (bodyLen l.length)
   have h4:=bodyLen_le l.length
   omega
  omega
 have hdef:textS e s n l b=framesS e s n l b ++ List.replicate (((2 ^ e:Nat):Int) - ((framesS e s n l b).length:Int)).toNat 255:=by
  unfold textS
  congr 2
  omega
 rw [hdef]
 clear hdef hi hm hl hfn hsl hel
 have hF:footS e s n l=sealN (bodyFt ⟨(outS e s n l).length,sortE (entsS e s n l)⟩):=rfl
 rw [← hF] at HTx
 clear hF
 obtain ⟨F,hF⟩:∃ F,F=footS e s n l:=⟨_,rfl⟩
 obtain ⟨O,hO⟩:∃ O,O=outS e s n l:=⟨_,rfl⟩
 obtain ⟨Sr,hS⟩:∃ Sr,Sr=sortE (entsS e s n l):=⟨_,rfl⟩
 have hfr:framesS e s n l b=O ++ (if b=true then F else []):=by rw [hO,hF];rfl
 rw [hfr]
 rw [← hF] at hfl HTx
 rw [← hO] at hlong HTx HFr
 rw [← hS] at HTx HFr
 clear hF hO hS hfr
 obtain ⟨Z,hZ⟩:∃ Z:Nat,Z=2 ^ e:=⟨_,rfl⟩
 rw [← hZ] at HSz h2e ⊢
 clear hZ
 have z1:=str_size O
 have z2:=str_size F
 have hap:=str_append O F
 have r1:¬ 9223372036854775807<O.length+F.length:=by omega
 have hu:IntKind.u32.wrap ((O.length:Nat):Int)=((O.length:Nat):Int):=by rw [IntKind.wrap_u32];omega
 have hz:IntKind.i64.wrap ((Z:Nat):Int)=((Z:Nat):Int):=by rw [IntKind.wrap_i64];omega
 unfold confV at *
 cases b with
 | true =>
  rw [if_pos rfl]
  obtain ⟨G,hG⟩:∃ G,G=O ++ F:=⟨_,rfl⟩
  have hGl:G.length≤110000000:=by rw [hG,List.length_append];omega
  rw [← hG] at hap ⊢
  have z3:=str_size G
  clear hG
  have HEz:=hid (fun w=>HEr.out ((Z:Int) - (G.length:Int)) (by omega) (by omega) w)
  obtain ⟨D,hD⟩:∃ D,D=List.replicate ((Z:Int) - (G.length:Int)).toNat (255:Int):=⟨_,rfl⟩
  have hDl:D.length≤20000000:=by rw [hD,List.length_replicate];omega
  rw [← hD] at HEz ⊢
  have z4:=str_size D
  have hap2:=str_append G D
  have r2:¬ 9223372036854775807<G.length+D.length:=by omega
  clear hD
  go_enter Tryz.func14,Tryz.ntmps14
  go_wp2_with fail
  refine (HFr.out _ (HL.out.keep ((Keeps.refl NoBlock w).alloc _) (fun _ _ h=>h))).mono ?_
  rintro e1 w1 ⟨v,rfl,q,k,d,rfl,hk1,hk2,hk3,hq,hat,hkk⟩
  subst hk1
  have HK:=hid (((Keeps.refl NoBlock w).alloc (.cells #[.int .u8 (e:Int),.int .u32 (s:Int)] 27)).trans hkk)
  have HW1:=hid (HW0.out.keep hkk (fun h=>h))
  have HTq:=hid (HTx.out q d w1 hat)
  clear hkk hat HW0 HFr HTx hq hk2 hk3
  unfold ftV at HTq
  go_wp2_with fail
  refine HTq.out.mono ?_
  rintro e2 w2 ⟨rfl,hk⟩
  have HK2:=hid (HK.out.trans hk)
  have HW2:=hid (HW1.out.keep hk (fun h=>h))
  have g0:=HW2.out.cell 0 rfl
  have g1:=HW2.out.cell 1 rfl
  simp only [confCells,List.getElem_toArray,List.getElem_cons_zero,List.getElem_cons_succ] at g0 g1
  clear hk HTq HW1 HK
  go_wp2_with fail
  refine (HSz.out _).mono ?_
  rintro e3 w3 ⟨rfl,hk⟩
  have HK3:=hid (HK2.out.trans hk)
  clear hk HK2 HW2 g0 g1
  go_wp2_with fail
  refine (HEz.out _).mono ?_
  rintro e4 w4 ⟨rfl,hk⟩
  have HK4:=hid (HK3.out.trans hk)
  clear hk
  go_wp2_with fail
  go_ret
  exact ⟨rfl,HK4.out⟩
 | false =>
  rw [if_neg (by simp),List.append_nil]
  have HEz:=hid (fun w=>HEr.out ((Z:Int) - (O.length:Int)) (by omega) (by omega) w)
  obtain ⟨D,hD⟩:∃ D,D=List.replicate ((Z:Int) - (O.length:Int)).toNat (255:Int):=⟨_,rfl⟩
  have hDl:D.length≤20000000:=by rw [hD,List.length_replicate];omega
  rw [← hD] at HEz ⊢
  have z4:=str_size D
  have hap2:=str_append O D
  have r2:¬ 9223372036854775807<O.length+D.length:=by omega
  clear hD
  go_enter Tryz.func14,Tryz.ntmps14
  go_wp2_with fail
  refine (HFr.out _ (HL.out.keep ((Keeps.refl NoBlock w).alloc _) (fun _ _ h=>h))).mono ?_
  rintro e1 w1 ⟨v,rfl,q,k,d,rfl,hk1,hk2,hk3,hq,hat,hkk⟩
  subst hk1
  have HK:=hid (((Keeps.refl NoBlock w).alloc (.cells #[.int .u8 (e:Int),.int .u32 (s:Int)] 27)).trans hkk)
  have HW1:=hid (HW0.out.keep hkk (fun h=>h))
  clear hkk hat HW0 HFr HTx hq hk2 hk3
  have g0:=HW1.out.cell 0 rfl
  have g1:=HW1.out.cell 1 rfl
  simp only [confCells,List.getElem_toArray,List.getElem_cons_zero,List.getElem_cons_succ] at g0 g1
  go_wp2_with fail
  refine (HSz.out _).mono ?_
  rintro e3 w3 ⟨rfl,hk⟩
  have HK3:=hid (HK.out.trans hk)
  clear hk HK HW1 g0 g1
  go_wp2_with fail
  refine (HEz.out _).mono ?_
  rintro e4 w4 ⟨rfl,hk⟩
  have HK4:=hid (HK3.out.trans hk)
  clear hk
  go_wp2_with fail
  go_ret
  exact ⟨rfl,HK4.out⟩
end
section
theorem getR_only {ys:List Int} (ho:Octets ys) {r:Rec} (h:getR ys=(0,r)):r.Fine∧checkR r=0∧ys=chunkN (bodyR r):=by
 unfold getR at h
 by_cases h0:(openN ys).1=0
 ·rw [if_neg (by simpa using h0)] at h
  have ⟨h1,h2⟩:=open_only ho (b:=(openN ys).2) (by rw [← h0])
  have ⟨h3,h4,h5⟩:=readR_only h2 h
  exact ⟨h3,h4,by rw [h5];exact h1⟩
 ·rw [if_pos h0] at h
  exact absurd (Prod.mk.inj h).1 h0
theorem recsB_snoc (l:List Rec) (r:Rec):recsB (l ++ [r])=recsB l ++ recB r:=by
 unfold recsB
 rw [List.flatMap_append]
 simp
structure ScanSt (ys:List Int) (i:Nat) (z:Int) (l:List Rec):Prop where
 le:i≤ys.length
 at_:(z=-1∧l=[]∧scanS ys=recsTake ((chunksGo (ys.take i) (ys.drop i)).drop 1)) ∨ ∃ f:Nat,z=(f:Int)∧f≤i∧(recsB l).length≤f∧scanS ys=l ++ recsTake (chunksGo ((ys.take i).drop f) (ys.drop i))
 fine:∀ r ∈ l,r.Fine∧checkR r=0
theorem ScanSt.start (ys:List Int):ScanSt ys 0 (-1) []:=⟨Nat.zero_le _,.inl ⟨rfl,rfl,by simp [scanS]⟩,fun r hr=>by simp at hr⟩
theorem drop_all (ys:List Int) (i:Nat):(ys.take (i+1)).drop (i+1)=[]:=List.drop_eq_nil_of_le (by rw [List.length_take];omega)
theorem take_one {ys:List Int} {i:Nat} (hi:i<ys.length):ys.take (i+1)=ys.take i ++ [ys.getD i 0]:=by
 rw [List.take_succ_eq_append_getElem hi]
 simp [hi]
theorem ScanSt.other {ys:List Int} {i:Nat} {z:Int} {l:List Rec} (h:ScanSt ys i z l) (hi:i<ys.length) (hb:ys.getD i 0 ≠ 0):ScanSt ys (i+1) z l:=by
 have hd:=drop_cons_getD ys i hi
 refine ⟨by omega,?_,h.fine⟩
 rcases h.at_ with ⟨h1,h2,h3⟩|⟨f,h1,h2,h3,h4⟩
 ·refine .inl ⟨h1,h2,?_⟩
  rw [h3,hd,chunksGo,if_neg hb,take_one hi]
 ·refine .inr ⟨f,h1,by omega,h3,?_⟩
  rw [h4,hd,chunksGo,if_neg hb,take_one hi,List.drop_append_of_le_length (by rw [List.length_take];omega)]
theorem ScanSt.first {ys:List Int} {i:Nat} {l:List Rec} (h:ScanSt ys i (-1) l) (hi:i<ys.length) (hb:ys.getD i 0=0):ScanSt ys (i+1) ((i+1:Nat):Int) l:=by
 have hd:=drop_cons_getD ys i hi
 refine ⟨by omega,.inr ⟨i+1,rfl,Nat.le_refl _,?_,?_⟩,h.fine⟩
 ·rcases h.at_ with ⟨_,h2,_⟩|⟨f,h1,_⟩
  ·rw [h2];simp [recsB]
  ·omega
 ·rcases h.at_ with ⟨_,h2,h3⟩|⟨f,h1,_⟩
  ·rw [h3,hd,chunksGo,if_pos hb,h2,drop_all ys i]
   simp
  ·omega
theorem ScanSt.chunk {ys:List Int} {i f:Nat} {l:List Rec} (h:ScanSt ys i (f:Int) l) (hi:i<ys.length) (hb:ys.getD i 0=0) :
  f≤i∧(recsB l).length≤f∧scanS ys=l ++ recsTake (((ys.take i).drop f) :: chunksGo [] (ys.drop (i+1))):=by
 have hd:=drop_cons_getD ys i hi
 rcases h.at_ with ⟨h1,_⟩|⟨f',h1,h2,h3,h4⟩
 ·omega
 ·obtain rfl:f'=f:=by omega
  refine ⟨h2,h3,?_⟩
  rw [h4,hd,chunksGo,if_pos hb]
theorem ScanSt.good {ys:List Int} {i f:Nat} {l:List Rec} (h:ScanSt ys i (f:Int) l) (ho:Octets ys) (hi:i<ys.length) (hb:ys.getD i 0=0) (hg:(getR ((ys.take i).drop f)).1=0) :
  ScanSt ys (i+1) ((i+1:Nat):Int) (l ++ [(getR ((ys.take i).drop f)).2]):=by
 obtain ⟨h1,h2,h3⟩:=h.chunk hi hb
 have hoc:Octets ((ys.take i).drop f):=fun b hb=>ho b (List.mem_of_mem_take (List.mem_of_mem_drop hb))
 obtain ⟨g1,g2,g3⟩:=getR_only hoc (r:=(getR ((ys.take i).drop f)).2) (by rw [← hg])
 refine ⟨by omega,.inr ⟨i+1,rfl,Nat.le_refl _,?_,?_⟩,fun r hr=>?_⟩
 ·rw [recsB_snoc,List.length_append]
  have e:(recB (getR ((ys.take i).drop f)).2).length=((ys.take i).drop f).length+1:=by
   unfold recB
   rw [(seal_length _).1,← g3]
  rw [e,List.length_drop,List.length_take]
  omega
 ·rw [h3,recsTake,if_pos hg,List.append_assoc,drop_all ys i]
  rfl
 ·rcases List.mem_append.1 hr with hr|hr
  ·exact h.fine r hr
  ·obtain rfl:=List.mem_singleton.1 hr
   exact ⟨g1,g2⟩
theorem ScanSt.bad {ys:List Int} {i f:Nat} {l:List Rec} (h:ScanSt ys i (f:Int) l) (hi:i<ys.length) (hb:ys.getD i 0=0) (hg:(getR ((ys.take i).drop f)).1 ≠ 0):scanS ys=l∧(recsB l).length≤ys.length:=by
 obtain ⟨h1,h2,h3⟩:=h.chunk hi hb
 exact ⟨by rw [h3,recsTake,if_neg hg,List.append_nil],by omega⟩
theorem ScanSt.done {ys:List Int} {i:Nat} {z:Int} {l:List Rec} (h:ScanSt ys i z l) (hi:¬ i<ys.length):scanS ys=l∧(recsB l).length≤ys.length:=by
 have hd:ys.drop i=[]:=List.drop_eq_nil_of_le (by omega)
 have hle:=h.le
 rcases h.at_ with ⟨_,h2,h3⟩|⟨f,h1,h2,h3,h4⟩
 ·rw [h3,h2,hd]
  simp [chunksGo,recsTake,recsB]
 ·rw [h4,hd]
  exact ⟨by simp [chunksGo,recsTake],by omega⟩
theorem ScanSt.place {ys:List Int} {i:Nat} {z:Int} {l:List Rec} (h:ScanSt ys i z l):z=-1 ∨ ∃ f:Nat,z=(f:Int)∧f≤i:=by
 rcases h.at_ with ⟨h1,_⟩|⟨f,h1,h2,_⟩
 ·exact .inl h1
 ·exact .inr ⟨f,h1,h2⟩
end
section
open Go.RowKit
theorem recsB_octets {l:List Rec} (h:∀ r ∈ l,r.Fine):Octets (recsB l):=fun b hb=>by
 unfold recsB at hb
 obtain ⟨r,hr,hb⟩:=List.mem_flatMap.1 hb
 exact seal_octets (bodyR_octets (h r hr)) b hb
theorem outS_octets {e s n:Nat} (he:e<256) {l:List Rec} (h:∀ r ∈ l,r.Fine):Octets (outS e s n l):=(seal_octets (headB_octets he)).app (recsB_octets h)
theorem textS_octets {e s n:Nat} (he:e<256) {l:List Rec} (h:∀ r ∈ l,r.Fine) (b:Bool):Octets (textS e s n l b):=by
 unfold textS framesS
 refine ((outS_octets he h).app ?_).app (fun x hx=>?_)
 ·cases b with
  | false=>rw [if_neg (by simp)];exact fun x hx=>by simp at hx
  | true=>rw [if_pos rfl];unfold footS;exact seal_octets bodyFt_octets
 ·rw [(List.mem_replicate.1 hx).2]
  decide
theorem checkR_room {r:Rec} (h:checkR r=0):r.key.length≤4096∧r.val.length≤1048576:=by
 unfold checkR at h
 split at h
 ·omega
 ·split at h
  ·omega
  ·split at h
   ·omega
   ·split at h
    ·omega
    ·omega
end
section
open Go.RowKit
def roomV (r:Rm):Value:=.agg #[.int .u8 (r.e:Int),.int .u32 (r.s:Int),.int .u32 (r.num:Int),.int .i64 (r.used:Int),.int .i64 (r.count:Int)]
def roomCells (r:Rm):Array Value:=#[.int .u8 (r.e:Int),.int .u32 (r.s:Int),.int .u32 (r.num:Int),.int .i64 (r.used:Int),.int .i64 (r.count:Int)]
theorem room_at {w:World} {g:Nat} {t:TypeId} {r:Rm} (h:Whole w g t (roomCells r)) :
  w.cell? ⟨g,0,none⟩=some (.int .u8 (r.e:Int))∧w.cell? ⟨g,1,none⟩=some (.int .u32 (r.s:Int))∧w.cell? ⟨g,2,none⟩=some (.int .u32 (r.num:Int))∧w.cell? ⟨g,3,none⟩=some (.int .i64 (r.used:Int))∧w.cell? ⟨g,4,none⟩=some (.int .i64 (r.count:Int)) :=
 ⟨h.cell 0 rfl,h.cell 1 rfl,h.cell 2 rfl,h.cell 3 rfl,h.cell 4 rfl⟩
theorem room_free {w:World} {g:Nat} {t:TypeId} {cs:Array Value} (h:Whole w g t cs) :
  w.frozen? ⟨g,0,none⟩=false∧w.frozen? ⟨g,1,none⟩=false∧w.frozen? ⟨g,2,none⟩=false∧w.frozen? ⟨g,3,none⟩=false∧w.frozen? ⟨g,4,none⟩=false :=
 ⟨h.free 0,h.free 1,h.free 2,h.free 3,h.free 4⟩
theorem Whole.far5 {w:World} {g k:Nat} {t:TypeId} {cs:Array Value} (h:Whole w g t cs) (hk:g ≠ k) (a b c d e:Value) :
  Whole (((((w.setCell ⟨k,0,none⟩ a).setCell ⟨k,1,none⟩ b).setCell ⟨k,2,none⟩ c).setCell ⟨k,3,none⟩ d).setCell ⟨k,4,none⟩ e) g t cs :=
 ((((h.setOther (p:=⟨k,0,none⟩) hk a).setOther (p:=⟨k,1,none⟩) hk b).setOther (p:=⟨k,2,none⟩) hk c).setOther (p:=⟨k,3,none⟩) hk d).setOther (p:=⟨k,4,none⟩) hk e
theorem Whole.set5 {w:World} {k:Nat} {t:TypeId} {x0 x1 x2 x3 x4:Value} (h:Whole w k t #[x0,x1,x2,x3,x4]) (a b c d e:Value) :
  Whole (((((w.setCell ⟨k,0,none⟩ a).setCell ⟨k,1,none⟩ b).setCell ⟨k,2,none⟩ c).setCell ⟨k,3,none⟩ d).setCell ⟨k,4,none⟩ e) k t #[a,b,c,d,e] :=
 ((((h.set 0 a).set 1 b).set 2 c).set 3 d).set 4 e
theorem Keeps.new5 {S:Nat→Prop} {w0 w:World} (h:Keeps S w0 w) {k:Nat} (hk:w0.heap.size≤k) (a b c d e:Value) :
  Keeps S w0 (((((w.setCell ⟨k,0,none⟩ a).setCell ⟨k,1,none⟩ b).setCell ⟨k,2,none⟩ c).setCell ⟨k,3,none⟩ d).setCell ⟨k,4,none⟩ e) :=
 ((((h.setNew hk 0 a).setNew hk 1 b).setNew hk 2 c).setNew hk 3 d).setNew hk 4 e
end
section
open Go.RowKit
theorem NumsSoFar.cell {w0 wr:World} {l:List Nat} {ad:Addr} {m d:Nat} (h:NumsSoFar w0 l (.slice (some ad) m d) wr) {j:Nat} (hj:j<l.length):wr.cell? (ad.add j)=some (.int .u64 ((l.getD j 0:Nat):Int)):=by
 obtain ⟨q',m',d',e,_,_,hc⟩:=own_nums h.1
 injection e with e1 e2 e3
 rw [hc ad e1.symm j (numV (l.getD j 0)) (by simp [hj])]
 rfl
theorem NumsSoFar.nil {w0 wr:World} (h:Below w0.heap.size w0 wr):NumsSoFar w0 [] (.slice none 0 0) wr:=⟨World.ownsRow_nil _ _ _ _,h⟩
end
end Go.Proofs.YtehkjkcnigknkaaGreat

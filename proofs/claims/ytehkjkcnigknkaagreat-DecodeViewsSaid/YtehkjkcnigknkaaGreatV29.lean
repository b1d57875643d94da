/-
  CobsAll; WideSum; WideState; WideCopy; WideWrite; WideAll.
-/
import Derived.BigQuiet
import Derived.Laws.CopyRow
import Derived.Deep.CutRange
import Derived.Deep.DeepCutAuto
import Derived.StillTailTactics
import Derived.Lib.Hide
import Derived.Test.YtehkjkcnigknkaaGreatV06
import Derived.Test.YtehkjkcnigknkaaGreatV12
import Derived.Test.YtehkjkcnigknkaaGreatV28
namespace Go.Proofs.YtehkjkcnigknkaaGreat
open Lib (hid)
section
open Go.RowKit
end
section
open Go.RowKit
theorem and63 (n:Nat) (hn:n<64):bits BinOp.and IntKind.u64 (n:Int) 63=(n:Int):=by
 have e:=u64_and_nat n 63 (by omega) (by decide)
 rw [show n &&& 63=n % 2 ^ 6 from Nat.and_two_pow_sub_one_eq_mod n 6,Nat.mod_eq_of_lt (by omega)] at e
 exact e
set_option maxHeartbeats 800000 in
set_option maxRecDepth 10000 in
theorem wrotl (x y:Int) (n:Nat) (hn:n<64) (h0:0<n) (hy:y=n) (h:U64 x) (w:World) :
  Calls Tryz.prog 164 #[.int .u64 x,.int .i64 y] w fun e w'=>e=.returned (.int .u64 (wrot n x))∧w=w':=by
 subst hy
 have ha:=and63 n hn
 have HR:=hid (wrot_of hn h)
 have hx0:=h.1
 have hx1:=h.2
 clear h
 go_enter Tryz.func164,Tryz.ntmps164
 go_wp2
 go_ret
 exact ⟨by rw [← HR.out,← IntKind.wrap_u64];rfl,rfl⟩
set_option maxHeartbeats 800000 in
set_option maxRecDepth 10000 in
theorem winto_wide (x y:Int) (h:U64 x) (hy:U64 y) (w:World) :
  Calls Tryz.prog 165 #[.int .u64 x,.int .u64 y] w fun e w'=>e=.returned (.int .u64 (win x y))∧w=w':=by
 have hm:=wmod_bound (x+IntKind.u64.wrap (y*14029467366897019727))
 have hr:=wrot_bound (n:=31) (by decide) hm
 have HT:=hid (wrotl _ 31 31 (by decide) (by decide) rfl hm)
 have h0:=h.1;have h1:=h.2;have h2:=hy.1;have h3:=hy.2;have h4:=hr.1;have h5:=hr.2
 have he:win x y=IntKind.u64.wrap (wrot 31 (IntKind.u64.wrap (x+IntKind.u64.wrap (y*14029467366897019727)))*11400714785074694791):=rfl
 have HE:=hid he
 clear h hy hm hr he
 rw [HE.out]
 obtain ⟨z,hz⟩:∃ z,z=wrot 31 (IntKind.u64.wrap (x+IntKind.u64.wrap (y*14029467366897019727))):=⟨_,rfl⟩
 rw [← hz] at h4 h5 HT ⊢
 clear hz HE
 go_enter Tryz.func165,Tryz.ntmps165
 go_wp2_with fail
 refine (HT.out _).mono ?_
 rintro e w' ⟨rfl,rfl⟩
 go_wp2_with fail
 go_ret
 exact ⟨rfl,rfl⟩
theorem wdown64 {x:Int} (h:U64 x):bits BinOp.xor IntKind.u64 x (x / 8589934592)=down 33 x∧bits BinOp.xor IntKind.u64 x (x / 536870912)=down 29 x∧bits BinOp.xor IntKind.u64 x (x / 4294967296)=down 32 x :=
 ⟨wdown_of 33 h,wdown_of 29 h,wdown_of 32 h⟩
set_option maxHeartbeats 800000 in
set_option maxRecDepth 10000 in
theorem wmix_wide (x:Int) (h:U64 x) (w:World) :
  Calls Tryz.prog 168 #[.int .u64 x] w fun e w'=>e=.returned (.int .u64 (wend x))∧w=w':=by
 have hx0:=h.1
 have hx1:=h.2
 have e1:=(wdown64 h).1
 have hd1:=wdown_bound 33 h
 have hend:wend x=down 32 (IntKind.u64.wrap (down 29 (IntKind.u64.wrap (down 33 x*14029467366897019727))*1609587929392839161)):=rfl
 obtain ⟨d1,q1⟩:∃ d,d=down 33 x:=⟨_,rfl⟩
 rw [← q1] at e1 hd1 hend
 obtain ⟨m1,t1⟩:∃ d,d=IntKind.u64.wrap (d1*14029467366897019727):=⟨_,rfl⟩
 have hm1:=wmod_bound (d1*14029467366897019727)
 rw [← t1] at hm1 hend
 have e2:=(wdown64 hm1).2.1
 have hd2:=wdown_bound 29 hm1
 obtain ⟨d2,q2⟩:∃ d,d=down 29 m1:=⟨_,rfl⟩
 rw [← q2] at e2 hd2 hend
 obtain ⟨m2,t2⟩:∃ d,d=IntKind.u64.wrap (d2*1609587929392839161):=⟨_,rfl⟩
 have hm2:=wmod_bound (d2*1609587929392839161)
 rw [← t2] at hm2 hend
 have e3:=(wdown64 hm2).2.2
 have p0:=hd1.1
 have p1:=hd1.2
 have p2:=hd2.1
 have p3:=hd2.2
 have r0:=hm1.1
 have r1:=hm1.2
 have r2:=hm2.1
 have r3:=hm2.2
 have HE:=hid (hend.trans e3.symm)
 have t1':=t1.symm
 have t2':=t2.symm
 clear q1 q2 hd1 hd2 hend h e3 hm1 hm2 t1 t2
 go_enter Tryz.func168,Tryz.ntmps168
 go_wp2
 go_ret
 exact ⟨by rw [HE.out];rfl,rfl⟩
theorem or_byte64 (X y:Int) (k:Nat) (hk:k<4) (hX0:0≤X) (hX:X<2 ^ (8*k)) (h0:0≤y) (h1:y<256) :
  bits BinOp.or IntKind.u64 X (y*2 ^ (8*k))=X+2 ^ (8*k)*y:=by
 obtain ⟨x,rfl⟩:=Int.eq_ofNat_of_zero_le hX0
 obtain ⟨b,rfl⟩:=Int.eq_ofNat_of_zero_le h0
 have hp:=pow_le_of (show k<8 by omega)
 have hx:x<2 ^ (8*k):=by exact_mod_cast hX
 have hb:b<256:=by omega
 have hbp:b*2 ^ (8*k)<18446744073709551616:=by
  have:b*2 ^ (8*k)<256*2 ^ (8*k):=Nat.mul_lt_mul_of_pos_right hb (Nat.two_pow_pos _)
  rw [Nat.mul_comm 256] at this
  omega
 have e2:(b:Int)*2 ^ (8*k)=((b*2 ^ (8*k):Nat):Int):=by push_cast;rfl
 rw [e2,u64_or_nat _ _ (by omega) hbp,Nat.or_comm,Nat.mul_comm b,← Nat.two_pow_add_eq_or_of_lt hx]
 push_cast
 omega
set_option maxHeartbeats 2000000 in
set_option maxRecDepth 10000 in
theorem four_wide (p:Option Addr) (N c:Nat) (xs:List Int) (hx:N=xs.length) (h4:4≤N) (ho:Octets xs) (w:World) (hb:Bytes8 w p xs) :
  Calls Tryz.prog 167 #[.slice p N c] w fun e w'=>e=.returned (.int .u64 (four4 xs 0))∧∃ n,w'=w.drewN n:=by
 obtain ⟨a,rfl,c0,c1,c2,c3⟩:=hb.at4 (by omega)
 have HF:=hid (four_le (xs:=xs) (by omega))
 have g0:=ho.getD 0
 have g1:=ho.getD 1
 have g2:=ho.getD 2
 have g3:=ho.getD 3
 clear hb ho hx
 obtain ⟨b0,e0⟩:∃ b,b=xs.getD 0 0:=⟨_,rfl⟩
 obtain ⟨b1,e1⟩:∃ b,b=xs.getD 1 0:=⟨_,rfl⟩
 obtain ⟨b2,e2⟩:∃ b,b=xs.getD 2 0:=⟨_,rfl⟩
 obtain ⟨b3,e3⟩:∃ b,b=xs.getD 3 0:=⟨_,rfl⟩
 rw [← e0] at c0 HF g0
 rw [← e1] at c1 HF g1
 rw [← e2] at c2 HF g2
 rw [← e3] at c3 HF g3
 clear e0 e1 e2 e3
 obtain ⟨g00,g01⟩:=g0
 obtain ⟨g10,g11⟩:=g1
 obtain ⟨g20,g21⟩:=g2
 obtain ⟨g30,g31⟩:=g3
 go_enter Tryz.func167,Tryz.ntmps167
 have n0:0<N:=by omega
 have o1:=or_byte64 b0 b1 1 (by decide) g00 g01 g10 g11
 have o2:=or_byte64 (b0+256*b1) b2 2 (by decide) (by omega) (by omega) g20 g21
 have o3:=or_byte64 (b0+256*b1+65536*b2) b3 3 (by decide) (by omega) (by omega) g30 g31
 have hor:bits BinOp.or IntKind.u64 (bits BinOp.or IntKind.u64 (bits BinOp.or IntKind.u64 b0 (b1*256)) (b2*65536)) (b3*16777216)=b0+256*b1+65536*b2+16777216*b3:=by
  rw [show bits BinOp.or IntKind.u64 b0 (b1*256)=b0+256*b1 from o1,show bits BinOp.or IntKind.u64 (b0+256*b1) (b2*65536)=b0+256*b1+65536*b2 from o2]
  exact o3
 have HO:=hid hor
 clear o1 o2 o3 hor
 have n1:(1:Int)<(N:Int):=by omega
 have n2:(2:Int)<(N:Int):=by omega
 have n3:(3:Int)<(N:Int):=by omega
 go_wp2
 go_quiet (fail)
 go_wp2
 go_ret
 refine ⟨?_,nq,rfl⟩
 rw [HF.out,← HO.out]
 rfl
end
section
open Go.RowKit
theorem four8_le {xs:List Int} (h8:8≤xs.length):four8 xs 0=four4 xs 0+4294967296*four4 (xs.drop 4) 0:=by
 match xs,h8 with
 | a :: b :: c :: d :: e :: f :: g :: h :: r,_=>simp [four4,four8,le];omega
set_option maxHeartbeats 2000000 in
set_option maxRecDepth 10000 in
theorem eight_wide (p:Option Addr) (N c:Nat) (xs:List Int) (hx:N=xs.length) (h8:8≤N) (hc:N≤c) (ho:Octets xs) (w:World) (hb:Bytes8 w p xs) :
  Calls Tryz.prog 166 #[.slice p N c] w fun e w'=>e=.returned (.int .u64 (four8 xs 0))∧∃ n,w'=w.drewN n:=by
 have hb4:=hb.piece (q:=p.map (·.add 4)) 4 (N - 4) (by omega) (fun _=>rfl)
 rw [List.take_of_length_le (by rw [List.length_drop];omega)] at hb4
 obtain ⟨a,rfl,_⟩:=id hb (by omega)
 have HB:=hid hb
 have HB4:Hid (Bytes8 w (some ⟨a.block,a.off+4,none⟩) (xs.drop 4)):=hid hb4
 have HF0:=hid (fun w hb=>four_wide (some a) N c xs hx (by omega) ho w hb)
 have HF1:=hid (fun w hb=>four_wide (some ⟨a.block,a.off+4,none⟩) (N - 4) (c - 4) (xs.drop 4) (by rw [List.length_drop,hx]) (by omega) (ho.drop 4) w hb)
 have b0:=four4_bound ho 0
 have b1:=four4_bound (ho.drop 4) 0
 have he:=four8_le (xs:=xs) (by omega)
 obtain ⟨f0,e0⟩:∃ f,f=four4 xs 0:=⟨_,rfl⟩
 obtain ⟨f1,e1⟩:∃ f,f=four4 (xs.drop 4) 0:=⟨_,rfl⟩
 rw [← e0] at HF0 b0 he
 rw [← e1] at HF1 b1 he
 have hor:bits BinOp.or IntKind.u64 f0 (f1*4294967296)=f0+4294967296*f1:=by
  obtain ⟨x,rfl⟩:=Int.eq_ofNat_of_zero_le b0.1
  obtain ⟨y,rfl⟩:=Int.eq_ofNat_of_zero_le b1.1
  have hxx:x<2 ^ 32:=by have:=b0.2;omega
  have hyy:y<4294967296:=by have:=b1.2;omega
  have e2:(y:Int)*4294967296=((4294967296*y:Nat):Int):=by omega
  have e3:4294967296*y+x=4294967296*y ||| x:=Nat.two_pow_add_eq_or_of_lt (i:=32) hxx y
  rw [e2,u64_or_nat _ _ (by omega) (by omega),Nat.or_comm,← e3]
  omega
 have HE:=hid (he.trans hor.symm)
 have z0:=b0.1
 have z1:=b0.2
 have z2:=b1.1
 have z3:=b1.2
 have hcne:¬ c=4:=by omega
 have n4:(4:Int)≤(N:Int):=by omega
 have c4:(4:Int)≤(c:Int):=by omega
 clear hb hb4 e0 e1 b0 b1 hor he ho hx
 go_enter Tryz.func166,Tryz.ntmps166
 go_wp2_with fail
 go_quiet (first
  | (go_at_call_of 167 (Value.slice (some a) N c);exact Calls.quiet_of (HF0.out _ (by exact HB.out)))
  | (go_at_call 167;exact Calls.quiet_of (HF1.out _ (by exact HB4.out))))
 go_wp2_with fail
 go_ret
 exact ⟨by rw [HE.out];rfl,nq,rfl⟩
def scells (s:Int) (v:Nat→Int) (ps:List Int) (z:Int):Array Value :=
 (Value.int .u64 s :: Value.int .u64 (v 0) :: Value.int .u64 (v 1) :: Value.int .u64 (v 2) :: Value.int .u64 (v 3) :: (ps.map (Value.int .u8) ++ [Value.int .u64 z])).toArray
theorem scells_seed (s:Int) (v:Nat→Int) (ps:List Int) (z:Int):(scells s v ps z)[0]?=some (.int .u64 s):=rfl
theorem scells_num (s:Int) (v:Nat→Int) (ps:List Int) (z:Int) {j:Nat} (hj:j<4):(scells s v ps z)[1+j]?=some (.int .u64 (v j)):=by
 have:j=0 ∨ j=1 ∨ j=2 ∨ j=3:=by omega
 rcases this with rfl|rfl|rfl|rfl <;> rfl
theorem scells_size (s:Int) (v:Nat→Int) {ps:List Int} (z:Int) (h:ps.length=32):(scells s v ps z)[37]?=some (.int .u64 z):=by
 unfold scells
 rw [List.getElem?_toArray]
 show (ps.map (Value.int .u8) ++ [Value.int .u64 z])[32]?=_
 rw [List.getElem?_append_right (by simp [h])]
 simp [h]
theorem scells_part (s:Int) (v:Nat→Int) {ps:List Int} (z:Int) (i:Nat) (h:i<ps.length):(scells s v ps z)[5+i]?=some (.int .u8 (ps.getD i 0)):=by
 unfold scells
 rw [List.getElem?_toArray,Nat.add_comm 5]
 show (ps.map (Value.int .u8) ++ [Value.int .u64 z])[i]?=_
 rw [List.getElem?_append_left (by simpa using h)]
 simp [h]
theorem scells_setNum (s:Int) (v:Nat→Int) (ps:List Int) (z:Int) {j:Nat} (hj:j<4) (x:Int):(scells s v ps z).setIfInBounds (1+j) (.int .u64 x)=scells s (upd v j x) ps z:=by
 have:j=0 ∨ j=1 ∨ j=2 ∨ j=3:=by omega
 rcases this with rfl|rfl|rfl|rfl <;> rfl
theorem scells_setSize (s:Int) (v:Nat→Int) {ps:List Int} (z y:Int) (h:ps.length=32):(scells s v ps z).setIfInBounds 37 (.int .u64 y)=scells s v ps y:=by
 apply Array.ext'
 unfold scells
 rw [Array.toList_setIfInBounds]
 show (Value.int .u64 s :: Value.int .u64 (v 0) :: Value.int .u64 (v 1) :: Value.int .u64 (v 2) :: Value.int .u64 (v 3) :: ((ps.map (Value.int .u8) ++ [Value.int .u64 z]).set 32 (.int .u64 y)))=_
 rw [List.set_append_right _ _ (by simp [h])]
 simp [h]
theorem scells_copy (s:Int) (v:Nat→Int) {ps cs:List Int} (z:Int) (o:Nat) (h:ps.length=32) (hf:o+cs.length≤32) :
  ((scells s v ps z).toList.take (5+o) ++ cs.map (Value.int .u8) ++ (scells s v ps z).toList.drop (5+o+cs.length)).toArray=scells s v (ps.take o ++ cs ++ ps.drop (o+cs.length)) z:=by
 unfold scells
 rw [show 5+o+cs.length=5+(o+cs.length) by omega,Nat.add_comm 5 o,Nat.add_comm 5 (o+cs.length)]
 simp only [List.take_succ_cons,List.drop_succ_cons,List.cons_append]
 rw [List.take_append_of_le_length (by simp;omega),List.drop_append_of_le_length (by simp;omega)]
 simp [List.map_take,List.map_drop]
def StAt (w:World) (g:Nat) (s:Int) (v:Nat→Int) (ps:List Int) (z:Int):Prop :=
 ps.length=32∧Octets ps∧Whole w g 234 (scells s v ps z)
def Holds (w:World) (g:Nat) (s:Int) (xs:List Int):Prop :=
 ∃ ps,StAt w g s (wnums (wseed s) xs (xs.length / 32)) ps xs.length∧ps.take (xs.length % 32)=wleft xs
theorem StAt.keep {w w':World} {g:Nat} {s:Int} {v:Nat→Int} {ps:List Int} {z:Int} (h:StAt w g s v ps z) {S:Nat→Prop} (hk:Keeps S w w') (hs:¬ S g):StAt w' g s v ps z :=
 ⟨h.1,h.2.1,h.2.2.keep hk hs⟩
theorem Holds.keep {w w':World} {g:Nat} {s:Int} {xs:List Int} (h:Holds w g s xs) {S:Nat→Prop} (hk:Keeps S w w') (hs:¬ S g):Holds w' g s xs:=by
 obtain ⟨ps,h1,h2⟩:=h
 exact ⟨ps,h1.keep hk hs,h2⟩
set_option maxHeartbeats 2000000 in
set_option maxRecDepth 10000 in
theorem new_wide (s:Int) (hs:U64 s) (w:World) :
  Calls Tryz.prog 134 #[.int .u64 s] w fun e w'=>e=.returned (.pointer (some ⟨w.heap.size,0,none⟩))∧Holds w' w.heap.size s []∧Keeps NoBlock w w':=by
 have h0:=hs.1
 have h1:=hs.2
 clear hs
 go_enter Tryz.func134,Tryz.ntmps134
 go_wp2_with fail
 go_ret
 refine ⟨rfl,⟨List.replicate 32 0,⟨rfl,fun b hb=>?_,?_⟩,rfl⟩,(Keeps.refl _ _).alloc _⟩
 ·have:=List.eq_of_mem_replicate hb
  omega
 ·exact Whole.new _ _ _
set_option maxHeartbeats 2000000 in
set_option maxRecDepth 10000 in
theorem take_wide (g:Nat) (s:Int) (v:Nat→Int) (ps:List Int) (z:Int) (p:Option Addr) (N c:Nat) (bs:List Int) (w:World) (hst:StAt w g s v ps z) (hv:∀ j,j<4→U64 (v j)) (hx:N=bs.length) (h32:32≤N) (hc:N≤c) (hc':c≤9223372036854775807) (ho:Octets bs) (hb:Bytes8 w p bs)
  (hsep:∀ a,p=some a→∀ i j,i<N→j<4→a.add i ≠ ⟨g,1+j,none⟩) :
  Calls Tryz.prog 162 #[.pointer (some ⟨g,0,none⟩),.slice p N c] w fun e w'=>e=.returned (.tuple #[])∧StAt w' g s (wtaken v bs 4) ps z∧Keeps (Just g) w w':=by
 obtain ⟨hl,hpo,hwh⟩:=hst
 obtain ⟨a,rfl,hcell⟩:=hb (by omega)
 have HW0:=hid hwh
 have HC:=hid hcell
 have HV:=hid hv
 have HX:=hid hx
 have HO:=hid ho
 have HSep:=hid (fun i j hi hj=>hsep a rfl i j hi hj)
 have HL:=hid hl
 have HP:=hid hpo
 clear hl hpo hwh hcell hv hx ho hsep hb
 go_enter Tryz.func162,Tryz.ntmps162
 go_wp2_with fail
 go_loopw [5] (fun i wr=>∃ k:Nat,k≤4∧i=.int .i64 (k:Int)∧Whole wr g 234 (scells s (wtaken v bs k) ps z)∧(∀ i,i<bs.length→wr.cell? (a.add i)=some (.int .u8 (bs.getD i 0)))∧Keeps (Just g) w wr) (fun i _=>4 - (intOf i).toNat)
 case atStart=>exact ⟨0,by omega,rfl,by rw [wtaken_zero];exact HW0.out,HC.out,Keeps.refl _ _⟩
 case round =>
  obtain ⟨k,hk4,rfl,hwk,hck,hkk⟩:=hrel
  have HWk:=hid hwk
  have HCk:=hid hck
  have HKk:=hid hkk
  clear hkk hck
  by_cases hlt4:k<4
  ·have c0:=hwk.cell (1+k) (scells_num s (wtaken v bs k) ps z hlt4)
   have f0:=hwk.free (1+k)
   have hub:=wtaken_bound HV.out bs k k hlt4
   have hu0:=hub.1
   have hu1:=hub.2
   have HI:=hid (fun w=>winto_wide (wtaken v bs k k) (four8 bs k) hub (four8_bound HO.out k) w)
   clear hwk hub
   have ha1:(0:Int)≤(k:Int):=by omega
   have ha2:(k:Int)<4:=by omega
   have ha3:(8:Int)*(k:Int)≤(N:Int):=by omega
   have ha4:(0:Int)≤8*(k:Int):=by omega
   have ha5:(8:Int)*(k:Int)≤(c:Int):=by omega
   have hw1:IntKind.i64.wrap (8*(k:Int))=8*(k:Int):=by rw [IntKind.wrap_i64];omega
   have hdne:¬ c=8*k:=by omega
   have htn:(8*(k:Int)).toNat=8*k:=by omega
   have HF:=hid (fun w' (hb:Bytes8 w' (some (a.add (8*k))) (bs.drop (8*k)))=>eight_wide (some (a.add (8*k))) (N - 8*k) (c - 8*k) (bs.drop (8*k)) (by rw [List.length_drop,HX.out]) (by omega) (by omega) (HO.out.drop _) w' hb)
   have hbk:Bytes8 wr (some (a.add (8*k))) (bs.drop (8*k)):=by
    have h1:Bytes8 wr (some a) bs:=fun _=>⟨a,rfl,HCk.out⟩
    have h2:=h1.piece (q:=some (a.add (8*k))) (8*k) (N - 8*k) (by have:=HX.out;omega) (fun _=>rfl)
    rw [List.take_of_length_le (by rw [List.length_drop];have:=HX.out;omega)] at h2
    exact h2
   have HBk:=hid hbk
   rw [show four8 (bs.drop (8*k)) 0=four8 bs k by simp [four8]] at HF
   obtain ⟨y,hyd⟩:∃ y,y=four8 bs k:=⟨_,rfl⟩
   have hfb:=four8_bound HO.out k
   have hsx:=wtaken_succ v bs k
   rw [← hyd] at HF hfb HI hsx
   obtain ⟨u,hu⟩:∃ u,u=win (wtaken v bs k k) y:=⟨_,rfl⟩
   rw [← hu] at HI hsx
   have HSX:=hid hsx
   have hy0:=hfb.1
   have hy1:=hfb.2
   clear hbk hfb hyd hu hsx
   go_wp2_with fail
   go_region_with (first|(go_at_call 166;refine (HF.out _ (by exact HBk.out)).mono ?_;rintro e w5 ⟨rfl,n5,rfl⟩)|(go_at_call 165;refine (HI.out _).mono ?_;rintro e w5 ⟨rfl,rfl⟩)|fail)
   all_goals
    go_wp2_with fail
    go_roundw
    case rel =>
     refine ⟨k+1,by omega,rfl,?_,?_,?_⟩
     ·rw [← HSX.out,← scells_setNum _ _ _ _ hlt4]
      exact HWk.out.set (1+k) _
     ·intro i hi
      rw [World.cell?_setCell_other _ _ _ _ (fun e=>HSep.out i k (by have:=HX.out;omega) hlt4 e.symm)]
      exact HCk.out i hi
     ·exact (HKk.out.drewN _).setIn (Just.self _) _ _
    case measure=>simp [intOf];omega
  ·obtain rfl:k=4:=by omega
   have HS:=hid (show StAt wr g s (wtaken v bs 4) ps z from ⟨HL.out,HP.out,HWk.out⟩)
   clear hwk
   go_wp2_with fail
   go_returns
   exact ⟨rfl,HS.out,HKk.out⟩
end
section
open Go.RowKit
theorem take_mid {α:Type} (A B C:List α) (n:Nat) (h:n=A.length+B.length):(A ++ B ++ C).take n=A ++ B:=by
 rw [List.take_append_of_le_length (by simp;omega),List.take_of_length_le (by simp;omega)]
theorem part_short (v:Nat→Int) (xs ys ps:List Int) (N:Nat) (hN:N=ys.length) (ht:ps.take (xs.length % 32)=wleft xs) (hs:xs.length % 32+N<32) :
  (ps.take (xs.length % 32) ++ ys.take (min N (32 - xs.length % 32)) ++ ps.drop (xs.length % 32+min N (32 - xs.length % 32))).take ((xs ++ ys).length % 32)=wleft (xs ++ ys)∧wnums v (xs ++ ys) ((xs ++ ys).length / 32)=wnums v xs (xs.length / 32):=by
 have e1:(xs ++ ys).length % 32=xs.length % 32+N:=by rw [List.length_append];omega
 have e2:(xs ++ ys).length / 32=xs.length / 32:=by rw [List.length_append];omega
 have e3:ys.take (min N (32 - xs.length % 32))=ys:=List.take_of_length_le (by omega)
 refine ⟨?_,?_⟩
 ·rw [e1,e3,ht,take_mid _ _ _ _ (by rw [wleft_length];omega)]
  unfold wleft
  rw [e2,List.drop_append_of_le_length (by omega)]
 ·rw [e2,wnums_append _ _ _ _ (by omega)]
theorem part_full (v:Nat→Int) (xs ys ps:List Int) (N:Nat) (hN:N=ys.length) (hp:ps.length=32) (ht:ps.take (xs.length % 32)=wleft xs) (hs:32≤xs.length % 32+N) :
  wtaken (wnums v xs (xs.length / 32)) (ps.take (xs.length % 32) ++ ys.take (min N (32 - xs.length % 32)) ++ ps.drop (xs.length % 32+min N (32 - xs.length % 32))) 4=wnums v (xs ++ ys) (xs.length / 32+1)∧ys.drop (min N (32 - xs.length % 32))=(xs ++ ys).drop (32*(xs.length / 32+1)):=by
 have e1:min N (32 - xs.length % 32)=32 - xs.length % 32:=by omega
 have e2:ps.drop (xs.length % 32+(32 - xs.length % 32))=[]:=List.drop_eq_nil_of_le (by omega)
 rw [e1,e2,List.append_nil,ht]
 refine ⟨?_,?_⟩
 ·show _=wtaken (wnums v (xs ++ ys) (xs.length / 32)) ((xs ++ ys).drop (32*(xs.length / 32))) 4
  rw [wnums_append _ _ _ _ (by omega),List.drop_append_of_le_length (by omega)]
  have e3:xs.drop (32*(xs.length / 32)) ++ ys=wleft xs ++ ys.take (32 - xs.length % 32) ++ ys.drop (32 - xs.length % 32):=by
   rw [List.append_assoc,List.take_append_drop]
   rfl
  rw [e3,wtaken_append _ (wleft xs ++ ys.take (32 - xs.length % 32)) _ _ (by rw [List.length_append,wleft_length,List.length_take];omega)]
 ·rw [List.drop_append,show xs.drop (32*(xs.length / 32+1))=[] from List.drop_eq_nil_of_le (by omega),List.nil_append]
  congr 1
  omega
theorem part_end (all ps:List Int) (k m:Nat) (hm:m=(all.drop (32*k)).length) (hk:32*k≤all.length) (hs:m<32) :
  (ps.take 0 ++ (all.drop (32*k)).take (min m 32) ++ ps.drop (0+min m 32)).take (all.length % 32)=wleft all∧k=all.length / 32:=by
 rw [List.length_drop] at hm
 have e:k=all.length / 32:=by omega
 refine ⟨?_,e⟩
 rw [List.take_zero,List.nil_append]
 rw [List.take_append_of_le_length (by simp;omega),List.take_of_length_le (by simp;omega),List.take_of_length_le (by simp;omega)]
 unfold wleft
 rw [e]
theorem Keeps.setRow {S:Nat→Prop} {a b:World} (h:Keeps S a b) {g:Nat} (hg:S g) (cs:Array Value):Keeps S a (b.setRow g cs):=by
 refine ⟨h.os,h.tape,h.output,?_,fun k hk hn=>?_⟩
 ·refine Nat.le_trans h.size ?_
  unfold World.setRow
  simp
 ·refine Eq.trans ?_ (h.block k hk hn)
  have hkg:¬ g=k:=fun e=>hn (e ▸ hg)
  unfold World.setRow
  simp [Array.getElem?_modify,hkg]
theorem Whole.setRow {w:World} {g:Nat} {t:TypeId} {cs:Array Value} (h:Whole w g t cs) (cs':Array Value):Whole (w.setRow g cs') g t cs':=setRow_heap w g cs cs' t (0,0) h
theorem copy_part {w:World} {g:Nat} {s:Int} {v:Nat→Int} {ps:List Int} {z:Int} (h:StAt w g s v ps z) (o D off:Nat) (hoff:off=5+o) (hD:o+D≤32) (p:Option Addr) (N c:Nat) (ys:List Int) (hx:N=ys.length) (hn0:p=none→N=0∧c=0) (hb:Bytes8 w p ys) (ho:Octets ys) :
  ∃ w',(Builtin.copy_ #[29,29] 3 #[.slice (some ⟨g,off,none⟩) D D,.slice p N c]).run Tryz.prog w=.ok (.int .i64 ((min N D:Nat):Int)) w'∧StAt w' g s v (ps.take o ++ ys.take (min N D) ++ ps.drop (o+min N D)) z∧Keeps (Just g) w w':=by
 obtain ⟨hl,hpo,hwh⟩:=h
 subst hoff
 obtain ⟨i0,hi,hz0,hz1,hz2⟩:=info_parts infoByte
 cases p with
 | none =>
  obtain ⟨rfl,rfl⟩:=hn0 rfl
  refine ⟨w,?_,⟨by simpa using hl,by simpa using hpo,by simpa using hwh⟩,Keeps.refl _ _⟩
  rw [Nat.zero_min]
  exact run_copy_nil Tryz.prog w _ _ _ _ _ _ _ Tryz.underlying29 (by rw [hi];rfl)
 | some a =>
  have hlen:(ys.take (min N D)).length=min N D:=by rw [List.length_take];omega
  have e:=run_copy_row Tryz.prog w 29 29 3 5 g (5+o) D D a N c (scells s v ps z) 234 ((ys.take (min N D)).map (Value.int .u8)) Tryz.underlying29 (by rw [hi];simpa using hz1) hwh (by rw [List.length_map,hlen])
   (fun j u hj=>by
    have hj1:=(List.getElem?_eq_some_iff.1 hj).1
    rw [List.length_map,hlen] at hj1
    obtain ⟨a',ha',hcell⟩:=hb (by omega)
    obtain rfl:=Option.some.inj ha'
    rw [hcell j (by omega)]
    rw [← hj]
    simp [show j<min N D by omega,show j<ys.length by omega])
   (by rw [List.length_map,hlen];show 5+o+min N D≤(scells s v ps z).size;simp [scells,hl];omega)
   (fun u hu=>by obtain ⟨x,_,rfl⟩:=List.mem_map.1 hu;rfl)
  rw [List.length_map,hlen] at e
  have hc:=scells_copy s v (ps:=ps) (cs:=ys.take (min N D)) z o hl (by rw [hlen];omega)
  rw [hlen] at hc
  rw [hc] at e
  refine ⟨_,e,⟨?_,?_,hwh.setRow _⟩,(Keeps.refl _ _).setRow (Just.self g) _⟩
  ·simp [hl];omega
  ·intro b hb'
   simp only [List.mem_append] at hb'
   rcases hb' with (hb' | hb')|hb'
   ·exact hpo.take _ b hb'
   ·exact ho.take _ b hb'
   ·exact hpo.drop _ b hb'
end
section
open Go.RowKit
theorem addNone (g o i:Nat):Addr.add ⟨g,o,none⟩ i=⟨g,o+i,none⟩:=by unfold Addr.add;split <;> simp_all
theorem StAt.bytes {w:World} {g:Nat} {s:Int} {v:Nat→Int} {ps:List Int} {z:Int} (h:StAt w g s v ps z):Bytes8 w (some ⟨g,5,none⟩) ps :=
 fun _=>⟨_,rfl,fun i hi=>by rw [addNone];exact h.2.2.cell (5+i) (scells_part s v z i hi)⟩
theorem part_apart (g:Nat) (a:Addr) (ha:some (⟨g,5,none⟩:Addr)=some a) (i j:Nat) (hj:j<4):a.add i ≠ ⟨g,1+j,none⟩:=by
 obtain rfl:=Option.some.inj ha
 rw [addNone]
 intro e
 have:=congrArg Addr.off e
 simp at this
 omega
theorem block_apart {g:Nat} {q:Option Addr} (h:∀ a,q=some a→a.block ≠ g) (a:Addr) (ha:q=some a) (i j:Nat):a.add i ≠ ⟨g,1+j,none⟩:=by
 intro e
 have:=congrArg Addr.block e
 rw [addBlock] at this
 exact h a ha this
def Wrote (w:World) (g:Nat) (s:Int) (all:List Int) (c:Nat) (b:Value) (wx:World):Prop :=
 ∃ (k m d:Nat) (q:Option Addr) (ps:List Int),b=.slice q m d∧m=(all.drop (32*k)).length∧m≤d∧d≤c∧(q=none→m=0∧d=0)∧32*k≤all.length∧Bytes8 wx q (all.drop (32*k))∧(0<m→∀ a,q=some a→a.block ≠ g)∧StAt wx g s (wnums (wseed s) all k) ps all.length∧Keeps (Just g) w wx
set_option maxHeartbeats 2000000 in
set_option maxRecDepth 10000 in
theorem write_wide (g : Nat) (s : Int) (xs : List Int) (p : Option Addr) (N c : Nat) (ys : List Int) (w : World) (hh : Holds w g s xs) (hs : U64 s) (hxo : Octets xs) (hx : N = ys.length) (hc : N ≤ c) (hc' : c ≤ 9223372036854775807) (hn0 : p = none → N = 0 ∧ c = 0) (ho : Octets ys) (hb : Bytes8 w p ys)
    (hne : 0 < N → ∀ a, p = some a → a.block ≠ g) (hlen : xs.length + N ≤ 140737488355328) :
    Calls Tryz.prog 135 #[.pointer (some ⟨g, 0, none⟩), .slice p N c] w fun e w' => e = .returned (.pointer (some ⟨g, 0, none⟩)) ∧ Holds w' g s (xs ++ ys) ∧ Keeps (Just g) w w' := by
  obtain ⟨ps, hst, htk⟩ := hh
  have HPS := part_short (wseed s) xs ys ps N hx htk
  have HPF := part_full (wseed s) xs ys ps N hx hst.1 htk
  have HVB := Lib.hid (fun k j (hj : j < 4) => wnums_bound (fun j _ => wseed_bound hs j) (xs ++ ys) k j hj)
  have HVB0 := Lib.hid (fun k j (hj : j < 4) => wnums_bound (fun j _ => wseed_bound hs j) xs k j hj)
  have HAO : Hid (Octets (xs ++ ys)) := Lib.hid (fun b hb => (List.mem_append.1 hb).elim (hxo b) (ho b))
  have hal : ((xs ++ ys).length : Int) = (xs.length : Int) + (N : Int) := by rw [List.length_append, hx]; omega
  have hdr0 : xs.length % 32 = 0 → (xs ++ ys).drop (32 * (xs.length / 32)) = ys := fun h => by
    rw [show 32 * (xs.length / 32) = xs.length by omega, List.drop_left]
  have hwn0 := wnums_append (wseed s) xs ys (xs.length / 32) (by omega)
  have hall : 32 * (xs.length / 32) ≤ (xs ++ ys).length := by rw [List.length_append]; omega
  obtain ⟨all, hA⟩ : ∃ all, all = xs ++ ys := ⟨_, rfl⟩
  rw [← hA] at HPS HPF HVB HAO hal hdr0 hwn0 hall ⊢
  obtain ⟨L, hL⟩ : ∃ L, L = xs.length := ⟨_, rfl⟩
  obtain ⟨r, hr⟩ : ∃ r, r = L % 32 := ⟨_, rfl⟩
  obtain ⟨kq, hkq⟩ : ∃ kq, kq = L / 32 := ⟨_, rfl⟩
  rw [← hL] at hst htk hlen HPS HPF hal hdr0 hwn0 hall
  rw [← hr] at htk HPS HPF hdr0
  rw [← hkq] at hst HPS HPF hdr0 hwn0 hall
  obtain ⟨v, hv⟩ : ∃ v, v = wnums (wseed s) xs kq := ⟨_, rfl⟩
  have HV0 : Hid (∀ j, j < 4 → U64 (v j)) := Lib.hid (by rw [hv]; exact fun j hj => HVB0.out kq j hj)
  rw [← hv] at hst HPS HPF hwn0
  have HST := Lib.hid hst
  have hl := hst.1
  have c37 := hst.2.2.cell 37 (scells_size _ _ _ hl)
  have f37 := hst.2.2.free 37
  have hrem : (L : Int) % 32 = (r : Int) := by omega
  have hr31 : r ≤ 31 := by omega
  have hr0 : (0 : Int) ≤ (r : Int) := by omega
  have hr32 : (r : Int) ≤ 32 := by omega
  have hr32' : ¬ 32 = r := by omega
  have HX := Lib.hid hx
  have HB := Lib.hid hb
  have HO := Lib.hid ho
  have HPS := Lib.hid HPS
  have HPF := Lib.hid HPF
  have HAL := Lib.hid hal
  have HD0 := Lib.hid hdr0
  have HW0 := Lib.hid hwn0
  have HKQ := Lib.hid hall
  have HNE := Lib.hid hne
  have HN0 := Lib.hid hn0
  have HTK := Lib.hid htk
  have hlr : L = 32 * kq + r := by omega
  have HLR := Lib.hid hlr
  have HLL := Lib.hid hL
  have HS1 : Hid (StAt (w.setCell ⟨g, 37, none⟩ (.int .u64 ((L : Int) + (N : Int)))) g s v ps ((L : Int) + (N : Int))) :=
    Lib.hid ⟨hst.1, hst.2.1, by rw [← scells_setSize s v (L : Int) ((L : Int) + (N : Int)) hl]; exact hst.2.2.set 37 _⟩
  have HK1 : Hid (Keeps (Just g) w (w.setCell ⟨g, 37, none⟩ (.int .u64 ((L : Int) + (N : Int))))) := Lib.hid ((Keeps.refl _ _).setIn (Just.self g) 37 _)
  clear hL hr hx hb ho hal hdr0 hwn0 hall hne hn0 htk hkq hv hlr hA hst hs hxo hl
  go_enter Tryz.func135, Tryz.ntmps135
  go_upto_if 23 with (fail)
  go_cut [1, 5, 6] (fun s1 _ _ wx => Wrote w g s all c s1 wx)
  case first =>
    obtain ⟨W0, hW0⟩ : ∃ W0, W0 = w.setCell ⟨g, 37, none⟩ (.int .u64 ((L : Int) + (N : Int))) := ⟨_, rfl⟩
    rw [← hW0] at HS1 HK1 ⊢
    have HB0 : Hid (Bytes8 W0 p ys) := Lib.hid (HB.out.keepPos HK1.out (fun h a ha hj => HNE.out (by rw [HX.out]; exact h) a ha hj))
    clear hW0
    by_cases h0 : 0 < r
    · have hdn : decide ((0 : Int) < (r : Int)) = true := decide_eq_true (by omega)
      obtain ⟨W1, hcp, hst1, hk1⟩ := copy_part HS1.out r (32 - r) (5 + r) rfl (by omega) p N c ys HX.out HN0.out HB0.out HO.out
      have hn1 : min N (32 - r) ≤ N := Nat.min_le_left _ _
      have hn2 : r + min N (32 - r) ≤ 32 := by omega
      have hn3 : N ≤ min N (32 - r) ∨ r + min N (32 - r) = 32 := by omega
      obtain ⟨n, hn⟩ : ∃ n, n = min N (32 - r) := ⟨_, rfl⟩
      have HPS := Lib.hid HPS.out
      have HPF := Lib.hid HPF.out
      rw [← hn] at hcp hst1 hn1 hn2 hn3 HPS HPF
      have HS2 := Lib.hid hst1
      have HK2 := Lib.hid (HK1.out.trans hk1)
      have HN3 := Lib.hid hn3
      have hnc : (n : Int) ≤ (c : Int) := by omega
      have hnN : (n : Int) ≤ (N : Int) := by omega
      have hn00 : (0 : Int) ≤ (n : Int) := by omega
      have hrn : IntKind.u64.wrap ((r : Int) + (n : Int)) = (r : Int) + (n : Int) := by rw [IntKind.wrap_u64]; omega
      clear hst1 hn hn3
      have hbp : ∀ q, (0 < N - n → q = p.map (·.add n)) → Bytes8 W1 q (ys.drop n) := fun q hq => by
        have h1 := HB0.out.piece (q := q) n (N - n) (by have := HX.out; omega) hq
        rw [List.take_of_length_le (by rw [List.length_drop]; have := HX.out; omega)] at h1
        by_cases hz : 0 < N - n
        · rw [hq hz] at h1 ⊢
          exact h1.keep hk1 (fun a ha h => by
            obtain ⟨b, hb, rfl⟩ := Option.map_eq_some_iff.1 ha
            exact HNE.out (by omega) b hb (by rw [← addBlock b n]; exact h))
        · exact fun h => absurd h (by rw [List.length_drop]; have := HX.out; omega)
      have HBp := Lib.hid hbp
      clear hbp hk1
      by_cases hf : r + n < 32
      · have hdf : decide ((r : Int) + (n : Int) < 32) = true := decide_eq_true (by omega)
        have HH : Hid (Holds W1 g s all) := Lib.hid (by
          obtain ⟨e1, e2⟩ := HPS.out (by have := HN3.out; omega)
          refine ⟨_, ?_, e1⟩
          rw [e2, HAL.out]
          exact HS2.out)
        go_wp2_with fail
        all_goals
          go_ret
          exact ⟨rfl, HH.out, HK2.out⟩
      · have hdf : decide ((r : Int) + (n : Int) < 32) = false := decide_eq_false (by omega)
        obtain ⟨e1, e2⟩ := HPF.out (by omega)
        obtain ⟨P, hP⟩ : ∃ P, P = ps.take r ++ ys.take n ++ ps.drop (r + n) := ⟨_, rfl⟩
        rw [← hP] at e1 HS2
        have HT := Lib.hid (take_wide g s v P ((L : Int) + (N : Int)) (some ⟨g, 5, none⟩) 32 32 P W1 HS2.out HV0.out HS2.out.1.symm (Nat.le_refl _) (Nat.le_refl _) (by decide) HS2.out.2.1 HS2.out.bytes (fun a ha i j _ hj => part_apart g a ha i j hj))
        have HE1 := Lib.hid e1
        have HE2 := Lib.hid e2
        clear e1 e2 hP
        go_wp2_with fail
        all_goals
          refine HT.out.mono ?_
          rintro e w2 ⟨rfl, hst2, hk2⟩
          have HS3 := Lib.hid hst2
          have HK3 := Lib.hid hk2
          clear hst2 hk2
          go_wp2_with fail
          go_meet
          case rel =>
            refine ⟨kq + 1, _, _, _, P, rfl, by rw [← HE2.out, List.length_drop, HX.out], by omega, by omega, ?_, ?_, ?_, ?_, ?_, HK2.out.trans HK3.out⟩
            · intro hq
              have h0 := HN0.out (by simpa using hq)
              omega
            · have h2 : (all.length : Int) = L + N := HAL.out
              have := HLR.out
              omega
            · rw [← HE2.out]
              refine Bytes8.keepPos (HBp.out _ (fun h => by first | rfl | omega)) HK3.out ?_
              intro h a ha hj
              have h0N : 0 < N := by rw [List.length_drop] at h; have := HX.out; omega
              first
                | exact HNE.out h0N a ha hj
                | (obtain ⟨b, hb, rfl⟩ := Option.map_eq_some_iff.1 ha
                   exact HNE.out h0N b hb (by rw [← addBlock b n]; exact hj))
            · intro h a ha
              have h0N : 0 < N := by omega
              first
                | exact HNE.out h0N a ha
                | (obtain ⟨b, hb, rfl⟩ := Option.map_eq_some_iff.1 ha
                   rw [addBlock]
                   exact HNE.out h0N b hb)
            · rw [HAL.out, ← HE1.out]
              exact HS3.out
    · have hr00 : r = 0 := by omega
      have HD := Lib.hid (HD0.out hr00)
      have hdn : decide ((0 : Int) < (r : Int)) = false := decide_eq_false (by omega)
      go_wp2_with fail
      go_meet
      case rel =>
        refine ⟨kq, _, _, _, ps, rfl, by rw [HD.out, HX.out], hc, Nat.le_refl _, HN0.out, HKQ.out, by rw [HD.out]; exact HB0.out, HNE.out, ?_, HK1.out⟩
        rw [HW0.out, HAL.out]
        exact HS1.out
  case rest =>
    obtain ⟨k, m, d, q, ps1, rfl, hm, hmd, hdc, hq0, hka, hb1, hqg, hst1, hk1⟩ := hcut
    have HK := Lib.hid hk1
    clear hk1 HS1 HK1 HPS HPF HD0 HW0 HN0 HNE HKQ HST HB
    obtain ⟨W1, rfl⟩ : ∃ W1, W1 = wc := ⟨_, rfl⟩
    obtain ⟨M, hM⟩ : ∃ M, M = all.length := ⟨_, rfl⟩
    have HMM := Lib.hid hM
    rw [← hM] at hka hst1
    clear hM c37 f37 hrem hr31 hr0 hr32 hr32'
    have HH : Hid (Wrote w g s all c (.slice q m d) W1) := Lib.hid ⟨k, m, d, q, ps1, rfl, hm, hmd, hdc, hq0, by rw [← HMM.out]; exact hka, hb1, hqg, by rw [← HMM.out]; exact hst1, HK.out⟩
    clear hm hmd hdc hq0 hka hb1 hqg hst1 HK
    go_wp2_with fail
    go_loopw [1] (fun s1 wr => Wrote w g s all c s1 wr) (fun s1 _ => lenOf s1)
    case atStart => exact HH.out
    case round =>
      clear HH
      obtain ⟨k, m, d, q, ps1, rfl, hm, hmd, hdc, hq0, hka, hb1, hqg, hst1, hk1⟩ := hrel
      have HK := Lib.hid hk1
      have HM := Lib.hid hm
      have HS := Lib.hid hst1
      have HQ0 := Lib.hid hq0
      have HQG := Lib.hid hqg
      have HB := Lib.hid hb1
      have HKA := Lib.hid hka
      obtain ⟨v1, hv1⟩ : ∃ v1, v1 = wnums (wseed s) all k := ⟨_, rfl⟩
      have HV1 : Hid (∀ j, j < 4 → U64 (v1 j)) := Lib.hid (by rw [hv1]; exact fun j hj => HVB.out k j hj)
      have HE1 := Lib.hid hv1
      clear hk1 hm hst1 hq0 hqg hb1 hka hv1
      by_cases h32 : 32 ≤ m
      · have hdm : decide ((32 : Int) ≤ (m : Int)) = true := decide_eq_true (by omega)
        have HT := Lib.hid (take_wide g s v1 ps1 (all.length : Int) q m d (all.drop (32 * k)) wr (by rw [HE1.out]; exact HS.out) HV1.out HM.out h32 hmd (by omega) (HAO.out.drop _) HB.out (fun a ha i j hi _ => block_apart (HQG.out (by omega)) a ha i j))
        have hnx : wtaken v1 (all.drop (32 * k)) 4 = wnums (wseed s) all (k + 1) := by rw [HE1.out]; rfl
        rw [hnx] at HT
        clear hnx
        have hm32 : (32 : Int) ≤ (m : Int) := by omega
        have hd32 : (32 : Int) ≤ (d : Int) := by omega
        go_wp2_with fail
        refine HT.out.mono ?_
        rintro e w2 ⟨rfl, hst2, hk2⟩
        have HS3 := Lib.hid hst2
        have HK3 := Lib.hid hk2
        have HB3 := Lib.hid (HB.out.keepPos hk2 (fun h a ha hj => HQG.out (by omega) a ha hj))
        clear hst2 hk2
        go_wp2_with fail
        refine ⟨⟨k + 1, m - 32, _, _, ps1, rfl, ?_, by omega, by omega, ?_, ?_, ?_, ?_, HS3.out, HK.out.trans HK3.out⟩, ?_⟩
        · have := HM.out
          rw [List.length_drop] at this ⊢
          omega
        · intro hq
          have h0 := HQ0.out (by
            revert hq
            split
            · exact id
            · simp)
          omega
        · have := HM.out
          rw [List.length_drop] at this
          omega
        · have hbk := (HB3.out.piece (q := if d = 32 then q else Option.map (fun x => { block := x.block, off := x.off + 32 }) q) 32 (m - 32) (by have := HM.out; omega) (fun h => by rw [if_neg (by omega)]; cases q <;> simp [Addr.add]))
          rw [List.take_of_length_le (by rw [List.length_drop]; have := HM.out; omega), List.drop_drop] at hbk
          exact hbk
        · intro h a ha
          revert ha
          split
          · exact HQG.out (by omega) a
          · intro ha
            obtain ⟨b, hb, rfl⟩ := Option.map_eq_some_iff.1 ha
            exact HQG.out (by omega) b hb
        · show m - 32 < m
          omega
      · have hdm : decide ((32 : Int) ≤ (m : Int)) = false := decide_eq_false (by omega)
        obtain ⟨W2, hcp, hst2, hk2⟩ := copy_part (v := v1) (by rw [HE1.out]; exact HS.out) 0 32 5 rfl (by omega) q m d (all.drop (32 * k)) HM.out HQ0.out HB.out (HAO.out.drop _)
        obtain ⟨e1, e2⟩ := part_end all ps1 k m HM.out HKA.out (by omega)
        have HH : Hid (Holds W2 g s all) := Lib.hid ⟨_, by rw [← e2, ← HE1.out]; exact hst2, e1⟩
        have HKZ := Lib.hid (HK.out.trans hk2)
        clear hst2 hk2 e1 e2
        go_wp2_with fail
        go_ret
        exact ⟨rfl, HH.out, HKZ.out⟩
end
section
open Go.RowKit
set_option maxRecDepth 100000 in
theorem index_row4 (v:Nat→Int) {j:Nat} (hj:j<4) (w:World) :
  (Instr.index 175 (.agg #[Value.int .u64 (v 0),Value.int .u64 (v 1),Value.int .u64 (v 2),Value.int .u64 (v 3)]) (.int .i64 (j:Int))).run Tryz.prog w=.ok (.int .u64 (v j)) w:=by
 have:j=0 ∨ j=1 ∨ j=2 ∨ j=3:=by omega
 rcases this with rfl|rfl|rfl|rfl <;> rfl
set_option maxHeartbeats 2000000 in
set_option maxRecDepth 10000 in
theorem blocks_wide (g:Nat) (s:Int) (xs:List Int) (w:World) (hh:Holds w g s xs) (hs:U64 s) (hlen:xs.length≤140737488355328) :
  Calls Tryz.prog 163 #[.pointer (some ⟨g,0,none⟩)] w fun e w'=>e=.returned (.int .u64 (wblocks s xs))∧∃ n,w'=w.drewN n:=by
 obtain ⟨ps,⟨hl,_,hwh⟩,_⟩:=hh
 obtain ⟨L,hL⟩:∃ L,L=xs.length:=⟨_,rfl⟩
 have hwb:wblocks s xs=if L<32 then IntKind.u64.wrap (s+2870177450012600261) else wmerged (wnums (wseed s) xs (L / 32)) 4:=by rw [hL];rfl
 have hvb:∀ j,j<4→U64 (wnums (wseed s) xs (xs.length / 32) j):=fun j hj=>wnums_bound (fun j _=>wseed_bound hs j) xs _ j hj
 rw [← hL] at hwh hlen hvb
 obtain ⟨v,hv⟩:∃ v,v=wnums (wseed s) xs (L / 32):=⟨_,rfl⟩
 rw [← hv] at hwh hvb hwb
 rw [hwb]
 have c37:=hwh.cell 37 (scells_size _ _ _ hl)
 have c0:=hwh.cell 0 (scells_seed _ _ _ _)
 have hs0:=hs.1
 have hs1:=hs.2
 have HW:=hid hwh
 have HV:=hid hvb
 clear hwb hvb hv hL hwh hs
 by_cases h32:L<32
 ·rw [if_pos h32]
  have hdl:decide ((L:Int)<32)=true:=decide_eq_true (by omega)
  go_enter Tryz.func163,Tryz.ntmps163
  go_wp2_with fail
  go_ret
  exact ⟨rfl,0,rfl⟩
 ·rw [if_neg h32]
  have hdl:decide ((L:Int)<32)=false:=decide_eq_false (by omega)
  have d0:=HW.out.cell 1 (scells_num s v ps L (j:=0) (by decide))
  have d1:=HW.out.cell 2 (scells_num s v ps L (j:=1) (by decide))
  have d2:=HW.out.cell 3 (scells_num s v ps L (j:=2) (by decide))
  have d3:=HW.out.cell 4 (scells_num s v ps L (j:=3) (by decide))
  have HT0:=hid (fun w=>wrotl (v 0) 1 1 (by decide) (by decide) rfl (HV.out 0 (by decide)) w)
  have HT1:=hid (fun w=>wrotl (v 1) 7 7 (by decide) (by decide) rfl (HV.out 1 (by decide)) w)
  have HT2:=hid (fun w=>wrotl (v 2) 12 12 (by decide) (by decide) rfl (HV.out 2 (by decide)) w)
  have HT3:=hid (fun w=>wrotl (v 3) 18 18 (by decide) (by decide) rfl (HV.out 3 (by decide)) w)
  go_enter Tryz.func163,Tryz.ntmps163
  go_wp2_with fail
  refine wp_region_still_lit (by kernel_rfl) (by kernel_rfl) ?_
  still_step
  still_step
  still_step
  still_step
  still_step
  still_call ((HT0.out _).mono fun e w5 h=>⟨h.1,h.2.symm⟩)
  still_step
  still_step
  still_step
  still_step
  still_step
  still_call ((HT1.out _).mono fun e w5 h=>⟨h.1,h.2.symm⟩)
  still_step
  still_step
  still_step
  still_step
  still_step
  still_step
  still_call ((HT2.out _).mono fun e w5 h=>⟨h.1,h.2.symm⟩)
  still_step
  still_step
  still_step
  still_step
  still_step
  still_step
  still_call ((HT3.out _).mono fun e w5 h=>⟨h.1,h.2.symm⟩)
  still_step
  still_step
  refine wpStill_nil ?_
  change Exit.then _ _ _ _ w.drew
  obtain ⟨W0,hW0⟩:∃ W0,W0=w.drew:=⟨_,rfl⟩
  rw [← hW0]
  have HWE:=hid hW0
  have d0:W0.cell? ⟨g,1,none⟩=some (.int .u64 (v 0)):=by rw [hW0];exact d0
  have d1:W0.cell? ⟨g,2,none⟩=some (.int .u64 (v 1)):=by rw [hW0];exact d1
  have d2:W0.cell? ⟨g,3,none⟩=some (.int .u64 (v 2)):=by rw [hW0];exact d2
  have d3:W0.cell? ⟨g,4,none⟩=some (.int .u64 (v 3)):=by rw [hW0];exact d3
  clear hW0
  go_wp2_with fail
  go_loop [3,47] (fun h i=>∃ j:Nat,j≤4∧i=.int .i64 (j:Int)∧h=.int .u64 (wmerged v j)) (fun _ i=>4 - (intOf i).toNat)
  case atStart=>exact ⟨0,by omega,rfl,rfl⟩
  case round =>
   obtain ⟨j,hj4,rfl,rfl⟩:=hrel
   by_cases hlt4:j<4
   ·have HI:=hid (fun w=>winto_wide 0 (v j) ⟨by decide,by decide⟩ (HV.out j hlt4) w)
    have ha1:(0:Int)≤(j:Int):=by omega
    have ha2:(j:Int)<4:=by omega
    have hg:=index_row4 v hlt4 W0
    go_wp2_with fail
    refine (HI.out _).mono ?_
    rintro e w' ⟨rfl,rfl⟩
    go_wp2_with fail
    go_round
    case rel=>exact ⟨j+1,by omega,rfl,rfl⟩
    case measure=>simp [intOf];omega
   ·obtain rfl:j=4:=by omega
    go_wp2_with fail
    go_ret
    exact ⟨rfl,1,HWE.out⟩
set_option maxHeartbeats 2000000 in
set_option maxRecDepth 10000 in
theorem ssum_wide (g:Nat) (s:Int) (xs:List Int) (w:World) (hh:Holds w g s xs) (hs:U64 s) (ho:Octets xs) (hlen:xs.length≤140737488355328) :
  Calls Tryz.prog 136 #[.pointer (some ⟨g,0,none⟩)] w fun e w'=>e=.returned (.int .u64 (wxxh s xs))∧Keeps NoBlock w w':=by
 have HBl:=hid (fun w hh=>blocks_wide g s xs w hh hs hlen)
 have HHo:=hid hh
 obtain ⟨ps,⟨hl,hpo,hwh⟩,htk⟩:=hh
 have hspec:wxxh s xs=wend (weights (IntKind.u64.wrap (wblocks s xs+(xs.length:Int))) (wleft xs)):=rfl
 have hb0:=wblocks_bound s xs
 have hll:=wleft_length xs
 have hlo:=ho.wleft
 have hb1:Bytes8 w (some ⟨g,5,none⟩) (wleft xs):=by
  have h1:=(show StAt w g s (wnums (wseed s) xs (xs.length / 32)) ps xs.length from ⟨hl,hpo,hwh⟩).bytes.piece (q:=some ⟨g,5,none⟩) 0 (xs.length % 32) (by omega) (fun _=>rfl)
  rw [List.drop_zero,htk] at h1
  exact h1
 obtain ⟨L,hL⟩:∃ L,L=xs.length:=⟨_,rfl⟩
 obtain ⟨r,hr⟩:∃ r,r=L % 32:=⟨_,rfl⟩
 have c37:=hwh.cell 37 (scells_size _ _ _ hl)
 rw [← hL] at hspec hll hlen c37
 rw [← hr] at hll
 obtain ⟨B,hB⟩:∃ B,B=wblocks s xs:=⟨_,rfl⟩
 obtain ⟨Y,hY⟩:∃ Y,Y=wleft xs:=⟨_,rfl⟩
 rw [← hB] at hspec hb0 HBl
 rw [← hY] at hspec hll hlo hb1
 obtain ⟨h1,hh1⟩:∃ h1,h1=IntKind.u64.wrap (B+(L:Int)):=⟨_,rfl⟩
 have hu1:=wmod_bound (B+(L:Int))
 rw [← hh1] at hspec hu1
 have HS0:=hid hspec
 have HB1:=hid hb1
 have HLo:=hid hlo
 have HLl:=hid hll
 have HU1:=hid hu1
 have HH1:=hid hh1
 have B0:=hb0.1
 have B1:=hb0.2
 have hrem:(L:Int) % 32=(r:Int):=by omega
 have hr31:r≤31:=by omega
 have hr0:(0:Int)≤(r:Int):=by omega
 have hr32:(r:Int)≤32:=by omega
 clear hspec hb1 hlo hll hu1 hh1 hb0 hB hY hL hr hwh hl hpo htk hs ho
 go_enter Tryz.func136,Tryz.ntmps136
 go_wp2_with fail
 go_quiet ((go_at_call 163;exact Calls.quiet_of (HBl.out _ (by exact HHo.out))))
 obtain ⟨n1,hn1⟩:∃ n1,n1=nq:=⟨_,rfl⟩
 rw [← hn1]
 clear hn1
 go_wp2_with fail
 go_quiet (fail)
 go_wp2_with fail
 obtain ⟨W1,hW1⟩:∃ W1,W1=(w.drewN n1).drewN nq:=⟨_,rfl⟩
 have HK1:Hid (Keeps NoBlock w W1):=hid (by rw [hW1];exact ((Keeps.refl _ w).drewN _).drewN _)
 have HBy:Hid (Bytes8 W1 (some ⟨g,5,none⟩) Y):=hid (by rw [hW1];exact HB1.out)
 rw [← hW1,← HH1.out]
 clear hW1 c37
 go_loopw [3,4] (fun s3 s4 wr=>∃ (h:Int) (ys:List Int) (q:Option Addr) (m d:Nat),s4=.slice q m d∧s3=.int .u64 h∧m=ys.length∧m≤d∧d≤32∧Hid (U64 h)∧Hid (Octets ys)∧Hid (Bytes8 W1 q ys)∧Hid (weights h ys=weights h1 Y)∧Keeps NoBlock W1 wr) (fun _ s4 _=>lenOf s4)
 case atStart=>exact ⟨_,Y,_,r,32,rfl,rfl,HLl.out.symm,by omega,Nat.le_refl _,HU1,HLo,HBy,hid rfl,Keeps.refl _ _⟩
 case round =>
  clear HBy hrem hr31 hr0 hr32 B0 B1
  obtain ⟨h,ys,q,m,d,rfl,rfl,hm,hmd,hdc,hu,hy,hyb,ht,hk⟩:=hrel
  have HM:=hid hm
  have HK2:=hid hk
  clear hm hk
  have hu0:=hu.out.1
  have hu1:=hu.out.2
  by_cases h8:8≤m
  ·have hdm:decide ((8:Int)≤(m:Int))=true:=decide_eq_true (by omega)
   have HF:=hid (fun w' (hb:Bytes8 w' q ys)=>eight_wide q m d ys HM.out h8 hmd hy.out w' hb)
   obtain ⟨y,hyd⟩:∃ y,y=four8 ys 0:=⟨_,rfl⟩
   have hyb8:=four8_bound hy.out 0
   have HG:=hid (weights_go (h:=h) (xs:=ys) (by have:=HM.out;omega))
   rw [← hyd] at hyb8 HF HG
   have HI:=hid (fun w=>winto_wide 0 y ⟨by decide,by decide⟩ hyb8 w)
   have HT:=hid (fun w=>wrotl (xr h (win 0 y)) 27 27 (by decide) (by decide) rfl (xr_bound _ _) w)
   have he:weight h y=IntKind.u64.wrap (IntKind.u64.wrap (wrot 27 (xr h (win 0 y))*11400714785074694791)+9650029242287828579):=rfl
   have HE:=hid he
   have hbk:=(hyb.out.piece (q:=if d=8 then q else Option.map (fun x=>{ block:=x.block,off:=x.off+8 }) q) 8 (m - 8) (by have:=HM.out;omega) (fun h=>by rw [if_neg (by omega)];cases q <;> simp [Addr.add]))
   rw [List.take_of_length_le (by rw [List.length_drop];have:=HM.out;omega)] at hbk
   have HBk:=hid hbk
   clear hyd hyb8 he hbk
   go_wp2_with fail
   refine (HF.out _ (hyb.out.keep HK2.out (fun _ _ h=>h))).mono ?_
   rintro e w' ⟨rfl,n5,rfl⟩
   go_wp2_with fail
   refine (HI.out _).mono ?_
   rintro e w' ⟨rfl,rfl⟩
   go_wp2_with fail
   refine (HT.out _).mono ?_
   rintro e w' ⟨rfl,rfl⟩
   go_wp2_with fail
   refine ⟨⟨_,ys.drop 8,_,_,_,rfl,rfl,by rw [List.length_drop,HM.out],by omega,by omega,hid (wmod_bound _),hid (hy.out.drop 8),HBk,hid ?_,HK2.out.drewN _⟩,?_⟩
   ·rw [← HE.out,← HG.out]
    exact ht.out
   ·show m - 8<m
    omega
  ·have HG:=hid (weights_end (h:=h) (xs:=ys) (by have:=HM.out;omega))
   obtain ⟨T,hT⟩:∃ T,T=weights h1 Y:=⟨_,rfl⟩
   rw [← hT] at HS0 ht
   rw [HG.out] at ht
   have hdm:decide ((8:Int)≤(m:Int))=false:=decide_eq_false (by omega)
   clear hT HG
   obtain ⟨W2,rfl⟩:∃ W2,W2=wr:=⟨_,rfl⟩
   go_wp2_with fail
   go_loopw [3,4] (fun s3 s4 wr=>∃ (h:Int) (ys:List Int) (q:Option Addr) (m d:Nat),s4=.slice q m d∧s3=.int .u64 h∧m=ys.length∧m≤d∧d≤32∧Hid (U64 h)∧Hid (Octets ys)∧Hid (Bytes8 W1 q ys)∧Hid (wfours h ys=T)∧Keeps NoBlock W1 wr) (fun _ s4 _=>lenOf s4)
   case atStart=>exact ⟨_,ys,_,m,d,rfl,rfl,HM.out,hmd,hdc,hu,hy,hyb,ht,HK2.out⟩
   case round =>
    clear hdm h8 ht hyb hy hu hu0 hu1 HM HK2 hmd hdc
    obtain ⟨h,ys,q,m,d,rfl,rfl,hm,hmd,hdc,hu,hy,hyb,ht,hk⟩:=hrel
    have HM:=hid hm
    have HK2:=hid hk
    clear hm hk
    have hu0:=hu.out.1
    have hu1:=hu.out.2
    by_cases h4:4≤m
    ·have hdm:decide ((4:Int)≤(m:Int))=true:=decide_eq_true (by omega)
     have HF:=hid (fun w' (hb:Bytes8 w' q ys)=>four_wide q m d ys HM.out h4 hy.out w' hb)
     obtain ⟨y,hyd⟩:∃ y,y=four4 ys 0:=⟨_,rfl⟩
     have hyb8:=four4_u64 hy.out 0
     have HG:=hid (wfours_go (h:=h) (xs:=ys) (by have:=HM.out;omega))
     rw [← hyd] at hyb8 HF HG
     have hy0:=hyb8.1
     have hy1:=hyb8.2
     have HT:=hid (fun w=>wrotl (xr h (IntKind.u64.wrap (y*11400714785074694791))) 23 23 (by decide) (by decide) rfl (xr_bound _ _) w)
     have he:wfour h y=IntKind.u64.wrap (IntKind.u64.wrap (wrot 23 (xr h (IntKind.u64.wrap (y*11400714785074694791)))*14029467366897019727)+1609587929392839161):=rfl
     have HE:=hid he
     have hbk:=(hyb.out.piece (q:=if d=4 then q else Option.map (fun x=>{ block:=x.block,off:=x.off+4 }) q) 4 (m - 4) (by have:=HM.out;omega) (fun h=>by rw [if_neg (by omega)];cases q <;> simp [Addr.add]))
     rw [List.take_of_length_le (by rw [List.length_drop];have:=HM.out;omega)] at hbk
     have HBk:=hid hbk
     clear hyd hyb8 he hbk
     go_wp2_with fail
     refine (HF.out _ (hyb.out.keep HK2.out (fun _ _ h=>h))).mono ?_
     rintro e w' ⟨rfl,n5,rfl⟩
     go_wp2_with fail
     refine (HT.out _).mono ?_
     rintro e w' ⟨rfl,rfl⟩
     go_wp2_with fail
     refine ⟨⟨_,ys.drop 4,_,_,_,rfl,rfl,by rw [List.length_drop,HM.out],by omega,by omega,hid (wmod_bound _),hid (hy.out.drop 4),HBk,hid ?_,HK2.out.drewN _⟩,?_⟩
     ·rw [← HE.out,← HG.out]
      exact ht.out
     ·show m - 4<m
      omega
    ·have HG:=hid (wfours_end (h:=h) (xs:=ys) (by have:=HM.out;omega))
     rw [HG.out] at ht
     have hdm:decide ((4:Int)≤(m:Int))=false:=decide_eq_false (by omega)
     obtain ⟨W3,rfl⟩:∃ W3,W3=wr:=⟨_,rfl⟩
     have HBz:=hid (hyb.out.keep HK2.out (fun _ _ h=>h))
     go_wp2_with fail
     go_loop [3,51] (fun s3 i=>∃ k:Nat,k≤m∧i=.int .i64 (k:Int)∧s3=.int .u64 ((ys.take k).foldl wone h)) (fun _ i=>m - (intOf i).toNat)
     case atStart=>exact ⟨0,Nat.zero_le _,rfl,rfl⟩
     case round =>
      obtain ⟨k,hk,rfl,rfl⟩:=hrel
      have hfb:=fold_wone (ys.take k) h hu.out
      by_cases hlt:k<m
      ·have HN2:=hid (fold_wnext ys h k (by have:=HM.out;omega))
       have hgb:=hy.out.getD k
       obtain ⟨a,rfl,hcell⟩:=HBz.out (by have:=HM.out;omega)
       have c0:=hcell k (by have:=HM.out;omega)
       obtain ⟨z,hq⟩:∃ z,z=(ys.take k).foldl wone h:=⟨_,rfl⟩
       obtain ⟨b,hb⟩:∃ b,b=ys.getD k 0:=⟨_,rfl⟩
       rw [← hq] at hfb HN2 ⊢
       rw [← hb] at hgb HN2 c0
       have hq0:=hfb.1
       have hq1:=hfb.2
       have hb0:=hgb.1
       have hb1:=hgb.2
       have HT:=hid (fun w=>wrotl (xr z (IntKind.u64.wrap (b*2870177450012600261))) 11 11 (by decide) (by decide) rfl (xr_bound _ _) w)
       have he:wone z b=IntKind.u64.wrap (wrot 11 (xr z (IntKind.u64.wrap (b*2870177450012600261)))*11400714785074694791):=rfl
       have HE:=hid he
       have hdk:decide ((k:Int)<(m:Int))=true:=decide_eq_true (by omega)
       clear hq hb hfb hgb he hcell
       go_wp2_with fail
       refine (HT.out _).mono ?_
       rintro e w' ⟨rfl,rfl⟩
       go_wp2_with fail
       exact ⟨⟨k+1,by omega,rfl,by rw [HN2.out,HE.out]⟩,by simp [intOf];omega⟩
      ·obtain rfl:k=m:=by omega
       rw [List.take_of_length_le (Nat.le_of_eq HM.out.symm),ht.out] at hfb ⊢
       have HX:=hid (fun w=>wmix_wide T hfb w)
       have HK3:=hid (HK1.out.trans HK2.out)
       clear hfb
       go_wp2_with fail
       refine (HX.out _).mono ?_
       rintro e w' ⟨rfl,rfl⟩
       go_wp2_with fail
       go_ret
       exact ⟨by rw [HS0.out];rfl,HK3.out⟩
theorem sum_wide (s:Int) (hs:U64 s) (p:Option Addr) (N c:Nat) (xs:List Int) (hx:N=xs.length) (hc:N≤c) (hc':c≤9223372036854775807) (hn0:p=none→N=0∧c=0) (ho:Octets xs) (hl:N≤140737488355328) (w:World) (hb:Bytes8 w p xs) :
  Calls Tryz.prog 108 #[.int .u64 s,.slice p N c] w fun e w'=>e=.returned (.int .u64 (wxxh s xs))∧Keeps NoBlock w w':=by
 have HN:=hid (new_wide s hs w)
 have HWr:=hid (fun w1 (hh:Holds w1 w.heap.size s []) (hb1:Bytes8 w1 p xs)=>write_wide w.heap.size s [] p N c xs w1 hh hs (fun b hb=>by simp at hb) hx hc hc' hn0 ho hb1 (fun hp a ha h=>by
   obtain ⟨a',ha',hc⟩:=hb (by omega)
   obtain rfl:=Option.some.inj (ha'.symm.trans ha)
   have:=ltOfCell (hc 0 (by omega))
   rw [addBlock] at this
   omega) (by simp;omega))
 have HSu:=hid (fun w1 (hh:Holds w1 w.heap.size s xs)=>ssum_wide w.heap.size s xs w1 hh hs ho (by omega))
 have HB:=hid hb
 clear hb ho hn0 hs hx hc hc' hl
 go_enter Tryz.func108,Tryz.ntmps108
 go_wp2_with fail
 refine HN.out.mono ?_
 rintro e w1 ⟨rfl,hh1,hk1⟩
 have HK1:=hid hk1
 have HH1:=hid hh1
 have HB1:=hid (HB.out.keep hk1 (fun _ _ h=>h))
 clear hk1 hh1
 go_wp2_with fail
 refine (HWr.out _ HH1.out HB1.out).mono ?_
 rintro e w2 ⟨rfl,hh2,hk2⟩
 have HH2:Hid (Holds w2 w.heap.size s xs):=hid hh2
 have HK2:=hid (HK1.out.then hk2 (fun i hi h=>by unfold Just at h;omega))
 clear hk2 hh2
 go_wp2_with fail
 refine (HSu.out _ HH2.out).mono ?_
 rintro e w3 ⟨rfl,hk3⟩
 have HK3:=hid (HK2.out.trans hk3)
 clear hk3
 go_wp2_with fail
 go_ret
 exact ⟨rfl,HK3.out⟩
end
end Go.Proofs.YtehkjkcnigknkaaGreat

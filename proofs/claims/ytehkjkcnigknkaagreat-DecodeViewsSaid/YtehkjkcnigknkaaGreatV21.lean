/-
  ImLaws; DeLaws; DeViLaws; RecLaws; RecBdWalk; RecRsWalk.
-/
import Derived.Lib.Hide
import Derived.Test.YtehkjkcnigknkaaGreatV02
import Derived.Test.YtehkjkcnigknkaaGreatV05
import Derived.Test.YtehkjkcnigknkaaGreatV11
import Derived.Test.YtehkjkcnigknkaaGreatV13
import Derived.Test.YtehkjkcnigknkaaGreatV18
import Derived.Test.YtehkjkcnigknkaaGreatV19
import Derived.Test.YtehkjkcnigknkaaGreatV20
namespace Go.Proofs.YtehkjkcnigknkaaGreat
open Lib (hid)
section
open Go.RowKit
structure ImEncOk:Prop where
 enc:∀ (e s:Nat) (p:Option Addr) (n c:Nat) (l:List Rec) (w:World),e<256→s<4294967296→n≤10000→(n<1000 ∨ e≤13)→InR w p n c l →
  Calls Tryz.prog 9 #[confV e s,.slice p n c] w fun r w'=>∃ u,r=.returned (.tuple #[u,.int .i64 (encI e s l).1])∧OwnB w (encI e s l).2 u w'∧Keeps NoBlock w w'
def recA:Rec:=⟨false,0,[97],[]⟩
theorem recA_fine:recA.Fine:=by
 refine ⟨?_,?_,?_⟩ <;> simp [recA,Octets]
theorem plan_none:planI 12 1 []=(0,[]):=by decide +kernel
theorem enc_none:encI 12 1 []=(0,[]):=by
 unfold encI
 rw [plan_none]
 rfl
theorem plan_a:(planI 12 1 [recA]).1=0:=by decide +kernel
theorem parts_a:(partsGo [] [recA] (planI 12 1 [recA]).2).length=1:=by decide +kernel
theorem enc_a:(encI 12 1 [recA]).1=0∧(encI 12 1 [recA]).2.length=4096:=by
 constructor
 ·unfold encI
  rw [if_neg (by rw [plan_a];simp)]
 ·rw [image_length (by decide) plan_a,parts_a]
set_option maxHeartbeats 2000000 in
set_option maxRecDepth 10000 in
theorem lives16_true {At:BAt} (HB:SgBuild At) (HNw:SgNewOk At) (HOp:SgOpenOk At) (H:ImEncOk) (w:World):Calls Tryz.prog 16 #[] w fun e w'=>e=.returned (.bool true)∧Keeps NoBlock w w':=by
 have HL:=hid (fun w=>lives15_true HB HNw HOp w)
 have HE1:=hid (fun w=>H.enc 12 1 none 0 0 [] w (by decide) (by decide) (by decide) (.inl (by decide)) ⟨rfl,by decide,by decide,fun r hr=>by simp at hr,fun r hr=>by simp at hr,fun r hr=>by simp at hr,RecsAt.nil _ _⟩)
 have HE2:=hid (fun w b (h:RecsAt w (some ⟨b,0,none⟩) [recA])=>H.enc 12 1 (some ⟨b,0,none⟩) 1 1 [recA] w (by decide) (by decide) (by decide) (.inl (by decide)) ⟨rfl,by decide,by decide,fun r hr=>by rw [List.mem_singleton.1 hr];exact recA_fine,fun r hr=>by rw [List.mem_singleton.1 hr];simp [recA],fun r hr=>by rw [List.mem_singleton.1 hr];simp [recA],h⟩)
 rw [enc_none] at HE1
 rw [enc_a.1] at HE2
 have hlen:=enc_a.2
 obtain ⟨X,hX⟩:∃ X,X=(encI 12 1 [recA]).2:=⟨_,rfl⟩
 rw [← hX] at HE2 hlen
 have HLn:=hid hlen
 clear hX hlen HB HNw HOp H
 have HK:=hid ((Keeps.refl NoBlock w).alloc (.cells (confCells 12 1) 27))
 have HC:=hid (Whole.new w 27 (confCells 12 1))
 unfold confV at HE1 HE2
 go_enter Tryz.func16,Tryz.ntmps16
 go_wp2_with fail
 refine (HE1.out _).mono ?_
 rintro e1 w1 ⟨u1,rfl,ho1,hk⟩
 obtain ⟨q1,d1,rfl,_⟩:=ho1.read
 have HK:=hid (HK.out.trans hk)
 have HC:=hid (HC.out.keep hk (fun h=>h))
 clear hk ho1
 have g0:=HC.out.cell 0 rfl
 have g1:=HC.out.cell 1 rfl
 simp only [confCells,List.getElem_toArray,List.getElem_cons_zero,List.getElem_cons_succ] at g0 g1
 obtain ⟨W,hW⟩:∃ W,W=w1.alloc (.cells #[.bool false,.int .u64 0,.string ⟨#[97]⟩,.string ⟨#[]⟩] 48):=⟨_,rfl⟩
 have HR:Hid (RecsAt W (some ⟨w1.heap.size,0,none⟩) [recA]):=hid (by
  have hw:Whole W w1.heap.size 48 #[.bool false,.int .u64 0,.string ⟨#[97]⟩,.string ⟨#[]⟩]:=by rw [hW];exact Whole.new _ _ _
  intro i hi
  obtain rfl:i=0:=by simp at hi;omega
  exact ⟨_,rfl,hw.cell 0 rfl,hw.cell 1 rfl,hw.cell 2 rfl,hw.cell 3 rfl⟩)
 have HKW:Hid (Keeps NoBlock w W):=hid (by rw [hW];exact HK.out.alloc _)
 go_wp2_with fail
 rw [← hW]
 clear hW
 refine (HE2.out _ _ HR.out).mono ?_
 rintro e2 w2 ⟨u2,rfl,ho2,hk⟩
 obtain ⟨q2,d2,rfl,_⟩:=ho2.read
 rw [HLn.out]
 have HK:=hid (HKW.out.trans hk)
 clear hk ho2
 go_wp2_with fail
 refine (HL.out _).mono ?_
 rintro e3 w3 ⟨rfl,hk⟩
 have HK:=hid (HK.out.trans hk)
 clear hk
 go_wp2_with fail
 go_ret
 exact ⟨rfl,HK.out⟩
end
section
open Go.RowKit
structure DeDecOk:Prop where
 dec:∀ (e s:Nat) (p:Option Addr) (n c:Nat) (ys:List Int) (w:World),e≤13→s<4294967296→In8 w p n c ys→n≤100000 →
  Calls Tryz.prog 10 #[confV e s,.slice p n c] w fun r w'=>∃ v,r=.returned (.tuple #[v,.int .i64 (decI e s ys).1])∧NewRecs w (decI e s ys).2 v w'
theorem dec_none:decI 12 1 []=(0,[]):=by
 unfold decI
 rw [if_neg (by decide +kernel),show guessI []=[] from rfl,enc_none,if_pos rfl]
set_option maxHeartbeats 2000000 in
set_option maxRecDepth 10000 in
theorem lives17_true {At:BAt} (HB:SgBuild At) (HNw:SgNewOk At) (HOp:SgOpenOk At) (H:ImEncOk) (HD:DeDecOk) (w:World):Calls Tryz.prog 6 #[] w fun e w'=>e=.returned (.bool true)∧Keeps NoBlock w w':=by
 have HL:=hid (fun w=>lives16_true HB HNw HOp H w)
 have HD0:=hid (fun w=>HD.dec 12 1 none 0 0 [] w (by decide) (by decide) ⟨rfl,Nat.le_refl _,by decide,fun _=>⟨rfl,rfl⟩,fun b hb=>by simp at hb,fun h=>by simp at h⟩ (by decide))
 rw [dec_none] at HD0
 clear HB HNw HOp H HD
 unfold confV at HD0
 go_enter Tryz.func6,Tryz.ntmps6
 go_wp2_with fail
 refine (HD0.out _).mono ?_
 rintro e w1 ⟨v,rfl,q,m,d,rfl,hm,hmd,hd,hq,hat,hk⟩
 obtain rfl:m=0:=hm
 have HK:=hid hk
 clear hk hat hq hmd hd
 go_wp2_with fail
 refine (HL.out _).mono ?_
 rintro e w2 ⟨rfl,hk⟩
 have HK:=hid (HK.out.trans hk)
 clear hk
 go_wp2_with fail
 go_ret
 exact ⟨rfl,HK.out⟩
end
section
open Go.RowKit
def ViewsAt (w:World) (q:Option Addr) (l:List (List Rec × Bool)):Prop:=∀ i (hi:i<l.length),∃ (a:Addr) (p:Option Addr) (n c:Nat) (x y:Value),q=some a ∧
 w.cell? (a.add (i*4))=some (.slice p n c)∧w.cell? ⟨(a.add (i*4)).block,(a.add (i*4)).off+1,none⟩=some x∧w.cell? ⟨(a.add (i*4)).block,(a.add (i*4)).off+2,none⟩=some y ∧
 w.cell? ⟨(a.add (i*4)).block,(a.add (i*4)).off+3,none⟩=some (.bool l[i].2)∧n=l[i].1.length∧RecsAt w p l[i].1
theorem ViewsAt.keep {w w':World} {q:Option Addr} {l:List (List Rec × Bool)} (h:ViewsAt w q l) {S:Nat→Prop} (hk:Keeps S w w') (hs:∀ k,k<w.heap.size→¬ S k):ViewsAt w' q l:=fun i hi=>by
 obtain ⟨a,p,n,c,x,y,rfl,c0,c1,c2,c3,hn,hr⟩:=h i hi
 exact ⟨a,p,n,c,x,y,rfl,hk.cell c0 (hs _ (ltOfCell c0)),hk.cell c1 (hs _ (ltOfCell c1)),hk.cell c2 (hs _ (ltOfCell c2)),hk.cell c3 (hs _ (ltOfCell c3)),hn,hr.keep hk hs⟩
structure DeViOk:Prop where
 views:∀ (e s:Nat) (p:Option Addr) (n c:Nat) (ys:List Int) (w:World),e<256→s<4294967296→In8 w p n c ys→n≤100000 →
  Calls Tryz.prog 15 #[confV e s,.slice p n c] w fun r w'=>∃ q m d,r=.returned (.tuple #[.slice q m d,.int .i64 (viewsI e s ys).1])∧m=(viewsI e s ys).2.length∧ViewsAt w' q (viewsI e s ys).2∧Keeps NoBlock w w'
theorem enc_one {e s:Nat} {r:Rec} (h:(encI e s [r]).1=0):checkR r=0:=by
 by_cases hp:(planI e s [r]).1=0
 ·unfold planI at hp
  split at hp
  ·by_cases hr:risingR [r]=0
   ·exact firstBad_zero.1 (risingR_zero.1 hr).1 r (by simp)
   ·rw [if_pos hr] at hp
    exact absurd hp hr
  ·simp at hp
 ·unfold encI at h
  rw [if_pos hp] at h
  exact absurd h hp
theorem recsB_few {l:List Rec} {k:Nat}:∀ (_:∀ r ∈ l,(recB r).length≤k),(recsB l).length≤l.length*k:=by
 induction l with
 | nil=>intro _;simp [recsB]
 | cons r l ih =>
  intro h
  have h1:=ih (fun x hx=>h x (by simp [hx]))
  have h2:=h r (by simp)
  unfold recsB at h1 ⊢
  rw [List.flatMap_cons,List.length_append,List.length_cons,Nat.succ_mul]
  omega
theorem seg_views {e s n:Nat} (he:e<256) (hs:s<4294967296) (hn:n<18446744073709551616) {l:List Rec} (hl:l.length≤8) (hf:∀ r ∈ l,r.Fine) (hk:∀ r ∈ l,r.key.length≤300∧r.val.length≤300):SegIn e s n l:=by
 refine ⟨he,hs,hn,hf,fun r hr=>by have:=(hk r hr).1;omega,fun r hr=>by have:=(hk r hr).2;omega,by omega,?_⟩
 have h1:(recsB l).length≤l.length*1000000:=recsB_few fun r hr=>recB_few (hf r hr) (by have:=(hk r hr).1;omega) (by have:=(hk r hr).2;omega)
 have h2:=(headLen_le (e:=e) (s:=s) (n:=n) (by omega) hn).2
 unfold headLen at h2
 unfold outS
 rw [List.length_append]
 have h3:l.length*1000000≤8*1000000:=Nat.mul_le_mul_right _ hl
 omega
def bitS (z i:Nat):Bool:=z / 2 ^ i % 2 == 1
theorem shr17 {z i:Nat} (hi:i<6):Op.shift BinOp.shr IntKind.u8 (z:Int) IntKind.i64 (i:Int)=pure (.int .u8 ((z / 2 ^ i:Nat):Int)):=by
 have:i=0 ∨ i=1 ∨ i=2 ∨ i=3 ∨ i=4 ∨ i=5:=by omega
 rcases this with rfl|rfl|rfl|rfl|rfl|rfl <;> simp
end
section
open Go.RowKit
structure Rec.Modest (r:Rec):Prop where
 fine:r.Fine
 key:r.key.length≤2000000
 val:r.val.length≤2000000
def bodyE (r:Rec):List Int:=if checkR r=0 then bodyR r else []
structure RisesOk:Prop where
 rising:∀ (p:Option Addr) (n c:Nat) (l:List Rec) (w:World),n=l.length→n≤c→c≤9223372036854775807→n≤1000000→(∀ r ∈ l,r.Modest)→RecsAt w p l →
  Calls Tryz.prog 56 #[.slice p n c] w fun e w'=>e=.returned (.int .i64 (risingR l))∧Keeps NoBlock w w'
end
section
open Go.RowKit
theorem RecsAt.one (w:World) (t:TypeId) (r:Rec):RecsAt (w.alloc (.cells (recCells r) t)) (some ⟨w.heap.size,0,none⟩) [r]:=fun i hi=>by
 have:i=0:=by simp at hi;omega
 subst this
 have h:=RecAt.ofWhole (r:=r) (Whole.new w t (recCells r))
 exact ⟨_,rfl,h.1,h.2.1,h.2.2.1,h.2.2.2⟩
end
section
open Go.RowKit
def recFour (r:Rec):List Value:=[.bool r.del,.int .u64 (r.seq:Int),.string (strOfNums r.key),.string (strOfNums r.val)]
def recFlat (l:List Rec):List Value:=l.flatMap recFour
theorem recFlat_at:∀ (l:List Rec) (i j:Nat),i<l.length→j<4→(recFlat l)[i*4+j]?=(recFour (l.getD i Rec.none))[j]?
 | [],i,j,h,_=>by simp at h
 | r :: l,0,j,_,hj=>by
  rw [recFlat,List.flatMap_cons,List.getElem?_append_left (by simp [recFour];omega)]
  simp
 | r :: l,i+1,j,h,hj=>by
  rw [recFlat,List.flatMap_cons,List.getElem?_append_right (by simp [recFour];omega),← recFlat]
  have e:(i+1)*4+j - (recFour r).length=i*4+j:=by simp [recFour];omega
  rw [e,recFlat_at l i j (by simpa using h) hj]
  simp
theorem RecsAt.ofOwn {w:World} {base n:Nat} {v:Value} {l:List Rec} (h:w.ownsRow base 48 4 v n (recFlat l)) (hn:n=l.length) :
  ∃ p c,v=.slice p n c∧n≤c∧c≤9223372036854775807∧RecsAt w p l:=by
 have h':=h
 rcases h with ⟨_,⟨rfl,rfl⟩|⟨g,cap,cur,rfl,hg,hh,hc1,hc2,hc3,hc4⟩⟩
 ·exact ⟨none,0,rfl,Nat.le_refl _,by decide,fun i hi=>by omega⟩
 ·refine ⟨_,cap,rfl,hc1,by unfold maxLen at hc2;omega,fun i hi=>?_⟩
  have hc:=h'.cells (g:=g) rfl
  have ha:∀ j u,j<4→(recFour (l.getD i Rec.none))[j]?=some u→w.cell? ⟨g,i*4+j,none⟩=some u:=fun j u hj hu=>by
   have:=hc (i*4+j) u (by rw [recFlat_at l i j hi hj];exact hu)
   rw [Addr.add_lit,Nat.zero_add] at this
   exact this
  refine ⟨⟨g,0,none⟩,rfl,?_,?_,?_,?_⟩
  all_goals simp only [Addr.add_lit,Nat.zero_add]
  ·exact ha 0 _ (by decide) rfl
  ·exact ha 1 _ (by decide) rfl
  ·exact ha 2 _ (by decide) rfl
  ·exact ha 3 _ (by decide) rfl
end
end Go.Proofs.YtehkjkcnigknkaaGreat

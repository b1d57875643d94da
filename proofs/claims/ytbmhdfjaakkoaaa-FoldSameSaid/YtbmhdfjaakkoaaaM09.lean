/-
  FoMap; FoPlN; FoPlaces; FoKeyN; FoLays; FoKeys.
-/
import Derived.Maps.Own
import Derived.Maps.OwnSet
import Derived.Maps.Views
import Derived.Sort.KeysCollected
import Derived.Test.YtbmhdfjaakkoaaaProg
import Derived.Shelf.SlIter.Keys
import Derived.Shelf.SlIter.Collect
import Derived.Shelf.SlIter.Sorted
import Derived.Shelf.SortM.Plain
import Derived.Shelf.SortM.SortNone
import Derived.TacticsIn
import Derived.Lib.Hide
import Derived.Test.YtbmhdfjaakkoaaaM04
import Derived.Test.YtbmhdfjaakkoaaaM07
import Derived.Test.YtbmhdfjaakkoaaaM08
namespace Go.Proofs.Ytbmhdfjaakkoaaa
open Lib (hid)
section
open Go.RowKit Go.ChangeShapes Go.WideShapes Go.Maps
def kL (k:List Int):Lit:=.string (strOfNums k).data.toList
theorem str_keyed:Keyed Try.prog 9:=string_keyed Try.underlying9
theorem str_key {k:List Int} (h:k.length≤100000):keyOf Try.prog 9 (.string (strOfNums k))=some (kL k):=by
 have hs:(strOfNums k).size≤maxLen:=by rw [str_size];unfold maxLen;omega
 simp [keyOf,Try.underlying9,mapKey,kL,hs]
theorem kL_inj {a b:List Int} (ha:Octets a) (hb:Octets b) (h:kL a=kL b):a=b:=by
 refine strOf_inj ha hb ?_
 unfold kL at h
 injection h with h
 exact ByteArray.ext (Array.toList_inj.1 h)
def idxE (N:Nat) (v:Value):Option (DataW Unit × List MemPlace) :=
 match v with
 | .int .i64 a=>if 0≤a∧a<(N:Int) then some (.lit (.int .i64 a),[]) else none
 | _=>none
theorem idxE_some {N:Nat} {v:Value} {z:DataW Unit × List MemPlace} (h:idxE N v=some z):∃ i:Nat,i<N∧v=.int .i64 (i:Int)∧z=(.lit (.int .i64 (i:Int)),[]):=by
 unfold idxE at h
 split at h
 ·rename_i a
  split at h
  ·rename_i hc
   refine ⟨a.toNat,by omega,?_,?_⟩
   ·rw [show ((a.toNat:Nat):Int)=a by omega]
   ·rw [show ((a.toNat:Nat):Int)=a by omega]
    exact (Option.some.inj h).symm
  ·cases h
 ·cases h
theorem idxE_at {N i:Nat} (hi:i<N):idxE N (.int .i64 (i:Int))=some (.lit (.int .i64 (i:Int)),[]):=by
 show (if 0≤(i:Int)∧(i:Int)<(N:Int) then some (DataW.lit (Lit.int IntKind.i64 (i:Int)),[]) else none)=_
 rw [if_pos ⟨by omega,by omega⟩]
theorem mapSU:Try.prog.underlying 43=some (.map 9 3):=Try.underlying43
theorem intSU:Try.prog.underlying 3=some (.int .i64):=Try.underlying3
theorem zeroSI (w:World):(zeroValue 3).run Try.prog w=.ok (.int .i64 0) w:=by kernel_rfl
def PlAt (w:World) (b n N:Nat) (f:List Int→Option Nat):Prop :=
 ∃ D:DataW Unit,w.ownsMap Try.prog 9 (idxE N) b n D∧(∀ k,Octets k→has D (kL k)=(f k).isSome∧D.atKey (kL k) (.lit (.int .i64 0))=.lit (.int .i64 (((f k).getD 0:Nat):Int)))
theorem PlAt.made (w:World) (N:Nat):PlAt (w.alloc (.map #[] 0)) w.heap.size 0 N (fun _=>none) :=
 ⟨.map [],World.ownsMap_made w _ _ _,fun _ _=>⟨rfl,rfl⟩⟩
theorem PlAt.lt {w:World} {b n N:Nat} {f:List Int→Option Nat} (h:PlAt w b n N f):b<w.heap.size:=by
 obtain ⟨D,h1,_⟩:=h
 exact h1.lt
theorem PlAt.mono {w:World} {b n n' N:Nat} {f:List Int→Option Nat} (h:PlAt w b n N f) (hn:n≤n'):PlAt w b n' N f:=by
 obtain ⟨D,h1,h2⟩:=h
 exact ⟨D,h1.mono hn,h2⟩
theorem PlAt.kept {w w':World} {b n N:Nat} {f:List Int→Option Nat} (h:PlAt w b n N f) {row:Option Nat} (hg:w.grownBy w' row) (hne:some b ≠ row):PlAt w' b n N f:=by
 obtain ⟨D,h1,h2⟩:=h
 exact ⟨D,h1.kept hg hne,h2⟩
theorem PlAt.keep {w w':World} {b n N:Nat} {f:List Int→Option Nat} (h:PlAt w b n N f) {S:Nat→Prop} (hk:Keeps S w w') (hs:¬ S b):PlAt w' b n N f:=by
 obtain ⟨D,⟨es,clock,hb,F,hn,rfl⟩,h2⟩:=h
 exact ⟨_,⟨es,clock,(hk.block b (Array.getElem?_eq_some_iff.1 hb).1 hs).trans hb,F,hn,rfl⟩,h2⟩
theorem PlAt.congr {w:World} {b n N:Nat} {f g:List Int→Option Nat} (h:PlAt w b n N f) (hfg:∀ k,Octets k→f k=g k):PlAt w b n N g:=by
 obtain ⟨D,h1,h2⟩:=h
 exact ⟨D,h1,fun k hk=>by rw [← hfg k hk];exact h2 k hk⟩
theorem idx_plain {w:World} {b n N:Nat} {D:DataW Unit} (h:w.ownsMap Try.prog 9 (idxE N) b n D) (hN:N≤1000000):w.ownsMap Try.prog 9 (plainElem Try.prog 3) b n D:=by
 obtain ⟨es,clock,hb,F,hn,rfl⟩:=h
 refine World.ownsMap.mono (World.ownsMap_of_fit hb F (fun x _ z hz=>?_)) hn
 obtain ⟨i,hi,e1,rfl⟩:=idxE_some hz
 rw [e1]
 refine plainElem_int intSU ?_
 simp [Lit.wf,IntKind.min,IntKind.max,IntKind.signed,IntKind.bits]
 omega
theorem PlAt.look {w:World} {b n N:Nat} {f:List Int→Option Nat} (h:PlAt w b n N f) (hN:N≤1000000) {k:List Int} (hk:Octets k) (hk9:k.length≤100000) :
  (Instr.lookup 43 (.map (some b)) (.string (strOfNums k)) false).run Try.prog w=.ok (.int .i64 (((f k).getD 0:Nat):Int)) w:=by
 obtain ⟨D,h1,h2⟩:=h
 obtain ⟨c,hrun,hat,_⟩:=(idx_plain h1 hN).lookup_int str_keyed mapSU intSU (zeroSI w) (str_key hk9)
 rw [(h2 k hk).2] at hat
 simp only [DataW.lit.injEq,Lit.int.injEq,true_and] at hat
 rw [hrun,hat]
theorem PlAt.lookOk {w:World} {b n N:Nat} {f:List Int→Option Nat} (h:PlAt w b n N f) (hN:N≤1000000) {k:List Int} (hk:Octets k) (hk9:k.length≤100000) :
  (Instr.lookup 43 (.map (some b)) (.string (strOfNums k)) true).run Try.prog w=.ok (.tuple #[.int .i64 (((f k).getD 0:Nat):Int),.bool (f k).isSome]) w:=by
 obtain ⟨D,h1,h2⟩:=h
 have hw0:(Lit.int .i64 0).wf=true:=by decide
 obtain ⟨v,ps,hrun,hv⟩:=(idx_plain h1 hN).look_ok str_keyed mapSU (zeroSI w) (plainElem_int intSU hw0) (str_key hk9)
 obtain ⟨c,rfl,hc,_⟩:=plainElem_int_inv intSU hv
 simp only [Prod.mk.injEq] at hc
 have hat:=hc.1
 rw [(h2 k hk).2] at hat
 simp only [DataW.lit.injEq,Lit.int.injEq,true_and] at hat
 rw [hrun,(h2 k hk).1,hat]
theorem PlAt.len {w:World} {b n N:Nat} {f:List Int→Option Nat} (h:PlAt w b n N f):∃ M,M≤n∧∀ ty,(Builtin.len_ #[43] ty #[.map (some b)]).run Try.prog w=.ok (.int .i64 (M:Int)) w:=by
 obtain ⟨D,h1,_⟩:=h
 exact ⟨Maps.size D,h1.size_le,fun ty=>h1.len mapSU ty⟩
theorem PlAt.put {w:World} {b n N:Nat} {f:List Int→Option Nat} (h:PlAt w b n N f) (hn:n<maxLen) {k:List Int} (hk:Octets k) (hk9:k.length≤100000) {i:Nat} (hi:i<N) :
  ∃ w',(Instr.mapUpdate 43 (.map (some b)) (.string (strOfNums k)) (.int .i64 (i:Int))).run Try.prog w=.ok () w'∧PlAt w' b (n+1) N (fun x=>if x=k then some i else f x)∧w.grownBy w' (some b):=by
 obtain ⟨D,h1,h2⟩:=h
 obtain ⟨w',hrun,h4,h5⟩:=h1.update str_keyed mapSU hn (str_key hk9) (idxE_at hi)
 refine ⟨w',hrun,⟨_,h4,fun x hx=>?_⟩,h5⟩
 by_cases e:x=k
 ·subst e
  simp only [if_true]
  exact ⟨has_put_same h1.isMap (str_keyed.key (str_key hk9)) _,atKey_put_same h1.isMap (str_keyed.key (str_key hk9)) _ _⟩
 ·have hne:kL x ≠ kL k:=fun h=>e (kL_inj hx hk h)
  simp only [if_neg e]
  rw [has_put_other hne,atKey_put_other hne]
  exact h2 x hx
end
section
def fOf (l:List Rec) (is:List Nat) (k:List Int):Option Nat:=is.find? fun i=>decide ((l.getD i Rec.none).key=k)
def placeF (l:List Rec) (k:List Int):Option Nat:=fOf l (downTo l.length l.length) k
theorem fOf_snoc (l:List Rec) (is:List Nat) (i:Nat) (k:List Int):fOf l (is ++ [i]) k=if (fOf l is k).isSome=true then fOf l is k else if k=(l.getD i Rec.none).key then some i else none:=by
 unfold fOf
 rw [List.find?_append]
 cases h:is.find? (fun i=>decide ((l.getD i Rec.none).key=k)) with
 | some x=>simp
 | none =>
  simp only [Option.none_or,Option.isSome_none,Bool.false_eq_true,if_false]
  by_cases hk:k=(l.getD i Rec.none).key
  ·rw [if_pos hk]
   simp [hk]
  ·rw [if_neg hk]
   have:¬ (l.getD i Rec.none).key=k:=fun e=>hk e.symm
   simpa using this
theorem fOf_down (l:List Rec) (k:List Int):∀ m,m≤l.length→match fOf l (downTo l.length m) k with
  | some i=>l.length - m≤i∧i<l.length∧(l.getD i Rec.none).key=k∧∀ j,i<j→j<l.length→(l.getD j Rec.none).key ≠ k
  | none=>∀ j,l.length - m≤j→j<l.length→(l.getD j Rec.none).key ≠ k
 | 0,_=>by
  show ∀ j,_→_→_
  intro j h1 h2
  omega
 | m+1,hm=>by
  have ih:=fOf_down l k m (by omega)
  rw [downTo_snoc,fOf_snoc]
  cases h:fOf l (downTo l.length m) k with
  | some i =>
   rw [h] at ih
   simp only [Option.isSome_some,if_true]
   exact ⟨by omega,ih.2.1,ih.2.2.1,ih.2.2.2⟩
  | none =>
   rw [h] at ih
   simp only [Option.isSome_none,Bool.false_eq_true,if_false]
   by_cases hk:k=(l.getD (l.length - 1 - m) Rec.none).key
   ·rw [if_pos hk]
    exact ⟨by omega,by omega,hk.symm,fun j h1 h2=>ih j (by omega) h2⟩
   ·rw [if_neg hk]
    intro j h1 h2
    by_cases e:j=l.length - 1 - m
    ·rw [e];exact fun h=>hk h.symm
    ·exact ih j (by omega) h2
theorem placeF_some {l:List Rec} {k:List Int} {i:Nat} (h:placeF l k=some i):i<l.length∧(l.getD i Rec.none).key=k∧∀ j,i<j→j<l.length→(l.getD j Rec.none).key ≠ k:=by
 have:=fOf_down l k l.length (Nat.le_refl _)
 unfold placeF at h
 rw [h] at this
 exact this.2
theorem placeF_none {l:List Rec} {k:List Int} (h:placeF l k=none):∀ j,j<l.length→(l.getD j Rec.none).key ≠ k:=by
 have:=fOf_down l k l.length (Nat.le_refl _)
 unfold placeF at h
 rw [h] at this
 exact fun j hj=>this j (by omega) hj
theorem lastF_place (l:List Rec) (k:List Int):lastF l k=(placeF l k).map fun i=>l.getD i Rec.none:=by
 cases h:placeF l k with
 | none=>exact lastF_absent (placeF_none h)
 | some i =>
  obtain ⟨h1,h2,h3⟩:=placeF_some h
  exact lastF_at i h1 h2 h3
theorem placeF_at {l:List Rec} (i:Nat) (hi:i<l.length):∃ j,placeF l (l.getD i Rec.none).key=some j∧i≤j∧j<l.length:=by
 cases h:placeF l (l.getD i Rec.none).key with
 | none=>exact absurd rfl (placeF_none h i hi)
 | some j =>
  obtain ⟨h1,h2,h3⟩:=placeF_some h
  refine ⟨j,rfl,?_,h1⟩
  by_cases hc:i≤j
  ·exact hc
  ·exact absurd rfl (h3 i (by omega) hi)
theorem placeF_later {l:List Rec} (i:Nat) (hi:i<l.length):(placeF l (l.getD i Rec.none).key=some i) ↔ laterF (l.getD i Rec.none).key (l.drop (i+1))=false:=by
 obtain ⟨j,hj,hij,hjl⟩:=placeF_at i hi
 obtain ⟨h1,h2,h3⟩:=placeF_some hj
 rw [laterF_false]
 constructor
 ·intro h x hx
  rw [hj] at h
  obtain rfl:=Option.some.inj h
  obtain ⟨q,hq,rfl⟩:=List.mem_iff_getElem.1 hx
  have hl:=List.length_drop (i:=j+1) (l:=l)
  have:=h3 (j+1+q) (by omega) (by omega)
  rw [List.getElem_drop]
  rw [List.getD_eq_getElem?_getD,List.getElem?_eq_getElem (by omega)] at this
  exact this
 ·intro h
  rw [hj]
  congr 1
  by_cases e:j=i
  ·exact e
  ·have hl:=List.length_drop (i:=i+1) (l:=l)
   have hm:l.getD j Rec.none ∈ l.drop (i+1):=by
    rw [List.mem_iff_getElem]
    refine ⟨j - (i+1),by omega,?_⟩
    rw [List.getElem_drop]
    simp only [show i+1+(j - (i+1))=j by omega]
    rw [List.getD_eq_getElem?_getD,List.getElem?_eq_getElem hjl]
    rfl
   exact absurd h2 (h _ hm)
end
section
open Go.RowKit Go.Shelf Go.Maps
attribute [local go_sem] Oper.semAt_some
theorem whole_kept {W W':World} {B:Nat} {t:TypeId} {cs:Array Value} {row:Option Nat} (h:Whole W B t cs) (hg:W.grownBy W' row) (hne:some B ≠ row):Whole W' B t cs:=(hg.block B h.lt hne).trans h
def PlI (l:List Rec) (p:Option Addr) (N c:Nat) (w:World) (pre:List (BkR l)) (W:World):Prop :=
 PlAt W w.heap.size pre.length N (fOf l (pre.map BkR.i))∧Whole W (w.heap.size+1) 43 #[.map (some w.heap.size)]∧Whole W (w.heap.size+1+1) 22 #[.slice p N c]∧Below w.heap.size w W
theorem plI_own (l:List Rec) (p:Option Addr) (N c:Nat) (w:World) (B:Nat) (hB:w.heap.size<B):OwnFrom B (PlI l p N c w):=by
 rintro s X Y row ⟨h1,h2,h3,h4⟩ hg hr
 refine ⟨h1.kept hg (fun e=>?_),?_,?_,ownFrom_below (β:=Unit) (Nat.le_refl _) (Nat.le_of_lt hB) () X Y row h4 hg hr⟩
 ·have:=(hr _ e.symm).1
  omega
 ·exact ((whole_own (β:=Unit) _ _ (fun _=>#[.map (some w.heap.size)])).from B) () X Y row h2 hg hr
 ·exact ((whole_own (β:=Unit) _ _ (fun _=>#[.slice p N c])).from B) () X Y row h3 hg hr
set_option maxRecDepth 100000 in
set_option maxHeartbeats 4000000 in
theorem places_in (n:Nat) (hn:3≤n) (p:Option Addr) (N c:Nat) (l:List Rec) (w:World) (hR:InR w p N c l) (hN9:N≤100000) :
  CallsIn Fence.wide n Try.prog 23 #[.slice p N c] w fun e W'=>e=.returned (.map (some w.heap.size))∧PlAt W' w.heap.size N N (placeF l)∧Below w.heap.size w W':=by
 have h1:1≤n:=by omega
 have HR:=hid hR
 clear hR
 have hmm:=@run_makeMap Try.prog
 refine callsIn_of_wp_marks Try.func23 rfl trivial ?_ rfl
 simp only [Try.ntmps23,List.size_toArray,List.length_cons,List.length_nil,Nat.reduceAdd,Nat.reduceSub,Array.replicate_succ,Array.replicate_zero,List.push_toArray,List.append_toArray,List.nil_append,List.cons_append]
 gi_wp2
 refine ⟨trivial,?_⟩
 refine (back_own _ _ _ _ _).mono ?_
 rintro e w' ⟨rfl,rfl⟩
 gi_wp2
 have b1:=Whole.newAt (w.alloc (.map #[] 0)) 43 #[.map (some w.heap.size)] (w.heap.size+1) (by simp)
 have b2:=Whole.newAt ((w.alloc (.map #[] 0)).alloc (.cells #[.map (some w.heap.size)] 43)) 22 #[.slice p N c] (w.heap.size+1+1) (by simp)
 have hB0:Below w.heap.size w (((w.alloc (.map #[] 0)).alloc (.cells #[.map (some w.heap.size)] 43)).alloc (.cells #[.slice p N c] 22)) :=
  (((Below.refl _ w).alloc (Nat.le_refl _) _).alloc (by simp) _).alloc (by simp;omega) _
 have hP0:PlAt (((w.alloc (.map #[] 0)).alloc (.cells #[.map (some w.heap.size)] 43)).alloc (.cells #[.slice p N c] 22)) w.heap.size 0 N (fun _=>none) :=
  ((PlAt.made w N).kept (World.grownBy_alloc _ _ none) (by simp)).kept (World.grownBy_alloc _ _ none) (by simp)
 have hI0:PlI l p N c w [] (((w.alloc (.map #[] 0)).alloc (.cells #[.map (some w.heap.size)] 43)).alloc (.cells #[.slice p N c] 22)) :=
  ⟨hP0,b1.alloc _,b2,hB0⟩
 refine wpIn_rangeFunc_ownH rfl h1 (gf:=37) (lb:=#[.pointer (some ⟨w.heap.size+1+1,0,none⟩)]) rfl trivial (enters_of Try.func37 (by kernel_rfl) rfl)
  (back_stops (n - 1) (by omega) (w.heap.size+1+1) w _ p N c l HR.out (by omega) (b2.cell 0 rfl) (by simp) (by simp;omega) hB0) keepB_t (keepB_b (by simp;omega) (by simp)) (Below.refl _ _) (fun _=>rfl)
  (PlI l p N c w) (fun _ _ _=>False) (plI_own l p N c w _ (by simp;omega)) (fun _ _ _ _ _ hs _ _=>hs) hI0
  (fun x a' W=>∃ b,w.heap.size+1+1+1≤b∧a'={ tmps:=#[.slice p N c,undef,.map none,.pointer (some ⟨w.heap.size+1,0,none⟩),.int .i64 (x.i:Int),.pointer (some ⟨b,0,none⟩),undef,undef,.map (some w.heap.size),.slice p N c,.func (.func 37) #[] #[.pointer (some ⟨w.heap.size+1+1,0,none⟩)],.int .i64 (x.i:Int),recV x.r,undef,undef,undef,undef,undef,undef,undef,undef,undef,undef,undef,undef,undef,undef],defers:=[] }∧Whole W b 30 (recCells x.r))
  (fun x a'=>by
   rintro s X Y row ⟨b,h1,h2,h3⟩ hg hr
   exact ⟨b,h1,h2,((whole_own (β:=Unit) b 30 (fun _=>recCells x.r)).from _) () X Y row h3 hg hr⟩) ?assign ?body ?done ?stop
 case assign =>
  rintro y pre x W K hI hK
  simp only [bkV,recV]
  have hI':=hid hI
  have HK:=hid hK
  clear hI hK
  have hz:=Whole.new W 30 #[.bool false,.int .u64 0,.string ⟨#[]⟩,.string ⟨#[]⟩]
  have z0:=hz.cell 0 rfl
  have z1:=hz.cell 1 rfl
  have z2:=hz.cell 2 rfl
  have z3:=hz.cell 3 rfl
  gi_wp2
  have hl:=hI'.out.2.2.1.lt
  refine HK.out _ _ (KeepsFrom.of_grownBy (World.grownBy_alloc W _ none) (fun j e=>by cases e)) (KeepB.alloc (by omega) hl _) ((plI_own l p N c w (w.heap.size+1) (by omega)).alloc _ hI'.out) ⟨W.heap.size,by omega,rfl,Whole.new W _ _⟩
 case body =>
  rintro y pre x a' W hy hloop hI ⟨b,hb,rfl,hx⟩ hlen
  simp only [recV]
  have hro:Octets x.r.key:=(HR.out.fine _ x.mem).key
  have hr9:x.r.key.length≤100000:=HR.out.key _ x.mem
  have hxi:x.i<N:=by rw [HR.out.len];exact x.hi
  have hsn:=fun k=>fOf_snoc l (pre.map BkR.i) x.i k
  have hri:(l.getD x.i Rec.none).key=x.r.key:=rfl
  rw [hri] at hsn
  have HSn:=hid hsn
  obtain ⟨hI1,hI2,hI3,hI4⟩:=hI
  have hlk:=hI1.lookOk (by omega) hro hr9
  obtain ⟨w',hput,hP',hgr⟩:=hI1.put (by unfold maxLen;omega) hro hr9 hxi
  have c2:W.cell? ⟨b,2,none⟩=some (.string (strOfNums x.r.key)):=hx.cell 2 rfl
  have k0:W.cell? ⟨w.heap.size+1,0,none⟩=some (.map (some w.heap.size)):=hI2.cell 0 rfl
  have HI1:=hid hI1
  have HI2:=hid hI2
  have HI3:=hid hI3
  have HI4:=hid hI4
  have HP':=hid hP'
  have HGr:=hid hgr
  have HB:=hid hb
  have HFl:=hid (show (pre ++ [x]).length=pre.length+1 by simp)
  have HFm:=hid (show (pre ++ [x]).map BkR.i=pre.map BkR.i ++ [x.i] by simp)
  clear hsn hI1 hI2 hI3 hI4 hP' hgr hx hloop hri hb
  cases hs:(fOf l (pre.map BkR.i) x.r.key) with
  | some j =>
   rw [hs] at hlk
   have HS:=hid hs
   clear hs hput
   simp only [Option.isSome_some] at hlk
   gi_wp2
   refine ⟨KeepsFrom.refl _ _,KeepB.refl _ _ _,?_,HI2.out,HI3.out,HI4.out⟩
   rw [HFl.out,HFm.out]
   refine (HI1.out.mono (Nat.le_succ _)).congr (fun k _=>?_)
   rw [HSn.out]
   by_cases hk:(fOf l (pre.map BkR.i) k).isSome=true
   ·rw [if_pos hk]
   ·rw [if_neg hk]
    have hkx:k ≠ x.r.key:=fun e=>hk (by rw [e,HS.out];rfl)
    rw [if_neg hkx]
    exact Option.not_isSome_iff_eq_none.1 hk
  | none =>
   rw [hs] at hlk
   have HS:=hid hs
   clear hs
   simp only [Option.isSome_none] at hlk
   gi_wp2
   have hl2:=HI3.out.lt
   refine ⟨KeepsFrom.of_grownBy HGr.out (fun j e=>by cases e;simp;omega),⟨(Below.refl _ _).grown HGr.out (by omega) (fun j e=>by cases e;exact Nat.le_refl _),HGr.out.block _ hl2 (fun e=>by have:=Option.some.inj e;omega)⟩,?_,whole_kept HI2.out HGr.out (fun e=>by have:=Option.some.inj e;omega),whole_kept HI3.out HGr.out (fun e=>by have:=Option.some.inj e;omega),HI4.out.grown HGr.out HI4.out.size (fun j e=>by cases e;exact Nat.le_refl _)⟩
   rw [HFl.out,HFm.out]
   refine HP'.out.congr (fun k _=>?_)
   rw [HSn.out]
   by_cases hk:k=x.r.key
   ·rw [if_pos hk,hk,HS.out,if_neg (by simp),if_pos rfl]
   ·rw [if_neg hk,if_neg hk]
    cases hf:fOf l (pre.map BkR.i) k with
    | some j=>simp
    | none=>simp
 case done =>
  rintro D xs W hD hS ⟨hI1,hI2,hI3,hI4⟩ hK
  have k0:W.cell? ⟨w.heap.size+1,0,none⟩=some (.map (some w.heap.size)):=hI2.cell 0 rfl
  gi_wp2
  refine ⟨by simp,.inl ⟨_,_,rfl,run_takeDeferred hK,?_⟩⟩
  have hln:xs.length=N:=by
   have:=congrArg List.length hS
   simpa [downTo] using this
  have hfo:fOf l (xs.map BkR.i)=placeF l:=by
   rw [hS,← show l.length=N from HR.out.len.symm]
   rfl
  rw [hln,hfo] at hI1
  refine ⟨_,results_tmp rfl _ _ _,rfl,hI1.kept (grownBy_putObj' W D (.deferred none)) (fun e=>?_),hI4.trans (belowK_b (w:=w) (Nat.le_refl _) _ D _ _ (by simp at hD;omega) hK rfl rfl)⟩
  have:=Option.some.inj e
  simp at hD
  omega
 case stop =>
  rintro D cd pre W _ _ h _
  exact h.elim
theorem places_own (p:Option Addr) (N c:Nat) (l:List Rec) (w:World) (hR:InR w p N c l) (hN9:N≤100000) :
  Calls Try.prog 23 #[.slice p N c] w fun e w'=>e=.returned (.map (some w.heap.size))∧PlAt w' w.heap.size N N (placeF l)∧Keeps NoBlock w w' :=
 (callsIn_wide.1 (places_in 3 (Nat.le_refl _) p N c l w hR hN9)).mono fun _ _ ⟨h1,h2,h3⟩=>⟨h1,h2,Keeps.ofBelow h3⟩
end
section
open Go.Sort
theorem lessK_irrefl:∀ a:List Int,lessK a a=false
 | []=>rfl
 | x :: a=>by simp [lessK,lessK_irrefl a]
theorem lessK_trans:∀ {a b c:List Int},lessK a b=true→lessK b c=true→lessK a c=true
 | _,[],_,h,_=>by simp [lessK] at h
 | _,_ :: _,[],_,h=>by simp [lessK] at h
 | [],_ :: _,_ :: _,_,_=>rfl
 | x :: a,y :: b,z :: c,h1,h2=>by
  simp only [lessK,Bool.or_eq_true,Bool.and_eq_true,decide_eq_true_eq] at h1 h2 ⊢
  rcases h1 with h1|⟨rfl,h1⟩
  ·rcases h2 with h2|⟨rfl,h2⟩
   ·exact .inl (by omega)
   ·exact .inl h1
  ·rcases h2 with h2|⟨rfl,h2⟩
   ·exact .inl h2
   ·exact .inr ⟨rfl,lessK_trans h1 h2⟩
theorem lessK_total:∀ {a b:List Int},a ≠ b→lessK a b=true ∨ lessK b a=true
 | [],[],h=>absurd rfl h
 | [],_ :: _,_=>.inl rfl
 | _ :: _,[],_=>.inr rfl
 | x :: a,y :: b,h=>by
  simp only [lessK,Bool.or_eq_true,Bool.and_eq_true,decide_eq_true_eq]
  by_cases h1:x<y
  ·exact .inl (.inl h1)
  ·by_cases h2:y<x
   ·exact .inr (.inl h2)
   ·have e:x=y:=by omega
    subst e
    rcases lessK_total (a:=a) (b:=b) (fun e=>h (by rw [e])) with h3|h3
    ·exact .inl (.inr ⟨rfl,h3⟩)
    ·exact .inr (.inr ⟨rfl,h3⟩)
theorem lessK_asymm {a b:List Int} (h:lessK a b=true):lessK b a=false:=by
 cases hb:lessK b a with
 | false=>rfl
 | true =>
  have:=lessK_trans h hb
  rw [lessK_irrefl] at this
  cases this
abbrev RiseK (O:List Rec):Prop:=O.Pairwise fun a b=>lessK a.key b.key=true
theorem drop_while_all {r:Rec}:∀ {O:List Rec},RiseK O→∀ x ∈ O.dropWhile (fun x=>!lessK r.key x.key),lessK r.key x.key=true
 | [],_,x,hx=>by simp at hx
 | y :: O,h,x,hx=>by
  obtain ⟨h1,h2⟩:=List.pairwise_cons.1 h
  rw [List.dropWhile_cons] at hx
  by_cases hy:(!lessK r.key y.key)=true
  ·rw [if_pos hy] at hx
   exact drop_while_all h2 x hx
  ·rw [if_neg hy] at hx
   have hy':lessK r.key y.key=true:=by
    cases hc:lessK r.key y.key with
    | true=>rfl
    | false=>rw [hc] at hy;exact absurd rfl hy
   rcases List.mem_cons.1 hx with rfl|hx
   ·exact hy'
   ·exact lessK_trans hy' (h1 x hx)
theorem take_while_all {r:Rec}:∀ {O:List Rec},∀ x ∈ O.takeWhile (fun x=>!lessK r.key x.key),lessK r.key x.key=false
 | [],x,hx=>by simp at hx
 | y :: O,x,hx=>by
  rw [List.takeWhile_cons] at hx
  by_cases hy:(!lessK r.key y.key)=true
  ·rw [if_pos hy] at hx
   rcases List.mem_cons.1 hx with rfl|hx
   ·simpa using hy
   ·exact take_while_all x hx
  ·rw [if_neg hy] at hx
   simp at hx
theorem insK_rise {O:List Rec} {r:Rec} (h:RiseK O) (hne:∀ x ∈ O,x.key ≠ r.key):RiseK (insK O r):=by
 have hO:O.takeWhile (fun x=>!lessK r.key x.key) ++ O.dropWhile (fun x=>!lessK r.key x.key)=O:=List.takeWhile_append_dropWhile
 have h':=h
 rw [← hO] at h'
 obtain ⟨a1,a2,a3⟩:=List.pairwise_append.1 h'
 rw [insK_eq]
 refine List.pairwise_append.2 ⟨a1,List.pairwise_cons.2 ⟨fun x hx=>drop_while_all h x hx,a2⟩,fun x hx y hy=>?_⟩
 have hxO:x ∈ O:=by rw [← hO];exact List.mem_append_left _ hx
 have hxr:lessK x.key r.key=true:=(lessK_total (hne x hxO)).resolve_right (by rw [take_while_all x hx];simp)
 rcases List.mem_cons.1 hy with rfl|hy
 ·exact hxr
 ·exact a3 x hx y hy
theorem compactF_apart:∀ l:List Rec,(compactF l).Pairwise fun a b=>a.key ≠ b.key
 | []=>by simp [compactF]
 | r :: l=>by
  unfold compactF
  by_cases h:laterF r.key l=true
  ·rw [if_pos h];exact compactF_apart l
  ·rw [if_neg h]
   have h':=laterF_false.1 (Bool.eq_false_iff.2 h)
   exact List.pairwise_cons.2 ⟨fun x hx e=>h' x (compactF_mem hx) e.symm,compactF_apart l⟩
theorem compactF_keys:∀ (l:List Rec) (x:Rec),x ∈ l→∃ y ∈ compactF l,y.key=x.key
 | [],x,hx=>by simp at hx
 | r :: l,x,hx=>by
  unfold compactF
  by_cases h:laterF r.key l=true
  ·rw [if_pos h]
   rcases List.mem_cons.1 hx with rfl|hx
   ·obtain ⟨z,hz,e⟩:=laterF_true.1 h
    obtain ⟨y,hy,e2⟩:=compactF_keys l z hz
    exact ⟨y,hy,e2.trans e⟩
   ·exact compactF_keys l x hx
  ·rw [if_neg h]
   rcases List.mem_cons.1 hx with rfl|hx
   ·exact ⟨x,by simp,rfl⟩
   ·obtain ⟨y,hy,e2⟩:=compactF_keys l x hx
    exact ⟨y,by simp [hy],e2⟩
theorem byKey_rise_go:∀ (l O:List Rec),RiseK O→(l.Pairwise fun a b=>a.key ≠ b.key)→(∀ x ∈ O,∀ y ∈ l,x.key ≠ y.key)→RiseK (l.foldl insK O)
 | [],_,h,_,_=>h
 | r :: l,O,h,hl,hc=>by
  obtain ⟨h1,h2⟩:=List.pairwise_cons.1 hl
  rw [List.foldl_cons]
  refine byKey_rise_go l _ (insK_rise h (fun x hx=>hc x hx r (by simp))) h2 (fun x hx y hy=>?_)
  rcases List.mem_cons.1 ((insK_perm O r).mem_iff.1 hx) with rfl|hx
  ·exact h1 y hy
  ·exact hc x hx y (by simp [hy])
theorem byKeyF_rise (l:List Rec):RiseK (byKeyF l):=byKey_rise_go _ _ (by simp) (compactF_apart l) (by simp)
theorem byKeyF_keys (l:List Rec) (k:List Int):k ∈ (byKeyF l).map Rec.key ↔ ∃ x ∈ l,x.key=k:=by
 rw [List.mem_map]
 constructor
 ·rintro ⟨y,hy,e⟩
  exact ⟨y,compactF_mem (byKeyF_mem.1 hy),e⟩
 ·rintro ⟨x,hx,e⟩
  obtain ⟨y,hy,e2⟩:=compactF_keys l x hx
  exact ⟨y,byKeyF_mem.2 hy,e2.trans e⟩
theorem riseK_only:∀ {l m:List (List Int)},(l.Pairwise fun a b=>lessK a b=true)→(m.Pairwise fun a b=>lessK a b=true)→(∀ x,x ∈ l ↔ x ∈ m)→l=m
 | [],[],_,_,_=>rfl
 | [],b :: m,_,_,h=>by have:=(h b).2 List.mem_cons_self;simp at this
 | a :: l,[],_,_,h=>by have:=(h a).1 List.mem_cons_self;simp at this
 | a :: l,b :: m,hl,hm,h=>by
  obtain ⟨a1,a2⟩:=List.pairwise_cons.1 hl
  obtain ⟨b1,b2⟩:=List.pairwise_cons.1 hm
  have hab:a=b:=by
   rcases List.mem_cons.1 ((h a).1 List.mem_cons_self) with e|e
   ·exact e
   ·rcases List.mem_cons.1 ((h b).2 List.mem_cons_self) with f|f
    ·exact f.symm
    ·have:=lessK_asymm (b1 a e)
     rw [a1 b f] at this
     cases this
  subst hab
  rw [riseK_only a2 b2 fun x=>?_]
  constructor
  ·intro hx
   rcases List.mem_cons.1 ((h x).1 (List.mem_cons_of_mem _ hx)) with e|e
   ·subst e
    have:=a1 x hx
    rw [lessK_irrefl] at this
    cases this
   ·exact e
  ·intro hx
   rcases List.mem_cons.1 ((h x).2 (List.mem_cons_of_mem _ hx)) with e|e
   ·subst e
    have:=b1 x hx
    rw [lessK_irrefl] at this
    cases this
   ·exact e
def nB (x:List UInt8):List Int:=x.map fun u=>(u.toNat:Int)
theorem nB_oct (x:List UInt8):Octets (nB x):=by
 intro b hb
 obtain ⟨u,_,rfl⟩:=List.mem_map.1 hb
 have:=u.toNat_lt
 omega
theorem nB_inj {x y:List UInt8} (h:nB x=nB y):x=y:=by
 refine List.map_inj_right (fun a b e=>?_) |>.1 h
 exact UInt8.toNat_inj.1 (by omega)
theorem str_nB (x:List UInt8):strOfNums (nB x)=⟨x.toArray⟩:=by
 apply ByteArray.ext
 unfold strOfNums nB
 apply Array.toList_inj.1
 simp only [List.map_map]
 conv=>rhs;rw [← List.map_id x]
 apply List.map_congr_left
 intro u _
 simp [Function.comp]
theorem nB_str {k:List Int} (hk:Octets k):nB (strOfNums k).data.toList=k:=by
 unfold strOfNums nB
 simp only [List.map_map]
 conv=>rhs;rw [← List.map_id k]
 apply List.map_congr_left
 intro b hb
 have:=hk b hb
 simp [Function.comp]
 omega
theorem less_nB:∀ a b:List UInt8,lessK (nB a) (nB b)=decide (a<b)
 | [],[]=>by simp [nB,lessK]
 | [],b :: y=>by simp [nB,lessK]
 | a :: x,[]=>by simp [nB,lessK]
 | a :: x,b :: y=>by
  have ih:=less_nB x y
  unfold nB at ih
  have e:lessK (nB (a :: x)) (nB (b :: y))=(decide ((a.toNat:Int)<(b.toNat:Int)) || (decide ((a.toNat:Int)=(b.toNat:Int)) && lessK (nB x) (nB y))):=rfl
  rw [e]
  unfold nB
  rw [ih,Bool.eq_iff_iff]
  simp only [Bool.or_eq_true,Bool.and_eq_true,decide_eq_true_eq,List.cons_lt_cons_iff]
  constructor
  ·rintro (h|⟨h,h2⟩)
   ·exact .inl (UInt8.lt_iff_toNat_lt.2 (by omega))
   ·exact .inr ⟨UInt8.toNat_inj.1 (by omega),h2⟩
  ·rintro (h|⟨h,h2⟩)
   ·have:=UInt8.lt_iff_toNat_lt.1 h
    exact .inl (by omega)
   ·subst h
    exact .inr ⟨rfl,h2⟩
theorem leB_less {a b:List UInt8}:decide (a≤b)=!lessK (nB b) (nB a):=by
 rw [less_nB,Bool.eq_iff_iff]
 simp [List.not_lt]
theorem keys_sorted (l:List Rec) (ss:List (List UInt8)) (hnd:ss.Nodup) (hm:∀ x,x ∈ ss ↔ ∃ r ∈ l,r.key=nB x) (ho:∀ r ∈ l,Octets r.key) :
  (ss.mergeSort fun x y=>decide (x≤y)).map nB=(byKeyF l).map Rec.key:=by
 have hp:=List.mergeSort_perm ss (fun x y=>decide (x≤y))
 have hs:(ss.mergeSort fun x y=>decide (x≤y)).Pairwise fun a b=>decide (a≤b)=true:=by
  refine List.pairwise_mergeSort (fun a b c h1 h2=>?_) (fun a b=>?_) ss
  ·rw [leB_less] at *
   simp only [Bool.not_eq_true'] at *
   cases hc:lessK (nB c) (nB a) with
   | false=>rfl
   | true =>
    by_cases e:nB a=nB b
    ·rw [e,h2] at hc;cases hc
    ·have h3:=(lessK_total e).resolve_right (by rw [h1];simp)
     have:=lessK_trans hc h3
     rw [h2] at this
     cases this
  ·rw [leB_less,leB_less]
   cases h1:lessK (nB b) (nB a) with
   | false=>rfl
   | true=>rw [lessK_asymm h1];rfl
 refine riseK_only ?_ (List.pairwise_map.2 (byKeyF_rise l)) (fun k=>?_)
 ·refine List.pairwise_map.2 ?_
  have hn:(ss.mergeSort fun x y=>decide (x≤y)).Pairwise fun a b=>a ≠ b:=hp.nodup_iff.2 hnd
  refine (hs.and hn).imp (fun {a b} h=>?_)
  have h1:=h.1
  rw [leB_less] at h1
  simp only [Bool.not_eq_true'] at h1
  exact (lessK_total (fun e=>h.2 (nB_inj e))).resolve_right (by rw [h1];simp)
 ·rw [byKeyF_keys,List.mem_map]
  constructor
  ·rintro ⟨x,hx,rfl⟩
   exact (hm x).1 (hp.mem_iff.1 hx)
  ·rintro ⟨r,hr,rfl⟩
   refine ⟨(strOfNums r.key).data.toList,hp.mem_iff.2 ((hm _).2 ⟨r,hr,?_⟩),nB_str (ho r hr)⟩
   rw [nB_str (ho r hr)]
end
section
open Go.Shelf Go.RowKit Go.Lib Go.Sort
def keysLay_ren:Go.Shelf.Ren:=⟨fun|7=>36|10=>42|n=>n,fun|23=>43|26=>9|3=>3|28=>59|0=>0|27=>58|33=>66|4=>4|n=>n,fun|n=>n⟩
theorem keysLay:SlLaysZ.n7 Try.prog keysLay_ren:={
 mixed:=by kernel_rfl
 f7:=⟨Try.f36.name,by decide,Try.func36.trans (congrArg some (by kernel_rfl))⟩
 f10:=⟨Try.f42.name,by decide,Try.func42.trans (congrArg some (by kernel_rfl))⟩
 t0:=Try.underlying0
 a0:=Try.isAgg0
 z0:=Try.sizeOf0
 v0:=Try.zeroValue0
 t4:=Try.underlying4
 a4:=Try.isAgg4
 z4:=Try.sizeOf4
 v4:=Try.zeroValue4
 t23:=Try.underlying43
 a23:=Try.isAgg43
 z23:=Try.sizeOf43
 v23:=Try.zeroValue43
 t26:=Try.underlying9
 a26:=Try.isAgg9
 z26:=Try.sizeOf9
 v26:=Try.zeroValue9
 t27:=Try.underlying58
 a27:=Try.isAgg58
 z27:=Try.sizeOf58
 v27:=Try.zeroValue58
 t28:=Try.underlying59
 a28:=Try.isAgg59
 z28:=Try.sizeOf59
 v28:=Try.zeroValue59
 t33:=Try.underlying66
 a33:=Try.isAgg66
 z33:=Try.sizeOf66
 v33:=Try.zeroValue66 }
def sortedLay_ren:Go.Shelf.Ren:=⟨fun|6=>35|8=>40|9=>41|11=>45|13=>47|12=>46|23=>58|24=>59|14=>49|15=>50|16=>51|17=>52|18=>53|19=>54|20=>55|21=>56|22=>57|25=>61|26=>62|27=>63|28=>64|29=>65|30=>66|31=>67|n=>n,fun|26=>9|28=>59|24=>26|0=>0|3=>3|37=>72|48=>82|50=>28|4=>4|40=>75|39=>74|45=>61|5=>5|9=>9|51=>84|55=>88|57=>90|58=>91|33=>66|n=>n,fun|n=>n⟩
theorem sortedLay:SlLaysZ.n6 Try.prog sortedLay_ren:={
 mixed:=by kernel_rfl
 f6:=⟨Try.f35.name,by decide,Try.func35.trans (congrArg some (by kernel_rfl))⟩
 f8:=⟨Try.f40.name,by decide,Try.func40.trans (congrArg some (by kernel_rfl))⟩
 f11:=⟨Try.f45.name,by decide,Try.func45.trans (congrArg some (by kernel_rfl))⟩
 t0:=Try.underlying0
 a0:=Try.isAgg0
 z0:=Try.sizeOf0
 v0:=Try.zeroValue0
 t24:=Try.underlying26
 a24:=Try.isAgg26
 z24:=Try.sizeOf26
 v24:=Try.zeroValue26
 t26:=Try.underlying9
 a26:=Try.isAgg9
 z26:=Try.sizeOf9
 v26:=Try.zeroValue9
 t28:=Try.underlying59
 a28:=Try.isAgg59
 z28:=Try.sizeOf59
 v28:=Try.zeroValue59
 i26:=by kernel_rfl }
def sortSLay_ren:Go.Shelf.Ren:=⟨fun|6=>41|8=>47|9=>46|19=>58|20=>59|21=>49|22=>50|23=>51|24=>52|25=>53|26=>54|27=>55|28=>56|29=>57|36=>61|31=>62|32=>63|37=>64|38=>65|39=>66|41=>67|n=>n,fun|27=>26|29=>9|3=>3|32=>72|26=>26|0=>0|44=>82|46=>28|4=>4|36=>75|35=>74|41=>61|5=>5|9=>9|53=>84|57=>88|63=>90|64=>91|n=>n,fun|n=>n⟩
theorem sortSLay:SlLaysM.n6 Try.prog sortSLay_ren:={
 mixed:=by kernel_rfl
 f6:=⟨Try.f41.name,by decide,Try.func41.trans (congrArg some (by kernel_rfl))⟩
 f8:=Try.func47.trans (congrArg some (by kernel_rfl))
 f9:=⟨Try.f46.name,by decide,Try.func46.trans (congrArg some (by kernel_rfl))⟩
 f19:=Try.func58.trans (congrArg some (by kernel_rfl))
 f20:=Try.func59.trans (congrArg some (by kernel_rfl))
 f21:=⟨Try.f49.name,by decide,Try.func49.trans (congrArg some (by kernel_rfl))⟩
 f22:=⟨Try.f50.name,by decide,Try.func50.trans (congrArg some (by kernel_rfl))⟩
 f23:=⟨Try.f51.name,by decide,Try.func51.trans (congrArg some (by kernel_rfl))⟩
 f24:=⟨Try.f52.name,by decide,Try.func52.trans (congrArg some (by kernel_rfl))⟩
 f25:=⟨Try.f53.name,by decide,Try.func53.trans (congrArg some (by kernel_rfl))⟩
 f26:=⟨Try.f54.name,by decide,Try.func54.trans (congrArg some (by kernel_rfl))⟩
 f27:=⟨Try.f55.name,by decide,Try.func55.trans (congrArg some (by kernel_rfl))⟩
 f28:=⟨Try.f56.name,by decide,Try.func56.trans (congrArg some (by kernel_rfl))⟩
 f29:=⟨Try.f57.name,by decide,Try.func57.trans (congrArg some (by kernel_rfl))⟩
 f31:=Try.func62.trans (congrArg some (by kernel_rfl))
 f32:=Try.func63.trans (congrArg some (by kernel_rfl))
 f36:=⟨Try.f61.name,by decide,Try.func61.trans (congrArg some (by kernel_rfl))⟩
 f37:=⟨Try.f64.name,by decide,Try.func64.trans (congrArg some (by kernel_rfl))⟩
 f38:=⟨Try.f65.name,by decide,Try.func65.trans (congrArg some (by kernel_rfl))⟩
 f39:=⟨Try.f66.name,by decide,Try.func66.trans (congrArg some (by kernel_rfl))⟩
 f41:=⟨Try.f67.name,by decide,Try.func67.trans (congrArg some (by kernel_rfl))⟩
 t0:=Try.underlying0
 a0:=Try.isAgg0
 z0:=Try.sizeOf0
 v0:=Try.zeroValue0
 t3:=Try.underlying3
 a3:=Try.isAgg3
 z3:=Try.sizeOf3
 v3:=Try.zeroValue3
 t4:=Try.underlying4
 a4:=Try.isAgg4
 z4:=Try.sizeOf4
 v4:=Try.zeroValue4
 t5:=Try.underlying5
 a5:=Try.isAgg5
 z5:=Try.sizeOf5
 v5:=Try.zeroValue5
 t9:=Try.underlying9
 a9:=Try.isAgg9
 z9:=Try.sizeOf9
 v9:=Try.zeroValue9
 t26:=Try.underlying26
 a26:=Try.isAgg26
 z26:=Try.sizeOf26
 v26:=Try.zeroValue26
 t27:=Try.underlying26
 a27:=Try.isAgg26
 z27:=Try.sizeOf26
 v27:=Try.zeroValue26
 t29:=Try.underlying9
 a29:=Try.isAgg9
 z29:=Try.sizeOf9
 v29:=Try.zeroValue9
 t32:=Try.underlying72
 a32:=Try.isAgg72
 z32:=Try.sizeOf72
 v32:=Try.zeroValue72
 t35:=Try.underlying74
 a35:=Try.isAgg74
 z35:=Try.sizeOf74
 v35:=Try.zeroValue74
 t36:=Try.underlying75
 a36:=Try.isAgg75
 z36:=Try.sizeOf75
 v36:=Try.zeroValue75
 t41:=Try.underlying61
 a41:=Try.isAgg61
 z41:=Try.sizeOf61
 v41:=Try.zeroValue61
 t44:=Try.underlying82
 a44:=Try.isAgg82
 z44:=Try.sizeOf82
 v44:=Try.zeroValue82
 t46:=Try.underlying28
 a46:=Try.isAgg28
 z46:=Try.sizeOf28
 v46:=Try.zeroValue28
 t53:=Try.underlying84
 a53:=Try.isAgg84
 z53:=Try.sizeOf84
 v53:=Try.zeroValue84
 t57:=Try.underlying88
 a57:=Try.isAgg88
 z57:=Try.sizeOf88
 v57:=Try.zeroValue88
 t63:=Try.underlying90
 a63:=Try.isAgg90
 z63:=Try.sizeOf90
 v63:=Try.zeroValue90
 t64:=Try.underlying91
 a64:=Try.isAgg91
 z64:=Try.sizeOf91
 v64:=Try.zeroValue91 }
end
section
open Go.RowKit Go.Maps Go.Sort Go.Shelf
theorem sortsS (m : Nat) : AnyZ.SortsIn Try.prog sortedLay_ren Fence.wide m :=
  ⟨fun blk off cap ss W hH hblk hsz => callsIn_wide.2 (AnyM.slices_Sort_string sortSLay blk off cap ss W hH hblk hsz),
   fun p cap W => callsIn_wide.2 (AnyM.slices_Sort_string_none sortSLay p cap W)⟩
set_option maxHeartbeats 2000000 in
set_option maxRecDepth 100000 in
theorem rising_data {H:Type} (b nn:Nat) (D0:DataW H) (R:Value→Option (DataW H × List MemPlace)) (w:World) (hown:w.ownsMap Try.prog 9 R b nn D0) (hnn:nn≤1000000) :
  Calls Try.prog 22 #[.map (some b)] w fun e w'=>∃ (v:Value) (ss:List (List UInt8)),e=.returned v∧ss.Perm (strKeys D0) ∧
   w'.ownsRow w.heap.size 9 1 v ss.length ((ss.mergeSort (fun x y=>decide (x≤y))).map encStr)∧Below w.heap.size w w':=by
 have hsz:=hown.size_le
 have hmax:Maps.size D0≤maxLen:=by unfold maxLen;omega
 have hbytes:Maps.size D0*16≤140737488355328:=by omega
 refine (callsIn_wide (n:=6)).1 ?_
 have hbl:=hown.lt
 have hseq:SeqGives Fence.wide 2 Try.prog 42 #[.pointer (some ⟨w.heap.size,0,none⟩)] encStr (fun ss=>ss.Perm (strKeys D0)) (Maps.size D0) (w.alloc (.cells #[.map (some b)] 43)) :=
  AnyZ.keys_gives (ρ:=keysLay_ren) { keysLay with } Fence.wide _ trivial rfl (by omega) w.heap.size b nn D0 _ (by simp) (by simp) (by
   obtain ⟨es,clock,hb,Ft,hs,hD⟩:=hown
   exact ⟨es,clock,(Below.heap_alloc _ _ b hbl).trans hb,Ft,hs,hD⟩)
 have cK:∀ mb W,CallsIn Fence.wide 5 Try.prog 36 #[.map mb] W fun e w'=>e=.returned (.func (.func 42) #[] #[.pointer (some ⟨W.heap.size,0,none⟩)])∧w'=W.alloc (.cells #[.map mb] 43):=fun mb W=>AnyZ.keys_in keysLay Fence.wide 5 trivial rfl mb W
 have cS:=AnyZ.sorted_in sortedLay Fence.wide 5 trivial trivial trivial trivial rfl (by omega) (sortsS _) (enters_of Try.func41 (by kernel_rfl) rfl) 42 #[.pointer (some ⟨w.heap.size,0,none⟩)] trivial (enters_of Try.func42 (by kernel_rfl) rfl) _ _ hmax hbytes _ hseq
 change CallsIn _ _ Try.prog 35 _ _ _ at cS
 refine callsIn_of_wp Try.func22 rfl trivial ?_ rfl
 simp only [Try.ntmps22,List.size_toArray,List.length_cons,List.length_nil,Nat.reduceAdd,Nat.reduceSub,Array.replicate_succ,Array.replicate_zero,List.push_toArray,List.append_toArray,List.nil_append,List.cons_append]
 gi_wp2
 refine ⟨trivial,?_⟩
 refine (cK _ _).mono ?_
 rintro e w' ⟨rfl,rfl⟩
 gi_wp2
 refine ⟨trivial,?_⟩
 refine cS.mono ?_
 rintro e w' ⟨v,ss,rfl,hS,hrow,hnil,hb⟩
 gi_wp2
 go_ret
 exact ⟨v,ss,rfl,hS,ownsRow_base_a hrow (by simp),((Below.refl _ w).alloc (Nat.le_refl _) _).trans (hb.mono (by simp))⟩
theorem strKeys_chars {D:DataW Unit} {R:Value→Option (DataW Unit × List MemPlace)} {w:World} {b n:Nat} (hown:w.ownsMap Try.prog 9 R b n D):(strKeys D).Nodup∧∀ x,x ∈ strKeys D ↔ has D (.string x)=true:=by
 obtain ⟨es,hD,hpw,_⟩:=hown.entries str_keyed
 obtain ⟨es',hD',hko⟩:=hown.keysOf
 obtain rfl:es=es':=by rw [hD] at hD';simpa using hD'
 subst hD
 have hk:∀ p ∈ es,∃ x,p.1=.string x:=fun p hp=>by
  obtain ⟨v,hv⟩:=hko p hp
  obtain ⟨x,_,hx,_⟩:=Maps.keyOf_str Try.underlying9 hv
  exact ⟨x,hx⟩
 have he:strKeys (.map es)=es.map fun p=>strOf p.1:=rfl
 rw [he]
 refine ⟨?nd,fun x=>?mm⟩
 case nd =>
  refine List.pairwise_map.2 (hpw.imp_of_mem fun {p q} hp hq hne e=>hne ?_)
  obtain ⟨a,ha⟩:=hk p hp
  obtain ⟨c,hc⟩:=hk q hq
  rw [ha,hc] at e ⊢
  exact congrArg _ e
 case mm =>
  rw [has_eq,List.any_eq_true,List.mem_map]
  constructor
  ·rintro ⟨p,hp,rfl⟩
   obtain ⟨a,ha⟩:=hk p hp
   exact ⟨p,hp,by rw [ha];simp [Lit.sameKey,strOf]⟩
  ·rintro ⟨p,hp,hs⟩
   obtain ⟨a,ha⟩:=hk p hp
   rw [ha] at hs
   exact ⟨p,hp,by rw [ha];simpa [Lit.sameKey,strOf] using hs⟩
theorem kL_nB (x:List UInt8):kL (nB x)=.string x:=by
 unfold kL
 rw [str_nB]
theorem placeF_isSome {l:List Rec} {k:List Int}:(placeF l k).isSome=true ↔ ∃ r ∈ l,r.key=k:=by
 constructor
 ·intro h
  obtain ⟨i,hi⟩:=Option.isSome_iff_exists.1 h
  obtain ⟨h1,h2,_⟩:=placeF_some hi
  exact ⟨_,getR_mem h1,h2⟩
 ·rintro ⟨r,hr,rfl⟩
  obtain ⟨j,hj,rfl⟩:=List.mem_iff_getElem.1 hr
  obtain ⟨q,hq,_⟩:=placeF_at (l:=l) j hj
  have e:l.getD j Rec.none=l[j]:=by rw [List.getD_eq_getElem?_getD,List.getElem?_eq_getElem hj];rfl
  rw [e] at hq
  rw [hq]
  rfl
theorem rising_own (b n N:Nat) (l:List Rec) (w:World) (h:PlAt w b n N (placeF l)) (hn:n≤100000) (ho:∀ r ∈ l,Octets r.key) :
  Calls Try.prog 22 #[.map (some b)] w fun e w'=>∃ v,e=.returned v∧OnesSoFar strV 9 w ((byKeyF l).map Rec.key) v w':=by
 obtain ⟨D,hown,hD⟩:=h
 refine (rising_data b n D (idxE N) w hown (by omega)).mono ?_
 rintro e w' ⟨v,ss,rfl,hp,hrow,hb⟩
 obtain ⟨c1,c2⟩:=strKeys_chars hown
 have hnd:ss.Nodup:=hp.nodup_iff.2 c1
 have hm:∀ x,x ∈ ss ↔ ∃ r ∈ l,r.key=nB x:=fun x=>by
  rw [hp.mem_iff,c2,← kL_nB,(hD (nB x) (nB_oct x)).1,placeF_isSome]
 have he:=keys_sorted l ss hnd hm ho
 have hl:((byKeyF l).map Rec.key).length=ss.length:=by
  rw [← he,List.length_map]
  exact (List.mergeSort_perm ss _).length_eq
 have hv:((byKeyF l).map Rec.key).map strV=(ss.mergeSort (fun x y=>decide (x≤y))).map encStr:=by
  rw [← he,List.map_map]
  apply List.map_congr_left
  intro x _
  show Value.string (strOfNums (nB x))=encStr x
  rw [str_nB]
 refine ⟨v,rfl,?_,hb⟩
 rw [hl,hv]
 exact hrow
set_option maxHeartbeats 2000000 in
set_option maxRecDepth 10000 in
theorem fokeys_ok:FoKeysOk:=⟨fun p n c l w hi hn=>by
 have HPl:=hid (places_own p n c l w hi (by omega))
 have HI:=hid hi
 clear hi
 have HRi:=hid (fun w' (h:PlAt w' w.heap.size n n (placeF l))=>rising_own w.heap.size n n l w' h (by omega) (fun r hr=>(HI.out.fine r hr).key))
 go_enter Try.func10,Try.ntmps10
 go_wp2_with fail
 refine HPl.out.mono ?_
 rintro e w1 ⟨rfl,hpl,hk1⟩
 have HC:=hid (HRi.out w1 hpl)
 have HK:=hid hk1
 clear hpl hk1 HPl
 go_wp2_with fail
 refine HC.out.mono ?_
 rintro e w2 ⟨v,rfl,hnew⟩
 have HN:=hid hnew
 clear hnew HC
 go_wp2_with fail
 go_ret
 obtain ⟨q,m,d,h1,h2,h3,h4,h5,h6,h7⟩:=HN.out.new (dd:=([]:List Int))
 exact ⟨v,rfl,q,m,d,h1,h2,h3,h4,h5,h6,HK.out.trans h7⟩⟩
end
end Go.Proofs.Ytbmhdfjaakkoaaa

/-
  Mem; CurA; CurB; CurC; BufA; BufB.
-/
import Derived.Test.YtehkjkcnigknkaaGreatRows
import Derived.WalkKit
import Derived.WalkLawsBesides
import Derived.WalkSpells
import Derived.Handy
import Derived.OneCell
import Derived.Deep.Draws
import Derived.Lib.Hide
import Derived.Recover
import Derived.Defers
import Derived.BigQuiet
import Derived.Deep.QuietTactic
import Derived.Laws.AppendOwnNone
import Derived.Laws.BytesArg
import Derived.Test.YtehkjkcnigknkaaGreatV01
namespace Go.Proofs.YtehkjkcnigknkaaGreat
open Lib (hid)
section
open Go.RowKit
structure Keeps (S:Nat→Prop) (w w':World):Prop where
 os:w'.os=w.os
 tape:w'.tape=w.tape
 output:w'.output=w.output
 size:w.heap.size≤w'.heap.size
 block:∀ k,k<w.heap.size→¬ S k→w'.heap[k]?=w.heap[k]?
def NoBlock:Nat→Prop:=fun _=>False
def Just (g:Nat):Nat→Prop:=fun k=>k=g
theorem Keeps.refl (S:Nat→Prop) (w:World):Keeps S w w:=⟨rfl,rfl,rfl,Nat.le_refl _,fun _ _ _=>rfl⟩
theorem Keeps.wider {S S':Nat→Prop} {w w':World} (h:Keeps S w w') (hs:∀ k,k<w.heap.size→S k→S' k):Keeps S' w w' :=
 ⟨h.os,h.tape,h.output,h.size,fun k hk hn=>h.block k hk fun hS=>hn (hs k hk hS)⟩
theorem Keeps.trans {S:Nat→Prop} {a b c:World} (h:Keeps S a b) (g:Keeps S b c):Keeps S a c :=
 ⟨g.os.trans h.os,g.tape.trans h.tape,g.output.trans h.output,Nat.le_trans h.size g.size,fun k hk hn=>(g.block k (Nat.lt_of_lt_of_le hk h.size) hn).trans (h.block k hk hn)⟩
theorem Keeps.then {S S':Nat→Prop} {a b c:World} (h:Keeps S a b) (g:Keeps S' b c) (hs:∀ k,k<a.heap.size→S' k→S k):Keeps S a c :=
 ⟨g.os.trans h.os,g.tape.trans h.tape,g.output.trans h.output,Nat.le_trans h.size g.size,fun k hk hn=>(g.block k (Nat.lt_of_lt_of_le hk h.size) fun hS=>hn (hs k hk hS)).trans (h.block k hk hn)⟩
theorem Keeps.drewN {S:Nat→Prop} {a b:World} (h:Keeps S a b) (n:Nat):Keeps S a (b.drewN n):=⟨h.os,h.tape,h.output,h.size,h.block⟩
theorem Keeps.drew {S:Nat→Prop} {a b:World} (h:Keeps S a b):Keeps S a b.drew:=⟨h.os,h.tape,h.output,h.size,h.block⟩
theorem Keeps.alloc {S:Nat→Prop} {a b:World} (h:Keeps S a b) (o:Obj):Keeps S a (b.alloc o) :=
 ⟨h.os,h.tape,h.output,Nat.le_trans h.size (by simp),fun k hk hn=>(Below.heap_alloc b o k (Nat.lt_of_lt_of_le hk h.size)).trans (h.block k hk hn)⟩
theorem Keeps.set {S:Nat→Prop} {a b:World} (h:Keeps S a b) {p:Addr} (hp:S p.block ∨ a.heap.size≤p.block) (v:Value):Keeps S a (b.setCell p v) :=
 ⟨h.os,h.tape,h.output,by simpa using h.size,fun k hk hn=>(Below.heap_setCell b p v k (by intro e;subst e;rcases hp with hp|hp;exact hn hp;omega)).trans (h.block k hk hn)⟩
theorem Keeps.setIn {S:Nat→Prop} {a b:World} (h:Keeps S a b) {g:Nat} (hg:S g) (i:Nat) (v:Value):Keeps S a (b.setCell ⟨g,i,none⟩ v):=h.set (.inl hg) v
theorem Keeps.setNew {S:Nat→Prop} {a b:World} (h:Keeps S a b) {g:Nat} (hg:a.heap.size≤g) (i:Nat) (v:Value):Keeps S a (b.setCell ⟨g,i,none⟩ v):=h.set (.inr hg) v
theorem Keeps.ofDrew {S:Nat→Prop} {a b:World} (h:Keeps S a.drew b):Keeps S a b:=⟨h.os,h.tape,h.output,h.size,h.block⟩
theorem Keeps.ofDrewN {S:Nat→Prop} {a b:World} {n:Nat} (h:Keeps S (a.drewN n) b):Keeps S a b:=⟨h.os,h.tape,h.output,h.size,h.block⟩
theorem Just.self (g:Nat):Just g g:=rfl
theorem Keeps.below {S:Nat→Prop} {a b:World} (h:Keeps S a b) {B:Nat} (hB:B≤a.heap.size) (hs:∀ k,k<B→¬ S k):Below B a b :=
 ⟨h.os,h.tape,h.output,h.size,fun k hk=>h.block k (Nat.lt_of_lt_of_le hk hB) (hs k hk)⟩
theorem Keeps.ofBelow {S:Nat→Prop} {a b:World} (h:Below a.heap.size a b):Keeps S a b:=⟨h.os,h.tape,h.output,h.size,fun k hk _=>h.block k hk⟩
def Whole (w:World) (g:Nat) (t:TypeId) (cs:Array Value):Prop:=w.heap[g]?=some (.cells cs t (0,0))
theorem Whole.lt {w:World} {g:Nat} {t:TypeId} {cs:Array Value} (h:Whole w g t cs):g<w.heap.size:=lt_of_block h
theorem Whole.cell {w:World} {g:Nat} {t:TypeId} {cs:Array Value} (h:Whole w g t cs) (i:Nat) {v:Value} (hv:cs[i]?=some v):w.cell? ⟨g,i,none⟩=some v:=by
 unfold World.cell?
 simp only [show w.heap[g]?=_ from h]
 simpa using hv
theorem Whole.free {w:World} {g:Nat} {t:TypeId} {cs:Array Value} (h:Whole w g t cs) (i:Nat):w.frozen? ⟨g,i,none⟩=false:=by
 unfold World.frozen?
 simp only [show w.heap[g]?=_ from h]
 simp
theorem Whole.set {w:World} {g:Nat} {t:TypeId} {cs:Array Value} (h:Whole w g t cs) (i:Nat) (v:Value):Whole (w.setCell ⟨g,i,none⟩ v) g t (cs.setIfInBounds i v):=by
 have hlt:=h.lt
 have h':w.heap[g]=.cells cs t (0,0):=by
  have e:=h
  unfold Whole at e
  rw [Array.getElem?_eq_getElem hlt] at e
  exact Option.some.inj e
 show (w.heap.modify g _)[g]?=_
 rw [Array.getElem?_eq_getElem (by simpa using hlt),Array.getElem_modify_self,h']
 rfl
theorem Whole.setOther {w:World} {g:Nat} {t:TypeId} {cs:Array Value} (h:Whole w g t cs) {p:Addr} (hp:g ≠ p.block) (v:Value):Whole (w.setCell p v) g t cs :=
 (Below.heap_setCell w p v g hp).trans h
theorem Whole.alloc {w:World} {g:Nat} {t:TypeId} {cs:Array Value} (h:Whole w g t cs) (o:Obj):Whole (w.alloc o) g t cs:=(Below.heap_alloc w o g h.lt).trans h
theorem Whole.drewN {w:World} {g:Nat} {t:TypeId} {cs:Array Value} (h:Whole w g t cs) (n:Nat):Whole (w.drewN n) g t cs:=h
theorem Whole.keep {w w':World} {g:Nat} {t:TypeId} {cs:Array Value} (h:Whole w g t cs) {S:Nat→Prop} (hk:Keeps S w w') (hs:¬ S g):Whole w' g t cs :=
 (hk.block g h.lt hs).trans h
theorem Whole.new (w:World) (t:TypeId) (cs:Array Value):Whole (w.alloc (.cells cs t)) w.heap.size t cs:=by
 show (w.heap.push _)[w.heap.size]?=_
 simp
theorem Whole.newAt (w:World) (t:TypeId) (cs:Array Value) (g:Nat) (hg:g=w.heap.size):Whole (w.alloc (.cells cs t)) g t cs:=by
 subst hg;exact Whole.new w t cs
theorem Whole.unique {w:World} {g:Nat} {t t':TypeId} {cs cs':Array Value} (h:Whole w g t cs) (h':Whole w g t' cs'):t=t'∧cs=cs':=by
 have e:=h.symm.trans h'
 simp at e
 exact ⟨e.2,e.1⟩
def Bytes8 (w:World) (p:Option Addr) (xs:List Int):Prop:=0<xs.length→∃ a,p=some a∧∀ i,i<xs.length→w.cell? (a.add i)=some (.int .u8 (xs.getD i 0))
theorem addBlock (a:Addr) (n:Nat):(a.add n).block=a.block:=by unfold Addr.add;split <;> rfl
theorem addAdd (a:Addr) (i j:Nat):(a.add i).add j=a.add (i+j):=by
 unfold Addr.add
 by_cases hi:i=0 <;> by_cases hj:j=0 <;> simp [hi,hj,Nat.add_assoc]
theorem cellOfBlock {w w':World} {a:Addr} (h:w'.heap[a.block]?=w.heap[a.block]?):w'.cell? a=w.cell? a:=by
 unfold World.cell?;rw [h]
theorem ltOfCell {w:World} {a:Addr} {v:Value} (h:w.cell? a=some v):a.block<w.heap.size:=by
 rcases Nat.lt_or_ge a.block w.heap.size with hl|hl
 ·exact hl
 ·unfold World.cell? at h
  rw [Array.getElem?_eq_none hl] at h
  simp at h
theorem Keeps.cell {S:Nat→Prop} {w w':World} (hk:Keeps S w w') {a:Addr} {v:Value} (h:w.cell? a=some v) (hs:¬ S a.block):w'.cell? a=some v :=
 (cellOfBlock (hk.block _ (ltOfCell h) hs)).trans h
theorem Bytes8.keep {w w':World} {p:Option Addr} {xs:List Int} (h:Bytes8 w p xs) {S:Nat→Prop} (hk:Keeps S w w') (hs:∀ a,p=some a→¬ S a.block):Bytes8 w' p xs:=by
 intro hx
 obtain ⟨a,rfl,hc⟩:=h hx
 exact ⟨a,rfl,fun i hi=>hk.cell (hc i hi) (by rw [addBlock];exact hs a rfl)⟩
theorem Bytes8.keepPos {w w':World} {p:Option Addr} {xs:List Int} (h:Bytes8 w p xs) {S:Nat→Prop} (hk:Keeps S w w') (hs:0<xs.length→∀ a,p=some a→¬ S a.block):Bytes8 w' p xs:=by
 intro hx
 obtain ⟨a,rfl,hc⟩:=h hx
 exact ⟨a,rfl,fun i hi=>hk.cell (hc i hi) (by rw [addBlock];exact hs hx a rfl)⟩
theorem Bytes8.nil (w:World) (p:Option Addr):Bytes8 w p []:=fun h=>absurd h (by simp)
theorem Bytes8.piece {w:World} {p q:Option Addr} {xs:List Int} (h:Bytes8 w p xs) (a n:Nat) (hn:a+n≤xs.length) (hq:0<n→q=p.map (·.add a)):Bytes8 w q ((xs.drop a).take n):=by
 intro hx
 have hl:((xs.drop a).take n).length=n:=by simp;omega
 rw [hl] at hx ⊢
 obtain ⟨ad,rfl,hc⟩:=h (by omega)
 refine ⟨ad.add a,hq hx,fun i hi=>?_⟩
 rw [addAdd,hc (a+i) (by omega)]
 congr 2
 simp [List.getD,hi,List.getElem?_drop]
theorem addZero (g i:Nat):Addr.add ⟨g,0,none⟩ i=⟨g,i,none⟩:=by unfold Addr.add;split <;> simp_all
theorem Whole.bytes {w:World} {g:Nat} {t:TypeId} {cs:Array Value} (h:Whole w g t cs) (xs:List Int) (hc:∀ i,i<xs.length→cs[i]?=some (.int .u8 (xs.getD i 0))):Bytes8 w (some ⟨g,0,none⟩) xs :=
 fun _=>⟨_,rfl,fun i hi=>by rw [addZero];exact h.cell i (hc i hi)⟩
end
section
open Go.RowKit
theorem within_at (k:Nat) (o:Bool) (w:World) (h:w.cell? ⟨k,2,none⟩=some (.bool o)):Calls Tryz.prog 201 #[.pointer (some ⟨k,0,none⟩)] w fun e w'=>e=.returned (.bool o)∧w=w':=by
 go_enter Tryz.func201,Tryz.ntmps201
 go_wp2
 go_ret
 exact ⟨rfl,rfl⟩
def CurB (w:World) (k:Nat) (p:Option Addr) (N c a:Nat) (o:Bool) (y:Int):Prop:=Whole w k 239 #[.slice p N c,.int .i64 a,.bool o,.int .i64 y]
theorem CurB.step {w:World} {k:Nat} {p:Option Addr} {N c a n:Nat} {o:Bool} {y:Int} (h:CurB w k p N c a o y) (m q:Nat) :
  CurB (((w.drewN m).setCell ⟨k,1,none⟩ (.int .i64 ((a:Int)+(n:Int)))).drewN q) k p N c (a+n) o y:=by
 have g:=Whole.set (Whole.drewN h m) 1 (.int .i64 ((a:Int)+(n:Int)))
 unfold CurB
 rw [show ((a+n:Nat):Int)=(a:Int)+(n:Int) by omega]
 exact g
theorem left_at (k:Nat) (p:Option Addr) (N c a:Nat) (y:Int) (w:World) (h:CurB w k p N c a true y) (hn:a≤N) (hc:(N:Int)≤9223372036854775807) :
  Calls Tryz.prog 178 #[.pointer (some ⟨k,0,none⟩)] w fun e w'=>e=.returned (.int .i64 (N - a))∧∃ m,w'=w.drewN m:=by
 have h0:=Whole.cell h 0 rfl
 have h1:=Whole.cell h 1 rfl
 have h2:=Whole.cell h 2 rfl
 clear h
 go_enter Tryz.func178,Tryz.ntmps178
 go_wp2_with (go_at_call 201;refine (within_at _ true _ h2).mono ?_;rintro e w' ⟨rfl,rfl⟩)
 go_quiet (fail)
 go_wp2
 go_ret
 exact ⟨rfl,_,rfl⟩
def given (k:Nat):List PanicEntry:=[{ v:=.iface 241 (.agg #[.pointer (some ⟨k,0,none⟩)]),recovered:=false }]
theorem stop_first (k:Nat) (p:Option Addr) (N c a:Nat) (y:Int) (w:World) (h:CurB w k p N c a true 0) :
  Calls Tryz.prog 202 #[.pointer (some ⟨k,0,none⟩),.int .i64 y] w fun e w'=>e=.panicked (given k)∧CurB w' k p N c a true y∧Keeps (Just k) w w':=by
 have h3:=Whole.cell h 3 rfl
 have f3:=Whole.free h 3
 have H:=hid h;clear h
 go_enter Tryz.func202,Tryz.ntmps202
 go_wp2
 exact ⟨rfl,rfl,Whole.set H.out 3 _,(Keeps.refl _ _).setIn (Just.self k) _ _⟩
def From (p:Option Addr) (a n:Nat) (v:Value):Prop:=∃ q c,v=.slice q n c∧(0<n→q=p.map (·.add a))
def NextOk (k:Nat) (p:Option Addr) (N c a n:Nat) (w:World) (e:Ending) (w':World):Prop :=
 ∃ v,e=.returned v∧From p a n v∧CurB w' k p N c (a+n) true 0∧Keeps (Just k) w w'
theorem next_at (k:Nat) (p:Option Addr) (N c a n:Nat) (z:Int) (hz:z=n) (w:World) (h:CurB w k p N c a true 0) (hn:a+n≤N) (hN:N≤c) (hc:c≤9223372036854775807) :
  Calls Tryz.prog 200 #[.pointer (some ⟨k,0,none⟩),.int .i64 z] w (NextOk k p N c a n w):=by
 subst hz
 have hg:¬ ((N:Int) - a<n):=by omega
 have h0:=Whole.cell h 0 rfl
 have h1:=Whole.cell h 1 rfl
 have h2:=Whole.cell h 2 rfl
 have h3:=Whole.cell h 3 rfl
 have f1:=Whole.free h 1
 have H:=hid h;clear h
 go_enter Tryz.func200,Tryz.ntmps200
 go_wp2_with (first|(go_at_call 201;refine (within_at _ true _ h2).mono ?_;rintro e w' ⟨rfl,rfl⟩)|(go_at_call 178;refine (left_at k p N c a 0 _ H.out (by omega) (by omega)).mono ?_;rintro e w' ⟨rfl,m,rfl⟩))
 go_quiet (fail)
 go_wp2
 all_goals
  go_ret
  refine ⟨_,rfl,?_,?_,(((Keeps.refl _ _).drewN _).setIn (Just.self k) _ _).drewN _⟩
  ·first|exact ⟨_,_,rfl,fun _=>rfl⟩|exact ⟨_,_,rfl,fun _=>by omega⟩
  ·first|exact CurB.step H.out _ _|(obtain rfl:c=a:=(by assumption);exact CurB.step H.out _ _)
theorem next_short (k:Nat) (p:Option Addr) (N c a:Nat) (n:Int) (w:World) (h:CurB w k p N c a true 0) (hn:a≤N) (hs:(N:Int)<a+n) (hc:N≤9223372036854775807) :
  Calls Tryz.prog 200 #[.pointer (some ⟨k,0,none⟩),.int .i64 n] w fun e w'=>e=.panicked (given k)∧CurB w' k p N c a true 2∧Keeps (Just k) w w':=by
 have hg:((N:Int) - a<n):=by omega
 have h2:=Whole.cell h 2 rfl
 have h3:=Whole.cell h 3 rfl
 have H:=hid h;clear h
 go_enter Tryz.func200,Tryz.ntmps200
 go_wp2_with (first|(go_at_call 201;refine (within_at _ true _ h2).mono ?_;rintro e w' ⟨rfl,rfl⟩)|(go_at_call 178;refine (left_at k p N c a 0 _ H.out (by omega) (by omega)).mono ?_;rintro e w' ⟨rfl,m,rfl⟩))
 refine (stop_first k p N c a 2 _ (Whole.drewN H.out m)).mono ?_
 rintro e w' ⟨rfl,hcur,hk⟩
 exact ⟨rfl,rfl,hcur,((Keeps.refl _ _).drewN m).trans hk⟩
end
section
open Go.RowKit
set_option maxHeartbeats 400000 in
theorem number_any (p:Option Addr) (n c:Nat) (xs:List Int) (w:World) (hn:n=xs.length) (hx:xs.length≤8) (h:Bytes8 w p xs) (hb:Octets xs) :
  Calls Tryz.prog 199 #[.slice p n c] w fun e w'=>e=.returned (.int .u64 (le xs))∧w=w':=by
 have HN:=hid hn
 have HB:=hid hb
 have H:=hid h
 have h8:n≤8:=by omega
 clear hn h hb hx
 go_enter Tryz.func199,Tryz.ntmps199
 go_wp2
 go_loop [3,8] (fun x i=>∃ k:Nat,k≤n∧i=.int .i64 k∧x=.int .u64 (le (xs.take k))) (fun _ i=>n - (intOf i).toNat)
 case atStart=>exact ⟨0,Nat.zero_le _,rfl,rfl⟩
 case round =>
  obtain ⟨k,hk,rfl,rfl⟩:=hrel
  by_cases hlt:k<n
  ·obtain ⟨a,ha,hc⟩:=H.out (by rw [← HN.out];omega)
   have hc:=hc k (by rw [← HN.out];exact hlt)
   subst ha
   go_wp2
   go_round
   case rel =>
    have hl:(xs.take k).length=k:=by have:=HN.out;simp;omega
    have hbd:=le_bound _ (HB.out.take k)
    rw [hl] at hbd
    have hy:=HB.out.getD k
    refine ⟨k+1,by omega,by go_num,?_⟩
    have hs:=le_snoc (xs.take k) (xs.getD k 0)
    rw [hl] at hs
    rw [take_succ_getD xs k (by have:=HN.out;omega),hs]
    have ho:=or_byte (le (xs.take k)) (xs.getD k 0) k (by omega) hbd.1 hbd.2 hy.1 hy.2
    rw [← ho]
    simp
   case measure=>simp [intOf];omega
  ·go_wp2
   go_ret
   have hkn:xs.take k=xs:=List.take_of_length_le (by have:=HN.out;omega)
   exact ⟨by rw [hkn];rfl,rfl⟩
theorem le_one (xs:List Int) (h:xs.length=1):le xs=xs.getD 0 0:=by
 match xs,h with
 | [b],_=>simp [le]
def NumOk (k:Nat) (p:Option Addr) (N c a n:Nat) (v:Value) (w:World) (e:Ending) (w':World):Prop :=
 e=.returned v∧CurB w' k p N c (a+n) true 0∧Keeps (Just k) w w'
theorem piece_of {k:Nat} {p:Option Addr} {xs:List Int} {a n:Nat} {w w':World} {v:Value} (hf:From p a n v) (hb:Bytes8 w p xs) (hn:a+n≤xs.length) (hk:Keeps (Just k) w w') (hp:0<xs.length→∀ q,p=some q→q.block ≠ k) :
  ∃ q c,v=.slice q n c∧Bytes8 w' q ((xs.drop a).take n):=by
 obtain ⟨q,c,rfl,hq⟩:=hf
 exact ⟨q,c,rfl,(hb.keepPos hk fun h0 r hr=>hp h0 r hr).piece a n hn hq⟩
theorem byte_at (k:Nat) (p:Option Addr) (xs:List Int) (N c a:Nat) (w:World) (hx:N=xs.length) (h:CurB w k p N c a true 0) (hb:Bytes8 w p xs) (ho:Octets xs) (hp:0<xs.length→∀ q,p=some q→q.block ≠ k)
  (hn:a+1≤N) (hN:N≤c) (hc:c≤9223372036854775807) :
  Calls Tryz.prog 174 #[.pointer (some ⟨k,0,none⟩)] w (NumOk k p N c a 1 (.int .u8 (xs.getD a 0)) w):=by
 subst hx
 have H:=hid h;have HB:=hid hb;have HO:=hid ho;have HP:=hid hp
 clear h hb ho hp
 have hy:=HO.out.getD a
 go_enter Tryz.func174,Tryz.ntmps174
 go_wp2_with fail
 refine (next_at k p xs.length c a 1 1 rfl _ H.out hn hN hc).mono ?_
 rintro e w1 ⟨v,rfl,hf,hcur,hk⟩
 obtain ⟨q,c',rfl,hq⟩:=piece_of hf HB.out hn hk HP.out
 have HK:=hid hk;have HC:=hid hcur;have HQ:=hid hq
 clear hf hk hcur hq
 go_wp2_with fail
 refine (number_any q 1 c' _ _ (by simp;omega) (by simp;omega) HQ.out ((HO.out.drop _).take _)).mono ?_
 rintro e w2 ⟨rfl,rfl⟩
 have hl:le ((xs.drop a).take 1)=xs.getD a 0:=by
  rw [le_one _ (by simp;omega)]
  simp
 rw [hl]
 go_wp2_with fail
 go_ret
 simp only [List.getD_eq_getElem?_getD] at hy
 exact ⟨by simp only [Array.getD];simp;omega,HC.out,HK.out⟩
theorem byte_short (k:Nat) (p:Option Addr) (N c a:Nat) (w:World) (h:CurB w k p N c a true 0) (hn:a≤N) (hs:N<a+1) (hc:N≤9223372036854775807) :
  Calls Tryz.prog 174 #[.pointer (some ⟨k,0,none⟩)] w fun e w'=>e=.panicked (given k)∧CurB w' k p N c a true 2∧Keeps (Just k) w w':=by
 have H:=hid h;clear h
 go_enter Tryz.func174,Tryz.ntmps174
 go_wp2_with fail
 refine (next_short k p N c a 1 _ H.out hn (by omega) hc).mono ?_
 rintro e w' ⟨rfl,hcur,hk⟩
 exact ⟨rfl,rfl,hcur,hk⟩
theorem eight_at (k:Nat) (p:Option Addr) (xs:List Int) (N c a:Nat) (w:World) (hx:N=xs.length) (h:CurB w k p N c a true 0) (hb:Bytes8 w p xs) (ho:Octets xs) (hp:0<xs.length→∀ q,p=some q→q.block ≠ k)
  (hn:a+8≤N) (hN:N≤c) (hc:c≤9223372036854775807) :
  Calls Tryz.prog 172 #[.pointer (some ⟨k,0,none⟩)] w (NumOk k p N c a 8 (.int .u64 (le ((xs.drop a).take 8))) w):=by
 subst hx
 have H:=hid h;have HB:=hid hb;have HO:=hid ho;have HP:=hid hp
 clear h hb ho hp
 have hy:=HO.out.getD a
 go_enter Tryz.func172,Tryz.ntmps172
 go_wp2_with fail
 refine (next_at k p xs.length c a 8 8 rfl _ H.out hn hN hc).mono ?_
 rintro e w1 ⟨v,rfl,hf,hcur,hk⟩
 obtain ⟨q,c',rfl,hq⟩:=piece_of hf HB.out hn hk HP.out
 have HK:=hid hk;have HC:=hid hcur;have HQ:=hid hq
 clear hf hk hcur hq
 go_wp2_with fail
 refine (number_any q 8 c' _ _ (by simp;omega) (by simp;omega) HQ.out ((HO.out.drop _).take _)).mono ?_
 rintro e w2 ⟨rfl,rfl⟩
 have hl:((xs.drop a).take 8).length=8:=by simp;omega
 have hbd:=le_bound ((xs.drop a).take 8) ((HO.out.drop _).take _)
 rw [hl] at hbd
 obtain ⟨z,hz⟩:∃ z,z=le ((xs.drop a).take 8):=⟨_,rfl⟩
 rw [← hz] at hbd ⊢
 have HZ:=hid hz
 clear hz hl
 go_wp2_with fail
 go_ret
 refine ⟨?_,HC.out,HK.out⟩
 rw [← HZ.out]
 simp only [Array.getD];simp;try omega
theorem eight_short (k:Nat) (p:Option Addr) (N c a:Nat) (w:World) (h:CurB w k p N c a true 0) (hn:a≤N) (hs:N<a+8) (hc:N≤9223372036854775807) :
  Calls Tryz.prog 172 #[.pointer (some ⟨k,0,none⟩)] w fun e w'=>e=.panicked (given k)∧CurB w' k p N c a true 2∧Keeps (Just k) w w':=by
 have H:=hid h;clear h
 go_enter Tryz.func172,Tryz.ntmps172
 go_wp2_with fail
 refine (next_short k p N c a 8 _ H.out hn (by omega) hc).mono ?_
 rintro e w' ⟨rfl,hcur,hk⟩
 exact ⟨rfl,rfl,hcur,hk⟩
end
section
open Go.RowKit
theorem infoByte:(Tryz.prog.info? 5).map (fun i=>(i.zero,i.size,i.bytes))=some (some (.int .u8 0),1,1):=by kernel_rfl
def Fresh8 (S:Nat→Prop) (n:Nat) (xs:List Int) (w:World) (v:Value) (w':World):Prop :=
 ∃ q c,v=.slice q n c∧n≤c∧c≤maxLen∧Bytes8 w' q xs∧(∀ a,q=some a→w.heap.size≤a.block∧a.block<w'.heap.size)∧Keeps S w w'
theorem fresh_of_own {S:Nat→Prop} {w w':World} {v:Value} {n:Nat} {xs:List Int} (hn:n=xs.length) (hown:w'.ownsRow w.heap.size 5 1 v n (xs.map (Value.int .u8))) (hb:Below w.heap.size w w'):Fresh8 S n xs w v w':=by
 rcases hown with ⟨hl,⟨rfl,rfl⟩|⟨g,cap,cur,rfl,hg,hh,hc1,hc2,hc3,hc4⟩⟩
 ·exact ⟨none,0,rfl,Nat.le_refl _,Nat.zero_le _,fun h=>by omega,fun a h=>by simp at h,.ofBelow hb⟩
 ·refine ⟨_,cap,rfl,hc1,hc2,fun hx=>⟨_,rfl,fun i hi=>?_⟩,fun a ha=>?_,.ofBelow hb⟩
  ·have hw:Whole w' g 5 cur:=hh
   have hcell:cur[i]?=some (.int .u8 (xs.getD i 0)):=by
    have e:(cur.toList.take (n*1))[i]?=(xs.map (Value.int .u8))[i]?:=by rw [hc4]
    rw [List.getElem?_take,if_pos (by omega)] at e
    rw [← Array.getElem?_toList,e]
    simp [hi]
   have:=hw.cell i hcell
   have e:Addr.add ⟨g,0,none⟩ i=⟨g,i,none⟩:=by unfold Addr.add;split <;> simp_all
   rw [e]
   exact this
  ·obtain rfl:=Option.some.inj ha
   exact ⟨hg,lt_of_block hh⟩
set_option maxHeartbeats 800000 in
theorem clone_some (a:Addr) (n c:Nat) (xs:List Int) (w:World) (hx:n=xs.length) (hbig:n≤140737488355328) (hc:Bytes8 w (some a) xs) :
  Calls Tryz.prog 110 #[.slice (some a) n c] w fun e w'=>∃ v,e=.returned v∧Fresh8 NoBlock n xs w v w':=by
 obtain ⟨i0,hi,hz0,hz1,hz2⟩:=info_parts infoByte
 have q22:∀ (w:World) (a:Option Addr) (n c n' c':Nat),(binOp .eql 29 (.slice a n c) (.slice none n' c')).run Tryz.prog w=.ok (.bool a.isNone) w:=fun w a n c n' c'=>Lib.run_eql_slice_nil w _ _ a n c n' c' Tryz.underlying29
 have u22:∀ w,Sem.run Tryz.prog (underlying 29) w=.ok (TypeDesc.slice 5) w:=run_underlying Tryz.underlying29
 have z5:∀ w,Sem.run Tryz.prog (Go.sizeOf 5) w=.ok 1 w:=fun w=>by simp [Go.sizeOf,typeInfo,hi,hz1]
 have HX:=hid hx;have HC:=hid hc
 clear hx hc
 go_enter Tryz.func110,Tryz.ntmps110
 go_wp2_with (at_builtin;refine wpList_append_own _ rfl _ _ 29 rfl w.heap.size 5 i0 (.int .u8 0) 1 1 Tryz.underlying29 hi hz0 hz1 hz2 rfl (by decide) _ _ _ rfl (World.ownsRow_made w #[] 0 (Nat.le_refl _) (Nat.zero_le _) rfl) a n c (xs.map (Value.int .u8)) rfl ?qc1 ?qc2 ?qc3 ?qc4 ?qc5 ?qc6 ?_)
 case qc1=>have:=HX.out;simp;omega
 case qc2 =>
  intro j u hj
  have hjn:j<xs.length:=by
   have:=(List.getElem?_eq_some_iff.1 hj).1
   simpa using this
  obtain ⟨a',ha',hcell⟩:=HC.out (by omega)
  obtain rfl:=Option.some.inj ha'
  refine Lib.cell?_alloc_some _ ?_
  rw [hcell j hjn]
  have e:(xs.map (Value.int .u8))[j]?=some (Value.int .u8 (xs.getD j 0)):=by simp [List.getElem?_eq_getElem hjn]
  rw [e] at hj
  exact hj
 case qc3=>intro u hu;obtain ⟨x,_,rfl⟩:=List.mem_map.1 hu;rfl
 case qc4=>unfold maxLen;omega
 case qc5=>omega
 case qc6=>simp
 intro v' w1 hown hgrow hnil
 have hbel:Below w.heap.size w w1:=((Below.refl _ w).alloc (Nat.le_refl _) _).grown hgrow (by simp) (by intro k hk;simp [Value.ownBlock] at hk;omega)
 have HF:=hid (fresh_of_own (S:=NoBlock) HX.out (by simpa using hown) hbel)
 clear hown hgrow hnil hbel
 go_wp2
 go_ret
 exact ⟨v',rfl,HF.out⟩
theorem clone_nil (n c:Nat) (w:World):Calls Tryz.prog 110 #[.slice none n c] w fun e w'=>e=.returned (.slice none 0 0)∧w=w':=by
 have q22:∀ (w:World) (a:Option Addr) (n c n' c':Nat),(binOp .eql 29 (.slice a n c) (.slice none n' c')).run Tryz.prog w=.ok (.bool a.isNone) w:=fun w a n c n' c'=>Lib.run_eql_slice_nil w _ _ a n c n' c' Tryz.underlying29
 go_enter Tryz.func110,Tryz.ntmps110
 go_wp2
 go_ret
 exact ⟨rfl,rfl⟩
theorem fresh_nil (w:World):Fresh8 NoBlock 0 [] w (.slice none 0 0) w :=
 ⟨none,0,rfl,Nat.le_refl _,Nat.zero_le _,Bytes8.nil _ _,fun a h=>by simp at h,Keeps.refl _ _⟩
theorem clone_any (q:Option Addr) (n c:Nat) (xs:List Int) (w:World) (hx:n=xs.length) (hbig:n≤140737488355328) (hc:Bytes8 w q xs) :
  Calls Tryz.prog 110 #[.slice q n c] w fun e w'=>∃ v,e=.returned v∧Fresh8 NoBlock n xs w v w':=by
 cases q with
 | some a=>exact clone_some a n c xs w hx hbig hc
 | none =>
  have h0:xs.length=0:=by
   rcases Nat.eq_zero_or_pos xs.length with h|h
   ·exact h
   ·obtain ⟨a,ha,_⟩:=hc h
    simp at ha
  have hn:n=0:=by omega
  have hx0:xs=[]:=List.length_eq_zero_iff.1 h0
  subst hx0;subst hn
  refine (clone_nil 0 c w).mono ?_
  rintro e w' ⟨rfl,rfl⟩
  exact ⟨_,rfl,fresh_nil w⟩
theorem Fresh8.after {S S':Nat→Prop} {n:Nat} {xs:List Int} {w w1 w2:World} {v:Value} (h:Fresh8 S' n xs w1 v w2) (hk:Keeps S w w1) (hs:∀ k,S' k→S k):Fresh8 S n xs w v w2:=by
 obtain ⟨q,c,rfl,h1,h2,h3,h4,h5⟩:=h
 exact ⟨q,c,rfl,h1,h2,h3,fun a ha=>⟨Nat.le_trans hk.size (h4 a ha).1,(h4 a ha).2⟩,hk.then h5 fun k _ hS=>hs k hS⟩
def TakeOk (k:Nat) (p:Option Addr) (xs:List Int) (N c a n:Nat) (w:World) (e:Ending) (w':World):Prop :=
 ∃ v,e=.returned v∧Fresh8 (Just k) n ((xs.drop a).take n) w v w'∧CurB w' k p N c (a+n) true 0
theorem take_at (k:Nat) (p:Option Addr) (xs:List Int) (N c a n:Nat) (z:Int) (w:World) (hx:N=xs.length) (hz:(n:Int)=max z 0) (h:CurB w k p N c a true 0) (hb:Bytes8 w p xs)
  (hp:0<xs.length→∀ q,p=some q→q.block ≠ k) (hn:a+n≤N) (hN:N≤c) (hN':N≤140737488355328) (hc:c≤9223372036854775807) :
  Calls Tryz.prog 177 #[.pointer (some ⟨k,0,none⟩),.int .i64 z] w (TakeOk k p xs N c a n w):=by
 subst hx
 have H:=hid h;have HB:=hid hb;have HP:=hid hp;have HZ:=hid hz
 clear h hb hp hz
 go_enter Tryz.func177,Tryz.ntmps177
 go_wp2_with fail
 all_goals
  refine (next_at k p xs.length c a n _ (by have:=HZ.out;omega) _ H.out hn hN (by omega)).mono ?_
  rintro e w1 ⟨v,rfl,hf,hcur,hk⟩
  obtain ⟨q,c',rfl,hq⟩:=piece_of hf HB.out hn hk HP.out
  have HK:=hid hk;have HC:=hid hcur;have HQ:=hid hq
  clear hf hk hcur hq
  go_wp2_with fail
  refine (clone_any q n c' _ _ (by simp;omega) (by omega) HQ.out).mono ?_
  rintro e w2 ⟨v,rfl,hfr⟩
  have HF:=hid hfr
  clear hfr
  go_wp2_with fail
  go_ret
  refine ⟨v,rfl,HF.out.after HK.out (fun k h=>h.elim),?_⟩
  obtain ⟨_,_,_,_,_,_,_,hkk⟩:=HF.out
  exact Whole.keep HC.out hkk (fun h=>h)
theorem take_short (k:Nat) (p:Option Addr) (N c a:Nat) (z:Int) (w:World) (h:CurB w k p N c a true 0) (hn:a≤N) (hs:(N:Int)<a+z) (hc:N≤9223372036854775807) :
  Calls Tryz.prog 177 #[.pointer (some ⟨k,0,none⟩),.int .i64 z] w fun e w'=>e=.panicked (given k)∧CurB w' k p N c a true 2∧Keeps (Just k) w w':=by
 have H:=hid h
 clear h
 have hz:0≤z:=by omega
 go_enter Tryz.func177,Tryz.ntmps177
 go_wp2_with fail
 refine (next_short k p N c a z _ H.out hn (by omega) hc).mono ?_
 rintro e w' ⟨rfl,hcur,hk⟩
 exact ⟨rfl,rfl,hcur,hk⟩
end
section
open Go.RowKit
def BufAt (w:World) (base g:Nat) (xs:List Int):Prop :=
 ∃ v,Whole w g 145 #[v]∧w.ownsRow base 5 1 v xs.length (xs.map (Value.int .u8))
def OnBuf (base g:Nat):Nat→Prop:=fun k=>k=g ∨ base≤k
def BufOkK (base g:Nat) (xs:List Int) (w:World) (e:Ending) (w':World):Prop :=
 e=.returned (.pointer (some ⟨g,0,none⟩))∧BufAt w' base g xs∧Keeps (OnBuf base g) w w'
theorem Keeps.grown {S:Nat→Prop} {a b c:World} {row:Option Nat} (h:Keeps S a b) (hg:b.grownBy c row) (hr:∀ k,row=some k→S k ∨ a.heap.size≤k):Keeps S a c :=
 ⟨hg.os.trans h.os,hg.tape.trans h.tape,hg.output.trans h.output,Nat.le_trans h.size hg.size,fun k hk hn=>(hg.block k (Nat.lt_of_lt_of_le hk h.size) (fun e=>by
  rcases hr k e.symm with h1|h1
  ·exact hn h1
  ·omega)).trans (h.block k hk hn)⟩
theorem onBuf_below {base g:Nat} {w w':World} (h:Keeps (OnBuf base g) w w') (hb:base≤g) (hs:base≤w.heap.size):Below base w w' :=
 h.below hs fun k hk hS=>by
  rcases hS with rfl|h1
  ·omega
  ·omega
def BufOk (base g:Nat) (xs:List Int) (w:World) (e:Ending) (w':World):Prop :=
 e=.returned (.pointer (some ⟨g,0,none⟩))∧BufAt w' base g xs∧Below base w w'
theorem ownBlock_ne {w:World} {base g n:Nat} {v:Value} {xs:List Value} {cs:Array Value} (h:w.ownsRow base 5 1 v n xs) (hg:Whole w g 145 cs):v.ownBlock ≠ some g:=by
 rcases h with ⟨_,⟨rfl,rfl⟩|⟨k,cap,cur,rfl,_,hh,_⟩⟩
 ·simp [Value.ownBlock]
 ·intro e
  obtain rfl:k=g:=by simpa [Value.ownBlock] using e
  exact absurd (Whole.unique (show Whole w k 5 cur from hh) hg).1 (by decide)
theorem own_slice {w:World} {base n:Nat} {v:Value} {xs:List Value} (h:w.ownsRow base 5 1 v n xs):∃ p c,v=.slice p n c:=by
 rcases h with ⟨_,⟨rfl,rfl⟩|⟨j,cap,cur,rfl,hb,_⟩⟩
 ·exact ⟨none,0,rfl⟩
 ·exact ⟨_,_,rfl⟩
theorem own_base {w:World} {base n k:Nat} {v:Value} {xs:List Value} (h:w.ownsRow base 5 1 v n xs) (hk:v.ownBlock=some k):base≤k:=by
 rcases h with ⟨_,⟨rfl,rfl⟩|⟨j,cap,cur,rfl,hb,_⟩⟩
 ·simp [Value.ownBlock] at hk
 ·obtain rfl:j=k:=by simpa [Value.ownBlock] using hk
  exact hb
theorem Whole.grown {w w':World} {g:Nat} {t:TypeId} {cs:Array Value} (h:Whole w g t cs) {row:Option Nat} (hg:w.grownBy w' row) (hr:row ≠ some g):Whole w' g t cs :=
 (hg.block g h.lt (fun e=>hr e.symm)).trans h
set_option maxHeartbeats 800000 in
theorem bufByteK (base g:Nat) (xs:List Int) (x:Int) (w:World) (h:BufAt w base g xs) (hs:base≤w.heap.size) (hx:xs.length+1≤140737488355328) :
  Calls Tryz.prog 79 #[.pointer (some ⟨g,0,none⟩),.int .u8 x] w (BufOkK base g (xs ++ [x]) w):=by
 obtain ⟨v,hg,hown⟩:=h
 obtain ⟨i0,hi,hz0,hz1,hz2⟩:=info_parts infoByte
 have hgw:=hg.lt
 have c0:=hg.cell 0 rfl
 simp only [List.getElem_toArray,List.getElem_cons_zero] at c0
 have hne:=ownBlock_ne hown hg
 have HG:=hid hg;have HO:=hid hown;have HN:=hid hne;have HX:=hid hx
 clear hg hown hne hx
 go_enter Tryz.func79,Tryz.ntmps79
 go_wp2_with (at_builtin;refine wpList_append_own _ rfl _ _ 29 rfl base 5 i0 (.int .u8 0) 1 1 Tryz.underlying29 hi hz0 hz1 hz2 rfl (by decide) _ _ _ rfl (HO.out.alloc _) ⟨w.heap.size,0,none⟩ 1 1 [.int .u8 x] rfl ?qc1 ?qc2 ?qc3 ?qc4 ?qc5 ?qc6 ?_)
 case qc1=>rfl
 case qc2 =>
  intro j u hj
  match j,hj with
  | 0,hj =>
   obtain rfl:Value.int .u8 x=u:=by simpa using hj
   exact Whole.cell (Whole.new w _ _) 0 rfl
 case qc3=>intro u hu;simp at hu;subst hu;rfl
 case qc4=>have:=HX.out;unfold maxLen;omega
 case qc5=>have:=HX.out;omega
 case qc6=>simp;omega
 intro v' w1 hown hgrow _
 obtain ⟨p',c',hv'⟩:=own_slice hown
 have hg1:=Whole.grown (HG.out.alloc _) hgrow HN.out
 have d0:=hg1.cell 0 rfl
 simp only [List.getElem_toArray,List.getElem_cons_zero] at d0
 have f0:=hg1.free 0
 have hne':=ownBlock_ne hown hg1
 have HB:=hid (show BufAt (w1.setCell ⟨g,0,none⟩ v') base g (xs ++ [x]) from ⟨v',hg1.set 0 v',by simpa using ownsRow_setCell_other hown (a:=⟨g,0,none⟩) hne' v'⟩)
 have HL:=hid ((((Keeps.refl (OnBuf base g) w).alloc _).grown hgrow (fun k hk=>.inl (.inr (own_base HO.out hk)))).setIn (.inl rfl) 0 v')
 clear hown hgrow hg1 hne' c0
 subst hv'
 go_wp2_with fail
 go_ret
 exact ⟨rfl,HB.out,HL.out⟩
theorem bufByte (base g:Nat) (xs:List Int) (x:Int) (w:World) (h:BufAt w base g xs) (hb:base≤g) (hs:base≤w.heap.size) (hx:xs.length+1≤140737488355328) :
  Calls Tryz.prog 79 #[.pointer (some ⟨g,0,none⟩),.int .u8 x] w (BufOk base g (xs ++ [x]) w) :=
 (bufByteK base g xs x w h hs hx).mono fun _ _ ⟨h1,h2,h3⟩=>⟨h1,h2,onBuf_below h3 hb hs⟩
set_option maxHeartbeats 800000 in
theorem bufRaw_some (base g : Nat) (xs ys : List Int) (a : Addr) (N c : Nat) (w : World) (h : BufAt w base g xs) (hN : N = ys.length) (hy : Bytes8 w (some a) ys) (hb : base ≤ g) (hs : base ≤ w.heap.size) (hx : xs.length + ys.length ≤ 140737488355328) :
    Calls Tryz.prog 106 #[.pointer (some ⟨g, 0, none⟩), .slice (some a) N c] w (BufOk base g (xs ++ ys) w) := by
  obtain ⟨v, hg, hown⟩ := h
  obtain ⟨i0, hi, hz0, hz1, hz2⟩ := info_parts infoByte
  have hgw := hg.lt
  have c0 := hg.cell 0 rfl
  simp only [List.getElem_toArray, List.getElem_cons_zero] at c0
  have hne := ownBlock_ne hown hg
  have HG := Lib.hid hg; have HO := Lib.hid hown; have HN := Lib.hid hne; have HX := Lib.hid hx; have HY := Lib.hid hy; have HL := Lib.hid hN
  clear hg hown hne hx hy hN
  go_enter Tryz.func106, Tryz.ntmps106
  go_wp2_with (at_builtin; refine wpList_append_own _ rfl _ _ 29 rfl base 5 i0 (.int .u8 0) 1 1 Tryz.underlying29 hi hz0 hz1 hz2 rfl (by decide) _ _ _ rfl HO.out a N c (ys.map (Value.int .u8)) rfl ?qc1 ?qc2 ?qc3 ?qc4 ?qc5 ?qc6 ?_)
  case qc1 => have := HL.out; simp; omega
  case qc2 =>
    intro j u hj
    have hjn : j < ys.length := by
      have := (List.getElem?_eq_some_iff.1 hj).1
      simpa using this
    obtain ⟨a', ha', hcell⟩ := HY.out (by omega)
    obtain rfl := Option.some.inj ha'
    rw [hcell j hjn]
    have e : (ys.map (Value.int .u8))[j]? = some (Value.int .u8 (ys.getD j 0)) := by simp [List.getElem?_eq_getElem hjn]
    rw [e] at hj
    exact hj
  case qc3 => intro u hu; obtain ⟨x, _, rfl⟩ := List.mem_map.1 hu; rfl
  case qc4 => have := HX.out; have := HL.out; unfold maxLen; omega
  case qc5 => have := HX.out; have := HL.out; omega
  case qc6 => exact hs
  intro v' w1 hown hgrow _
  obtain ⟨p', c', hv'⟩ := own_slice hown
  have hg1 := Whole.grown HG.out hgrow HN.out
  have d0 := hg1.cell 0 rfl
  simp only [List.getElem_toArray, List.getElem_cons_zero] at d0
  have f0 := hg1.free 0
  have hne' := ownBlock_ne hown hg1
  have HB := Lib.hid (show BufAt (w1.setCell ⟨g, 0, none⟩ v') base g (xs ++ ys) from ⟨v', hg1.set 0 v', by have e : xs.length + N = (xs ++ ys).length := by simp [HL.out]
                                                                                                           have := ownsRow_setCell_other hown (a := ⟨g, 0, none⟩) hne' v'
                                                                                                           rw [e] at this
                                                                                                           simpa using this⟩)
  have HL := Lib.hid (((Below.refl base w).grown hgrow hs (by intro k hk; exact own_base HO.out hk)).setCell (p := ⟨g, 0, none⟩) hb v')
  clear hown hgrow hg1 hne' c0
  subst hv'
  go_wp2_with fail
  go_ret
  exact ⟨rfl, HB.out, HL.out⟩
theorem bufRaw_none (base g:Nat) (xs:List Int) (w:World) (h:BufAt w base g xs) (hb:base≤g) :
  Calls Tryz.prog 106 #[.pointer (some ⟨g,0,none⟩),.slice none 0 0] w (BufOk base g xs w):=by
 obtain ⟨v,hg,hown⟩:=h
 obtain ⟨p',c',rfl⟩:=own_slice hown
 obtain ⟨i0,hi,hz0,hz1,hz2⟩:=info_parts infoByte
 have hgw:=hg.lt
 have c0:=hg.cell 0 rfl
 simp only [List.getElem_toArray,List.getElem_cons_zero] at c0
 have f0:=hg.free 0
 have hne:=ownBlock_ne hown hg
 have HG:=hid hg;have HO:=hid hown;have HN:=hid hne
 clear hg hown hne
 go_enter Tryz.func106,Tryz.ntmps106
 go_wp2_with (at_builtin;refine wpList_append_own_none rfl _ _ 29 rfl base 5 i0 1 Tryz.underlying29 hi _ _ _ rfl HO.out rfl ?_)
 go_ret
 exact ⟨rfl,⟨_,HG.out.set 0 _,ownsRow_setCell_other HO.out (a:=⟨g,0,none⟩) HN.out _⟩,(Below.refl base w).setCell (p:=⟨g,0,none⟩) hb _⟩
theorem bufRaw (base g:Nat) (xs ys:List Int) (p:Option Addr) (N c:Nat) (w:World) (h:BufAt w base g xs) (hN:N=ys.length) (hy:Bytes8 w p ys) (h0:p=none→N=0∧c=0) (hb:base≤g) (hs:base≤w.heap.size) (hx:xs.length+ys.length≤140737488355328) :
  Calls Tryz.prog 106 #[.pointer (some ⟨g,0,none⟩),.slice p N c] w (BufOk base g (xs ++ ys) w):=by
 cases p with
 | some a=>exact bufRaw_some base g xs ys a N c w h hN hy hb hs hx
 | none =>
  obtain ⟨rfl,rfl⟩:=h0 rfl
  obtain rfl:ys=[]:=List.length_eq_zero_iff.1 hN.symm
  rw [List.append_nil]
  exact bufRaw_none base g xs w h hb
theorem own_bytes {w:World} {base n:Nat} {v:Value} {xs:List Int} (hn:n=xs.length) (h:w.ownsRow base 5 1 v n (xs.map (Value.int .u8))):∃ p c,v=.slice p n c∧Bytes8 w p xs∧(p=none→c=0):=by
 rcases h with ⟨hl,⟨rfl,rfl⟩|⟨g,cap,cur,rfl,hg,hh,hc1,hc2,hc3,hc4⟩⟩
 ·exact ⟨none,0,rfl,fun h=>by omega,fun _=>rfl⟩
 ·refine ⟨_,cap,rfl,Whole.bytes (show Whole w g 5 cur from hh) xs (fun i hi=>?_),fun h=>by simp at h⟩
  have e:(cur.toList.take (n*1))[i]?=(xs.map (Value.int .u8))[i]?:=by rw [hc4]
  rw [List.getElem?_take,if_pos (by omega)] at e
  rw [← Array.getElem?_toList,e]
  simp [hi]
theorem bufBytes (base g:Nat) (xs:List Int) (w:World) (h:BufAt w base g xs) (hx:xs.length≤140737488355328) :
  Calls Tryz.prog 82 #[.pointer (some ⟨g,0,none⟩)] w fun e w'=>∃ v,e=.returned v∧Fresh8 NoBlock xs.length xs w v w':=by
 obtain ⟨v,hg,hown⟩:=h
 obtain ⟨p,c,rfl,hbt,_⟩:=own_bytes rfl hown
 have c0:=hg.cell 0 rfl
 simp only [List.getElem_toArray,List.getElem_cons_zero] at c0
 have HB:=hid hbt
 clear hg hown hbt
 go_enter Tryz.func82,Tryz.ntmps82
 go_wp2_with fail
 refine (clone_any p xs.length c xs _ rfl hx HB.out).mono ?_
 rintro e w2 ⟨v,rfl,hfr⟩
 have HF:=hid hfr
 clear hfr
 go_wp2_with fail
 go_ret
 exact ⟨v,rfl,HF.out⟩
end
section
open Go.RowKit
def digits (x:Int):Nat→List Int
 | 0=>[]
 | n+1=>digits x n ++ [x / 2 ^ (8*n) % 256]
theorem digits_length (x:Int):∀ n,(digits x n).length=n
 | 0=>rfl
 | n+1=>by simp [digits,digits_length x n]
theorem digits_octets (x:Int):∀ n,Octets (digits x n)
 | 0=>fun b hb=>by simp [digits] at hb
 | n+1=>fun b hb=>by
  simp only [digits,List.mem_append,List.mem_singleton] at hb
  rcases hb with hb|rfl
  ·exact digits_octets x n b hb
  ·omega
def InLoop (base g:Nat) (xs:List Int) (x:Int) (w:World) (k:Nat) (wr:World):Prop:=BufAt wr base g (xs ++ digits x k)∧Below base w wr
set_option maxHeartbeats 800000 in
theorem bufNumber (base g:Nat) (xs:List Int) (x:Int) (n:Nat) (z:Int) (hz:z=n) (w:World) (h:BufAt w base g xs) (hb:base≤g) (hs:base≤w.heap.size) (hx:xs.length+n≤140737488355328) (hn:n≤8) (_x0:0≤x) (x1:x<18446744073709551616) :
  Calls Tryz.prog 133 #[.pointer (some ⟨g,0,none⟩),.int .u64 x,.int .i64 z] w (BufOk base g (xs ++ digits x n) w):=by
 subst hz
 have H:=hid h;have HX:=hid hx;have HX1:=hid x1
 clear h hx x1
 go_enter Tryz.func133,Tryz.ntmps133
 go_wp2_with fail
 go_loopw [9] (fun i wr=>∃ k:Nat,k≤n∧i=.int .i64 k∧InLoop base g xs x w k wr) (fun i _=>n - (intOf i).toNat)
 case atStart=>exact ⟨0,Nat.zero_le _,rfl,by simpa [digits] using H.out,Below.refl _ _⟩
 case round =>
  obtain ⟨k,hk,rfl,hin⟩:=hrel
  have HI:=hid hin
  clear hin
  by_cases hlt:k<n
  ·go_wp2_with fail
   refine (bufByte base g (xs ++ digits x k) _ _ HI.out.1 hb (by have:=HI.out.2.size;omega) (by have:=HX.out;simp [digits_length];omega)).mono ?_
   rintro e w2 ⟨rfl,hbuf,hbel⟩
   have HB:=hid hbuf;have HL:=hid (HI.out.2.trans hbel)
   clear hbuf hbel
   go_wp2_with fail
   go_roundw
   case rel =>
    refine ⟨k+1,by omega,by go_num,?_,HL.out⟩
    have:=HB.out
    rw [List.append_assoc] at this
    exact this
   case measure=>simp [intOf];omega
  ·go_wp2_with fail
   go_ret
   obtain rfl:k=n:=by omega
   exact ⟨rfl,HI.out.1,HI.out.2⟩
theorem bufEight (base g:Nat) (xs:List Int) (x:Int) (w:World) (h:BufAt w base g xs) (hb:base≤g) (hs:base≤w.heap.size) (hx:xs.length+8≤140737488355328) (x0:0≤x) (x1:x<18446744073709551616) :
  Calls Tryz.prog 107 #[.pointer (some ⟨g,0,none⟩),.int .u64 x] w (BufOk base g (xs ++ digits x 8) w):=by
 have H:=hid h;have HX1:=hid x1
 clear h x1
 go_enter Tryz.func107,Tryz.ntmps107
 go_wp2_with fail
 refine (bufNumber base g xs _ 8 _ (by rfl) _ H.out hb hs hx (by omega) x0 HX1.out).mono ?_
 rintro e w2 ⟨rfl,hbuf,hbel⟩
 have HB:=hid hbuf;have HL:=hid hbel
 clear hbuf hbel
 go_wp2_with fail
 go_ret
 exact ⟨rfl,HB.out,HL.out⟩
theorem textOf (q:Option Addr) (n c:Nat) (xs:List Int) (w:World) (hx:n=xs.length) (h:Bytes8 w q xs):(convert 29 9 (.slice q n c)).run Tryz.prog w=.ok (.string (strOfNums xs)) w:=by
 subst hx
 cases q with
 | none =>
  have h0:xs.length=0:=by
   rcases Nat.eq_zero_or_pos xs.length with h0|h0
   ·exact h0
   ·obtain ⟨a,ha,_⟩:=h h0
    simp at ha
  obtain rfl:xs=[]:=List.length_eq_zero_iff.1 h0
  exact run_convert_bytes_nil w _ 5 Tryz.underlying29 Tryz.underlying5 0 c _ Tryz.underlying9
 | some a =>
  have hl:(loadCells a xs.length).run Tryz.prog w=.ok (xs.map (Value.int .u8)).toArray w:=by
   have:=run_loadCells_list (P:=Tryz.prog) w a (xs.map (Value.int .u8)) (fun j v hj=>by
    have hjl:j<xs.length:=by simpa using (List.getElem?_eq_some_iff.1 hj).1
    obtain ⟨a',ha',hc⟩:=h (by omega)
    obtain rfl:=Option.some.inj ha'
    rw [hc j hjl]
    have e:(xs.map (Value.int .u8))[j]?=some (Value.int .u8 (xs.getD j 0)):=by simp [List.getElem?_eq_getElem hjl]
    rw [e] at hj
    exact hj)
   simpa using this
  rw [run_convert_bytes_string w _ _ 5 (some a) xs.length c Tryz.underlying29 Tryz.underlying5 Tryz.underlying9,run_bytesToString w _ xs.length c xs hl,foldl_push_bytes]
  simp [strOfNums,ByteArray.empty,ByteArray.emptyWithCapacity]
  rfl
theorem str_append (xs ys:List Int):strOfNums xs ++ strOfNums ys=strOfNums (xs ++ ys):=by
 apply ByteArray.ext
 simp [strOfNums]
theorem str_size (xs:List Int):(strOfNums xs).size=xs.length:=by simp [strOfNums,ByteArray.size]
set_option maxHeartbeats 800000 in
theorem num_any (x:Int) (n:Nat) (z:Int) (hz:z=n) (hn:n≤8) (x0:0≤x) (x1:x<18446744073709551616) (w:World) :
  Calls Tryz.prog 48 #[.int .u64 x,.int .i64 z] w fun e w'=>e=.returned (.string (strOfNums (digits x n)))∧Keeps NoBlock w w':=by
 subst hz
 have hcv:∀ (v:Int) (w:World),(convert 29 9 (.slice (some ⟨w.heap.size,0,none⟩) 1 1)).run Tryz.prog (w.alloc (.cells #[.int .u8 v] 5))=.ok (.string (strOfNums [v])) (w.alloc (.cells #[.int .u8 v] 5)):=fun v w =>
  textOf _ 1 1 [v] _ rfl (Whole.bytes (Whole.new w _ _) [v] (fun i hi=>by
   match i,hi with
   | 0,_=>rfl))
 have HX1:=hid x1
 clear x1
 go_enter Tryz.func48,Tryz.ntmps48
 go_wp2_with fail
 go_loopw [0,5,7] (fun v o i wr=>∃ k:Nat,k≤n∧i=.int .i64 k∧v=.int .u64 (x / 2 ^ (8*k))∧o=.string (strOfNums (digits x k))∧Keeps NoBlock w wr) (fun _ _ i _=>n - (intOf i).toNat)
 case atStart=>exact ⟨0,Nat.zero_le _,rfl,by simp,rfl,Keeps.refl _ _⟩
 case round =>
  obtain ⟨k,hk,rfl,rfl,rfl,hkw⟩:=hrel
  have HK:=hid hkw
  clear hkw
  by_cases hlt:k<n
  ·obtain ⟨y,hy⟩:∃ y,y=x / 2 ^ (8*k):=⟨_,rfl⟩
   rw [← hy]
   have y0:0≤y:=by rw [hy];exact Int.ediv_nonneg x0 (by exact_mod_cast Nat.zero_le _)
   have HY:=hid hy
   clear hy
   have hsz:∀ v:Int,¬ 9223372036854775807<(strOfNums (digits x k)).size+(strOfNums [v]).size:=fun v=>by simp only [str_size,digits_length,List.length_cons,List.length_nil];omega
   go_wp2_with fail
   go_roundw
   case rel =>
    refine ⟨k+1,by omega,by go_num,?_,?_,HK.out.alloc _⟩
    ·have e:IntKind.u64.wrap (y.tdiv 256)=x / 2 ^ (8*(k+1)):=by
      have hy1:y<18446744073709551616:=by
       have:=HX1.out
       have hp:(1:Int)≤2 ^ (8*k):=by have:=Nat.one_le_two_pow (n:=8*k);exact_mod_cast this
       rw [HY.out]
       exact Int.lt_of_le_of_lt (Int.ediv_le_self _ x0) this
      rw [Int.tdiv_eq_ediv_of_nonneg y0,IntKind.wrap_u64,show 8*(k+1)=8*k+8 by omega,Int.pow_add,← Int.ediv_ediv_of_nonneg (by exact_mod_cast Nat.zero_le _),← HY.out]
      omega
     rw [e]
    ·rw [str_append,show digits x (k+1)=digits x k ++ [x / 2 ^ (8*k) % 256] from rfl,HY.out]
   case measure=>simp [intOf];omega
  ·go_wp2_with fail
   go_ret
   obtain rfl:k=n:=by omega
   exact ⟨rfl,HK.out⟩
end
end Go.Proofs.YtehkjkcnigknkaaGreat

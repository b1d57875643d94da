/-
  Mem; CurA; Num; CurB; CurC; BufA.
-/
import Derived.Test.YtbmhdfjaakkoaaaRows
import Derived.WalkKit
import Derived.WalkLawsBesides
import Derived.WalkSpells
import Derived.Handy
import Derived.OneCell
import Derived.Deep.Draws
import Derived.Lib.Hide
import Derived.Recover
import Derived.Defers
import Derived.BigQuiet
import Derived.Deep.QuietTactic
import Derived.Laws.BitsAllLaws
import Derived.Laws.Bits64
import Derived.Laws.AppendOwnNone

namespace Go.Proofs.Ytbmhdfjaakkoaaa
section
open Go.RowKit
structure Keeps (S:Nat→Prop) (w w':World):Prop where
 os:w'.os=w.os
 tape:w'.tape=w.tape
 output:w'.output=w.output
 size:w.heap.size≤w'.heap.size
 block:∀ k,k<w.heap.size→¬ S k→w'.heap[k]?=w.heap[k]?
def NoBlock:Nat→Prop:=fun _=>False
def Just (g:Nat):Nat→Prop:=fun k=>k=g
theorem Keeps.refl (S:Nat→Prop) (w:World):Keeps S w w:=⟨rfl,rfl,rfl,Nat.le_refl _,fun _ _ _=>rfl⟩
theorem Keeps.wider {S S':Nat→Prop} {w w':World} (h:Keeps S w w') (hs:∀ k,k<w.heap.size→S k→S' k):Keeps S' w w' :=
 ⟨h.os,h.tape,h.output,h.size,fun k hk hn=>h.block k hk fun hS=>hn (hs k hk hS)⟩
theorem Keeps.trans {S:Nat→Prop} {a b c:World} (h:Keeps S a b) (g:Keeps S b c):Keeps S a c :=
 ⟨g.os.trans h.os,g.tape.trans h.tape,g.output.trans h.output,Nat.le_trans h.size g.size,fun k hk hn=>(g.block k (Nat.lt_of_lt_of_le hk h.size) hn).trans (h.block k hk hn)⟩
theorem Keeps.then {S S':Nat→Prop} {a b c:World} (h:Keeps S a b) (g:Keeps S' b c) (hs:∀ k,k<a.heap.size→S' k→S k):Keeps S a c :=
 ⟨g.os.trans h.os,g.tape.trans h.tape,g.output.trans h.output,Nat.le_trans h.size g.size,fun k hk hn=>(g.block k (Nat.lt_of_lt_of_le hk h.size) fun hS=>hn (hs k hk hS)).trans (h.block k hk hn)⟩
theorem Keeps.drewN {S:Nat→Prop} {a b:World} (h:Keeps S a b) (n:Nat):Keeps S a (b.drewN n):=⟨h.os,h.tape,h.output,h.size,h.block⟩
theorem Keeps.drew {S:Nat→Prop} {a b:World} (h:Keeps S a b):Keeps S a b.drew:=⟨h.os,h.tape,h.output,h.size,h.block⟩
theorem Keeps.alloc {S:Nat→Prop} {a b:World} (h:Keeps S a b) (o:Obj):Keeps S a (b.alloc o) :=
 ⟨h.os,h.tape,h.output,Nat.le_trans h.size (by simp),fun k hk hn=>(Below.heap_alloc b o k (Nat.lt_of_lt_of_le hk h.size)).trans (h.block k hk hn)⟩
theorem Keeps.set {S:Nat→Prop} {a b:World} (h:Keeps S a b) {p:Addr} (hp:S p.block ∨ a.heap.size≤p.block) (v:Value):Keeps S a (b.setCell p v) :=
 ⟨h.os,h.tape,h.output,by simpa using h.size,fun k hk hn=>(Below.heap_setCell b p v k (by intro e;subst e;rcases hp with hp|hp;exact hn hp;omega)).trans (h.block k hk hn)⟩
theorem Keeps.setNew {S:Nat→Prop} {a b:World} (h:Keeps S a b) {g:Nat} (hg:a.heap.size≤g) (i:Nat) (v:Value):Keeps S a (b.setCell ⟨g,i,none⟩ v):=h.set (.inr hg) v
theorem Just.self (g:Nat):Just g g:=rfl
theorem Keeps.below {S:Nat→Prop} {a b:World} (h:Keeps S a b) {B:Nat} (hB:B≤a.heap.size) (hs:∀ k,k<B→¬ S k):Below B a b :=
 ⟨h.os,h.tape,h.output,h.size,fun k hk=>h.block k (Nat.lt_of_lt_of_le hk hB) (hs k hk)⟩
theorem Keeps.ofBelow {S:Nat→Prop} {a b:World} (h:Below a.heap.size a b):Keeps S a b:=⟨h.os,h.tape,h.output,h.size,fun k hk _=>h.block k hk⟩
def Whole (w:World) (g:Nat) (t:TypeId) (cs:Array Value):Prop:=w.heap[g]?=some (.cells cs t (0,0))
theorem Whole.lt {w:World} {g:Nat} {t:TypeId} {cs:Array Value} (h:Whole w g t cs):g<w.heap.size:=lt_of_block h
theorem Whole.cell {w:World} {g:Nat} {t:TypeId} {cs:Array Value} (h:Whole w g t cs) (i:Nat) {v:Value} (hv:cs[i]?=some v):w.cell? ⟨g,i,none⟩=some v:=by
 unfold World.cell?
 simp only [show w.heap[g]?=_ from h]
 simpa using hv
theorem Whole.free {w:World} {g:Nat} {t:TypeId} {cs:Array Value} (h:Whole w g t cs) (i:Nat):w.frozen? ⟨g,i,none⟩=false:=by
 unfold World.frozen?
 simp only [show w.heap[g]?=_ from h]
 simp
theorem Whole.set {w:World} {g:Nat} {t:TypeId} {cs:Array Value} (h:Whole w g t cs) (i:Nat) (v:Value):Whole (w.setCell ⟨g,i,none⟩ v) g t (cs.setIfInBounds i v):=by
 have hlt:=h.lt
 have h':w.heap[g]=.cells cs t (0,0):=by
  have e:=h
  unfold Whole at e
  rw [Array.getElem?_eq_getElem hlt] at e
  exact Option.some.inj e
 show (w.heap.modify g _)[g]?=_
 rw [Array.getElem?_eq_getElem (by simpa using hlt),Array.getElem_modify_self,h']
 rfl
theorem Whole.setOther {w:World} {g:Nat} {t:TypeId} {cs:Array Value} (h:Whole w g t cs) {p:Addr} (hp:g ≠ p.block) (v:Value):Whole (w.setCell p v) g t cs :=
 (Below.heap_setCell w p v g hp).trans h
theorem Whole.alloc {w:World} {g:Nat} {t:TypeId} {cs:Array Value} (h:Whole w g t cs) (o:Obj):Whole (w.alloc o) g t cs:=(Below.heap_alloc w o g h.lt).trans h
theorem Whole.drewN {w:World} {g:Nat} {t:TypeId} {cs:Array Value} (h:Whole w g t cs) (n:Nat):Whole (w.drewN n) g t cs:=h
theorem Whole.keep {w w':World} {g:Nat} {t:TypeId} {cs:Array Value} (h:Whole w g t cs) {S:Nat→Prop} (hk:Keeps S w w') (hs:¬ S g):Whole w' g t cs :=
 (hk.block g h.lt hs).trans h
theorem Whole.new (w:World) (t:TypeId) (cs:Array Value):Whole (w.alloc (.cells cs t)) w.heap.size t cs:=by
 show (w.heap.push _)[w.heap.size]?=_
 simp
theorem Whole.newAt (w:World) (t:TypeId) (cs:Array Value) (g:Nat) (hg:g=w.heap.size):Whole (w.alloc (.cells cs t)) g t cs:=by
 subst hg;exact Whole.new w t cs
def Bytes8 (w:World) (p:Option Addr) (xs:List Int):Prop:=0<xs.length→∃ a,p=some a∧∀ i,i<xs.length→w.cell? (a.add i)=some (.int .u8 (xs.getD i 0))
theorem addBlock (a:Addr) (n:Nat):(a.add n).block=a.block:=by unfold Addr.add;split <;> rfl
theorem cellOfBlock {w w':World} {a:Addr} (h:w'.heap[a.block]?=w.heap[a.block]?):w'.cell? a=w.cell? a:=by
 unfold World.cell?;rw [h]
theorem ltOfCell {w:World} {a:Addr} {v:Value} (h:w.cell? a=some v):a.block<w.heap.size:=by
 rcases Nat.lt_or_ge a.block w.heap.size with hl|hl
 ·exact hl
 ·unfold World.cell? at h
  rw [Array.getElem?_eq_none hl] at h
  simp at h
theorem Keeps.cell {S:Nat→Prop} {w w':World} (hk:Keeps S w w') {a:Addr} {v:Value} (h:w.cell? a=some v) (hs:¬ S a.block):w'.cell? a=some v :=
 (cellOfBlock (hk.block _ (ltOfCell h) hs)).trans h
theorem Bytes8.keep {w w':World} {p:Option Addr} {xs:List Int} (h:Bytes8 w p xs) {S:Nat→Prop} (hk:Keeps S w w') (hs:∀ a,p=some a→¬ S a.block):Bytes8 w' p xs:=by
 intro hx
 obtain ⟨a,rfl,hc⟩:=h hx
 exact ⟨a,rfl,fun i hi=>hk.cell (hc i hi) (by rw [addBlock];exact hs a rfl)⟩
theorem Bytes8.nil (w:World) (p:Option Addr):Bytes8 w p []:=fun h=>absurd h (by simp)
theorem addZero (g i:Nat):Addr.add ⟨g,0,none⟩ i=⟨g,i,none⟩:=by unfold Addr.add;split <;> simp_all
theorem Whole.bytes {w:World} {g:Nat} {t:TypeId} {cs:Array Value} (h:Whole w g t cs) (xs:List Int) (hc:∀ i,i<xs.length→cs[i]?=some (.int .u8 (xs.getD i 0))):Bytes8 w (some ⟨g,0,none⟩) xs :=
 fun _=>⟨_,rfl,fun i hi=>by rw [addZero];exact h.cell i (hc i hi)⟩
end
section
open Go.RowKit
def From (p:Option Addr) (a n:Nat) (v:Value):Prop:=∃ q c,v=.slice q n c∧(0<n→q=p.map (·.add a))
end
section
def le:List Int→Int
 | []=>0
 | b :: r=>b+256*le r
def Octets (xs:List Int):Prop:=∀ b ∈ xs,0≤b∧b<256
theorem Octets.take {xs:List Int} (h:Octets xs) (n:Nat):Octets (xs.take n):=fun b hb=>h b (List.mem_of_mem_take hb)
theorem Octets.drop {xs:List Int} (h:Octets xs) (n:Nat):Octets (xs.drop n):=fun b hb=>h b (List.mem_of_mem_drop hb)
theorem Octets.getD {xs:List Int} (h:Octets xs) (n:Nat):0≤xs.getD n 0∧xs.getD n 0<256:=by
 by_cases hn:n<xs.length
 ·have e:xs.getD n 0=xs[n]:=by simp [hn]
  rw [e];exact h _ (List.getElem_mem hn)
 ·have e:xs.getD n 0=0:=by simp [List.getElem?_eq_none (show xs.length≤n by omega)]
  rw [e];omega
end
section
open Go.RowKit
end
section
open Go.RowKit
end
section
open Go.RowKit
theorem Keeps.grown {S:Nat→Prop} {a b c:World} {row:Option Nat} (h:Keeps S a b) (hg:b.grownBy c row) (hr:∀ k,row=some k→S k ∨ a.heap.size≤k):Keeps S a c :=
 ⟨hg.os.trans h.os,hg.tape.trans h.tape,hg.output.trans h.output,Nat.le_trans h.size hg.size,fun k hk hn=>(hg.block k (Nat.lt_of_lt_of_le hk h.size) (fun e=>by
  rcases hr k e.symm with h1|h1
  ·exact hn h1
  ·omega)).trans (h.block k hk hn)⟩
theorem Whole.grown {w w':World} {g:Nat} {t:TypeId} {cs:Array Value} (h:Whole w g t cs) {row:Option Nat} (hg:w.grownBy w' row) (hr:row ≠ some g):Whole w' g t cs :=
 (hg.block g h.lt (fun e=>hr e.symm)).trans h
end
end Go.Proofs.Ytbmhdfjaakkoaaa

/-
  Copied; SumsWalk; RecRef3; RecRef4; RecRef5; RecRise.
-/
import Derived.Deep.RegionHeld3
import Derived.Deep.CutRange
import Derived.Deep.DeepCutAuto
import Derived.Test.YtbmhdfjaakkoaaaM01
import Derived.Test.YtbmhdfjaakkoaaaM03
import Derived.Test.YtbmhdfjaakkoaaaM10
namespace Go.Proofs.Ytbmhdfjaakkoaaa
section
open Go.RowKit
def Copied (w0:World) (N:Nat) (xs:List Int) (v:Value) (wx:World):Prop :=
 wx.ownsRow w0.heap.size 5 1 v N (xs.map (Value.int .u8))∧Below w0.heap.size w0 wx
theorem Copied.read {w0 wx:World} {N:Nat} {xs:List Int} {v:Value} (h:Copied w0 N xs v wx) (hn:N=xs.length):∃ q d,v=.slice q N d∧N≤d∧d≤9223372036854775807∧Bytes8 wx q xs:=by
 obtain ⟨⟨_,⟨rfl,rfl⟩|⟨g,cap,cur,rfl,hg,hh,hc1,hc2,hc3,hc4⟩⟩,_⟩:=h
 ·exact ⟨none,0,rfl,Nat.le_refl _,by omega,fun h=>by omega⟩
 ·unfold maxLen at hc2
  refine ⟨_,cap,rfl,hc1,by omega,fun hx=>⟨_,rfl,fun i hi=>?_⟩⟩
  have hw:Whole wx g 5 cur:=hh
  have hcell:cur[i]?=some (.int .u8 (xs.getD i 0)):=by
   have e:(cur.toList.take (N*1))[i]?=(xs.map (Value.int .u8))[i]?:=by rw [hc4]
   rw [List.getElem?_take,if_pos (by omega)] at e
   rw [← Array.getElem?_toList,e]
   simp [hi]
  rw [addZero]
  exact hw.cell i hcell
theorem Copied.read2 {w0 wx:World} {N:Nat} {xs:List Int} {v:Value} (h:Copied w0 N xs v wx) (hn:N=xs.length):∃ q d,v=.slice q N d∧N≤d∧d≤9223372036854775807∧Bytes8 wx q xs∧(q=none→N=0∧d=0):=by
 obtain ⟨q,d,hv,h1,h2,h3⟩:=h.read hn
 cases q with
 | some a=>exact ⟨_,d,hv,h1,h2,h3,fun h=>by simp at h⟩
 | none =>
  have hN:N=0:=by
   rcases Nat.eq_zero_or_pos N with h0|h0
   ·exact h0
   ·obtain ⟨a,ha,_⟩:=h3 (by omega)
    simp at ha
  obtain ⟨⟨_,⟨rfl,_⟩|⟨g,cap,cur,rfl,_⟩⟩,_⟩:=h
  ·exact ⟨none,0,by rw [hN],by omega,by omega,h3,fun _=>⟨hN,rfl⟩⟩
  ·simp at hv
theorem Copied.whole {w0 wx:World} {N:Nat} {xs:List Int} {v:Value} (h:Copied w0 N xs v wx) (hn:N=xs.length) (h0:0<N) :
  ∃ g d cur,v=.slice (some ⟨g,0,none⟩) N d∧N≤d∧d≤9223372036854775807∧w0.heap.size≤g∧Whole wx g 5 cur∧∀ i,i<N→cur[i]?=some (.int .u8 (xs.getD i 0)):=by
 obtain ⟨⟨_,⟨rfl,rfl⟩|⟨g,cap,cur,rfl,hg,hh,hc1,hc2,hc3,hc4⟩⟩,_⟩:=h
 ·omega
 ·unfold maxLen at hc2
  refine ⟨g,cap,cur,rfl,hc1,by omega,hg,hh,fun i hi=>?_⟩
  have e:(cur.toList.take (N*1))[i]?=(xs.map (Value.int .u8))[i]?:=by rw [hc4]
  rw [List.getElem?_take,if_pos (by omega)] at e
  rw [← Array.getElem?_toList,e]
  simp [show i<xs.length by omega]
def Bytish (w:World) (g n:Nat):Prop:=∃ cur,Whole w g 5 cur∧∀ i,i<n→∃ x:Int,cur[i]?=some (.int .u8 x)∧0≤x∧x<256
theorem Copied.both {w0 wx:World} {N:Nat} {xs:List Int} {v:Value} (h:Copied w0 N xs v wx) (hn:N=xs.length) (ho:Octets xs) :
  ∃ (q:Option Addr) (d g:Nat),v=.slice q N d∧N≤d∧d≤9223372036854775807∧Bytes8 wx q xs∧(q=none→N=0∧d=0)∧w0.heap.size≤g∧(0<N→q=some ⟨g,0,none⟩)∧(0<N→Bytish wx g N):=by
 obtain ⟨q,d,hv,h1,h2,h3,h4⟩:=h.read2 hn
 by_cases h0:0<N
 ·obtain ⟨g,d',cur,hv',_,_,hg,hw,hc⟩:=h.whole hn h0
  have e:=hv.symm.trans hv'
  simp only [Value.slice.injEq] at e
  refine ⟨q,d,g,hv,h1,h2,h3,h4,hg,fun _=>e.1,fun _=>⟨cur,hw,fun i hi=>⟨_,hc i hi,?_⟩⟩⟩
  exact ho.getD i
 ·exact ⟨q,d,w0.heap.size,hv,h1,h2,h3,h4,Nat.le_refl _,fun h=>absurd h h0,fun h=>absurd h h0⟩
end
section
open Go.RowKit
end
section
open Go.RowKit
def RecAt (w:World) (g:Nat) (r:Rec):Prop :=
 w.cell? ⟨g,0,none⟩=some (.bool r.del)∧w.cell? ⟨g,1,none⟩=some (.int .u64 (r.seq:Int))∧w.cell? ⟨g,2,none⟩=some (.string (strOfNums r.key))∧w.cell? ⟨g,3,none⟩=some (.string (strOfNums r.val))
theorem RecAt.ofWhole {w:World} {g:Nat} {t:TypeId} {r:Rec} (h:Whole w g t (recCells r)):RecAt w g r :=
 ⟨h.cell 0 rfl,h.cell 1 rfl,h.cell 2 rfl,h.cell 3 rfl⟩
end
section
open Go.RowKit
end
section
open Go.RowKit
theorem Keeps.set4 {S:Nat→Prop} {a b:World} (h:Keeps S a b) {g:Nat} (hg:a.heap.size≤g) (x y z u:Value):Keeps S a ((((b.setCell ⟨g,0,none⟩ x).setCell ⟨g,1,none⟩ y).setCell ⟨g,2,none⟩ z).setCell ⟨g,3,none⟩ u) :=
 (((h.setNew hg 0 x).setNew hg 1 y).setNew hg 2 z).setNew hg 3 u
end
section
open Go.RowKit
end
end Go.Proofs.Ytbmhdfjaakkoaaa

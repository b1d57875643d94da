/-
  ThinSum; ThinAll; ThinLives; ChecksWalk; Copied; SumsWalk.
-/
import Derived.BigQuiet
import Derived.Lib.SlBytesConst
import Derived.Deep.RegionHeld3
import Derived.Deep.CutRange
import Derived.Deep.DeepCutAuto
import Derived.Test.YtehkjkcnigknkaaGreatV02
import Derived.Test.YtehkjkcnigknkaaGreatV06
import Derived.Test.YtehkjkcnigknkaaGreatV11
namespace Go.Proofs.YtehkjkcnigknkaaGreat
section
open Go.RowKit
def lenOf:Value→Nat
 | .slice _ n _=>n
 | _=>0
theorem Bytes8.at4 {w:World} {p:Option Addr} {xs:List Int} (h:Bytes8 w p xs) (h4:4≤xs.length):∃ a,p=some a∧w.cell? a=some (.int .u8 (xs.getD 0 0))∧w.cell? ⟨a.block,a.off+1,none⟩=some (.int .u8 (xs.getD 1 0))∧w.cell? ⟨a.block,a.off+2,none⟩=some (.int .u8 (xs.getD 2 0))∧w.cell? ⟨a.block,a.off+3,none⟩=some (.int .u8 (xs.getD 3 0)):=by
 obtain ⟨a,rfl,hc⟩:=h (by omega)
 exact ⟨a,rfl,hc 0 (by omega),hc 1 (by omega),hc 2 (by omega),hc 3 (by omega)⟩
theorem four_le {xs:List Int} (h4:4≤xs.length):four4 xs 0=xs.getD 0 0+256*(xs.getD 1 0)+65536*(xs.getD 2 0)+16777216*(xs.getD 3 0):=by
 match xs,h4 with
 | a :: b :: c :: d :: r,_=>simp [four4,le];omega
end
section
open Go.RowKit
end
section
open Go.RowKit
end
section
open Go.RowKit
end
section
open Go.RowKit
def Copied (w0:World) (N:Nat) (xs:List Int) (v:Value) (wx:World):Prop :=
 wx.ownsRow w0.heap.size 5 1 v N (xs.map (Value.int .u8))∧Below w0.heap.size w0 wx
theorem Copied.read {w0 wx:World} {N:Nat} {xs:List Int} {v:Value} (h:Copied w0 N xs v wx) (hn:N=xs.length):∃ q d,v=.slice q N d∧N≤d∧d≤9223372036854775807∧Bytes8 wx q xs:=by
 obtain ⟨⟨_,⟨rfl,rfl⟩|⟨g,cap,cur,rfl,hg,hh,hc1,hc2,hc3,hc4⟩⟩,_⟩:=h
 ·exact ⟨none,0,rfl,Nat.le_refl _,by omega,fun h=>by omega⟩
 ·unfold maxLen at hc2
  refine ⟨_,cap,rfl,hc1,by omega,fun hx=>⟨_,rfl,fun i hi=>?_⟩⟩
  have hw:Whole wx g 5 cur:=hh
  have hcell:cur[i]?=some (.int .u8 (xs.getD i 0)):=by
   have e:(cur.toList.take (N*1))[i]?=(xs.map (Value.int .u8))[i]?:=by rw [hc4]
   rw [List.getElem?_take,if_pos (by omega)] at e
   rw [← Array.getElem?_toList,e]
   simp [hi]
  rw [addZero]
  exact hw.cell i hcell
theorem Copied.read2 {w0 wx:World} {N:Nat} {xs:List Int} {v:Value} (h:Copied w0 N xs v wx) (hn:N=xs.length):∃ q d,v=.slice q N d∧N≤d∧d≤9223372036854775807∧Bytes8 wx q xs∧(q=none→N=0∧d=0):=by
 obtain ⟨q,d,hv,h1,h2,h3⟩:=h.read hn
 cases q with
 | some a=>exact ⟨_,d,hv,h1,h2,h3,fun h=>by simp at h⟩
 | none =>
  have hN:N=0:=by
   rcases Nat.eq_zero_or_pos N with h0|h0
   ·exact h0
   ·obtain ⟨a,ha,_⟩:=h3 (by omega)
    simp at ha
  obtain ⟨⟨_,⟨rfl,_⟩|⟨g,cap,cur,rfl,_⟩⟩,_⟩:=h
  ·exact ⟨none,0,by rw [hN],by omega,by omega,h3,fun _=>⟨hN,rfl⟩⟩
  ·simp at hv
theorem Copied.whole {w0 wx:World} {N:Nat} {xs:List Int} {v:Value} (h:Copied w0 N xs v wx) (hn:N=xs.length) (h0:0<N) :
  ∃ g d cur,v=.slice (some ⟨g,0,none⟩) N d∧N≤d∧d≤9223372036854775807∧w0.heap.size≤g∧Whole wx g 5 cur∧∀ i,i<N→cur[i]?=some (.int .u8 (xs.getD i 0)):=by
 obtain ⟨⟨_,⟨rfl,rfl⟩|⟨g,cap,cur,rfl,hg,hh,hc1,hc2,hc3,hc4⟩⟩,_⟩:=h
 ·omega
 ·unfold maxLen at hc2
  refine ⟨g,cap,cur,rfl,hc1,by omega,hg,hh,fun i hi=>?_⟩
  have e:(cur.toList.take (N*1))[i]?=(xs.map (Value.int .u8))[i]?:=by rw [hc4]
  rw [List.getElem?_take,if_pos (by omega)] at e
  rw [← Array.getElem?_toList,e]
  simp [show i<xs.length by omega]
end
section
open Go.RowKit
end
end Go.Proofs.YtehkjkcnigknkaaGreat

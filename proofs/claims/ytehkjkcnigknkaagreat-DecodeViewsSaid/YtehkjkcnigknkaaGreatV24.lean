/-
  StrBytes; StrBlk.
-/
import Derived.Lib.ConvBytes
import Derived.Test.YtehkjkcnigknkaaGreatV02
import Derived.Test.YtehkjkcnigknkaaGreatV11
namespace Go.Proofs.YtehkjkcnigknkaaGreat
section
open Go.RowKit
theorem bytesWorld_keeps (S:Nat→Prop) (w:World) (e:TypeId) (s:ByteArray):Keeps S w (Lib.bytesWorld w e s) :=
 ⟨rfl,rfl,rfl,by rw [Lib.bytesWorld_size];omega,fun k hk _=>Lib.bytesWorld_at_old w e s k hk⟩
theorem bytesWorld_bytes (w:World) (e:TypeId) (xs:List Int) (ho:Octets xs):Bytes8 (Lib.bytesWorld w e (strOfNums xs)) (some ⟨w.heap.size,0,none⟩) xs:=fun _=>⟨_,rfl,fun i hi=>by
 rw [show (⟨w.heap.size,0,none⟩:Addr).add i=⟨w.heap.size,i,none⟩ by
  unfold Addr.add
  split
  ·rename_i h
   subst h
   rfl
  ·simp]
 rw [Lib.bytesWorld_cell w e _ i (by rw [str_size];exact hi)]
 have hb:=ho (xs.getD i 0) (by rw [List.getD_eq_getElem?_getD,List.getElem?_eq_getElem hi];exact List.getElem_mem hi)
 have e1:(strOfNums xs).data.toList.getD i 0=UInt8.ofNat (xs.getD i 0).toNat:=by
  simp [strOfNums,List.getD_eq_getElem?_getD,hi]
 rw [e1]
 have e2:((UInt8.ofNat (xs.getD i 0).toNat).toNat:Int)=xs.getD i 0:=by
  simp only [UInt8.toNat_ofNat']
  omega
 rw [e2]⟩
theorem run_str_bytes (xs:List Int) (w:World) :
  (convert 9 29 (.string (strOfNums xs))).run Tryz.prog w=.ok (.slice (some ⟨w.heap.size,0,none⟩) xs.length (grownCap w xs.length 0 5)) (Lib.bytesWorld w 5 (strOfNums xs)):=by
 have h:=Lib.run_convert_string_bytes (P:=Tryz.prog) w 9 29 5 (strOfNums xs) Tryz.underlying9 Tryz.underlying29 Tryz.underlying5
 rw [str_size] at h
 exact h
end
section
open Go.RowKit
def BytesBlk (w:World) (g:Nat) (xs:List Int):Prop:=∃ (cs:Array Value) (lo hi:Nat),w.heap[g]?=some (.cells cs 5 (lo,hi))∧xs.length≤lo∧∀ i,i<xs.length→cs[i]?=some (.int .u8 (xs.getD i 0))
theorem BytesBlk.ofWorld (w:World) {xs:List Int} (ho:Octets xs):BytesBlk (Lib.bytesWorld w 5 (strOfNums xs)) w.heap.size xs:=by
 refine ⟨_,_,_,Lib.bytesWorld_at_new w 5 (strOfNums xs),?_,fun i hi=>?_⟩
 ·have:=str_size xs
  unfold Lib.bytesCells
  rw [Array.size_append,Array.size_map]
  have e:(strOfNums xs).data.size=xs.length:=this
  omega
 ·obtain ⟨a,ha,hc⟩:=bytesWorld_bytes w 5 xs ho (by omega)
  obtain rfl:=Option.some.inj ha
  have h:=hc i hi
  rw [addZero] at h
  unfold World.cell? at h
  simp only [Lib.bytesWorld_at_new] at h
  simpa using h
theorem BytesBlk.lt {w:World} {g:Nat} {xs:List Int} (h:BytesBlk w g xs):g<w.heap.size:=by
 obtain ⟨cs,lo,hi,hh,_⟩:=h
 exact lt_of_block hh
theorem BytesBlk.cell {w:World} {g:Nat} {xs:List Int} (h:BytesBlk w g xs) {i:Nat} (hi:i<xs.length):w.cell? ⟨g,i,none⟩=some (.int .u8 (xs.getD i 0)):=by
 obtain ⟨cs,lo,hi',hh,_,hc⟩:=h
 unfold World.cell?
 simp only [hh]
 simpa using hc i hi
theorem BytesBlk.free {w:World} {g:Nat} {xs:List Int} (h:BytesBlk w g xs) {i:Nat} (hi:i<xs.length):w.frozen? ⟨g,i,none⟩=false:=by
 obtain ⟨cs,lo,hi',hh,hl,_⟩:=h
 unfold World.frozen?
 simp only [hh]
 rw [decide_eq_false (by omega)]
 rfl
theorem BytesBlk.bytes {w:World} {g:Nat} {xs:List Int} (h:BytesBlk w g xs):Bytes8 w (some ⟨g,0,none⟩) xs:=fun _=>⟨_,rfl,fun i hi=>by rw [addZero];exact h.cell hi⟩
theorem BytesBlk.keep {w w':World} {g:Nat} {xs:List Int} (h:BytesBlk w g xs) {S:Nat→Prop} (hk:Keeps S w w') (hs:¬ S g):BytesBlk w' g xs:=by
 have hlt:=h.lt
 obtain ⟨cs,lo,hi,hh,hl,hc⟩:=h
 exact ⟨cs,lo,hi,(hk.block g hlt hs).trans hh,hl,hc⟩
theorem BytesBlk.set {w:World} {g:Nat} {xs:List Int} (h:BytesBlk w g xs) (j:Nat) (x:Int):BytesBlk (w.setCell ⟨g,j,none⟩ (.int .u8 x)) g (xs.set j x):=by
 have hlt:=h.lt
 obtain ⟨cs,lo,hi,hh,hl,hc⟩:=h
 have h':w.heap[g]=.cells cs 5 (lo,hi):=by
  have e:=hh
  rw [Array.getElem?_eq_getElem hlt] at e
  exact Option.some.inj e
 refine ⟨cs.setIfInBounds j (.int .u8 x),lo,hi,?_,by rw [List.length_set];exact hl,fun i hi=>?_⟩
 ·show (w.heap.modify g _)[g]?=_
  rw [Array.getElem?_eq_getElem (by simpa using hlt),Array.getElem_modify_self,h']
  rfl
 ·rw [List.length_set] at hi
  by_cases hij:j=i
  ·subst hij
   have hsz:j<cs.size:=by
    have:=hc j hi
    exact (Array.getElem?_eq_some_iff.1 this).1
   rw [Array.getElem?_setIfInBounds_self_of_lt hsz]
   simp [hi]
  ·rw [Array.getElem?_setIfInBounds_ne hij,hc i hi]
   simp [List.getD_eq_getElem?_getD,List.getElem?_set_ne hij]
theorem BytesBlk.in8 {w:World} {g N c:Nat} {xs:List Int} (h:BytesBlk w g xs) (ho:Octets xs) (hN:N=xs.length) (hc:N≤c) (hc':c≤9223372036854775807):In8 w (some ⟨g,0,none⟩) N c xs :=
 ⟨hN,hc,hc',fun h=>by simp at h,ho,h.bytes⟩
theorem cap_in (w:World) (n:Nat) (hn:n≤1000000000):n≤grownCap w n 0 5∧grownCap w n 0 5≤9223372036854775807:=by
 refine ⟨grownCap_ge w n 0 _,?_⟩
 have h:=grownCap_le_maxLen w n 0 5 (by unfold maxLen;omega)
 unfold maxLen at h
 omega
end
end Go.Proofs.YtehkjkcnigknkaaGreat

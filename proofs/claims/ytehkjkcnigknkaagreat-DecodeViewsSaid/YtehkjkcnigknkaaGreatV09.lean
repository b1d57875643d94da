/-
  OpenW; FenRow; FenLaws; FenOf; FenRange; FenOfWalk.
-/
import Derived.Lib.Hide
import Derived.Test.YtehkjkcnigknkaaGreatV04
import Derived.Test.YtehkjkcnigknkaaGreatV05
import Derived.Test.YtehkjkcnigknkaaGreatV08
namespace Go.Proofs.YtehkjkcnigknkaaGreat
open Lib (hid)
section
open Go.ChangeShapes Go.WideShapes Go.ChangeAt Go.RowKit
def RowN (w:World) (p:Option Addr) (l:List Nat):Prop:=∀ i,i<l.length→∃ a,p=some a∧w.cell? (a.add i)=some (.int .u64 (l.getD i 0:Nat))
theorem RowN.keep {w w':World} {p:Option Addr} {l:List Nat} (h:RowN w p l) {S:Nat→Prop} (hk:Keeps S w w') (hs:∀ k,k<w.heap.size→¬ S k):RowN w' p l:=fun i hi=>by
 obtain ⟨a,rfl,hc⟩:=h i hi
 exact ⟨a,rfl,hk.cell hc (hs _ (ltOfCell hc))⟩
end
section
open Go.RowKit
end
section
open Go.RowKit
end
section
open Go.RowKit
set_option maxHeartbeats 4000000 in
set_option maxRecDepth 10000 in
theorem of12_ref (p:Option Addr) (n c:Nat) (l:List En) (hn:n=l.length) (hn9:n≤1000000) (w:World) (hl:EnsAt w p l) :
  Calls Tryz.prog 52 #[.slice p n c] w fun e w'=>∃ v,e=.returned v∧NumsSoFar w (ofF l) v w':=by
 obtain ⟨i0,hi,hz0,hz1,hz2⟩:=info_parts infoU64
 have HL:=hid hl
 have HN:=hid hn
 clear hl hn
 go_enter Tryz.func52,Tryz.ntmps52
 go_wp2_with fail
 go_loopw [3,8] (fun v i wr=>∃ j:Nat,j≤n∧i=.int .i64 (j:Int)∧Hid (NumsSoFar w (ofF (l.take j)) v wr)) (fun _ i _=>n - (intOf i).toNat)
 case atStart=>exact ⟨0,Nat.zero_le _,rfl,hid ⟨World.ownsRow_nil _ _ _ _,Below.refl _ _⟩⟩
 case round =>
  obtain ⟨j,hj,rfl,HS⟩:=hrel
  by_cases hlt:j<n
  ·have hdj:decide ((j:Int)<(n:Int))=true:=decide_eq_true (by omega)
   have hjl:j<l.length:=by rw [← HN.out];exact hlt
   obtain ⟨a,rfl,c0,c1⟩:=(HL.out.keep (Keeps.ofBelow HS.out.2)).at_ j hjl
   have hlk:(l.take j).length=j:=by rw [List.length_take];omega
   have HT:=hid (ofF_snoc (l.take j) (l.getD j En.none))
   rw [hlk,← take_getD hjl] at HT
   have hlen:(ofF (l.take j)).length≤1000000:=by rw [ofF_length,hlk];omega
   have htm:(j:Int).tmod 16=((j % 16:Nat):Int):=by rw [Int.tmod_eq_emod_of_nonneg (by omega)];omega
   obtain ⟨m,hm⟩:∃ m,m=j % 16:=⟨_,rfl⟩
   rw [← hm] at htm HT
   obtain ⟨r,hr⟩:∃ r,r=l.getD j En.none:=⟨_,rfl⟩
   rw [← hr] at c0 c1 HT
   obtain ⟨K,hK⟩:∃ K,K=ofF (l.take j):=⟨_,rfl⟩
   rw [← hK] at HS HT hlen
   have HLn:=hid hlen
   have HM:=hid hm
   have HS1:=hid (HS.out.alloc (.cells #[.int .u64 (r.hash:Int),.int .u32 (r.at_:Int)] 105))
   have htm2:(j:Int) % 16=(m:Int):=by omega
   clear hr hjl hlen hK hlk hm
   by_cases h0:m=0
   ·subst h0
    rw [if_pos rfl] at HT
    have HS2:=hid (HS1.out.alloc (.cells #[.int .u64 (r.hash:Int)] 46))
    have HW:Hid (Whole ((wr.alloc (.cells #[.int .u64 (r.hash:Int),.int .u32 (r.at_:Int)] 105)).alloc (.cells #[.int .u64 (r.hash:Int)] 46)) (wr.heap.size+1) 46 #[.int .u64 (r.hash:Int)]):=hid (Whole.newAt _ _ _ _ (by simp))
    go_wp2_with (at_builtin;refine wpList_append_any rfl _ _ 98 rfl w.heap.size 46 i0 (.int .u64 0) 1 8 Tryz.underlying98 hi hz0 hz1 hz2 rfl (by decide) _ K.length (K.map numV) rfl HS2.out.1 (some ⟨wr.heap.size+1,0,none⟩) 1 1 [numV r.hash] rfl (fun h=>by simp at h) rfl ?qc1 (by intro u hu;simp at hu;subst hu;rfl) (by have:=HLn.out;unfold maxLen;omega) (by have:=HLn.out;omega) HS2.out.2.size ?_)
    case qc1 =>
     intro ad had j' u hu
     obtain rfl:=Option.some.inj had
     rw [Addr.add_lit,Nat.zero_add]
     match j',hu with
     | 0,hu=>obtain rfl:=Option.some.inj hu;exact HW.out.cell 0 rfl
     | k+1,hu=>simp at hu
    intro v' w5 h5 hb5
    have HS5:Hid (NumsSoFar w (ofF (l.take (j+1))) v' w5):=hid (by
     refine ⟨?_,HS2.out.2.trans hb5⟩
     rw [HT.out,List.map_append,List.length_append]
     exact h5)
    clear h5 hb5
    go_wp2_with fail
    exact ⟨⟨j+1,by omega,by go_num,HS5⟩,by simp [intOf];omega⟩
   ·have hd0:((m:Int) == 0)=false:=by rw [beq_eq_false_iff_ne];omega
    have hd1:(m == 0)=false:=by rw [beq_eq_false_iff_ne];exact h0
    have hd2:decide (m=0)=false:=decide_eq_false h0
    rw [if_neg h0] at HT
    rw [← HT.out] at HS1
    go_wp2_with fail
    exact ⟨⟨j+1,by omega,by go_num,HS1⟩,by simp [intOf];omega⟩
  ·have hdj:decide ((j:Int)<(n:Int))=false:=decide_eq_false (by omega)
   have HS2:=HS
   rw [List.take_of_length_le (by have:=HN.out;omega)] at HS2
   go_wp2_with fail
   go_ret
   exact ⟨_,rfl,HS2.out⟩
end
section
open Go.RowKit
end
section
open Go.RowKit
theorem cells_rowN {w:World} {q:Option Addr} {l:List Nat} {m d:Nat} (hm:m=l.length) (hb:q=none→m=0∧d=0) (h:∀ ad,q=some ad→∀ j u,(l.map numV)[j]?=some u→w.cell? (ad.add j)=some u):RowN w q l:=fun j hj=>by
 cases q with
 | none=>have:=(hb rfl).1;omega
 | some ad=>exact ⟨ad,rfl,by rw [h ad rfl j (numV (l.getD j 0)) (by simp [hj])];rfl⟩
end
end Go.Proofs.YtehkjkcnigknkaaGreat

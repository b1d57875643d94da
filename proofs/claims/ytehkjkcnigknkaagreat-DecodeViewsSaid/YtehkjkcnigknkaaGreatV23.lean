/-
  DeBaWalk; OwnP; DeStWalk; ImLaws2; ImPlNum; ImPlA.
-/
import Derived.Laws.AppendOwnNone
import Derived.Test.YtehkjkcnigknkaaGreatV04
import Derived.Test.YtehkjkcnigknkaaGreatV12
import Derived.Test.YtehkjkcnigknkaaGreatV18
import Derived.Test.YtehkjkcnigknkaaGreatV20
import Derived.Test.YtehkjkcnigknkaaGreatV21
import Derived.Test.YtehkjkcnigknkaaGreatV22
namespace Go.Proofs.YtehkjkcnigknkaaGreat
section
open Go.RowKit
end
section
open Go.RowKit
theorem OwnP.nilP (w:World) (base:Nat):OwnP w base (.slice none 0 0) 0 []:=⟨rfl,.inl ⟨rfl,rfl⟩⟩
theorem OwnP.form {w:World} {base n:Nat} {u:Value} {xs:List Value} (h:OwnP w base u n xs):∃ q d,u=.slice q n d:=by
 rcases h.2 with ⟨rfl,rfl⟩|⟨g,cap,cur,rfl,_⟩
 ·exact ⟨none,0,rfl⟩
 ·exact ⟨_,cap,rfl⟩
theorem run_append_P (w:World) (base:Nat) (ty:TypeId) (v:Value) (n:Nat) (xs:List Value) (hown:OwnP w base v n xs)
  (a:Addr) (m c:Nat) (news:List Value) (hl:news.length=m*1) (hnews:∀ j u,news[j]?=some u→w.cell? (a.add j)=some u) (h1:∀ u ∈ news,u.oneCell'=true)
  (h63:n+m≤maxLen) (hbytes:(n+m)*1≤140737488355328) (hbase:base≤w.heap.size) :
  ∃ v' w',(Builtin.append_ #[29,29] ty #[v,.slice (some a) m c]).run Tryz.prog w=.ok v' w'∧OwnP w' base v' (n+m) (xs ++ news)∧w.grownBy w' v.ownBlock:=by
 obtain ⟨i0,hi,hz0,hz1,hz2⟩:=info_parts infoByte
 rcases hown.2 with ⟨rfl,rfl⟩|⟨g,cap,cur,rfl,hbg,hg,hnc,hcm,hcs,htake⟩
 ·obtain rfl:xs=[]:=List.eq_nil_of_length_eq_zero hown.1
  obtain ⟨v',w',h2,h3,h4,_⟩:=run_append_own (P:=Tryz.prog) w base 29 ty 5 i0 (.int .u8 0) 1 1 Tryz.underlying29 hi hz0 hz1 hz2 rfl (by decide) _ 0 [] (World.ownsRow_nil _ _ _ _) a m c news hl hnews h1 h63 hbytes hbase
  exact ⟨v',w',h2,OwnP.ofRow h3,h4⟩
 ·by_cases hroom:n+m≤cap
  ·have hr:=run_append_room (P:=Tryz.prog) w 29 ty 5 i0 Tryz.underlying29 hi g n cap cur hg a m c news (by rw [hz1];exact hl) hnews h1 hroom (by rw [hz1];omega)
   rw [hz1] at hr
   refine ⟨_,_,hr,⟨by rw [List.length_append,hown.1];omega,.inr ⟨g,cap,_,rfl,hbg,setRow_heap w g cur _ 5 _ hg,hroom,hcm,?_,?_⟩⟩,⟨rfl,rfl,rfl,by simp,fun k _ hk=>setRow_other w g k _ (fun e=>hk (by simp [Value.ownBlock,e]))⟩⟩
   ·simp only [List.size_toArray,List.length_append,List.length_take,List.length_drop,Array.length_toList]
    omega
   ·rw [Nat.mul_one,htake]
    have e:n+m=(xs ++ news).length:=by rw [List.length_append,hown.1];omega
    rw [e]
    exact List.take_left
  ·have holds:∀ j u,xs[j]?=some u→w.cell? ((⟨g,0,none⟩:Addr).add j)=some u:=fun j u hu=>by
    have hw:Whole w g 5 cur:=hg
    rw [addZero]
    refine hw.cell j ?_
    rw [← htake,List.getElem?_take] at hu
    split at hu
    ·simpa using hu
    ·cases hu
   have hr:=run_append_grow (P:=Tryz.prog) w 29 ty 5 i0 (.int .u8 0) Tryz.underlying29 hi hz0 ⟨g,0,none⟩ n cap xs (by rw [hz1,hown.1];omega) holds a m c news (by rw [hz1];exact hl) hnews (by omega) (by unfold maxLen at h63;omega) (growslice_fits (by omega) (by rw [hz2];exact hbytes))
   refine ⟨_,_,hr,?_,⟨rfl,rfl,rfl,by simp,fun k hk _=>Below.heap_alloc w.drew _ k hk⟩⟩
   have hge:=grownCap_ge w (n+m) cap 5
   have hcmx:grownCap w (n+m) cap 5≤maxLen:=grownCap_le_maxLen w (n+m) cap 5 h63
   refine ⟨by rw [List.length_append,hown.1];omega,.inr ⟨w.heap.size,_,_,rfl,hbase,heap_alloc_new w.drew _,hge,hcmx,?_,?_⟩⟩
   ·have hzc:(Value.int .u8 0).cells.size=1:=rfl
    simp only [Array.size_append,List.size_toArray,size_zeroCells,hzc,hown.1,hl]
    omega
   ·have e:n+m=(xs ++ news).length:=by rw [List.length_append,hown.1];omega
    rw [e]
    simp only [Array.toList_append,List.append_assoc]
    rw [← List.append_assoc]
    exact List.take_left
theorem wpList_append_P {w:World} {ops:Array Oper} {rest:List Oper} {o:Oper} {a:Act} {Q:Exit→Act→World→Prop} (hgd:o.guard=none) (s x:Operand)
  (ho:o.op=.call { callee:=.builtin .append,args:=#[s,x],argTypes:=#[29,29] }) (base:Nat)
  (v:Value) (n:Nat) (xs:List Value) (hs:a.eval s=v) (hown:OwnP w base v n xs)
  (ad:Addr) (m c:Nat) (news:List Value) (hx:a.eval x=.slice (some ad) m c) (hl:news.length=m*1) (hnews:∀ j u,news[j]?=some u→w.cell? (ad.add j)=some u) (h1:∀ u ∈ news,u.oneCell'=true)
  (h63:n+m≤maxLen) (hbytes:(n+m)*1≤140737488355328) (hbase:base≤w.heap.size)
  (h:∀ v' w',OwnP w' base v' (n+m) (xs ++ news)→w.grownBy w' v.ownBlock→wpList Tryz.prog ops Q rest (a.put o.dst v') w'):wpList Tryz.prog ops Q (o :: rest) a w:=by
 refine wpList_plain hgd fun K hK=>?_
 obtain ⟨v',w',hr,h2,h3⟩:=run_append_P w base o.type v n xs hown ad m c news hl hnews h1 h63 hbytes hbase
 unfold Oper.wp execOp
 simp only [ho,resolve,invoke,builtin,Sem.run_bind,Sem.run_pure,Result.andThen_ok,List.map_toArray,List.map_cons,List.map_nil,hs,hx,hr]
 exact hK _ _ (h v' w' h2 h3)
end
section
open Go.RowKit
end
section
open Go.RowKit
def p32A (x:Nat × Nat):Value:=.int .u32 (x.1:Int)
def p32B (x:Nat × Nat):Value:=.int .u32 (x.2:Int)
end
section
end
section
open Go.RowKit
theorem shl_small {e j:Nat} (he:e≤24) (hj:j≤100000):Op.shift BinOp.shl IntKind.i64 (j:Int) IntKind.u8 (e:Int)=pure (.int .i64 ((j*2 ^ e:Nat):Int)):=by
 have hp:2 ^ e≤16777216:=Nat.pow_le_pow_right (n:=2) (by decide) he
 have hm:j*2 ^ e≤100000*16777216:=Nat.mul_le_mul hj hp
 have e2:(j:Int)*(2:Int) ^ e=((j*2 ^ e:Nat):Int):=by push_cast;rfl
 have e1:min ((e:Int)).toNat IntKind.i64.bits=e:=by
  have:IntKind.i64.bits=64:=rfl
  rw [Int.toNat_natCast,this]
  omega
 have e3:IntKind.i64.wrap ((j*2 ^ e:Nat):Int)=((j*2 ^ e:Nat):Int):=by
  obtain ⟨y,hy⟩:∃ y,y=j*2 ^ e:=⟨_,rfl⟩
  rw [← hy] at hm ⊢
  rw [IntKind.wrap_i64]
  omega
 have h0:¬ ((e:Int)<0):=by omega
 show (if (e:Int)<0 then _ else pure (Value.int .i64 (IntKind.i64.wrap ((j:Int)*2 ^ min ((e:Int)).toNat IntKind.i64.bits))))=_
 rw [if_neg h0,e1,e2,e3]
theorem shl_wrap {e j:Nat} (he:e≤24) (hj:j≤100000):wrap64 ((j:Int)*2 ^ e)=((j*2 ^ e:Nat):Int):=by
 have hp:2 ^ e≤16777216:=Nat.pow_le_pow_right (n:=2) (by decide) he
 have hm:j*2 ^ e≤100000*16777216:=Nat.mul_le_mul hj hp
 have e2:(j:Int)*(2:Int) ^ e=((j*2 ^ e:Nat):Int):=by push_cast;rfl
 rw [e2]
 obtain ⟨y,hy⟩:∃ y,y=j*2 ^ e:=⟨_,rfl⟩
 rw [← hy] at hm ⊢
 unfold wrap64
 omega
end
end Go.Proofs.YtehkjkcnigknkaaGreat

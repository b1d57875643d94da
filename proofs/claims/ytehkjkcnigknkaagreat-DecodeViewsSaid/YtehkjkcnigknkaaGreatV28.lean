/-
  CobsGrp; CobsFirst; CobsIter; CobsStuff; CobsUnNum; CobsUnstuff.
-/
import Derived.Lib.BytesEntry
import Derived.Laws.Externs
import Derived.RangeFuncBox
import Derived.RangeFuncNested
import Derived.RangeFuncBound
import Derived.RangeFuncCalls
import Derived.RangeFuncLeaves
import Derived.Shelf.Abstract
import Derived.Shelf.RegionOpen
import Derived.OwnWalkIn
import Derived.TacticsInMore
import Derived.LoopNIn
import Derived.LoopIn
import Derived.Maps.AppendAt
import Derived.Lib.Hide
import Derived.Test.YtehkjkcnigknkaaGreatV01
import Derived.Test.YtehkjkcnigknkaaGreatV27
namespace Go.Proofs.YtehkjkcnigknkaaGreat
open Lib (hid)
section
theorem takeWhile_all {xs:List Int} (h:∀ b ∈ xs,b ≠ 0):xs.takeWhile (fun b=>decide (b ≠ 0))=xs:=by
 induction xs with
 | nil=>rfl
 | cons b r ih =>
  rw [List.takeWhile_cons_of_pos (by simpa using h b List.mem_cons_self),ih (fun x hx=>h x (List.mem_cons_of_mem _ hx))]
def firstN (xs:List Int):Nat:=((xs.take 254).takeWhile (fun b=>decide (b ≠ 0))).length
theorem firstN_le (xs:List Int):firstN xs≤xs.length:=by
 unfold firstN
 have h:=(List.takeWhile_prefix (l:=xs.take 254) (fun b=>decide (b ≠ 0))).length_le
 rw [List.length_take] at h
 omega
theorem firstN_full (xs:List Int):firstN xs≤254:=by
 unfold firstN
 have h:=(List.takeWhile_prefix (l:=xs.take 254) (fun b=>decide (b ≠ 0))).length_le
 rw [List.length_take] at h
 omega
def groupsOf (xs:List Int):List (List Int) :=
 xs.take (firstN xs) :: if h:firstN xs=xs.length then [] else groupsOf (xs.drop (if firstN xs<254 then firstN xs+1 else firstN xs))
termination_by xs.length
decreasing_by
 have:=firstN_le xs
 rw [List.length_drop]
 split <;> omega
theorem groupsOf_end {xs:List Int} (h:firstN xs=xs.length):groupsOf xs=[xs.take (firstN xs)]:=by
 rw [groupsOf,dif_pos h]
theorem groupsOf_more {xs:List Int} (h:firstN xs ≠ xs.length):groupsOf xs=xs.take (firstN xs) :: groupsOf (xs.drop (if firstN xs<254 then firstN xs+1 else firstN xs)):=by
 rw [groupsOf,dif_neg h]
def told:List (List Int)→List Int
 | []=>[]
 | g :: gs=>(((g.length+1:Nat):Int) :: g) ++ told gs
theorem told_snoc:∀ (gs:List (List Int)) (g:List Int),told (gs ++ [g])=told gs ++ (((g.length+1:Nat):Int) :: g)
 | [],g=>by simp [told]
 | h :: gs,g=>by simp [told,told_snoc gs g]
theorem told_len:∀ (gs:List (List Int)),(∀ g ∈ gs,g.length≤254)→(told gs).length≤255*gs.length
 | [],_=>by simp [told]
 | g :: gs,h=>by
  have h1:=h g List.mem_cons_self
  have h2:=told_len gs (fun x hx=>h x (List.mem_cons_of_mem _ hx))
  simp only [told,List.length_append,List.length_cons]
  omega
theorem firstN_solid {xs:List Int} (h:∀ b ∈ xs,b ≠ 0) (hl:xs.length≤254):firstN xs=xs.length:=by
 unfold firstN
 rw [List.take_of_length_le hl,takeWhile_all h]
theorem firstN_nought {now r:List Int} (h:∀ b ∈ now,b ≠ 0) (hl:now.length<254):firstN (now ++ 0 :: r)=now.length:=by
 unfold firstN
 rw [List.take_append,List.take_of_length_le (by omega),List.takeWhile_append_of_pos (fun b hb=>decide_eq_true (h b hb))]
 obtain ⟨k,hk⟩:∃ k,254 - now.length=k+1:=⟨254 - now.length - 1,by omega⟩
 rw [hk]
 simp
theorem firstN_long {now r:List Int} (h:∀ b ∈ now,b ≠ 0) (hl:now.length=254):firstN (now ++ r)=254:=by
 unfold firstN
 rw [List.take_append,List.take_of_length_le (by omega),hl]
 simp only [Nat.sub_self,List.take_zero,List.append_nil]
 rw [takeWhile_all h,hl]
theorem stuffGo_groups:∀ (r now:List Int),now.length<254→(∀ b ∈ now,b ≠ 0)→stuffGo now false r=told (groupsOf (now ++ r))
 | [],now,hl,hn=>by
  rw [List.append_nil,groupsOf_end (firstN_solid hn (by omega)),firstN_solid hn (by omega),List.take_length]
  simp [stuffGo,told]
 | b :: r,now,hl,hn=>by
  unfold stuffGo
  by_cases hb:b=0
  ·subst hb
   rw [if_pos rfl,groupsOf_more (by rw [firstN_nought hn hl];simp),firstN_nought hn hl,if_pos hl,stuffGo_groups r [] (by decide) (by simp)]
   rw [show (now ++ 0 :: r).drop (now.length+1)=r by rw [List.drop_append];simp]
   simp [told]
  ·have hn':∀ x ∈ now ++ [b],x ≠ 0:=fun x hx=>by
    rcases List.mem_append.1 hx with h|h
    ·exact hn x h
    ·rw [List.mem_singleton.1 h];exact hb
   rw [if_neg hb,show now ++ b :: r=(now ++ [b]) ++ r by simp]
   by_cases h254:now.length+1=254
   ·have hl':(now ++ [b]).length=254:=by simpa using h254
    rw [if_pos h254]
    cases r with
    | nil =>
     rw [List.append_nil,groupsOf_end (firstN_solid hn' (by omega)),firstN_solid hn' (by omega),List.take_length]
     have e:(((now ++ [b]).length+1:Nat):Int)=255:=by rw [hl'];rfl
     simp only [stuffGo,told,e,List.append_nil]
     simp
    | cons c r =>
     have hf:=firstN_long (r:=c :: r) hn' hl'
     have e:((((now ++ [b]).length)+1:Nat):Int)=255:=by rw [hl'];rfl
     have ht:stuffGo [] true (c :: r)=stuffGo [] false (c :: r):=by simp [stuffGo]
     rw [groupsOf_more (by rw [hf];simp at hl' ⊢;omega),hf,if_neg (by decide),ht,stuffGo_groups (c :: r) [] (by decide) (by simp)]
     rw [show ((now ++ [b]) ++ c :: r).take 254=now ++ [b] by rw [← hl',List.take_left],show ((now ++ [b]) ++ c :: r).drop 254=c :: r by rw [← hl',List.drop_left]]
     simp only [told,e,List.nil_append]
   ·rw [if_neg h254,stuffGo_groups r (now ++ [b]) (by simp;omega) hn']
theorem stuff_groups (xs:List Int):stuff xs=told (groupsOf xs):=by
 have:=stuffGo_groups xs [] (by decide) (by simp)
 simpa [stuff] using this
theorem index_none {xs:List Int} (h:∀ b ∈ xs,b ≠ 0) (ho:Octets xs):Lib.indexByte (Lib.bytesOf xs) 0=-1:=by
 induction xs with
 | nil=>rfl
 | cons b r ih =>
  have hb:=ho b List.mem_cons_self
  have hz:=h b List.mem_cons_self
  have e:(UInt8.ofNat b.toNat == 0)=false:=by
   have:UInt8.ofNat b.toNat ≠ 0:=fun e=>by
    have:=congrArg UInt8.toNat e
    simp at this
    omega
   simpa using this
  have ih:=ih (fun x hx=>h x (List.mem_cons_of_mem _ hx)) (fun x hx=>ho x (List.mem_cons_of_mem _ hx))
  simp only [Lib.bytesOf,List.map_cons,Lib.indexByte,e] at ih ⊢
  simp [ih]
theorem index_some {now r:List Int} (h:∀ b ∈ now,b ≠ 0) (ho:Octets now):Lib.indexByte (Lib.bytesOf (now ++ 0 :: r)) 0=(now.length:Int):=by
 induction now with
 | nil=>rfl
 | cons b q ih =>
  have hb:=ho b List.mem_cons_self
  have hz:=h b List.mem_cons_self
  have e:(UInt8.ofNat b.toNat == 0)=false:=by
   have:UInt8.ofNat b.toNat ≠ 0:=fun e=>by
    have:=congrArg UInt8.toNat e
    simp at this
    omega
   simpa using this
  have ih:=ih (fun x hx=>h x (List.mem_cons_of_mem _ hx)) (fun x hx=>ho x (List.mem_cons_of_mem _ hx))
  simp only [Lib.bytesOf,List.map_append,List.map_cons,List.cons_append,Lib.indexByte,e] at ih ⊢
  rw [ih]
  have:((q.length:Int) == -1)=false:=by simp
  simp [this]
def nought (xs:List Int):Int:=if 0 ∈ xs then ((xs.takeWhile (fun b=>decide (b ≠ 0))).length:Int) else -1
theorem split_nought {xs:List Int} (h:0 ∈ xs):∃ r,xs=xs.takeWhile (fun b=>decide (b ≠ 0)) ++ 0 :: r:=by
 induction xs with
 | nil=>simp at h
 | cons b q ih =>
  by_cases hb:b=0
  ·subst hb
   exact ⟨q,by simp⟩
  ·obtain ⟨r,hr⟩:=ih (by rcases List.mem_cons.1 h with h|h;exact absurd h.symm hb;exact h)
   refine ⟨r,?_⟩
   rw [List.takeWhile_cons_of_pos (by simpa using hb),List.cons_append,← hr]
theorem takeWhile_ne {xs:List Int}:∀ b ∈ xs.takeWhile (fun b=>decide (b ≠ 0)),b ≠ 0:=fun b hb=>by
 have h:(xs.takeWhile (fun b=>decide (b ≠ 0))).all (fun b=>decide (b ≠ 0))=true:=List.all_takeWhile
 exact of_decide_eq_true (List.all_eq_true.1 h b hb)
theorem index_nought {xs:List Int} (ho:Octets xs):Lib.indexByte (Lib.bytesOf xs) 0=nought xs:=by
 unfold nought
 by_cases h:0 ∈ xs
 ·rw [if_pos h]
  obtain ⟨r,hr⟩:=split_nought h
  have:=index_some (now:=xs.takeWhile (fun b=>decide (b ≠ 0))) (r:=r) takeWhile_ne (fun b hb=>ho b ((List.takeWhile_prefix _).subset hb))
  rw [← hr] at this
  exact this
 ·rw [if_neg h]
  exact index_none (fun b hb e=>h (e ▸ hb)) ho
theorem firstN_nought_some {xs:List Int} (h:0 ∈ xs.take 254):nought (xs.take 254)=(firstN xs:Int):=by
 unfold nought
 rw [if_pos h]
 rfl
theorem firstN_nought_none {xs:List Int} (h:0 ∉ xs.take 254):nought (xs.take 254)=-1∧firstN xs=(xs.take 254).length:=by
 unfold nought firstN
 rw [if_neg h,takeWhile_all (fun b hb e=>h (e ▸ hb))]
 exact ⟨rfl,rfl⟩
end
section
open Go.RowKit
theorem run_index (w:World) (p:Option Addr) (n c:Nat) (xs:List Int) (hx:n=xs.length) (ho:Octets xs) (hb:Bytes8 w p xs) (hn0:p=none→n=0) :
  (Extern.BytealgIndexByte.indexByte #[.slice p n c,.int .u8 0]).run Tryz.prog w=.ok (.int .i64 (nought xs)) w:=by
 have hs:=Lib.run_indexByteString (P:=Tryz.prog) ⟨(Lib.bytesOf xs).toArray⟩ 0 w
 have hl:(Extern.Bytes.bytesOf (.slice p n c)).run Tryz.prog w=.ok (⟨(Lib.bytesOf xs).toArray⟩:ByteArray) w:=by
  cases p with
  | none =>
   have h0:=hn0 rfl
   obtain rfl:xs=[]:=List.length_eq_zero_iff.1 (by omega)
   rfl
  | some a =>
   have h:=Lib.run_loadBytesX (P:=Tryz.prog) w xs a .empty (fun j x hj=>by
    have hjl:j<xs.length:=(List.getElem?_eq_some_iff.1 hj).1
    obtain ⟨a',ha',hc⟩:=hb (by omega)
    obtain rfl:=Option.some.inj ha'
    rw [hc j hjl,List.getD_eq_getElem?_getD,hj]
    rfl)
   rw [← hx] at h
   have he:(⟨ByteArray.empty.data ++ (Lib.bytesOf xs).toArray⟩:ByteArray)=⟨(Lib.bytesOf xs).toArray⟩:=by
    apply ByteArray.ext
    show (#[]:Array UInt8) ++ (Lib.bytesOf xs).toArray=(Lib.bytesOf xs).toArray
    simp
   rw [he] at h
   exact h
 rw [show ((0:Int).toNat.toUInt8)=(0:UInt8) from rfl,show ((⟨(Lib.bytesOf xs).toArray⟩:ByteArray).data.toList)=Lib.bytesOf xs from rfl,index_nought ho] at hs
 change Sem.run Tryz.prog (do
  let b ← Extern.Bytes.bytesOf (.slice p n c)
  let c ← Extern.Bytes.asByte (.int .u8 0)
  match (List.range b.size).find? fun i=>b[i]! == c with
  | some i=>pure (goInt i)
  | none=>pure (goInt (-1))) w=_
 change Sem.run Tryz.prog (do
  let b ← Extern.Bytes.bytesOf (.string ⟨(Lib.bytesOf xs).toArray⟩)
  let c ← Extern.Bytes.asByte (.int .u8 0)
  match (List.range b.size).find? fun i=>b[i]! == c with
  | some i=>pure (goInt i)
  | none=>pure (goInt (-1))) w=_ at hs
 rw [Sem.run_bind,hl]
 simp only [Extern.Bytes.bytesOf,Sem.run_bind,Sem.run_pure,Result.andThen] at hs ⊢
 exact hs
theorem run_index_at (w:World) (p:Option Addr) (n c:Nat) (xs:List Int) (hx:n=xs.length) (ho:Octets xs) (hb:Bytes8 w p xs) (hn0:p=none→n=0) :
  (callFunc 111 #[.slice p n c,.int .u8 0]).run Tryz.prog w=.ok (.value (.int .i64 (nought xs))) w:=by
 rw [run_callFunc_extern (e:=Extern.BytealgIndexByte.indexByte) Tryz.func111 (by kernel_rfl) (by kernel_rfl) (by kernel_rfl) (by kernel_rfl),run_index w p n c xs hx ho hb hn0]
 rfl
set_option maxHeartbeats 800000 in
set_option maxRecDepth 10000 in
theorem index_cobs (p:Option Addr) (n c:Nat) (xs:List Int) (w:World) (hx:n=xs.length) (ho:Octets xs) (hb:Bytes8 w p xs) (hn0:p=none→n=0) :
  Calls Tryz.prog 83 #[.slice p n c,.int .u8 0] w fun e w'=>e=.returned (.int .i64 (nought xs))∧w'=w:=by
 have hr:=run_index_at w p n c xs hx ho hb hn0
 clear hx ho hb hn0
 go_enter Tryz.func83,Tryz.ntmps83
 go_wp2_with fail
 go_ret
 exact ⟨rfl,rfl⟩
set_option maxHeartbeats 800000 in
set_option maxRecDepth 10000 in
theorem first_cobs (p:Option Addr) (n c:Nat) (xs:List Int) (w:World) (hx:n=xs.length) (hc:n≤c) (hc':c≤9223372036854775807) (ho:Octets xs) (hb:Bytes8 w p xs) (hn0:p=none→n=0∧c=0) :
  Calls Tryz.prog 170 #[.slice p n c] w fun e w'=>e=.returned (.int .i64 (firstN xs:Int))∧w'=w:=by
 obtain ⟨m,hm⟩:∃ m,m=min n 254:=⟨_,rfl⟩
 have hml:m=(xs.take 254).length:=by rw [List.length_take,hm,hx];omega
 have HI:=hid (fun (n' d:Nat) (hn':n'=m)=>index_cobs p n' d (xs.take 254) w (hn'.trans hml) (ho.take _) (by
  have:=hb.piece (q:=p) 0 m (by omega) (fun h=>by cases p <;> simp [Addr.add])
  rw [List.drop_zero] at this
  rw [show xs.take 254=xs.take m by rw [hm,hx];simp [List.take_eq_take_iff,Nat.min_comm]]
  exact this) (fun h=>by have:=hn0 h;omega))
 have hmn:min (n:Int) 254=(m:Int):=by omega
 have hm1:(m:Int)≤(c:Int):=by omega
 have hm2:(m:Int)≤254:=by omega
 obtain ⟨z,hz⟩:∃ z,z=nought (xs.take 254):=⟨_,rfl⟩
 have hzf:(0≤z∧z=(firstN xs:Int)) ∨ (z=-1∧(firstN xs:Int)=(m:Int)):=by
  by_cases h:0 ∈ xs.take 254
  ·left
   rw [hz,firstN_nought_some h]
   exact ⟨by omega,rfl⟩
  ·right
   obtain ⟨e1,e2⟩:=firstN_nought_none h
   rw [hz,e1,e2,← hml]
   exact ⟨rfl,rfl⟩
 rw [← hz] at HI
 clear hml hm hb hn0 ho hx hz
 rcases hzf with ⟨h0,hz⟩|⟨hz,hf⟩
 ·have hd:decide (0≤z)=true:=decide_eq_true h0
  rw [← hz]
  clear hz
  go_enter Tryz.func170,Tryz.ntmps170
  go_wp2_with fail
  all_goals
   refine (HI.out _ _ (by omega)).mono ?_
   rintro e w1 ⟨rfl,rfl⟩
   go_wp2_with fail
   go_ret
   first
    | exact ⟨rfl,rfl⟩
    | exact ⟨congrArg (fun z=>Ending.returned (Value.int .i64 z)) (by omega),rfl⟩
 ·have hd:decide (0≤(-1:Int))=false:=by decide
  subst hz
  rw [hf]
  clear hf
  go_enter Tryz.func170,Tryz.ntmps170
  go_wp2_with fail
  all_goals
   refine (HI.out _ _ (by omega)).mono ?_
   rintro e w1 ⟨rfl,rfl⟩
   go_wp2_with fail
   go_ret
   first
    | exact ⟨rfl,rfl⟩
    | exact ⟨congrArg (fun z=>Ending.returned (Value.int .i64 z)) (by omega),rfl⟩
theorem most_cobs (z:Int) (w:World) (h0:-100000000≤z) (h1:z≤100000000) :
  Calls Tryz.prog 137 #[.int .i64 z] w fun e w'=>e=.returned (.int .i64 ((mostOf z.toNat:Nat):Int))∧w'=w:=by
 have hq:0<z→(z - 1).tdiv 254=(z - 1) / 254:=fun h=>Int.tdiv_eq_ediv_of_nonneg (by omega)
 by_cases hz:z≤0
 ·have hd:decide (z≤0)=true:=decide_eq_true hz
  have e:((mostOf z.toNat:Nat):Int)=1:=by rw [show z.toNat=0 by omega];rfl
  rw [e]
  go_enter Tryz.func137,Tryz.ntmps137
  go_wp2_with fail
  go_ret
  exact ⟨rfl,rfl⟩
 ·have hd:decide (z≤0)=false:=decide_eq_false hz
  have e:((mostOf z.toNat:Nat):Int)=z+1+(z - 1) / 254:=by unfold mostOf;rw [if_neg (by omega)];omega
  have hq:=hq (by omega)
  rw [e]
  go_enter Tryz.func137,Tryz.ntmps137
  go_wp2_with fail
  go_ret
  exact ⟨rfl,rfl⟩
end
section
open Go.RowKit Go.Shelf
attribute [local go_sem] Oper.semAt_some
structure Grp (w:World) where
 q:Option Addr
 n:Nat
 d:Nat
 g:List Int
 hn:n=g.length
 hd:n≤d
 hd':d≤9223372036854775807
 hq:q=none→n=0∧d=0
 hb:Bytes8 w q g
 h254:n≤254
 ho:Octets g
theorem Bytes8.below {w W:World} {p:Option Addr} {xs:List Int} (h:Bytes8 w p xs) (hB:Below w.heap.size w W):Bytes8 W p xs :=
 h.keep (Keeps.ofBelow (S:=NoBlock) hB) (fun _ _ h=>h)
theorem tail_bytes {w:World} {q q':Option Addr} {R:List Int} {m:Nat} (h:Bytes8 w q R) (hm:m=R.length) (j:Nat) (hj:j≤m) (hq:0<m - j→q'=q.map (·.add j)):Bytes8 w q' (R.drop j):=by
 have h1:=h.piece (q:=q') j (m - j) (by omega) hq
 rwa [List.take_of_length_le (by rw [List.length_drop];omega)] at h1
def sliceLen:Value→Nat
 | .slice _ n _=>n
 | _=>0
set_option maxRecDepth 100000 in
set_option maxHeartbeats 2000000 in
theorem iter_cobs (n : Nat) (hn : 1 ≤ n) (l B : Nat) (w0 : World) (p : Option Addr) (N c : Nat) (xs : List Int) (hx : N = xs.length) (hc : N ≤ c) (hc' : c ≤ 9223372036854775807) (ho : Octets xs) (hb : Bytes8 w0 p xs) (hn0 : p = none → N = 0 ∧ c = 0)
    (J Jx : List (Grp w0) → World → Prop)
    (hY : ∀ pre x W, J pre W → pre.length < N + 1 → YieldAt Fence.wide (n - 1) Tryz.prog l #[.slice x.q x.n x.d] W fun e W' =>
      (e = .returned (.bool true) ∧ J (pre ++ [x]) W' ∧ Below w0.heap.size W W') ∨ (e = .returned (.bool false) ∧ Jx (pre ++ [x]) W'))
    (W : World) (hB : W.cell? ⟨B, 0, none⟩ = some (.slice p N c)) (hW : Below w0.heap.size w0 W) (h0 : J [] W) :
    CallsIn Fence.wide n Tryz.prog 169 #[.func (.yield l) #[] #[], .pointer (some ⟨B, 0, none⟩)] W fun e W' => (∃ v, e = .returned v) ∧
      ((∃ ys, ys.map Grp.g = groupsOf xs ∧ J ys W') ∨ (∃ pre, Jx pre W')) := by
  have HX := Lib.hid hx
  have HO := Lib.hid ho
  have HBY := Lib.hid hb
  have HN0 := Lib.hid hn0
  have HWB := Lib.hid hW
  clear hx ho hb hn0 hW
  refine callsIn_of_wp Tryz.func169 rfl trivial ?_ rfl
  simp only [Tryz.ntmps169, List.size_toArray, List.length_cons, List.length_nil, Nat.reduceAdd, Nat.reduceSub, Array.replicate_succ, Array.replicate_zero, List.push_toArray, List.append_toArray, List.nil_append, List.cons_append]
  gi_wp2
  gi_loopw [3] (fun v wr => ∃ (pre : List (Grp w0)) (R : List Int) (q : Option Addr) (m d : Nat), v = .slice q m d ∧ m = R.length ∧ m ≤ d ∧ d ≤ 9223372036854775807 ∧ (q = none → m = 0 ∧ d = 0) ∧ Octets R ∧ Bytes8 w0 q R ∧ pre.map Grp.g ++ groupsOf R = groupsOf xs ∧ pre.length + m ≤ N ∧ J pre wr ∧ Below w0.heap.size w0 wr)
    (fun v _ => sliceLen v)
  case atStart =>
    exact ⟨[], xs, p, N, c, rfl, HX.out, hc, hc', HN0.out, HO.out, HBY.out, rfl, by simp, h0, HWB.out⟩
  case round =>
    obtain ⟨pre, R, q, m, d, rfl, hm, hd, hd', hq, hoR, hbR, hg, hlen, hJ, hBel⟩ := hrel
    obtain ⟨k, hk⟩ : ∃ k, k = firstN R := ⟨_, rfl⟩
    have hkm : k ≤ m := by rw [hk, hm]; exact firstN_le R
    have hk254 : k ≤ 254 := by rw [hk]; exact firstN_full R
    have HF := Lib.hid (first_cobs q m d R wr hm hd hd' hoR (hbR.below hBel) hq)
    rw [← hk] at HF
    obtain ⟨x, hxq, hxn, hxd, hxg⟩ : ∃ x : Grp w0, x.q = q ∧ x.n = k ∧ x.d = d ∧ x.g = R.take k :=
      ⟨{ q := q, n := k, d := d, g := R.take k, hn := by rw [List.length_take]; omega, hd := by omega, hd' := hd', hq := fun h => by have := hq h; omega, hb := by
          have := hbR.piece (q := q) 0 k (by omega) (fun h => by cases q <;> simp [Addr.add])
          rwa [List.drop_zero] at this, h254 := hk254, ho := hoR.take _ }, rfl, rfl, rfl, rfl⟩
    obtain ⟨fn, tmps, assign, body, hy, hR⟩ := hY pre x wr hJ (by omega)
    rw [hxq, hxn, hxd] at hy
    have HRR := Lib.hid hR
    have HHK := Lib.hid hk
    have HM := Lib.hid hm
    have HG := Lib.hid hg
    have HQ := Lib.hid hq
    have HOR := Lib.hid hoR
    have HBR := Lib.hid hbR
    have HXG := Lib.hid hxg
    have hkd : (k : Int) ≤ (d : Int) := by omega
    have hkmi : (k : Int) ≤ (m : Int) := by omega
    clear hR hY hk hm hg hq hoR hbR hxg hJ
    gi_wp2
    refine ⟨trivial, ?_⟩
    refine (callsIn_wide.2 HF.out).mono ?_
    rintro e w1 ⟨rfl, rfl⟩
    gi_wp2
    refine HRR.out.mono ?_
    rintro e W3 (⟨rfl, hJ3, hk3⟩ | ⟨rfl, hJx3⟩)
    · have HJ3 := Lib.hid hJ3
      have HB3 := Lib.hid (hBel.trans hk3)
      clear hJ3 hk3 hBel
      by_cases hend : k = m
      · have hdk : decide ((k : Int) = (m : Int)) = true := decide_eq_true (by omega)
        gi_wp2
        refine bodyPost_ret (results_none rfl _ _ _) rfl ?_
        refine ⟨⟨_, rfl⟩, .inl ⟨pre ++ [x], ?_, HJ3.out⟩⟩
        rw [← HG.out, groupsOf_end (by rw [← HHK.out, ← HM.out]; exact hend), List.map_append, List.map_singleton, HXG.out, HHK.out]
      · have hdk : decide ((k : Int) = (m : Int)) = false := decide_eq_false (by omega)
        have hgm := groupsOf_more (xs := R) (by rw [← HHK.out, ← HM.out]; exact hend)
        rw [← HHK.out] at hgm
        have HGM := Lib.hid hgm
        clear hgm
        by_cases h254 : k < 254
        · have hdl : decide ((k : Int) < 254) = true := decide_eq_true (by omega)
          gi_wp2
          refine ⟨⟨pre ++ [x], R.drop (k + 1), _, _, _, rfl, by rw [List.length_drop, ← HM.out], by omega, by omega, ?_, HOR.out.drop _, ?_, ?_, ?_, HJ3.out, HB3.out⟩, by show m - (k + 1) < m; omega⟩
          · intro h
            have := HQ.out (by revert h; split <;> simp)
            omega
          · refine tail_bytes HBR.out HM.out (k + 1) (by omega) fun h => ?_
            rw [if_neg (by omega)]
            cases q <;> simp [Addr.add]
          · rw [← HG.out, HGM.out, if_pos h254, List.map_append, List.map_singleton, HXG.out]
            simp
          · rw [List.length_append, List.length_singleton]; omega
        · have hdl : decide ((k : Int) < 254) = false := decide_eq_false (by omega)
          gi_wp2
          refine ⟨⟨pre ++ [x], R.drop k, _, _, _, rfl, by rw [List.length_drop, ← HM.out], by omega, by omega, ?_, HOR.out.drop _, ?_, ?_, ?_, HJ3.out, HB3.out⟩, by show m - k < m; omega⟩
          · intro h
            have := HQ.out (by revert h; simp)
            omega
          · exact tail_bytes HBR.out HM.out k (by omega) fun h => rfl
          · rw [← HG.out, HGM.out, if_neg h254, List.map_append, List.map_singleton, HXG.out]
            simp
          · rw [List.length_append, List.length_singleton]; omega
    · gi_wp2
      refine bodyPost_ret (results_none rfl _ _ _) rfl ?_
      exact ⟨⟨_, rfl⟩, .inr ⟨pre ++ [x], hJx3⟩⟩
set_option maxHeartbeats 1000000 in
set_option maxRecDepth 10000 in
theorem groups_cobs (n:Nat) (p:Option Addr) (N c:Nat) (w:World) :
  CallsIn Fence.wide n Tryz.prog 138 #[.slice p N c] w fun e w'=>e=.returned (.func (.func 169) #[] #[.pointer (some ⟨w.heap.size,0,none⟩)])∧w'=w.alloc (.cells #[.slice p N c] 29):=by
 refine callsIn_of_wp Tryz.func138 rfl trivial ?_ rfl
 simp only [Tryz.ntmps138,List.size_toArray,List.length_cons,List.length_nil,Nat.reduceAdd,Nat.reduceSub,Array.replicate_succ,Array.replicate_zero,List.push_toArray,List.append_toArray,List.nil_append,List.cons_append]
 gi_wp2
 go_ret
 exact ⟨rfl,rfl⟩
theorem groups_stops (n:Nat) (hn:1≤n) (B:Nat) (w0 w:World) (p:Option Addr) (N c:Nat) (xs:List Int) (hx:N=xs.length) (hc:N≤c) (hc':c≤9223372036854775807) (ho:Octets xs) (hb:Bytes8 w0 p xs) (hn0:p=none→N=0∧c=0)
  (hB:w.cell? ⟨B,0,none⟩=some (.slice p N c)) (hBw:B<w.heap.size) (hW:Below w0.heap.size w0 w) :
  SeqStopsK Fence.wide n Tryz.prog 169 #[.pointer (some ⟨B,0,none⟩)] (fun x:Grp w0=>#[.slice x.q x.n x.d]) (Below w0.heap.size) (fun ys=>ys.map Grp.g=groupsOf xs) (fun _=>True) (N+1) w :=
 fun l J Jx W hWB _ _ hY h0=>by
  have hB':=(hWB.cell (p:=⟨B,0,none⟩) hBw).trans hB
  refine (iter_cobs n hn l B w0 p N c xs hx hc hc' ho hb hn0 J Jx hY W hB' (hW.trans (hWB.mono hW.size)) h0).mono ?_
  rintro e W' ⟨he,⟨ys,h1,h2⟩|⟨pre,h⟩⟩
  ·exact ⟨he,.inl ⟨ys,h1,h2⟩⟩
  ·exact ⟨he,.inr ⟨pre,trivial,h⟩⟩
end
section
open Go.RowKit Go.Shelf
attribute [local go_sem] Oper.semAt_some
theorem wpListIn_append_own_none {F:Fence} {n:Nat} {P:Program} {w:World} {ops:Array Oper} {rest:List Oper} {o:Oper} {a:Act} {Q:Exit→Act→World→Prop} (hgd:o.guard=none) (s x:Operand) (t:TypeId)
  (ho:o.op=.call { callee:=.builtin .append,args:=#[s,x],argTypes:=#[t,t] })
  (base:Nat) (e:TypeId) (i:TypeInfo) (size:Nat) (ht:P.underlying t=some (.slice e)) (hi:P.info? e=some i)
  (v:Value) (k:Nat) (xs:List Value) (hs:a.eval s=v) (hown:w.ownsRow base e size v k xs) (hx:a.eval x=.slice none 0 0)
  (h:wpListIn F n P ops Q rest (a.put o.dst v) w):wpListIn F n P ops Q (o :: rest) a w:=by
 refine wpListIn_plain hgd fun K hK=>?_
 have hrun:=run_append_owned_none (P:=P) (w:=w) base t o.type e i size ht hi v k xs hown
 unfold Oper.wpIn
 refine ⟨?_,?_⟩
 ·simp [Oper.about,ho,resolve,Target.leads,Sem.run_pure]
 ·rw [Oper.semAt_plain F _ _ (by rw [ho];intro c hc';cases hc')]
  simp [execOp,ho,resolve,invoke,builtin,hs,hx,hrun,Result.andThen]
  exact hK _ _ h
theorem boxed_grew {W w1:World} {n₀ B:Nat} {t e:TypeId} {size:Nat} {v v':Value} {k m:Nat} {xs ys:List Value}
  (hv:Boxed W B t v) (hte:t ≠ e) (hrow:W.ownsRow n₀ e size v k xs) (hn₀:n₀≤W.heap.size) (hB:n₀≤B)
  (hown':w1.ownsRow n₀ e size v' m ys) (hgrow:W.grownBy w1 v.ownBlock) :
  Boxed w1 B t v∧Boxed (w1.setCell ⟨B,0,none⟩ v') B t v'∧(w1.setCell ⟨B,0,none⟩ v').ownsRow n₀ e size v' m ys∧KeepsOthers W (w1.setCell ⟨B,0,none⟩ v')∧Below n₀ W (w1.setCell ⟨B,0,none⟩ v'):=by
 have hv1:Boxed w1 B t v:=hv.kept hgrow (hv.not_row hte hrow)
 refine ⟨hv1,hv1.set v',hown'.kept (grownBy_setCell' w1 B v') (.inr (hv1.not_row hte hown').symm),?_,?_⟩
 ·refine (KeepsOthers.of_grownBy hgrow fun j o ej hj=>?_).trans (KeepsOthers.setCell _ _ _)
  rcases hrow.2 with ⟨rfl,_⟩|⟨g,cap,cur,rfl,_,hgb,_⟩
  ·simp [Value.ownBlock] at ej
  ·obtain rfl:g=j:=by simpa [Value.ownBlock] using ej
   rw [hgb] at hj;cases hj;rfl
 ·refine ((Below.refl n₀ W).grown hgrow hn₀ fun j ej=>?_).setCell (p:=⟨B,0,none⟩) hB v'
  rcases hrow.2 with ⟨rfl,_⟩|⟨g,cap,cur,rfl,hb,_,_⟩
  ·simp [Value.ownBlock] at ej
  ·obtain rfl:g=j:=by simpa [Value.ownBlock] using ej
   exact hb
def ToldAt (w:World) (B:Nat) (pre:List (Grp w)) (W:World):Prop :=
 (∃ v,Boxed W B 29 v∧W.ownsRow w.heap.size 5 1 v (told (pre.map Grp.g)).length ((told (pre.map Grp.g)).map (Value.int .u8))∧True)∧Below w.heap.size w W
theorem told_room {w:World} (pre:List (Grp w)):(told (pre.map Grp.g)).length≤255*pre.length:=by
 have:=told_len (pre.map Grp.g) (fun g hg=>by
  obtain ⟨x,_,rfl⟩:=List.mem_map.1 hg
  rw [← x.hn]
  exact x.h254)
 rwa [List.length_map] at this
theorem ToldAt.next {w W:World} {B K:Nat} {pre:List (Grp w)} {x:Grp w} {v:Value} {z:Int} (hv:Boxed W B 29 v) (hK:K=(told (pre.map Grp.g)).length) (hz:z=(x.n:Int)+1)
  (hr:W.ownsRow w.heap.size 5 1 v (K+1+x.n) ((told (pre.map Grp.g)).map (Value.int .u8) ++ [Value.int .u8 z] ++ x.g.map (Value.int .u8))) (hB:Below w.heap.size w W):ToldAt w B (pre ++ [x]) W:=by
 refine ⟨⟨v,hv,?_,trivial⟩,hB⟩
 have e:((x.g.length+1:Nat):Int)=z:=by rw [hz,x.hn];omega
 have hl:(told ((pre ++ [x]).map Grp.g)).length=K+1+x.n:=by
  rw [List.map_append,List.map_singleton,told_snoc,List.length_append,List.length_cons,hK,x.hn];omega
 rw [hl]
 rw [List.map_append,List.map_singleton,told_snoc,List.map_append,List.map_cons,e]
 simpa using hr
set_option maxRecDepth 100000 in
set_option maxHeartbeats 2000000 in
theorem stuff_in (n:Nat) (hn:3≤n) (p:Option Addr) (N c:Nat) (xs:List Int) (w:World) (hx:N=xs.length) (hc:N≤c) (hc':c≤9223372036854775807) (hn0:p=none→N=0∧c=0) (ho:Octets xs) (hN:N≤1000000) (hb:Bytes8 w p xs) :
  CallsIn Fence.wide n Tryz.prog 109 #[.slice p N c] w fun e W'=>∃ v,e=.returned v∧Copied w (told (groupsOf xs)).length (told (groupsOf xs)) v W':=by
 obtain ⟨i0,hi,hy0,hy1,hy2⟩:=info_parts infoByte
 have h1:1≤n:=by omega
 obtain ⟨M,hM⟩:∃ M,M=mostOf N:=⟨_,rfl⟩
 have hM1:M≤2000000:=by rw [hM];unfold mostOf;split <;> omega
 have HM:=hid (fun w=>(most_cobs (N:Int) w (by omega) (by omega)))
 rw [show (N:Int).toNat=N by omega,← hM] at HM
 have HX:=hid hx
 have HO:=hid ho
 have HBY:=hid hb
 have HN0:=hid hn0
 clear hM hx ho hb hn0
 refine callsIn_of_wp_marks Tryz.func109 rfl trivial ?_ rfl
 simp only [Tryz.ntmps109,List.size_toArray,List.length_cons,List.length_nil,Nat.reduceAdd,Nat.reduceSub,Array.replicate_succ,Array.replicate_zero,List.push_toArray,List.append_toArray,List.nil_append,List.cons_append]
 gi_wp2
 refine ⟨trivial,?_⟩
 refine (callsIn_wide.2 (HM.out _)).mono ?_
 rintro e w1 ⟨rfl,rfl⟩
 gi_wp2_with (gi_at_make;refine wpListIn_make_own _ rfl _ _ 29 rfl w1.heap.size 5 i0 (.int .u8 0) 1 Tryz.underlying29 hi hy0 hy1 .i64 .i64 (M:Int) M rfl rfl rfl (by rw [hy2];omega) (by unfold maxLen;omega) (Nat.le_refl _) ?_)
 intro w2 hrow hgrow
 have hB2:Below w1.heap.size w1 w2:=(Below.refl _ w1).grown hgrow (Nat.le_refl _) (fun k hk=>by cases hk)
 have hle:w1.heap.size≤w2.heap.size:=hB2.size
 gi_wp2
 refine ⟨trivial,?_⟩
 refine (groups_cobs _ _ _ _ _).mono ?_
 rintro e w' ⟨rfl,rfl⟩
 gi_wp2
 have bS:=Boxed.new w2 29 (.slice (some ⟨w1.heap.size,0,none⟩) 0 M)
 have bN:=Boxed.new (w2.alloc (.cells #[.slice (some ⟨w1.heap.size,0,none⟩) 0 M] 29)) 29 (.slice p N c)
 rw [World.size_alloc] at bN
 have hB0:Below w1.heap.size w1 ((w2.alloc (.cells #[.slice (some ⟨w1.heap.size,0,none⟩) 0 M] 29)).alloc (.cells #[.slice p N c] 29)):=(hB2.alloc hle _).alloc (by simp;omega) _
 refine wpIn_rangeFunc_ownG rfl h1 (gf:=169) (lb:=#[.pointer (some ⟨w2.heap.size+1,0,none⟩)]) rfl trivial (enters_of Tryz.func169 (by kernel_rfl) rfl)
  (groups_stops (n - 1) (by omega) (w2.heap.size+1) w1 _ p N c xs HX.out hc hc' HO.out HBY.out HN0.out bN.cell (by simp) hB0) belowK_t (belowK_b (by simp;omega)) (Below.refl _ _) (fun _=>rfl)
  (fun pre W=>ToldAt w1 w2.heap.size pre W)
  (fun _ _ _=>False)
  (OwnFrom.and (Own.from (holdsRow_own w1.heap.size w2.heap.size 29 5 1 (fun pre:List (Grp w1)=>(told (pre.map Grp.g)).length) (fun pre=>(told (pre.map Grp.g)).map (Value.int .u8)) (fun _ _=>True)) _) (ownFrom_below (Nat.le_refl _) (by simp;omega)))
  (fun _ _ _ _ _ hs _ _=>hs)
  ⟨⟨_,bS.alloc _,(hrow.alloc _).alloc _,trivial⟩,hB0⟩
  (fun x=>{ tmps:=#[.slice p N c,undef,.slice none 0 0,.pointer (some ⟨w2.heap.size,0,none⟩),.slice x.q x.n x.d,.slice p N c,.int .i64 (N:Int),.int .i64 (M:Int),.slice (some ⟨w1.heap.size,0,none⟩) 0 M,.slice p N c,.func (.func 169) #[] #[.pointer (some ⟨w2.heap.size+1,0,none⟩)],.slice x.q x.n x.d,undef,undef,undef,undef,undef,undef,undef,undef,undef,undef,undef],defers:=[] }) ?assign ?body ?done ?stop
 case assign =>
  intro l x W K hK
  gi_wp2
  exact hK
 case body =>
  rintro l pre x W ⟨⟨v,hv,hrow,_⟩,hB⟩ hlt
  have hroom:=told_room pre
  obtain ⟨K,hKe⟩:∃ K,K=(told (pre.map Grp.g)).length:=⟨_,rfl⟩
  rw [← hKe] at hrow hroom
  have HKE:=hid hKe
  clear hKe
  have hc0:=hv.cell
  have hx254:=x.h254
  have hw8:IntKind.u8.wrap ((x.n:Int)+1)=(x.n:Int)+1:=by rw [IntKind.wrap_u8];omega
  gi_wp2_with (gi_at_builtin;refine wpListIn_append_own _ rfl _ _ 29 rfl w1.heap.size 5 i0 (.int .u8 0) 1 1 Tryz.underlying29 hi hy0 hy1 hy2 rfl (by decide) _ _ _ rfl (hrow.alloc _) ⟨W.heap.size,0,none⟩ 1 1 [.int .u8 ((x.n:Int)+1)] rfl rfl (cell_one_new _ _ _) (by simp [Value.oneCell']) (by unfold maxLen;omega) (by omega) (by have:=hB.size;simp;omega) ?_)
  intro v' wA hown' hgrow' _
  obtain ⟨g',cap',rfl⟩:=ownsRow_succ hown'
  obtain ⟨hv1,hv2,hr2,hk2,hb2⟩:=hv.appended (by decide) hrow hB.size hle hown' hgrow'
  have hc1:=hv1.cell
  have hf1:=hv1.frozen
  have HV2:=hid hv2
  have HR2:=hid hr2
  have HK2:=hid hk2
  have HB2:=hid (hB.trans hb2)
  have HB2':=hid hb2
  have hc2:=hv2.cell
  have hBx:Bytes8 (wA.setCell ⟨w2.heap.size,0,none⟩ (.slice (some ⟨g',0,none⟩) (K+1) cap')) x.q x.g:=x.hb.below (hB.trans hb2)
  have hsz:w1.heap.size≤(wA.setCell ⟨w2.heap.size,0,none⟩ (.slice (some ⟨g',0,none⟩) (K+1) cap')).heap.size:=(hB.trans hb2).size
  clear hk2 hb2 hv2 hr2 hown' hgrow' hc0 hv1
  cases hxq:x.q with
  | none =>
   obtain ⟨e1,e2⟩:=x.hq hxq
   gi_wp2_with (gi_at_builtin;refine wpListIn_append_own_none rfl _ _ 29 rfl w1.heap.size 5 i0 1 Tryz.underlying29 hi _ _ _ rfl HR2.out (by simp [Act.eval,e1,e2]) ?_)
   have hg0:x.g=[]:=List.length_eq_zero_iff.1 (by have:=x.hn;omega)
   obtain ⟨hv4,hv5,hr5,hk5,hb5⟩:=boxed_grew HV2.out (by decide) HR2.out hsz hle HR2.out ⟨rfl,rfl,rfl,Nat.le_refl _,fun _ _ _=>rfl⟩
   exact ⟨(HK2.out.trans hk5).from _,HB2'.out.trans hb5,ToldAt.next hv5 HKE.out rfl (by rw [hg0,e1];simpa [e1] using hr5) (HB2.out.trans hb5)⟩
  | some ad =>
   gi_wp2_with (gi_at_builtin;refine wpListIn_append_own _ rfl _ _ 29 rfl w1.heap.size 5 i0 (.int .u8 0) 1 1 Tryz.underlying29 hi hy0 hy1 hy2 rfl (by decide) _ _ _ rfl HR2.out ad x.n x.d (x.g.map (Value.int .u8)) rfl ?qc1 ?qc2 ?qc3 ?qc4 ?qc5 hsz ?_)
   case qc1=>have:=x.hn;simp;omega
   case qc2 =>
    intro j u hj
    have hjn:j<x.g.length:=by
     have:=(List.getElem?_eq_some_iff.1 hj).1
     simpa using this
    obtain ⟨a',ha',hcell⟩:=hBx (by omega)
    obtain rfl:=Option.some.inj (hxq.symm.trans ha')
    rw [hcell j hjn]
    have e:(x.g.map (Value.int .u8))[j]?=some (Value.int .u8 (x.g.getD j 0)):=by simp [List.getElem?_eq_getElem hjn]
    rw [e] at hj
    exact hj
   case qc3=>intro u hu;obtain ⟨b,_,rfl⟩:=List.mem_map.1 hu;rfl
   case qc4=>unfold maxLen;omega
   case qc5=>omega
   intro v3 wB hown3 hgrow3 _
   obtain ⟨hv4,hv5,hr5,hk5,hb5⟩:=boxed_grew HV2.out (by decide) HR2.out hsz hle hown3 hgrow3
   have hc4:=hv4.cell
   have hf4:=hv4.frozen
   rcases hr5.2 with ⟨rfl,h0⟩|⟨g5,cap5,_,rfl,_⟩
   ·omega
   ·gi_wp2
    exact ⟨(HK2.out.trans hk5).from _,HB2'.out.trans hb5,ToldAt.next hv5 HKE.out rfl (by simpa [Nat.add_assoc] using hr5) (HB2.out.trans hb5)⟩
 case done =>
  rintro D ys W hD hS ⟨⟨v,hv,hrow,_⟩,hB⟩ hK
  have hc0:=hv.cell
  rw [hS] at hrow
  gi_wp2
  refine ⟨by simp,.inl ⟨_,_,rfl,run_takeDeferred hK,?_⟩⟩
  exact ⟨_,results_tmp rfl _ _ _,v,rfl,ownsRow_putObj hrow _ hK rfl,hB.trans (belowK_b (w:=w1) (Nat.le_refl _) W D _ _ (by simp at hD;omega) hK rfl rfl)⟩
 case stop =>
  rintro D c pre W _ _ h _
  exact h.elim
end
section
def urun:List Int→List Int→Nat→Int × List Int
 | [],P,_=>(0,P)
 | n :: r,P,a =>
  if r.length+1<n.toNat then (2,[])
  else if r.drop (n.toNat - 1)=[] then (if n.toNat - 1=0∧a=254 then (4,[]) else (0,P ++ r.take (n.toNat - 1)))
  else urun (r.drop (n.toNat - 1)) (P ++ r.take (n.toNat - 1) ++ (if n.toNat - 1<254 then [0] else [])) (n.toNat - 1)
termination_by xs=>xs.length
decreasing_by simp;omega
def form:List Int→Nat→Bool
 | [],_=>true
 | n :: r,a=>if r.drop (n.toNat - 1)=[] then !decide (n.toNat - 1=0∧a=254) else form (r.drop (n.toNat - 1)) (n.toNat - 1)
termination_by xs=>xs.length
decreasing_by simp;omega
theorem urun_dec:∀ (m:Nat) (R P:List Int) (a:Nat),R.length≤m→R ≠ []→Solid R→urun R P a=match dec R with
  | none=>(2,[])
  | some o=>if form R a=true then (0,P ++ o) else (4,[])
 | 0,R,_,_,hm,hR,_=>absurd (List.length_eq_zero_iff.1 (by omega)) hR
 | m+1,[],_,_,_,hR,_=>absurd rfl hR
 | m+1,n :: r,P,a,hm,_,hs=>by
  have hn:=hs n List.mem_cons_self
  rw [urun,dec,form]
  by_cases h1:r.length+1<n.toNat
  ·rw [if_pos h1,if_pos h1]
  ·rw [if_neg h1,if_neg h1]
   by_cases h2:r.drop (n.toNat - 1)=[]
   ·rw [if_pos h2,if_pos h2,h2,dec]
    by_cases h3:n.toNat - 1=0∧a=254
    ·simp [h3]
    ·have e:(!decide (n.toNat - 1=0∧a=254))=true:=by rw [decide_eq_false h3];rfl
     rw [if_neg h3]
     simp only [e,Option.map_some,ne_eq,not_true_eq_false,and_false,if_false,List.append_nil,if_true]
   ·rw [if_neg h2,if_neg h2,urun_dec m _ _ _ (by simp at hm ⊢;omega) h2 (fun b hb=>hs b (List.mem_cons_of_mem _ (List.mem_of_mem_drop hb)))]
    have e:(if n<255∧r.drop (n.toNat - 1) ≠ [] then ([0]:List Int) else [])=if n.toNat - 1<254 then [0] else []:=by
     by_cases h4:n<255
     ·rw [if_pos ⟨h4,h2⟩,if_pos (by omega)]
     ·rw [if_neg (fun h=>h4 h.1),if_neg (by omega)]
    rw [e]
    cases dec (r.drop (n.toNat - 1)) with
    | none=>rfl
    | some o=>simp
theorem stuffGo_short:∀ (g now r:List Int) (f:Bool),(∀ b ∈ g,b ≠ 0)→g ≠ []→now.length+g.length<254→stuffGo now f (g ++ r)=stuffGo (now ++ g) false r
 | [],_,_,_,_,hg,_=>absurd rfl hg
 | b :: g,now,r,f,h0,_,hl=>by
  have hb:=h0 b List.mem_cons_self
  rw [List.length_cons] at hl
  rw [List.cons_append,stuffGo,if_neg hb,if_neg (by omega)]
  by_cases hg:g=[]
  ·subst hg;rfl
  ·rw [stuffGo_short g (now ++ [b]) r false (fun x hx=>h0 x (List.mem_cons_of_mem _ hx)) hg (by simp;omega)]
   simp
theorem stuffGo_full:∀ (g now r:List Int) (f:Bool),(∀ b ∈ g,b ≠ 0)→now.length+g.length=254→now.length<254→stuffGo now f (g ++ r)=255 :: (now ++ g) ++ stuffGo [] true r
 | [],now,_,_,_,hl,hn=>by simp at hl;omega
 | b :: g,now,r,f,h0,hl,hn=>by
  have hb:=h0 b List.mem_cons_self
  rw [List.length_cons] at hl
  rw [List.cons_append,stuffGo,if_neg hb]
  by_cases hg:now.length+1=254
  ·obtain rfl:g=[]:=List.length_eq_zero_iff.1 (by omega)
   rw [if_pos hg]
   simp
  ·rw [if_neg hg,stuffGo_full g (now ++ [b]) r false (fun x hx=>h0 x (List.mem_cons_of_mem _ hx)) (by simp;omega) (by simp;omega)]
   simp
theorem stuffGo_form:∀ (m:Nat) (R:List Int) (a:Nat) (o:List Int),R.length≤m→R ≠ []→Solid R→dec R=some o→stuffGo [] (decide (a=254)) o ++ (if form R a=true then [] else [1])=R
 | 0,R,_,_,hm,hR,_,_=>absurd (List.length_eq_zero_iff.1 (by omega)) hR
 | m+1,[],_,_,_,hR,_,_=>absurd rfl hR
 | m+1,n :: r,a,o,hm,_,hs,hd=>by
  have hn:=hs n List.mem_cons_self
  have h0:∀ b ∈ r.take (n.toNat - 1),b ≠ 0:=fun b hb=>by
   have:=hs b (List.mem_cons_of_mem _ (List.mem_of_mem_take hb))
   omega
  rw [dec] at hd
  rw [form]
  by_cases h1:r.length+1<n.toNat
  ·rw [if_pos h1] at hd;cases hd
  ·rw [if_neg h1] at hd
   obtain ⟨k,hk⟩:∃ k,k=n.toNat - 1:=⟨_,rfl⟩
   rw [← hk] at hd h0 ⊢
   have hkl:(r.take k).length=k:=by rw [List.length_take];omega
   have hnk:n=((k+1:Nat):Int):=by omega
   have hk254:k≤254:=by omega
   by_cases h2:r.drop k=[]
   ·rw [h2,dec] at hd
    rw [if_pos h2]
    have hr:r=r.take k:=by
     have:=List.take_append_drop k r
     rw [h2,List.append_nil] at this
     exact this.symm
    have ho:o=r:=by
     simp only [Option.map_some,ne_eq,not_true_eq_false,and_false,if_false,List.append_nil,Option.some.injEq] at hd
     rw [← hd,← hr]
    subst ho
    rw [← hr] at h0 hkl
    by_cases hk0:k=0
    ·obtain rfl:o=[]:=List.length_eq_zero_iff.1 (by omega)
     subst hk0
     by_cases ha:a=254
     ·subst ha;rw [hnk];rfl
     ·simp [ha,stuffGo,hnk]
    ·have hne:o ≠ []:=fun h=>by rw [h] at hkl;simp at hkl;omega
     have e:(!decide (k=0∧a=254))=true:=by simp [hk0]
     rw [e,if_pos rfl,List.append_nil]
     by_cases h254:k=254
     ·have h:=stuffGo_full o [] [] (decide (a=254)) h0 (by simp;omega) (by decide)
      rw [List.append_nil] at h
      rw [h,hnk,h254]
      simp [stuffGo]
     ·have h:=stuffGo_short o [] [] (decide (a=254)) h0 hne (by simp;omega)
      rw [List.append_nil] at h
      rw [h,hnk]
      simp [stuffGo,hkl]
   ·rw [if_neg h2]
    cases hd':dec (r.drop k) with
    | none=>rw [hd'] at hd;cases hd
    | some o' =>
     have ih:=stuffGo_form m (r.drop k) k o' (by simp at hm ⊢;omega) h2 (fun b hb=>hs b (List.mem_cons_of_mem _ (List.mem_of_mem_drop hb))) hd'
     rw [hd'] at hd
     simp only [Option.map_some,Option.some.injEq] at hd
     have hrr:r=r.take k ++ r.drop k:=(List.take_append_drop k r).symm
     by_cases h254:k=254
     ·rw [if_neg (by omega),List.append_nil] at hd
      rw [h254,show decide ((254:Nat)=254)=true from rfl] at ih
      rw [← hd,stuffGo_full (r.take k) [] o' _ h0 (by simp;omega) (by decide),List.append_assoc,h254,ih,hnk,h254]
      simp only [List.nil_append,List.cons_append]
      rw [List.take_append_drop]
      rfl
     ·rw [if_pos ⟨by omega,h2⟩] at hd
      rw [show decide (k=254)=false from decide_eq_false h254] at ih
      rw [← hd,List.append_assoc]
      by_cases hk0:k=0
      ·subst hk0
       rw [List.take_zero,List.nil_append,List.cons_append,List.nil_append,stuffGo,if_pos rfl,List.append_assoc,ih,hnk]
       simp
      ·rw [stuffGo_short (r.take k) [] _ _ h0 (fun h=>by rw [h] at hkl;simp at hkl;omega) (by simp;omega)]
       rw [List.nil_append,List.cons_append,List.nil_append,stuffGo,if_pos rfl,List.append_assoc,ih,hkl,hnk]
       rw [List.cons_append,List.take_append_drop]
theorem unst_urun {xs:List Int} (hs:Solid xs) (hx:xs ≠ []):unst xs=urun xs [] 0:=by
 unfold unst
 rw [if_neg hs.noZero,if_neg hx,urun_dec xs.length xs [] 0 (Nat.le_refl _) hx hs]
 cases hd:dec xs with
 | none=>rfl
 | some o =>
  have h:=stuffGo_form xs.length xs 0 o (Nat.le_refl _) hx hs hd
  rw [show decide ((0:Nat)=254)=false from rfl] at h
  show (if stuff o=xs then ((0:Int),o) else (4,[]))=(if form xs 0=true then (0,[] ++ o) else (4,[]))
  by_cases hf:form xs 0=true
  ·rw [if_pos hf,List.append_nil] at h
   rw [if_pos hf,List.nil_append]
   rw [if_pos (show stuff o=xs from h)]
  ·rw [if_neg hf] at h
   rw [if_neg hf]
   rw [if_neg]
   intro e
   have e':stuffGo [] false o=xs:=e
   have:=congrArg List.length h
   rw [e'] at this
   simp at this
end
section
open Go.RowKit
theorem Copied.fresh {w wx:World} {N:Nat} {xs:List Int} {v:Value} (h:Copied w N xs v wx) (hn:N=xs.length):NewBytes w xs v wx:=by
 have h':=h
 obtain ⟨q,d,rfl,h1,h2,h3⟩:=h.read hn
 refine ⟨q,N,d,rfl,hn,h1,h2,fun hq=>?_,h3,Keeps.ofBelow h'.2⟩
 rcases h'.1.2 with ⟨e,_⟩|⟨g,cap,cur,e,_⟩
 ·cases e;exact ⟨rfl,rfl⟩
 ·subst hq;cases e
theorem news_cells {w:World} {ad:Addr} {xs:List Int} {k:Nat} (hk:k≤xs.length) (h:0<k→Bytes8 w (some ad) xs):∀ j u,((xs.take k).map (Value.int .u8))[j]?=some u→w.cell? (ad.add j)=some u:=by
 intro j u hj
 have hjn:j<(xs.take k).length:=by
  have:=(List.getElem?_eq_some_iff.1 hj).1
  simpa using this
 rw [List.length_take] at hjn
 obtain ⟨a',ha',hcell⟩:=h (by omega) (by omega)
 obtain rfl:=Option.some.inj ha'
 rw [hcell j (by omega)]
 have e:((xs.take k).map (Value.int .u8))[j]?=some (Value.int .u8 (xs.getD j 0)):=by
  rw [List.getElem?_map,List.getElem?_take,if_pos (by omega),List.getElem?_eq_getElem (by omega)]
  simp [List.getD,List.getElem?_eq_getElem (show j<xs.length by omega)]
 rw [e] at hj
 exact hj
theorem bytes_one (xs:List Int):∀ u ∈ xs.map (Value.int .u8),u.oneCell'=true:=fun u hu=>by
 obtain ⟨x,_,rfl⟩:=List.mem_map.1 hu
 rfl
theorem Copied.more {w wr w3:World} {N m:Nat} {xs ys:List Int} {v v':Value} (h:Copied w N xs v wr) (hown:w3.ownsRow w.heap.size 5 1 v' (N+m) (xs.map (Value.int .u8) ++ ys.map (Value.int .u8))) (hgrow:wr.grownBy w3 v.ownBlock):Copied w (N+m) (xs ++ ys) v' w3 :=
 ⟨by rw [List.map_append];exact hown,h.2.grown hgrow h.2.size (fun k hk=>own_base h.1 hk)⟩
structure UnwAt (w:World) (N:Nat) (xs:List Int) (q:Option Addr) (m d:Nat) (R P:List Int) (a:Nat) (v:Value) (wr:World):Prop where
 len:m=R.length
 some:R ≠ []
 solid:Solid R
 bytes:Bytes8 w q R
 run:unst xs=urun R P a
 room:P.length+m≤N
 row:Copied w P.length P v wr
theorem unst_nought {xs:List Int} (h:0 ∈ xs):unst xs=(4,[]):=by unfold unst;rw [if_pos h]
theorem unst_nil:unst []=(2,[]):=by decide
theorem nought_some {xs:List Int} (h:0 ∈ xs):0≤nought xs:=by unfold nought;rw [if_pos h];omega
theorem nought_none {xs:List Int} (h:0 ∉ xs):nought xs=-1:=by unfold nought;rw [if_neg h]
set_option maxRecDepth 100000 in
set_option maxHeartbeats 2000000 in
theorem unstuff_cobs (p:Option Addr) (N c:Nat) (xs:List Int) (w:World) (hx:N=xs.length) (hc:N≤c) (_hc':c≤9223372036854775807) (hn0:p=none→N=0∧c=0) (ho:Octets xs) (hN:N≤1000000) (hb:Bytes8 w p xs) :
  Calls Tryz.prog 139 #[.slice p N c] w fun e w'=>∃ v,e=.returned (.tuple #[v,.int .i64 (unst xs).1])∧NewBytes w (unst xs).2 v w':=by
 obtain ⟨i0,hi,hy0,hy1,hy2⟩:=info_parts infoByte
 have HI:=hid (index_cobs p N c xs w hx ho hb (fun h=>(hn0 h).1))
 by_cases h0:0 ∈ xs
 ·have hz:=nought_some h0
  have hd:decide (0≤nought xs)=true:=decide_eq_true hz
  rw [unst_nought h0]
  obtain ⟨z,hzz⟩:∃ z,z=nought xs:=⟨_,rfl⟩
  rw [← hzz] at HI hd hz
  clear hx ho hb hn0 hzz h0
  go_enter Tryz.func139,Tryz.ntmps139
  go_wp2_with fail
  refine HI.out.mono ?_
  rintro e w1 ⟨rfl,rfl⟩
  go_wp2_with fail
  refine bodyPost_ret (results_tmp2 rfl _ _ _) rfl ?_
  exact ⟨_,rfl,NewBytes.ofNil _ _ (Keeps.refl _ _)⟩
 ·rw [nought_none h0] at HI
  have hd:decide (0≤(-1:Int))=false:=by decide
  by_cases hxs:xs=[]
  ·subst hxs
   obtain rfl:N=0:=by simpa using hx
   rw [unst_nil]
   clear hx ho hb hn0
   go_enter Tryz.func139,Tryz.ntmps139
   go_wp2_with fail
   refine HI.out.mono ?_
   rintro e w1 ⟨rfl,rfl⟩
   go_wp2_with fail
   refine bodyPost_ret (results_tmp2 rfl _ _ _) rfl ?_
   exact ⟨_,rfl,NewBytes.ofNil _ _ (Keeps.refl _ _)⟩
  ·have hN1:0<N:=by rw [hx];exact List.length_pos_iff.2 hxs
   have hsol:Solid xs:=fun b hb=>by
    have:=ho b hb
    have:b ≠ 0:=fun e=>h0 (e ▸ hb)
    omega
   have HST:Hid (∀ v wr,Copied w 0 [] v wr→UnwAt w N xs p N c xs [] 0 v wr):=hid (fun v wr h=>⟨hx,hxs,hsol,hb,unst_urun hsol hxs,by simp,h⟩)
   have hdl:decide ((N:Int)=0)=false:=decide_eq_false (by omega)
   clear hx ho hb hn0 h0 hsol hxs
   go_enter Tryz.func139,Tryz.ntmps139
   go_wp2_with fail
   refine HI.out.mono ?_
   rintro e w1 ⟨rfl,rfl⟩
   go_wp2_with (at_make;refine wpList_make_own _ rfl _ _ 29 rfl w1.heap.size 5 i0 (.int .u8 0) 1 Tryz.underlying29 hi hy0 hy1 .i64 .i64 (N:Int) N rfl rfl rfl (by rw [hy2];omega) (by unfold maxLen;omega) (Nat.le_refl _) ?_)
   intro w2 hrow hgrow
   have hB2:Below w1.heap.size w1 w2:=(Below.refl _ w1).grown hgrow (Nat.le_refl _) (fun k hk=>by cases hk)
   have HST:=hid (HST.out _ _ ⟨hrow,hB2⟩)
   clear hrow hgrow hB2 HI hd hdl
   go_wp2_with fail
   go_loopw [0,4,5] (fun s0 s4 s5 wr=>∃ q m d R P a,s0=.slice q m d∧s5=.int .i64 ((a:Nat):Int)∧m≤d∧d≤c∧UnwAt w1 N xs q m d R P a s4 wr) (fun s0 _ _ _=>sliceLen s0)
   case atStart=>exact ⟨p,N,c,xs,[],0,rfl,rfl,hc,Nat.le_refl _,HST.out⟩
   case round =>
    clear HST
    obtain ⟨q,m,d,R,P,a,rfl,rfl,hmd,hdc,hu⟩:=hrel
    obtain ⟨n0,r,rfl⟩:=List.exists_cons_of_ne_nil hu.some
    have hn0:=hu.solid n0 List.mem_cons_self
    obtain ⟨L,hL⟩:∃ L,L=r.length:=⟨_,rfl⟩
    obtain rfl:m=L+1:=by rw [hL];simpa using hu.len
    obtain ⟨ad,rfl,hcs⟩:=hu.bytes (by simp)
    have hbr:Bytes8 wr (some ad) (n0 :: r):=hu.bytes.below hu.row.2
    have hc0:wr.cell? ad=some (.int .u8 n0):=by
     obtain ⟨a',ha',h3⟩:=hbr (by simp)
     obtain rfl:=Option.some.inj ha'
     simpa [Addr.add] using h3 0 (by simp)
    have HB1:Hid (∀ (ad1:Addr) (k:Nat),k≤L→(0<k→ad1=ad.add 1)→0<k→Bytes8 wr (some ad1) r):=hid (fun ad1 k hkL h1 h2=>by
     have:=tail_bytes (q':=some ad1) hbr rfl 1 (by simp) (fun _=>by rw [h1 h2];rfl)
     simpa using this)
    obtain ⟨k,hk⟩:∃ k,k=n0.toNat - 1:=⟨_,rfl⟩
    have hkn:n0 - 1=(k:Int):=by omega
    have hk254:k≤254:=by omega
    have hrun:unst xs=if L+1<k+1 then (2,[]) else if r.drop k=[] then (if k=0∧a=254 then (4,[]) else (0,P ++ r.take k)) else urun (r.drop k) (P ++ r.take k ++ (if k<254 then [0] else [])) k:=by
     rw [hu.run,urun,← hk,← hL,show n0.toNat=k+1 by omega]
    have HRUN:=hid hrun
    have HROW:=hid hu.row
    have hroom:=hu.room
    have HR0:Hid (Solid r):=hid (fun b hb=>hu.solid b (List.mem_cons_of_mem _ hb))
    have HBW:=hid hu.bytes
    have HK:=hid hk
    have HL:=hid hL
    have hd1:1≤d:=by omega
    have HD1:Hid (d=1→L=0):=hid (fun h=>by omega)
    clear hu hk hcs hbr hrun hL
    by_cases hlong:L<k
    ·have hdk:decide ((L:Int)<(k:Int))=true:=decide_eq_true (by omega)
     have e:=HRUN.out
     rw [if_pos (by omega)] at e
     have HE:=hid e
     clear e
     go_wp2_with fail
     all_goals
      refine bodyPost_ret (results_tmp2 rfl _ _ _) rfl ?_
      rw [HE.out]
      exact ⟨_,rfl,NewBytes.ofNil _ _ (Keeps.ofBelow HROW.out.2)⟩
    ·have hdk:decide ((L:Int)<(k:Int))=false:=decide_eq_false (by omega)
     have hkd:(k:Int)≤((d - 1:Nat):Int):=by omega
     have hkL:k≤L:=by omega
     by_cases hd:d=1
     ·subst hd
      obtain rfl:L=0:=by omega
      obtain rfl:k=0:=by omega
      have e:=HRUN.out
      have hr0:r=[]:=List.length_eq_zero_iff.1 HL.out.symm
      rw [if_neg (by omega),List.drop_zero,if_pos hr0,List.take_zero,List.append_nil] at e
      go_wp2_with (at_builtin;refine wpList_append_own _ rfl _ _ 29 rfl w1.heap.size 5 i0 (.int .u8 0) 1 1 Tryz.underlying29 hi hy0 hy1 hy2 rfl (by decide) _ _ _ rfl HROW.out.1 ad 0 _ [] rfl rfl (fun j u hj=>by simp at hj) (fun u hu=>by simp at hu) (by unfold maxLen;omega) (by omega) HROW.out.2.size ?_)
      intro v' w3 hown hgrow _
      have HC:Hid (Copied w1 P.length P v' w3):=hid (by have:=HROW.out.more (m:=0) (ys:=[]) (by simpa using hown) hgrow;simpa using this)
      clear hown hgrow
      by_cases hF:a=254
      ·rw [if_pos ⟨by simp,hF⟩] at e
       have HE:=hid e
       clear e
       subst hF
       go_wp2_with fail
       refine bodyPost_ret (results_tmp2 rfl _ _ _) rfl ?_
       rw [HE.out]
       exact ⟨_,rfl,NewBytes.ofNil _ _ (Keeps.ofBelow HC.out.2)⟩
      ·rw [if_neg (fun h=>hF h.2)] at e
       have HE:=hid e
       have hda:decide ((a:Int)=254)=false:=decide_eq_false (by omega)
       clear e
       go_wp2_with fail
       refine bodyPost_ret (results_tmp2 rfl _ _ _) rfl ?_
       rw [HE.out]
       exact ⟨_,rfl,HC.out.fresh rfl⟩
     ·by_cases hA:L=k
      ·have hd0:r.drop k=[]:=List.drop_eq_nil_iff.2 (by have:=HL.out;omega)
       have ht0:r.take k=r:=List.take_of_length_le (by have:=HL.out;omega)
       have e:=HRUN.out
       rw [if_neg (by omega),if_pos hd0,ht0] at e
       subst hA
       go_wp2_with (at_builtin;refine wpList_append_own _ rfl _ _ 29 rfl w1.heap.size 5 i0 (.int .u8 0) 1 1 Tryz.underlying29 hi hy0 hy1 hy2 rfl (by decide) _ _ _ rfl HROW.out.1 _ L _ ((r.take L).map (Value.int .u8)) rfl (by have:=HL.out;simp;omega) (news_cells (by have:=HL.out;omega) (HB1.out _ L (by omega) (by intro h;first|(exfalso;omega)|simp [Addr.add]))) (bytes_one _) (by unfold maxLen;omega) (by omega) HROW.out.2.size ?_)
       intro v' w3 hown hgrow _
       have HC:=hid (HROW.out.more hown hgrow)
       clear hown hgrow
       by_cases hF:L=0∧a=254
       ·rw [if_pos hF] at e
        have HE:=hid e
        clear e
        obtain ⟨hF1,rfl⟩:=hF
        go_wp2_with fail
        all_goals
         refine bodyPost_ret (results_tmp2 rfl _ _ _) rfl ?_
         rw [HE.out]
         exact ⟨_,rfl,NewBytes.ofNil _ _ (Keeps.ofBelow HC.out.2)⟩
       ·rw [if_neg hF] at e
        have HE:=hid e
        clear e
        have hrl:P.length+L=(P ++ r).length:=by rw [List.length_append,HL.out]
        by_cases hL0:L=0
        ·have hda:decide ((a:Int)=254)=false:=decide_eq_false (by omega)
         go_wp2_with fail
         all_goals
          refine bodyPost_ret (results_tmp2 rfl _ _ _) rfl ?_
          rw [HE.out]
          have h:=HC.out
          rw [hrl] at h
          exact ⟨_,rfl,h.fresh rfl⟩
        ·have hda:decide ((L:Int)=0)=false:=decide_eq_false (by omega)
         go_wp2_with fail
         all_goals
          refine bodyPost_ret (results_tmp2 rfl _ _ _) rfl ?_
          rw [HE.out]
          have h:=HC.out
          rw [hrl] at h
          exact ⟨_,rfl,h.fresh rfl⟩
      ·have hlt:k<L:=by omega
       have hd0:r.drop k ≠ []:=fun h=>by have:=List.drop_eq_nil_iff.1 h;have:=HL.out;omega
       have e:=HRUN.out
       rw [if_neg (by omega),if_neg hd0] at e
       have HE:=hid e
       have hdl:decide (((L - k:Nat):Int)=0)=false:=decide_eq_false (by omega)
       have hdk1:¬ d - 1=k:=by omega
       have HTL:Hid (P.length+k=(P ++ r.take k).length):=hid (by rw [List.length_append,List.length_take];have:=HL.out;omega)
       have HNX:Hid (∀ (q:Option Addr) (P':List Int) (v:Value) (wx:World),q=(some ad).map (·.add (1+k))→unst xs=urun (r.drop k) P' k→P'.length≤P.length+k+1→Copied w1 P'.length P' v wx→UnwAt w1 N xs q (L - k) (d - 1 - k) (r.drop k) P' k v wx) :=
        hid (fun q P' v wx hq hu hl hcp=>⟨by rw [List.length_drop,HL.out],hd0,fun b hb=>HR0.out b (List.mem_of_mem_drop hb),by
         have:=tail_bytes (q':=q) HBW.out rfl (1+k) (by rw [List.length_cons,← HL.out];omega) (fun _=>hq)
         rw [show (1+k)=k+1 by omega,List.drop_succ_cons] at this
         exact this,hu,by omega,hcp⟩)
       clear e hd0
       by_cases h254:k<254
       ·have hdc4:decide ((k:Int)<254)=true:=decide_eq_true (by omega)
        rw [if_pos h254] at HE
        go_wp2_with (at_builtin;refine wpList_append_own _ rfl _ _ 29 rfl w1.heap.size 5 i0 (.int .u8 0) 1 1 Tryz.underlying29 hi hy0 hy1 hy2 rfl (by decide) _ _ _ rfl HROW.out.1 _ k _ ((r.take k).map (Value.int .u8)) rfl (by have:=HL.out;simp;omega) (news_cells (by have:=HL.out;omega) (HB1.out _ k (by omega) (by intro h;first|(exfalso;omega)|simp [Addr.add]))) (bytes_one _) (by unfold maxLen;omega) (by omega) HROW.out.2.size ?_)
        intro v' w3 hown hgrow _
        have HC:=hid (HROW.out.more (ys:=r.take k) (by rw [List.map_take];exact hown) hgrow)
        clear hown hgrow
        go_wp2_with (at_builtin;refine wpList_append_own _ rfl _ _ 29 rfl w1.heap.size 5 i0 (.int .u8 0) 1 1 Tryz.underlying29 hi hy0 hy1 hy2 rfl (by decide) _ _ _ rfl (HC.out.1.alloc _) ⟨w3.heap.size,0,none⟩ 1 1 [.int .u8 0] rfl rfl (cell_one_new _ _ _) (by simp [Value.oneCell']) (by unfold maxLen;omega) (by omega) (by have:=HC.out.2.size;simp;omega) ?_)
        intro v4 w4 hown4 hgrow4 _
        have hbel:Below w1.heap.size w1 w4:=(HC.out.2.alloc HC.out.2.size _).grown hgrow4 (by have:=HC.out.2.size;simp;omega) (fun k hk=>own_base HC.out.1 hk)
        have HC4:Hid (Copied w1 (P ++ r.take k ++ [0]).length (P ++ r.take k ++ [0]) v4 w4):=hid ⟨by
         rw [List.length_append,← HTL.out,List.length_singleton,List.map_append,List.map_append,List.map_take]
         simpa using hown4,hbel⟩
        clear hown4 hgrow4 hbel
        go_wp2_with fail
        exact ⟨⟨_,_,_,r.drop k,P ++ r.take k ++ [0],k,rfl,rfl,by omega,by omega,HNX.out _ _ _ _ (by simp [Addr.add,Nat.add_assoc]) HE.out (by rw [List.length_append,← HTL.out,List.length_singleton];omega) HC4.out⟩,by show L - k<L+1;omega⟩
       ·have hdc4:decide ((k:Int)<254)=false:=decide_eq_false (by omega)
        rw [if_neg h254,List.append_nil] at HE
        go_wp2_with (at_builtin;refine wpList_append_own _ rfl _ _ 29 rfl w1.heap.size 5 i0 (.int .u8 0) 1 1 Tryz.underlying29 hi hy0 hy1 hy2 rfl (by decide) _ _ _ rfl HROW.out.1 _ k _ ((r.take k).map (Value.int .u8)) rfl (by have:=HL.out;simp;omega) (news_cells (by have:=HL.out;omega) (HB1.out _ k (by omega) (by intro h;first|(exfalso;omega)|simp [Addr.add]))) (bytes_one _) (by unfold maxLen;omega) (by omega) HROW.out.2.size ?_)
        intro v' w3 hown hgrow _
        have HC:=hid (HROW.out.more (ys:=r.take k) (by rw [List.map_take];exact hown) hgrow)
        clear hown hgrow
        go_wp2_with fail
        exact ⟨⟨_,_,_,r.drop k,P ++ r.take k,k,rfl,rfl,by omega,by omega,HNX.out _ _ _ _ (by simp [Addr.add,Nat.add_assoc]) HE.out (by rw [← HTL.out];omega) (by rw [← HTL.out];exact HC.out)⟩,by show L - k<L+1;omega⟩
end
end Go.Proofs.YtehkjkcnigknkaaGreat

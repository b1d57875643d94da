/-
  ConfRef; CobsOct; FrNum; ElNum; TabNum; Grow.
-/
import Derived.Laws.AppendOwnNone
import Derived.Lib.Hide
import Derived.Test.YtehkjkcnigknkaaGreatV01
import Derived.Test.YtehkjkcnigknkaaGreatV02
namespace Go.Proofs.YtehkjkcnigknkaaGreat
open Lib (hid)
section
open Go.RowKit
def confV (e s:Nat):Value:=.agg #[.int .u8 (e:Int),.int .u32 (s:Int)]
def confCells (e s:Nat):Array Value:=#[.int .u8 (e:Int),.int .u32 (s:Int)]
def mayC (e s:Nat):Bool:=decide (12≤e) && decide (e≤24) && decide (1≤s) && decide (s≤65536)
theorem mayC_true {e s:Nat}:mayC e s=true ↔ 12≤e∧e≤24∧1≤s∧s≤65536:=by
 unfold mayC
 simp only [Bool.and_eq_true,decide_eq_true_eq]
 omega
theorem two_e {e:Nat} (h:e≤24):1≤2 ^ e∧2 ^ e≤16777216:=by
 constructor
 ·exact Nat.one_le_two_pow
 ·have:=Nat.pow_le_pow_right (n:=2) (by omega) h
  omega
set_option maxHeartbeats 2000000 in
set_option maxRecDepth 10000 in
theorem size8_ref (e s:Nat) (he:e≤24) (w:World):Calls Tryz.prog 29 #[confV e s] w fun r w'=>r=.returned (.int .u64 ((2 ^ e:Nat):Int))∧Keeps NoBlock w w':=by
 have HR:=hid (Whole.new w 27 (confCells e s))
 have HK:=hid ((Keeps.refl NoBlock w).alloc (.cells (confCells e s) 27))
 have H24:=hid (two_e he)
 unfold confV
 go_enter Tryz.func29,Tryz.ntmps29
 go_wp2_with fail
 go_loopw [6,3] (fun i x wr=>∃ j:Nat,j≤e∧i=.int .u8 (j:Int)∧x=.int .u64 ((2 ^ j:Nat):Int)∧Keeps NoBlock w wr) (fun i _ _=>e - (intOf i).toNat)
 case atStart=>exact ⟨0,Nat.zero_le _,rfl,rfl,HK.out⟩
 case round =>
  obtain ⟨j,hj,rfl,rfl,hk⟩:=hrel
  have HK1:=hid hk
  clear hk
  by_cases hlt:j<e
  ·have hdj:decide ((j:Int)<(e:Int))=true:=decide_eq_true (by omega)
   have h2:=two_e (e:=j) (by omega)
   have e2:2 ^ (j+1)=2*2 ^ j:=by rw [Nat.pow_succ,Nat.mul_comm]
   obtain ⟨q,hq⟩:∃ q,q=2 ^ j:=⟨_,rfl⟩
   rw [← hq] at h2 e2 ⊢
   have HE:=hid e2
   clear hq e2
   go_wp2_with fail
   exact ⟨⟨j+1,by omega,by go_num,by rw [HE.out];go_num,HK1.out⟩,by simp [intOf];omega⟩
  ·have hdj:decide ((j:Int)<(e:Int))=false:=decide_eq_false (by omega)
   obtain rfl:j=e:=by omega
   go_wp2_with fail
   go_ret
   exact ⟨rfl,HK1.out⟩
end
section
theorem dec_octets:∀ (m:Nat) (xs o:List Int),xs.length≤m→Solid xs→dec xs=some o→Octets o∧o.length≤xs.length
 | _,[],o,_,_,h=>by
  rw [dec] at h
  obtain rfl:=Option.some.inj h
  exact ⟨fun b hb=>by simp at hb,Nat.le_refl _⟩
 | 0,n :: r,o,hm,_,_=>by simp at hm
 | m+1,n :: r,o,hm,hs,h=>by
  rw [dec] at h
  split at h
  ·simp at h
  ·obtain ⟨o',ho',rfl⟩:=Option.map_eq_some_iff.1 h
   have hn:=hs n List.mem_cons_self
   have hr:Solid r:=fun b hb=>hs b (List.mem_cons_of_mem _ hb)
   obtain ⟨h1,h2⟩:=dec_octets m (r.drop (n.toNat - 1)) o' (by simp at hm ⊢;omega) (fun b hb=>hr b (List.mem_of_mem_drop hb)) ho'
   refine ⟨?_,?_⟩
   ·intro b hb
    rcases List.mem_append.1 hb with hb|hb
    ·rcases List.mem_append.1 hb with hb|hb
     ·exact hr.octets b (List.mem_of_mem_take hb)
     ·split at hb
      ·rw [List.mem_singleton.1 hb];omega
      ·simp at hb
    ·exact h1 b hb
   ·have:(if n<255∧r.drop (n.toNat - 1) ≠ [] then [0] else ([]:List Int)).length≤1:=by split <;> simp
    simp only [List.length_append,List.length_take,List.length_drop,List.length_cons] at h2 ⊢
    omega
theorem unst_octets {xs:List Int} (h:Octets xs):Octets (unst xs).2∧(unst xs).2.length≤xs.length:=by
 have h00:Octets []∧([]:List Int).length≤xs.length:=⟨fun b hb=>by simp at hb,Nat.zero_le _⟩
 unfold unst
 split
 ·exact h00
 ·rename_i h0
  split
  ·exact h00
  ·split
   ·exact h00
   ·split
    ·have hso:Solid xs:=fun b hb=>by
      have h1:=h b hb
      have h2:b ≠ 0:=fun e=>h0 (e ▸ hb)
      exact ⟨by omega,h1.2⟩
     exact dec_octets xs.length xs _ (Nat.le_refl _) hso (by assumption)
    ·exact h00
end
section
def sumB (xs:List Int):List Int:=digits (wxxh 0 xs) 8
def chunkN (xs:List Int):List Int:=stuff (xs ++ sumB xs)
def sealN (xs:List Int):List Int:=chunkN xs ++ [0]
def openEnd (t:List Int):Int × List Int :=
 if t.length<8 then (2,[]) else if le (t.drop (t.length - 8))=wxxh 0 (t.take (t.length - 8)) then (0,t.take (t.length - 8)) else (5,[])
def openN (ys:List Int):Int × List Int:=if (unst ys).1 ≠ 0 then ((unst ys).1,[]) else openEnd (unst ys).2
def sizeN (n:Nat):Nat:=mostOf (n+8)+1
theorem sumB_length (xs:List Int):(sumB xs).length=8:=digits_length _ 8
theorem sumB_octets (xs:List Int):Octets (sumB xs):=digits_octets _ 8
theorem Octets.app {xs ys:List Int} (h:Octets xs) (g:Octets ys):Octets (xs ++ ys):=fun x hx=>(List.mem_append.1 hx).elim (h x) (g x)
theorem wxxh_u64 (s:Int) (xs:List Int):U64 (wxxh s xs):=wend_bound _
theorem le_digits9 (x:Nat):∀ n,le (digits (x:Int) n)=((x % 2 ^ (8*n):Nat):Int)
 | 0=>by simp [digits,le,Nat.mod_one]
 | n+1=>by
  rw [digits,le_snoc,digits_length,le_digits9 x n]
  have hp:2 ^ (8*(n+1))=2 ^ (8*n)*256:=by rw [show 8*(n+1)=8*n+8 by omega,Nat.pow_add]
  have e1:((2:Int) ^ (8*n))=((2 ^ (8*n):Nat):Int):=by push_cast;rfl
  rw [hp,e1,show ((x:Int) / ((2 ^ (8*n):Nat):Int) % 256)=((x / 2 ^ (8*n) % 256:Nat):Int) by omega,← Int.natCast_mul,← Int.natCast_add,Nat.mod_mul]
theorem le_sum (xs:List Int):le (sumB xs)=wxxh 0 xs:=by
 obtain ⟨k,hk,hlt⟩:=u64_nat (wxxh_u64 0 xs)
 unfold sumB
 rw [hk,le_digits9,Nat.mod_eq_of_lt hlt]
theorem le_inj:∀ (xs ys:List Int),Octets xs→Octets ys→xs.length=ys.length→le xs=le ys→xs=ys
 | [],[],_,_,_,_=>rfl
 | [],y :: s,_,_,h,_=>by simp at h
 | x :: r,[],_,_,h,_=>by simp at h
 | x :: r,y :: s,hx,hy,hl,he=>by
  have h1:=hx x List.mem_cons_self
  have h2:=hy y List.mem_cons_self
  simp only [le] at he
  have e1:x=y:=by omega
  have e2:le r=le s:=by omega
  rw [e1,le_inj r s (fun b hb=>hx b (List.mem_cons_of_mem _ hb)) (fun b hb=>hy b (List.mem_cons_of_mem _ hb)) (by simpa using hl) e2]
theorem openEnd_body (xs:List Int):openEnd (xs ++ sumB xs)=(0,xs):=by
 have hl:(xs ++ sumB xs).length - 8=xs.length:=by rw [List.length_append,sumB_length];omega
 unfold openEnd
 rw [if_neg (by rw [List.length_append,sumB_length];omega),hl,List.drop_left,List.take_left,if_pos (le_sum xs)]
theorem open_chunk {xs:List Int} (h:Octets xs):openN (chunkN xs)=(0,xs):=by
 unfold openN chunkN
 rw [unst_stuff (h.app (sumB_octets xs)),if_neg (by simp)]
 exact openEnd_body xs
theorem openEnd_only {t b:List Int} (ho:Octets t) (h:openEnd t=(0,b)):t=b ++ sumB b:=by
 unfold openEnd at h
 by_cases h1:t.length<8
 ·rw [if_pos h1] at h
  exact absurd (congrArg Prod.fst h) (by simp)
 ·rw [if_neg h1] at h
  by_cases h2:le (t.drop (t.length - 8))=wxxh 0 (t.take (t.length - 8))
  ·rw [if_pos h2] at h
   have hb:t.take (t.length - 8)=b:=congrArg Prod.snd h
   rw [hb] at h2
   have h3:t.drop (t.length - 8)=sumB b:=le_inj _ _ (ho.drop _) (sumB_octets b) (by rw [sumB_length,List.length_drop];omega) (by rw [le_sum];exact h2)
   rw [← h3,← hb,List.take_append_drop]
  ·rw [if_neg h2] at h
   exact absurd (congrArg Prod.fst h) (by simp)
theorem open_only {ys b:List Int} (ho:Octets ys) (h:openN ys=(0,b)):ys=chunkN b∧Octets b:=by
 unfold openN at h
 by_cases h1:(unst ys).1 ≠ 0
 ·rw [if_pos h1] at h
  exact absurd (congrArg Prod.fst h) h1
 ·rw [if_neg h1] at h
  have hu:=(unst_octets ho).1
  have ht:=openEnd_only hu h
  have hz:=unst_zero (xs:=ys) (ys:=(unst ys).2) (Prod.ext (by simpa using h1) rfl)
  rw [ht] at hz hu
  exact ⟨hz.symm,fun x hx=>hu x (List.mem_append_left _ hx)⟩
theorem open_bound {ys:List Int} (ho:Octets ys):Octets (openN ys).2∧(openN ys).2.length≤ys.length:=by
 have hu:=unst_octets ho
 have h00:Octets []∧([]:List Int).length≤ys.length:=⟨fun b hb=>by simp at hb,Nat.zero_le _⟩
 unfold openN openEnd
 repeat' split
 ·exact h00
 ·exact h00
 ·exact ⟨hu.1.take _,by rw [List.length_take];omega⟩
 ·exact h00
theorem chunk_solid {xs:List Int} (h:Octets xs):Solid (chunkN xs):=stuff_solid (h.app (sumB_octets xs))
theorem stuffGo_long:∀ (r now:List Int) (full:Bool),(full=true→now=[])→now.length+r.length+(if full then 0 else 1)≤(stuffGo now full r).length
 | [],now,full,hf=>by
  unfold stuffGo
  cases full
  ·simp
  ·simp [hf rfl]
 | b :: r,now,full,hf=>by
  unfold stuffGo
  have hc:(if full then 0 else 1)≤1:=by split <;> decide
  rw [List.length_cons]
  by_cases hb:b=0
  ·rw [if_pos hb]
   have:=stuffGo_long r [] false (by simp)
   rw [if_neg (by simp)] at this
   simp only [List.length_append,List.length_cons,List.length_nil,Nat.zero_add] at this ⊢
   omega
  ·rw [if_neg hb]
   by_cases h254:now.length+1=254
   ·rw [if_pos h254]
    have:=stuffGo_long r [] true (fun _=>rfl)
    rw [if_pos rfl] at this
    simp only [List.length_append,List.length_cons,List.length_nil,Nat.zero_add] at this ⊢
    omega
   ·rw [if_neg h254]
    have:=stuffGo_long r (now ++ [b]) false (by simp)
    rw [if_neg (by simp)] at this
    simp only [List.length_append,List.length_cons,List.length_nil,Nat.zero_add] at this ⊢
    omega
theorem stuff_long (xs:List Int):xs.length+1≤(stuff xs).length:=by
 have:=stuffGo_long xs [] false (by simp)
 rw [if_neg (by simp)] at this
 simp only [List.length_nil,Nat.zero_add] at this
 exact this
theorem chunk_long (xs:List Int):xs.length+9≤(chunkN xs).length:=by
 have:=stuff_long (xs ++ sumB xs)
 rw [List.length_append,sumB_length] at this
 exact this
theorem seal_length (xs:List Int):(sealN xs).length=(chunkN xs).length+1∧(sealN xs).length≤sizeN xs.length:=by
 have h:=stuff_most (xs ++ sumB xs)
 rw [List.length_append,sumB_length] at h
 unfold sealN sizeN
 rw [List.length_append]
 exact ⟨rfl,by unfold chunkN;simp only [List.length_cons,List.length_nil];omega⟩
theorem seal_nought {xs:List Int} (h:Octets xs) {i:Nat} (hi:i<(sealN xs).length):(((sealN xs).getD i 0 == 0)=decide (i=(sealN xs).length - 1))∧0≤(sealN xs).getD i 0∧(sealN xs).getD i 0<256:=by
 have hl:=(seal_length xs).1
 have hs:=chunk_solid h
 by_cases hc:i<(chunkN xs).length
 ·have e:(sealN xs).getD i 0=(chunkN xs)[i]:=by
   unfold sealN
   rw [List.getD_eq_getElem?_getD,List.getElem?_append_left hc,List.getElem?_eq_getElem hc]
   rfl
  have hb:=hs _ (List.getElem_mem hc)
  rw [e,decide_eq_false (by omega),beq_eq_false_iff_ne.2 (by omega)]
  exact ⟨rfl,by omega,hb.2⟩
 ·have e:(sealN xs).getD i 0=0:=by
   have hi2:i=(chunkN xs).length:=by omega
   subst hi2
   unfold sealN
   rw [List.getD_eq_getElem?_getD,List.getElem?_append_right (Nat.le_refl _)]
   simp
  rw [e,decide_eq_true (by omega)]
  exact ⟨rfl,by decide,by decide⟩
theorem seal_octets {xs:List Int} (h:Octets xs):Octets (sealN xs):=(chunk_solid h).octets.app (fun b hb=>by simp at hb;omega)
def headB (e s n:Nat):List Int:=1 :: 2 :: (e:Int) :: (vnum s ++ vnum n)
def mayHead (e s n:Nat):Bool:=mayC e s && decide (n<s)
theorem mayHead_true {e s n:Nat}:mayHead e s n=true ↔ 12≤e∧e≤24∧1≤s∧s≤65536∧n<s:=by
 unfold mayHead
 rw [Bool.and_eq_true,mayC_true,decide_eq_true_eq]
 constructor
 ·rintro ⟨⟨a,b,c,d⟩,h⟩;exact ⟨a,b,c,d,h⟩
 ·rintro ⟨a,b,c,d,h⟩;exact ⟨⟨a,b,c,d⟩,h⟩
theorem headB_octets {e s n:Nat} (h:e<256):Octets (headB e s n):=fun b hb=>by
 simp only [headB,List.mem_cons,List.mem_append] at hb
 rcases hb with rfl|rfl|rfl|hb|hb
 ·omega
 ·omega
 ·omega
 ·exact vnum_octets s b hb
 ·exact vnum_octets n b hb
theorem headB_length {e s n:Nat} (hs:s<18446744073709551616) (hn:n<18446744073709551616):(headB e s n).length≤23:=by
 have:=vnum_ten hs
 have:=vnum_ten hn
 simp only [headB,List.length_cons,List.length_append]
 omega
def getR (ys:List Int):Int × Rec:=if (openN ys).1 ≠ 0 then ((openN ys).1,Rec.none) else readR (openN ys).2
def putR (r:Rec):List Int:=if checkR r=0 then sealN (bodyR r) else []
def putH (e s n:Nat):List Int:=if mayHead e s n=true then sealN (headB e s n) else []
theorem getR_put {r:Rec} (hf:r.Fine) (h:checkR r=0) (hb:Octets (bodyR r)):getR (chunkN (bodyR r))=(0,r):=by
 unfold getR
 rw [open_chunk hb,if_neg (by simp)]
 exact readR_body hf h
end
section
structure Pr where
 key:List Int
 val:List Int
def Pr.none:Pr:=⟨[],[]⟩
structure Pr.Fine (p:Pr):Prop where
 key:Octets p.key
 val:Octets p.val
end
section
structure En where
 hash:Nat
 at_:Nat
instance:DecidableEq En:=fun a b=>decidable_of_iff (a.hash=b.hash∧a.at_=b.at_) ⟨fun h=>by cases a;cases b;simp at h;rw [h.1,h.2],fun h=>by rw [h];exact ⟨rfl,rfl⟩⟩
def En.none:En:=⟨0,0⟩
structure En.Fine (e:En):Prop where
 hash:e.hash<18446744073709551616
 at_:e.at_<4294967296
theorem En.ext' {a b:En} (h1:a.hash=b.hash) (h2:a.at_=b.at_):a=b:=by cases a;cases b;simp at h1 h2;rw [h1,h2]
theorem En.ne {a b:En} (h:a ≠ b):a.hash ≠ b.hash ∨ a.at_ ≠ b.at_:=by
 by_cases h1:a.hash=b.hash
 ·exact .inr fun h2=>h (En.ext' h1 h2)
 ·exact .inl h1
def LessE (a b:En):Prop:=a.hash<b.hash ∨ a.hash=b.hash∧a.at_<b.at_
instance (a b:En):Decidable (LessE a b):=by unfold LessE;infer_instance
theorem LessE.trans {a b c:En} (h:LessE a b) (g:LessE b c):LessE a c:=by unfold LessE at *;omega
theorem LessE.irrefl (a:En):¬ LessE a a:=by unfold LessE;omega
theorem LessE.total {a b:En} (h:a ≠ b):LessE a b ∨ LessE b a:=by
 have:=En.ne h
 unfold LessE
 omega
theorem LessE.not {a b:En} (h:¬ LessE a b) (hne:a ≠ b):LessE b a:=(LessE.total hne).resolve_left h
def cmpE (a b:En):Int:=if a=b then 0 else if LessE a b then -1 else 1
theorem cmpE_less {a b:En}:cmpE a b<0 ↔ LessE a b:=by
 unfold cmpE
 by_cases e:a=b
 ·subst e
  rw [if_pos rfl]
  exact ⟨fun h=>by omega,fun h=>absurd h (LessE.irrefl _)⟩
 ·rw [if_neg e]
  by_cases l:LessE a b
  ·rw [if_pos l];exact ⟨fun _=>l,fun _=>by omega⟩
  ·rw [if_neg l];exact ⟨fun h=>by omega,fun h=>absurd h l⟩
def putE:List En→En→List En
 | [],e=>[e]
 | x :: l,e=>if x=e then x :: l else if LessE e x then e :: x :: l else x :: putE l e
def sortE (l:List En):List En:=l.foldl putE []
def risesE:List En→Bool
 | []=>true
 | [_]=>true
 | a :: b :: l=>decide (LessE a b) && risesE (b :: l)
theorem risesE_pair:∀ {l:List En},risesE l=true ↔ l.Pairwise LessE
 | []=>by simp [risesE]
 | [a]=>by simp [risesE]
 | a :: b :: l=>by
  rw [risesE,Bool.and_eq_true,decide_eq_true_iff,risesE_pair (l:=b :: l),List.pairwise_cons (a:=a)]
  constructor
  ·rintro ⟨h1,h2⟩
   refine ⟨fun c hc=>?_,h2⟩
   rcases List.mem_cons.1 hc with rfl|hc
   ·exact h1
   ·exact h1.trans ((List.pairwise_cons.1 h2).1 c hc)
  ·rintro ⟨h1,h2⟩
   exact ⟨h1 b List.mem_cons_self,h2⟩
theorem putE_mem:∀ (l:List En) (e x:En),x ∈ putE l e ↔ x ∈ l ∨ x=e
 | [],e,x=>by simp [putE]
 | y :: l,e,x=>by
  unfold putE
  by_cases h1:y=e
  ·rw [if_pos h1]
   constructor
   ·exact .inl
   ·rintro (h|rfl)
    ·exact h
    ·rw [h1];exact List.mem_cons_self
  ·rw [if_neg h1]
   by_cases h2:LessE e y
   ·rw [if_pos h2,List.mem_cons]
    exact Or.comm
   ·rw [if_neg h2,List.mem_cons,putE_mem l e x,List.mem_cons]
    exact or_assoc.symm
theorem putE_rises:∀ {l:List En} (e:En),l.Pairwise LessE→(putE l e).Pairwise LessE
 | [],e,_=>by simp [putE]
 | y :: l,e,h=>by
  obtain ⟨h1,h2⟩:=List.pairwise_cons.1 h
  unfold putE
  by_cases e1:y=e
  ·rw [if_pos e1];exact h
  ·rw [if_neg e1]
   by_cases e2:LessE e y
   ·rw [if_pos e2]
    refine List.pairwise_cons.2 ⟨fun c hc=>?_,h⟩
    rcases List.mem_cons.1 hc with rfl|hc
    ·exact e2
    ·exact e2.trans (h1 c hc)
   ·rw [if_neg e2]
    refine List.pairwise_cons.2 ⟨fun c hc=>?_,putE_rises e h2⟩
    rcases (putE_mem l e c).1 hc with hc|rfl
    ·exact h1 c hc
    ·exact LessE.not e2 (fun hh=>e1 hh.symm)
theorem putE_len:∀ (l:List En) (e:En),(putE l e).length≤l.length+1
 | [],e=>by simp [putE]
 | y :: l,e=>by
  unfold putE
  split
  ·simp
  ·split
   ·simp
   ·have:=putE_len l e
    simp only [List.length_cons]
    omega
theorem fold_mem:∀ (l m:List En) (x:En),x ∈ l.foldl putE m ↔ x ∈ m ∨ x ∈ l
 | [],m,x=>by simp
 | y :: l,m,x=>by
  rw [List.foldl_cons,fold_mem l (putE m y) x,putE_mem,List.mem_cons]
  exact or_assoc
theorem fold_rises:∀ (l:List En) {m:List En},m.Pairwise LessE→(l.foldl putE m).Pairwise LessE
 | [],_,h=>h
 | y :: l,_,h=>fold_rises l (putE_rises y h)
theorem fold_len:∀ (l m:List En),(l.foldl putE m).length≤m.length+l.length
 | [],m=>by simp
 | y :: l,m=>by
  have h1:=fold_len l (putE m y)
  have h2:=putE_len m y
  rw [List.foldl_cons,List.length_cons]
  omega
theorem sortE_mem {l:List En} {x:En}:x ∈ sortE l ↔ x ∈ l:=by
 unfold sortE
 rw [fold_mem]
 simp
theorem sortE_pair (l:List En):(sortE l).Pairwise LessE:=fold_rises l List.Pairwise.nil
theorem sortE_rises (l:List En):risesE (sortE l)=true:=risesE_pair.2 (sortE_pair l)
theorem sortE_len (l:List En):(sortE l).length≤l.length:=by
 have:=fold_len l []
 simpa [sortE] using this
theorem sortE_fine {l:List En} (h:∀ e ∈ l,e.Fine):∀ e ∈ sortE l,e.Fine:=fun e he=>h e (sortE_mem.1 he)
theorem sortE_snoc (l:List En) (e:En):sortE (l ++ [e])=putE (sortE l) e:=by
 unfold sortE
 rw [List.foldl_append]
 rfl
theorem rises_only:∀ {l m:List En},l.Pairwise LessE→m.Pairwise LessE→(∀ x,x ∈ l ↔ x ∈ m)→l=m
 | [],[],_,_,_=>rfl
 | [],b :: m,_,_,h=>by have:=(h b).2 List.mem_cons_self;simp at this
 | a :: l,[],_,_,h=>by have:=(h a).1 List.mem_cons_self;simp at this
 | a :: l,b :: m,hl,hm,h=>by
  obtain ⟨a1,a2⟩:=List.pairwise_cons.1 hl
  obtain ⟨b1,b2⟩:=List.pairwise_cons.1 hm
  have hab:a=b:=by
   rcases List.mem_cons.1 ((h a).1 List.mem_cons_self) with e|e
   ·exact e
   ·rcases List.mem_cons.1 ((h b).2 List.mem_cons_self) with f|f
    ·exact f.symm
    ·exact absurd ((b1 a e).trans (a1 b f)) (LessE.irrefl _)
  subst hab
  rw [rises_only a2 b2 fun x=>?_]
  constructor
  ·intro hx
   rcases List.mem_cons.1 ((h x).1 (List.mem_cons_of_mem _ hx)) with e|e
   ·subst e
    exact absurd (a1 _ hx) (LessE.irrefl _)
   ·exact e
  ·intro hx
   rcases List.mem_cons.1 ((h x).2 (List.mem_cons_of_mem _ hx)) with e|e
   ·subst e
    exact absurd (b1 _ hx) (LessE.irrefl _)
   ·exact e
theorem sortE_same {l m:List En} (h:∀ x,x ∈ l ↔ x ∈ m):sortE l=sortE m:=rises_only (sortE_pair l) (sortE_pair m) fun x=>by rw [sortE_mem,sortE_mem];exact h x
def textE:List En→List Int
 | []=>[]
 | e :: l=>digits (e.hash:Int) 8 ++ digits (e.at_:Int) 4 ++ textE l
theorem textE_length:∀ l:List En,(textE l).length=12*l.length
 | []=>rfl
 | e :: l=>by
  rw [textE,List.length_append,List.length_append,digits_length,digits_length,textE_length l,List.length_cons]
  omega
theorem textE_octets:∀ l:List En,Octets (textE l)
 | []=>fun b hb=>by simp [textE] at hb
 | e :: l=>((digits_octets _ 8).app (digits_octets _ 4)).app (textE_octets l)
theorem textE_snoc (l:List En) (e:En):textE (l ++ [e])=textE l ++ (digits (e.hash:Int) 8 ++ digits (e.at_:Int) 4):=by
 induction l with
 | nil=>simp [textE]
 | cons x l ih=>rw [List.cons_append,textE,ih,textE];simp only [List.append_assoc]
end
section
open Go.RowKit
theorem own_from {w:World} {base size n k:Nat} {e:TypeId} {v:Value} {xs:List Value} (h:w.ownsRow base e size v n xs) (hk:v.ownBlock=some k):base≤k:=by
 rcases h with ⟨_,⟨rfl,_⟩|⟨g,cap,cur,rfl,hg,_⟩⟩
 ·simp [Value.ownBlock] at hk
 ·simp [Value.ownBlock] at hk
  omega
set_option maxRecDepth 10000 in
theorem wpList_append_any {w:World} {ops:Array Oper} {rest:List Oper} {o:Oper} {a:Act} {Q:Exit→Act→World→Prop} (hgd:o.guard=none) (s x:Operand) (t:TypeId)
  (ho:o.op=.call { callee:=.builtin .append,args:=#[s,x],argTypes:=#[t,t] })
  (base:Nat) (e:TypeId) (i:TypeInfo) (z:Value) (size bytes:Nat) (ht:Tryz.prog.underlying t=some (.slice e)) (hi:Tryz.prog.info? e=some i) (hz:i.zero=some z)
  (hsize:i.size=size) (hby:i.bytes=bytes) (hzs:z.cells.size=size) (hsz:0<size)
  (v:Value) (n:Nat) (xs:List Value) (hs:a.eval s=v) (hown:w.ownsRow base e size v n xs)
  (p:Option Addr) (m c:Nat) (news:List Value) (hx:a.eval x=.slice p m c) (hp0:p=none→m=0∧c=0) (hl:news.length=m*size)
  (hnews:∀ ad,p=some ad→∀ j u,news[j]?=some u→w.cell? (ad.add j)=some u) (h1:∀ u ∈ news,u.oneCell'=true)
  (h63:n+m≤maxLen) (hbytes:(n+m)*bytes≤140737488355328) (hbase:base≤w.heap.size)
  (h:∀ v' w',w'.ownsRow base e size v' (n+m) (xs ++ news)→Below base w w'→wpList Tryz.prog ops Q rest (a.put o.dst v') w'):wpList Tryz.prog ops Q (o :: rest) a w:=by
 cases p with
 | none =>
  obtain ⟨rfl,rfl⟩:=hp0 rfl
  obtain rfl:news=[]:=List.length_eq_zero_iff.1 (by omega)
  refine wpList_append_own_none hgd s x t ho base e i size ht hi v n xs hs hown hx (h v w ?_ (Below.refl base w))
  rw [List.append_nil,Nat.add_zero]
  exact hown
 | some ad =>
  refine wpList_append_own w hgd s x t ho base e i z size bytes ht hi hz hsize hby hzs hsz v n xs hs hown ad m c news hx hl (hnews ad rfl) h1 h63 hbytes hbase ?_
  intro v' w' h2 h3 _
  exact h v' w' h2 ((Below.refl base w).grown h3 hbase (fun k hk=>own_from hown hk))
set_option maxRecDepth 10000 in
theorem wpList_append_bytes {w:World} {ops:Array Oper} {rest:List Oper} {o:Oper} {a:Act} {Q:Exit→Act→World→Prop} (hgd:o.guard=none) (s x:Operand)
  (ho:o.op=.call { callee:=.builtin .append,args:=#[s,x],argTypes:=#[29,29] })
  (base:Nat) (v:Value) (n:Nat) (xs:List Int) (hs:a.eval s=v) (hown:w.ownsRow base 5 1 v n (xs.map (Value.int .u8)))
  (p:Option Addr) (m c:Nat) (ys:List Int) (hx:a.eval x=.slice p m c) (hp0:p=none→m=0∧c=0) (hm:m=ys.length) (hb:Bytes8 w p ys)
  (hroom:n+m≤140737488355328) (hbase:base≤w.heap.size)
  (h:∀ v' w',w'.ownsRow base 5 1 v' (n+m) ((xs ++ ys).map (Value.int .u8))→Below base w w'→wpList Tryz.prog ops Q rest (a.put o.dst v') w'):wpList Tryz.prog ops Q (o :: rest) a w:=by
 obtain ⟨i0,hi,hz0,hz1,hz2⟩:=info_parts infoByte
 refine wpList_append_any hgd s x 29 ho base 5 i0 (.int .u8 0) 1 1 Tryz.underlying29 hi hz0 hz1 hz2 rfl (by decide) v n _ hs hown p m c (ys.map (Value.int .u8)) hx hp0 (by simp;omega) ?_ ?_ (by unfold maxLen;omega) (by omega) hbase ?_
 ·intro ad had j u hj
  have hjn:j<ys.length:=by
   have:=(List.getElem?_eq_some_iff.1 hj).1
   simpa using this
  obtain ⟨a',ha',hcell⟩:=hb (by omega)
  obtain rfl:=Option.some.inj (had.symm.trans ha')
  rw [hcell j hjn]
  have e:(ys.map (Value.int .u8))[j]?=some (Value.int .u8 (ys.getD j 0)):=by simp [List.getElem?_eq_getElem hjn]
  rw [e] at hj
  exact hj
 ·intro u hu
  obtain ⟨x,_,rfl⟩:=List.mem_map.1 hu
  rfl
 ·intro v' w' h1 h2
  exact h v' w' (by rw [List.map_append];exact h1) h2
end
end Go.Proofs.YtehkjkcnigknkaaGreat

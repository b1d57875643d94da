/-
  Num; ThinNum; CobsNum; WideNum; VarNum; RecNum.
-/
import Derived.Test.YtehkjkcnigknkaaGreatRows
import Derived.Laws.BitsAllLaws
import Derived.Laws.Bits64

namespace Go.Proofs.YtehkjkcnigknkaaGreat
section
def le:List Int→Int
 | []=>0
 | b :: r=>b+256*le r
def Octets (xs:List Int):Prop:=∀ b ∈ xs,0≤b∧b<256
theorem Octets.take {xs:List Int} (h:Octets xs) (n:Nat):Octets (xs.take n):=fun b hb=>h b (List.mem_of_mem_take hb)
theorem Octets.drop {xs:List Int} (h:Octets xs) (n:Nat):Octets (xs.drop n):=fun b hb=>h b (List.mem_of_mem_drop hb)
theorem Octets.getD {xs:List Int} (h:Octets xs) (n:Nat):0≤xs.getD n 0∧xs.getD n 0<256:=by
 by_cases hn:n<xs.length
 ·have e:xs.getD n 0=xs[n]:=by simp [hn]
  rw [e];exact h _ (List.getElem_mem hn)
 ·have e:xs.getD n 0=0:=by simp [List.getElem?_eq_none (show xs.length≤n by omega)]
  rw [e];omega
theorem le_bound:∀ (xs:List Int),Octets xs→0≤le xs∧le xs<2 ^ (8*xs.length)
 | [],_=>by simp [le]
 | b :: r,h=>by
  have ⟨h1,h2⟩:=le_bound r (fun x hx=>h x (List.mem_cons_of_mem _ hx))
  have hb:=h b List.mem_cons_self
  have e:(2:Int) ^ (8*(b :: r).length)=256*2 ^ (8*r.length):=by
   rw [show 8*(b :: r).length=8+8*r.length by simp;omega,Int.pow_add];rfl
  rw [e]
  simp only [le]
  omega
theorem le_snoc:∀ (xs:List Int) (y:Int),le (xs ++ [y])=le xs+2 ^ (8*xs.length)*y
 | [],y=>by simp [le]
 | b :: r,y=>by
  have ih:=le_snoc r y
  have e:(2:Int) ^ (8*(b :: r).length)=256*2 ^ (8*r.length):=by
   rw [show 8*(b :: r).length=8+8*r.length by simp;omega,Int.pow_add];rfl
  rw [e]
  simp only [List.cons_append,le,ih,Int.mul_assoc,Int.mul_add]
  omega
theorem take_succ_getD (xs:List Int) (k:Nat) (h:k<xs.length):xs.take (k+1)=xs.take k ++ [xs.getD k 0]:=by
 rw [List.take_succ_eq_append_getElem h]
 simp [h]
theorem pow_le_of {k:Nat} (h:k<8):(2:Nat) ^ (8*k)*256≤18446744073709551616:=by
 have e:(2:Nat) ^ (8*k)*256=2 ^ (8*k+8):=by rw [Nat.pow_add]
 rw [e]
 exact Nat.pow_le_pow_right (by decide) (show 8*k+8≤64 by omega)
theorem or_byte (X y:Int) (k:Nat) (hk:k<8) (hX0:0≤X) (hX:X<2 ^ (8*k)) (h0:0≤y) (h1:y<256) :
  bits BinOp.or IntKind.u64 X (IntKind.u64.wrap (IntKind.u64.wrap y*2 ^ (8*k)))=X+2 ^ (8*k)*y:=by
 obtain ⟨x,rfl⟩:=Int.eq_ofNat_of_zero_le hX0
 obtain ⟨b,rfl⟩:=Int.eq_ofNat_of_zero_le h0
 have hp:=pow_le_of hk
 have hx:x<2 ^ (8*k):=by exact_mod_cast hX
 have hb:b<256:=by omega
 have hbp:b*2 ^ (8*k)<18446744073709551616:=by
  have:b*2 ^ (8*k)<256*2 ^ (8*k):=Nat.mul_lt_mul_of_pos_right hb (Nat.two_pow_pos _)
  rw [Nat.mul_comm 256] at this
  omega
 have e1:IntKind.u64.wrap (b:Int)=(b:Int):=by rw [IntKind.wrap_u64];omega
 have e2:IntKind.u64.wrap ((b:Int)*2 ^ (8*k))=((b*2 ^ (8*k):Nat):Int):=by
  rw [IntKind.wrap_u64]
  have:((b:Int)*2 ^ (8*k))=((b*2 ^ (8*k):Nat):Int):=by push_cast;rfl
  rw [this]
  omega
 rw [e1,e2,u64_or_nat _ _ (by omega) hbp,Nat.or_comm,Nat.mul_comm b,← Nat.two_pow_add_eq_or_of_lt hx]
 push_cast
 omega
end
section
def rot (n:Nat) (x:Int):Int:=x*2 ^ n % 4294967296+x / 2 ^ (32 - n)
def down (n:Nat) (x:Int):Int:=((x.toNat ^^^ x.toNat / 2 ^ n:Nat):Int)
def tin (x y:Int):Int:=rot 13 ((x+y*2246822519) % 4294967296)*2654435761 % 4294967296
def four4 (xs:List Int) (i:Nat):Int:=le ((xs.drop (4*i)).take 4)
def U32 (x:Int):Prop:=0≤x∧x<4294967296
theorem four4_bound {xs:List Int} (h:Octets xs) (i:Nat):U32 (four4 xs i):=by
 have hb:=le_bound _ ((h.drop (4*i)).take 4)
 refine ⟨hb.1,Int.lt_of_lt_of_le hb.2 ?_⟩
 have hp:2 ^ (8*((xs.drop (4*i)).take 4).length)≤2 ^ 32:=Nat.pow_le_pow_right (by decide) (by rw [List.length_take];omega)
 have e:(2:Int) ^ (8*((xs.drop (4*i)).take 4).length)=((2 ^ (8*((xs.drop (4*i)).take 4).length):Nat):Int):=by rw [Int.natCast_pow];rfl
 rw [e]
 exact Int.le_trans (Int.ofNat_le.2 hp) (by decide)
def taken (v:Nat→Int) (ys:List Int) (k:Nat):Nat→Int:=fun j=>if j<k then tin (v j) (four4 ys j) else v j
def upd (v:Nat→Int) (k:Nat) (x:Int):Nat→Int:=fun j=>if j=k then x else v j
end
section
def stuffGo:List Int→Bool→List Int→List Int
 | now,full,[]=>if full then [] else ((now.length+1:Nat):Int) :: now
 | now,_,b :: r =>
  if b=0 then (((now.length+1:Nat):Int) :: now) ++ stuffGo [] false r
  else if now.length+1=254 then (255 :: (now ++ [b])) ++ stuffGo [] true r
  else stuffGo (now ++ [b]) false r
def stuff (xs:List Int):List Int:=stuffGo [] false xs
def dec:List Int→Option (List Int)
 | []=>some []
 | n :: r =>
  if r.length+1<n.toNat then none
  else (dec (r.drop (n.toNat - 1))).map fun o=>r.take (n.toNat - 1) ++ (if n<255∧r.drop (n.toNat - 1) ≠ [] then [0] else []) ++ o
termination_by xs=>xs.length
decreasing_by simp;omega
def unst (xs:List Int):Int × List Int :=
 if 0 ∈ xs then (4,[])
 else if xs=[] then (2,[])
 else match dec xs with
  | none=>(2,[])
  | some o=>if stuff o=xs then (0,o) else (4,[])
def mostOf (n:Nat):Nat:=if n=0 then 1 else n+1+(n - 1) / 254
def Solid (xs:List Int):Prop:=∀ b ∈ xs,1≤b∧b<256
theorem Solid.octets {xs:List Int} (h:Solid xs):Octets xs:=fun b hb=>⟨by have:=(h b hb).1;omega,(h b hb).2⟩
theorem Solid.snoc {xs:List Int} (h:Solid xs) {b:Int} (hb:1≤b∧b<256):Solid (xs ++ [b]):=fun x hx =>
 (List.mem_append.1 hx).elim (h x) (fun h=>by rw [List.mem_singleton.1 h];exact hb)
theorem Solid.app {xs ys:List Int} (h:Solid xs) (g:Solid ys):Solid (xs ++ ys):=fun x hx=>(List.mem_append.1 hx).elim (h x) (g x)
theorem Solid.nil:Solid []:=fun b hb=>by simp at hb
theorem Solid.cons {xs:List Int} (h:Solid xs) {b:Int} (hb:1≤b∧b<256):Solid (b :: xs):=fun x hx =>
 (List.mem_cons.1 hx).elim (fun e=>by rw [e];exact hb) (h x)
theorem Solid.noZero {xs:List Int} (h:Solid xs):(0:Int) ∉ xs:=fun h0=>by have:=(h 0 h0).1;omega
theorem stuffGo_solid:∀ (r now:List Int) (full:Bool),Octets r→Solid now→now.length<254→Solid (stuffGo now full r)
 | [],now,full,_,hn,hl=>by
  unfold stuffGo
  split
  ·exact Solid.nil
  ·exact hn.cons ⟨by omega,by omega⟩
 | b :: r,now,full,hr,hn,hl=>by
  have hrr:Octets r:=fun x hx=>hr x (List.mem_cons_of_mem _ hx)
  have hb:=hr b List.mem_cons_self
  unfold stuffGo
  split
  ·exact (hn.cons ⟨by omega,by omega⟩).app (stuffGo_solid r [] false hrr Solid.nil (by decide))
  ·split
   ·exact ((hn.snoc ⟨by omega,hb.2⟩).cons ⟨by decide,by decide⟩).app (stuffGo_solid r [] true hrr Solid.nil (by decide))
   ·exact stuffGo_solid r (now ++ [b]) false hrr (hn.snoc ⟨by omega,hb.2⟩) (by simp;omega)
theorem stuff_solid {xs:List Int} (h:Octets xs):Solid (stuff xs):=stuffGo_solid xs [] false h Solid.nil (by decide)
theorem stuffGo_pos:∀ (r now:List Int),stuffGo now false r ≠ []
 | [],now=>by unfold stuffGo;simp
 | b :: r,now=>by
  unfold stuffGo
  split
  ·simp
  ·split
   ·simp
   ·exact stuffGo_pos r _
theorem stuff_pos (xs:List Int):stuff xs ≠ []:=stuffGo_pos xs []
theorem dec_group (g rest:List Int) (hg:g.length≤254):dec ((((g.length+1:Nat):Int) :: g) ++ rest)=(dec rest).map fun o=>g ++ (if g.length<254∧rest ≠ [] then [0] else []) ++ o:=by
 rw [List.cons_append,dec]
 have e:((g.length+1:Nat):Int).toNat - 1=g.length:=by omega
 rw [if_neg (by simp),e,List.take_left,List.drop_left]
 have e2:(((g.length+1:Nat):Int)<255∧rest ≠ [])=(g.length<254∧rest ≠ []):=by
  apply propext
  constructor
  ·intro h;exact ⟨by omega,h.2⟩
  ·intro h;exact ⟨by omega,h.2⟩
 simp only [e2]
theorem dec_stuffGo:∀ (r now:List Int) (full:Bool),now.length<254→(full=true→now=[])→dec (stuffGo now full r)=some (now ++ r)
 | [],now,full,hl,hf=>by
  unfold stuffGo
  by_cases h:full=true
  ·rw [if_pos h,hf h,dec]
   rfl
  ·rw [if_neg h]
   have e:=dec_group now [] (by omega)
   rw [List.append_nil] at e
   rw [e,dec]
   simp
 | b :: r,now,full,hl,hf=>by
  unfold stuffGo
  by_cases hb:b=0
  ·rw [if_pos hb,dec_group now _ (by omega),dec_stuffGo r [] false (by decide) (by simp),if_pos ⟨by omega,stuffGo_pos r []⟩,hb]
   simp
  ·rw [if_neg hb]
   by_cases h254:now.length+1=254
   ·rw [if_pos h254]
    have e:=dec_group (now ++ [b]) (stuffGo [] true r) (by simp;omega)
    rw [List.length_append,show ((now.length+[b].length+1:Nat):Int)=255 by simp;omega] at e
    rw [e,dec_stuffGo r [] true (by decide) (fun _=>rfl),if_neg (by simp;omega)]
    simp
   ·rw [if_neg h254,dec_stuffGo r (now ++ [b]) false (by simp;omega) (by simp)]
    simp
theorem dec_stuff (xs:List Int):dec (stuff xs)=some xs:=dec_stuffGo xs [] false (by decide) (by simp)
theorem unst_stuff {xs:List Int} (h:Octets xs):unst (stuff xs)=(0,xs):=by
 unfold unst
 rw [if_neg (stuff_solid h).noZero,if_neg (stuff_pos xs),dec_stuff]
 simp
theorem unst_zero {xs ys:List Int} (h:unst xs=(0,ys)):stuff ys=xs:=by
 unfold unst at h
 split at h
 ·simp at h
 ·split at h
  ·simp at h
  ·split at h
   ·simp at h
   ·split at h
    ·simp only [Prod.mk.injEq,true_and] at h
     subst h
     assumption
    ·simp at h
def groups (n:Nat):Nat:=if n=0 then 1 else (n - 1) / 254+1
theorem stuffGo_len:∀ (r now:List Int) (full:Bool),now.length<254→(full=true→now=[])→(stuffGo now full r).length≤now.length+r.length+(if full then (r.length+253) / 254 else groups (now.length+r.length))
 | [],now,full,hl,hf=>by
  unfold stuffGo
  by_cases h:full=true
  ·rw [if_pos h]
   simp
  ·rw [if_neg h,if_neg h]
   unfold groups
   simp only [List.length_cons,List.length_nil,Nat.add_zero]
   split <;> omega
 | b :: r,now,full,hl,hf=>by
  unfold stuffGo
  have hg:groups (now.length+(r.length+1))≤(if full then (r.length+1+253) / 254 else groups (now.length+(r.length+1))):=by
   by_cases h:full=true
   ·rw [if_pos h,hf h]
    unfold groups
    simp only [List.length_nil,Nat.zero_add]
    rw [if_neg (by omega)]
    omega
   ·rw [if_neg h]
    exact Nat.le_refl _
  rw [List.length_cons]
  refine Nat.le_trans ?_ (Nat.add_le_add_left hg _)
  clear hg
  by_cases hb:b=0
  ·rw [if_pos hb]
   have:=stuffGo_len r [] false (by decide) (by simp)
   rw [if_neg (by simp)] at this
   simp only [List.length_append,List.length_cons,List.length_nil,Nat.zero_add] at this ⊢
   have hgm:groups r.length≤groups (now.length+(r.length+1)):=by
    unfold groups
    split <;> split <;> omega
   omega
  ·rw [if_neg hb]
   by_cases h254:now.length+1=254
   ·rw [if_pos h254]
    have:=stuffGo_len r [] true (by decide) (fun _=>rfl)
    rw [if_pos rfl] at this
    simp only [List.length_append,List.length_cons,List.length_nil,Nat.zero_add] at this ⊢
    unfold groups
    rw [if_neg (by omega)]
    omega
   ·rw [if_neg h254]
    have:=stuffGo_len r (now ++ [b]) false (by simp;omega) (by simp)
    rw [if_neg (by simp)] at this
    simp only [List.length_append,List.length_cons,List.length_nil,Nat.zero_add] at this ⊢
    rw [show now.length+1+r.length=now.length+(r.length+1) by omega] at this
    exact this
theorem stuff_most (xs:List Int):(stuff xs).length≤mostOf xs.length:=by
 have:=stuffGo_len xs [] false (by decide) (by simp)
 rw [if_neg (by simp)] at this
 simp only [List.length_nil,Nat.zero_add] at this
 unfold groups at this
 unfold stuff mostOf
 split <;> (rename_i h;simp only [h,if_true,if_false] at this;omega)
end
section
def U64 (x:Int):Prop:=0≤x∧x<18446744073709551616
def xr (x y:Int):Int:=bits BinOp.xor IntKind.u64 x y
def wrot (n:Nat) (x:Int):Int:=x*2 ^ n % 18446744073709551616+x / 2 ^ (64 - n)
def win (x y:Int):Int:=IntKind.u64.wrap (wrot 31 (IntKind.u64.wrap (x+IntKind.u64.wrap (y*14029467366897019727)))*11400714785074694791)
def wmerge (h x:Int):Int:=IntKind.u64.wrap (IntKind.u64.wrap (xr h (win 0 x)*11400714785074694791)+9650029242287828579)
def weight (h y:Int):Int:=IntKind.u64.wrap (IntKind.u64.wrap (wrot 27 (xr h (win 0 y))*11400714785074694791)+9650029242287828579)
def wfour (h y:Int):Int:=IntKind.u64.wrap (IntKind.u64.wrap (wrot 23 (xr h (IntKind.u64.wrap (y*11400714785074694791)))*14029467366897019727)+1609587929392839161)
def wone (h b:Int):Int:=IntKind.u64.wrap (wrot 11 (xr h (IntKind.u64.wrap (b*2870177450012600261)))*11400714785074694791)
def wend (h:Int):Int:=down 32 (IntKind.u64.wrap (down 29 (IntKind.u64.wrap (down 33 h*14029467366897019727))*1609587929392839161))
def four8 (xs:List Int) (i:Nat):Int:=le ((xs.drop (8*i)).take 8)
def wseed (s:Int):Nat→Int
 | 0=>IntKind.u64.wrap (IntKind.u64.wrap (s+11400714785074694791)+14029467366897019727)
 | 1=>IntKind.u64.wrap (s+14029467366897019727)
 | 2=>s
 | _=>IntKind.u64.wrap (s - 11400714785074694791)
def wtaken (v:Nat→Int) (ys:List Int) (k:Nat):Nat→Int:=fun j=>if j<k then win (v j) (four8 ys j) else v j
def wnums (v:Nat→Int) (xs:List Int):Nat→Nat→Int
 | 0=>v
 | k+1=>wtaken (wnums v xs k) (xs.drop (32*k)) 4
def wjoin (v:Nat→Int):Int:=IntKind.u64.wrap (IntKind.u64.wrap (IntKind.u64.wrap (wrot 1 (v 0)+wrot 7 (v 1))+wrot 12 (v 2))+wrot 18 (v 3))
def wmerged (v:Nat→Int):Nat→Int
 | 0=>wjoin v
 | k+1=>wmerge (wmerged v k) (v k)
def wblocks (s:Int) (xs:List Int):Int:=if xs.length<32 then IntKind.u64.wrap (s+2870177450012600261) else wmerged (wnums (wseed s) xs (xs.length / 32)) 4
def wleft (xs:List Int):List Int:=xs.drop (32*(xs.length / 32))
def wfours (h:Int) (xs:List Int):Int :=
 if 4≤xs.length then wfours (wfour h (four4 xs 0)) (xs.drop 4) else xs.foldl wone h
termination_by xs.length
def weights (h:Int) (xs:List Int):Int :=
 if 8≤xs.length then weights (weight h (four8 xs 0)) (xs.drop 8) else wfours h xs
termination_by xs.length
def wxxh (s:Int) (xs:List Int):Int:=wend (weights (IntKind.u64.wrap (wblocks s xs+(xs.length:Int))) (wleft xs))
theorem wtwo_halves {n:Nat} (hn:n≤64):2 ^ n*2 ^ (64 - n)=18446744073709551616:=by
 rw [← Nat.pow_add,show n+(64 - n)=64 by omega]
theorem wrot_nat {n:Nat} (hn:n≤64) (k:Nat):wrot n (k:Int)=((2 ^ n*(k % 2 ^ (64 - n))+k / 2 ^ (64 - n):Nat):Int):=by
 have hp:=wtwo_halves hn
 have e1:(k:Int)*2 ^ n % 18446744073709551616=((k*2 ^ n % 18446744073709551616:Nat):Int):=by
  rw [Int.natCast_emod,Int.natCast_mul,Int.natCast_pow];rfl
 have e2:(k:Int) / 2 ^ (64 - n)=((k / 2 ^ (64 - n):Nat):Int):=by
  rw [Int.natCast_ediv,Int.natCast_pow];rfl
 have hm:k*2 ^ n % 18446744073709551616=2 ^ n*(k % 2 ^ (64 - n)):=by
  rw [← hp,Nat.mul_comm k,Nat.mul_mod_mul_left]
 unfold wrot
 rw [e1,e2,hm,Int.natCast_add]
theorem wrot_bound {n:Nat} (hn:n≤64) {x:Int} (h:U64 x):U64 (wrot n x):=by
 obtain ⟨k,rfl⟩:=Int.eq_ofNat_of_zero_le h.1
 have hk:k<18446744073709551616:=by have:=h.2;omega
 rw [wrot_nat hn]
 have hp:=wtwo_halves hn
 have p2:=Nat.two_pow_pos (64 - n)
 have hq:k / 2 ^ (64 - n)<2 ^ n:=by
  rw [Nat.div_lt_iff_lt_mul p2,hp];exact hk
 have hr:=Nat.mod_lt k p2
 have h1:2 ^ n*(k % 2 ^ (64 - n)+1)≤2 ^ n*2 ^ (64 - n):=Nat.mul_le_mul_left _ hr
 rw [hp,Nat.mul_add] at h1
 obtain ⟨y,hy⟩:∃ y,y=2 ^ n*(k % 2 ^ (64 - n)):=⟨_,rfl⟩
 obtain ⟨z,hz⟩:∃ z,z=k / 2 ^ (64 - n):=⟨_,rfl⟩
 obtain ⟨u,hu⟩:∃ u,u=2 ^ n:=⟨_,rfl⟩
 rw [← hy,← hu] at h1
 rw [← hz,← hu] at hq
 rw [← hy,← hz]
 clear hy hz hu hr p2 hp hk h
 unfold U64
 omega
theorem wmod_bound (x:Int):U64 (IntKind.u64.wrap x):=by
 rw [IntKind.wrap_u64]
 exact ⟨Int.emod_nonneg _ (by decide),Int.emod_lt_of_pos _ (by decide)⟩
theorem win_bound (x y:Int):U64 (win x y):=wmod_bound _
theorem wone_bound (x y:Int):U64 (wone x y):=wmod_bound _
theorem u64_nat {x:Int} (h:U64 x):∃ k:Nat,x=(k:Int)∧k<2 ^ 64:=by
 obtain ⟨k,rfl⟩:=Int.eq_ofNat_of_zero_le h.1
 exact ⟨k,rfl,Int.ofNat_lt.1 h.2⟩
theorem nat_u64 {k:Nat} (h:k<2 ^ 64):U64 (k:Int):=⟨Int.natCast_nonneg k,Int.ofNat_lt.2 h⟩
theorem xr_bound (x y:Int):U64 (xr x y):=wmod_bound _
theorem wdown_bound (n:Nat) {x:Int} (h:U64 x):U64 (down n x):=by
 obtain ⟨a,rfl,ha⟩:=u64_nat h
 exact nat_u64 (Nat.xor_lt_two_pow ha (Nat.lt_of_le_of_lt (Nat.div_le_self _ _) ha))
theorem wend_bound (h:Int):U64 (wend h):=wdown_bound _ (wmod_bound _)
theorem wdown_of (n:Nat) {x:Int} (h:U64 x):bits BinOp.xor IntKind.u64 x (x / 2 ^ n)=down n x:=by
 obtain ⟨k,rfl,hk⟩:=u64_nat h
 have e:(k:Int) / 2 ^ n=((k / 2 ^ n:Nat):Int):=by rw [Int.natCast_ediv,Int.natCast_pow];rfl
 rw [e,u64_xor_nat _ _ hk (Nat.lt_of_le_of_lt (Nat.div_le_self _ _) hk)]
 rfl
theorem wrot_of {n:Nat} (hn:n<64) {x:Int} (h:U64 x):bits BinOp.or IntKind.u64 (x*2 ^ n % 18446744073709551616) (x / 2 ^ (64 - n))=wrot n x:=by
 obtain ⟨k,rfl,hk⟩:=u64_nat h
 have hp:=wtwo_halves (n:=n) (by omega)
 have p2:=Nat.two_pow_pos (64 - n)
 have e1:(k:Int)*2 ^ n % 18446744073709551616=((k*2 ^ n % 18446744073709551616:Nat):Int):=by
  rw [Int.natCast_emod,Int.natCast_mul,Int.natCast_pow];rfl
 have e2:(k:Int) / 2 ^ (64 - n)=((k / 2 ^ (64 - n):Nat):Int):=by
  rw [Int.natCast_ediv,Int.natCast_pow];rfl
 have hq:k / 2 ^ (64 - n)<2 ^ n:=by
  rw [Nat.div_lt_iff_lt_mul p2,hp];exact hk
 have hm:k*2 ^ n % 18446744073709551616=2 ^ n*(k % 2 ^ (64 - n)):=by
  rw [← hp,Nat.mul_comm k,Nat.mul_mod_mul_left]
 unfold wrot
 rw [e1,e2,u64_or_nat _ _ (Nat.mod_lt _ (by decide)) (Nat.lt_of_le_of_lt (Nat.div_le_self _ _) hk),hm,← Nat.two_pow_add_eq_or_of_lt hq,Int.natCast_add]
theorem wrot_zero {x:Int} (h:U64 x):wrot 0 x=x:=by
 unfold wrot
 rw [Int.pow_zero,Nat.sub_zero,Int.mul_one,Int.emod_eq_of_lt h.1 h.2,show x / 2 ^ 64=0 from Int.ediv_eq_zero_of_lt h.1 h.2,Int.add_zero]
theorem wrot_step {n:Nat} (hn:n<64) {x:Int} (h:U64 x):2*wrot n x % 18446744073709551616+wrot n x / 9223372036854775808=wrot (n+1) x:=by
 obtain ⟨k,rfl,hk⟩:=u64_nat h
 have hk:k<18446744073709551616:=hk
 clear h
 rw [wrot_nat (by omega),wrot_nat (by omega)]
 have hp:=wtwo_halves (n:=n) (by omega)
 obtain ⟨m,hm⟩:∃ m,64 - n=m+1:=⟨63 - n,by omega⟩
 have hm':64 - (n+1)=m:=by omega
 rw [hm] at hp ⊢
 rw [hm']
 have hp2:2 ^ n*2 ^ m=9223372036854775808:=by
  rw [Nat.pow_succ,← Nat.mul_assoc] at hp;omega
 have pm:=Nat.two_pow_pos m
 obtain ⟨q,hq⟩:∃ q,q=k / 2 ^ m:=⟨_,rfl⟩
 obtain ⟨r,hr⟩:∃ r,r=k % 2 ^ m:=⟨_,rfl⟩
 have hrl:r<2 ^ m:=by rw [hr];exact Nat.mod_lt _ pm
 have hdd:k / 2 ^ (m+1)=q / 2:=by rw [Nat.pow_succ,← Nat.div_div_eq_div_mul,← hq]
 have hmm:k % 2 ^ (m+1)=2 ^ m*(q % 2)+r:=by
  rw [Nat.pow_succ,Nat.mod_mul,← hr,← hq];omega
 rw [hdd,hmm,← hq,← hr]
 have hql:q<2 ^ n*2:=by
  have:k / 2 ^ m<2 ^ n*2:=by
   rw [Nat.div_lt_iff_lt_mul pm,show 2 ^ n*2*2 ^ m=2 ^ n*2 ^ m*2 by rw [Nat.mul_assoc,Nat.mul_comm 2,← Nat.mul_assoc],hp2];omega
  omega
 have h1:2 ^ n*(r+1)≤2 ^ n*2 ^ m:=Nat.mul_le_mul_left _ hrl
 rw [hp2,Nat.mul_add] at h1
 have h2:2 ^ n*(2 ^ m*(q % 2)+r)=9223372036854775808*(q % 2)+2 ^ n*r:=by
  rw [Nat.mul_add,← Nat.mul_assoc,hp2]
 rw [h2,show 2 ^ (n+1)*r=2*(2 ^ n*r) by rw [Nat.pow_succ,Nat.mul_comm (2 ^ n),Nat.mul_assoc]]
 obtain ⟨y,hy⟩:∃ y,y=2 ^ n*r:=⟨_,rfl⟩
 obtain ⟨z,hz⟩:∃ z,z=2 ^ n:=⟨_,rfl⟩
 rw [← hy] at h1 ⊢
 rw [← hz] at h1 hql
 clear hy hz hr hq hdd hmm hrl pm hp2 hp hm hm' h2 hk
 omega
theorem four8_bound {xs:List Int} (h:Octets xs) (i:Nat):U64 (four8 xs i):=by
 have hb:=le_bound _ ((h.drop (8*i)).take 8)
 refine ⟨hb.1,Int.lt_of_lt_of_le hb.2 ?_⟩
 have hp:2 ^ (8*((xs.drop (8*i)).take 8).length)≤2 ^ 64:=Nat.pow_le_pow_right (by decide) (by rw [List.length_take];omega)
 have e:(2:Int) ^ (8*((xs.drop (8*i)).take 8).length)=((2 ^ (8*((xs.drop (8*i)).take 8).length):Nat):Int):=by rw [Int.natCast_pow];rfl
 rw [e]
 exact Int.le_trans (Int.ofNat_le.2 hp) (by decide)
theorem four4_u64 {xs:List Int} (h:Octets xs) (i:Nat):U64 (four4 xs i):=by
 have:=four4_bound h i
 exact ⟨this.1,Int.lt_trans this.2 (by decide)⟩
theorem wfours_go {h:Int} {xs:List Int} (hl:4≤xs.length):wfours h xs=wfours (wfour h (four4 xs 0)) (xs.drop 4):=by
 conv=>lhs;unfold wfours
 rw [if_pos hl]
theorem wfours_end {h:Int} {xs:List Int} (hl:¬ 4≤xs.length):wfours h xs=xs.foldl wone h:=by
 unfold wfours
 rw [if_neg hl]
theorem weights_go {h:Int} {xs:List Int} (hl:8≤xs.length):weights h xs=weights (weight h (four8 xs 0)) (xs.drop 8):=by
 conv=>lhs;unfold weights
 rw [if_pos hl]
theorem weights_end {h:Int} {xs:List Int} (hl:¬ 8≤xs.length):weights h xs=wfours h xs:=by
 unfold weights
 rw [if_neg hl]
theorem fold_wone (xs:List Int):∀ h,U64 h→U64 (xs.foldl wone h):=by
 induction xs with
 | nil=>exact fun h hh=>hh
 | cons b r ih=>exact fun h _=>ih _ (wone_bound h b)
theorem fold_wnext (xs:List Int) (h:Int) (k:Nat) (hk:k<xs.length):(xs.take (k+1)).foldl wone h=wone ((xs.take k).foldl wone h) (xs.getD k 0):=by
 rw [take_succ_getD xs k hk,List.foldl_append]
 rfl
theorem wtaken_zero (v:Nat→Int) (ys:List Int):wtaken v ys 0=v:=by funext j;simp [wtaken]
theorem wtaken_succ (v:Nat→Int) (ys:List Int) (k:Nat):upd (wtaken v ys k) k (win (wtaken v ys k k) (four8 ys k))=wtaken v ys (k+1):=by
 funext j
 unfold upd wtaken
 by_cases h:j=k
 ·subst h
  rw [if_pos rfl,if_neg (Nat.lt_irrefl _),if_pos (Nat.lt_succ_self _)]
 ·rw [if_neg h]
  by_cases h2:j<k
  ·rw [if_pos h2,if_pos (by omega)]
  ·rw [if_neg h2,if_neg (by omega)]
theorem wtaken_bound {v:Nat→Int} (h:∀ j,j<4→U64 (v j)) (ys:List Int) (k j:Nat) (hj:j<4):U64 (wtaken v ys k j):=by
 unfold wtaken
 split
 ·exact win_bound _ _
 ·exact h j hj
theorem wseed_bound {s:Int} (h:U64 s) (j:Nat):U64 (wseed s j):=by
 match j with
 | 0=>exact wmod_bound _
 | 1=>exact wmod_bound _
 | 2=>exact h
 | n+3=>exact wmod_bound _
theorem wnums_bound {v:Nat→Int} (h:∀ j,j<4→U64 (v j)) (xs:List Int):∀ (k j:Nat),j<4→U64 (wnums v xs k j)
 | 0,_,hj=>h _ hj
 | k+1,_,hj=>wtaken_bound (wnums_bound h xs k) _ _ _ hj
theorem wmerged_bound (v:Nat→Int):∀ k,U64 (wmerged v k)
 | 0=>wmod_bound _
 | _+1=>wmod_bound _
theorem wblocks_bound (s:Int) (xs:List Int):U64 (wblocks s xs):=by
 unfold wblocks
 split
 ·exact wmod_bound _
 ·exact wmerged_bound _ _
theorem four8_append (xs ys:List Int) (i:Nat) (h:8*i+8≤xs.length):four8 (xs ++ ys) i=four8 xs i:=by
 unfold four8
 rw [List.drop_append_of_le_length (by omega),List.take_append_of_le_length (by rw [List.length_drop];omega)]
theorem wtaken_append (v:Nat→Int) (xs ys:List Int) (k:Nat) (h:8*k≤xs.length):wtaken v (xs ++ ys) k=wtaken v xs k:=by
 funext j
 unfold wtaken
 by_cases hj:j<k
 ·rw [if_pos hj,if_pos hj,four8_append _ _ _ (by omega)]
 ·rw [if_neg hj,if_neg hj]
theorem wnums_append (v:Nat→Int) (xs ys:List Int):∀ (k:Nat),32*k≤xs.length→wnums v (xs ++ ys) k=wnums v xs k
 | 0,_=>rfl
 | k+1,h=>by
  unfold wnums
  rw [wnums_append v xs ys k (by omega),List.drop_append_of_le_length (by omega),wtaken_append _ _ _ _ (by rw [List.length_drop];omega)]
theorem wleft_length (xs:List Int):(wleft xs).length=xs.length % 32:=by
 unfold wleft
 rw [List.length_drop]
 omega
theorem Octets.wleft {xs:List Int} (h:Octets xs):Octets (wleft xs):=h.drop _
end
section
def vnum (x:Nat):List Int:=if x<128 then [(x:Int)] else ((128+x % 128:Nat):Int) :: vnum (x / 128)
termination_by x
decreasing_by omega
theorem vnum_small {x:Nat} (h:x<128):vnum x=[(x:Int)]:=by rw [vnum,if_pos h]
theorem vnum_big {x:Nat} (h:¬ x<128):vnum x=((128+x % 128:Nat):Int) :: vnum (x / 128):=by rw [vnum,if_neg h]
theorem vnum_pos (x:Nat):1≤(vnum x).length:=by
 by_cases h:x<128
 ·rw [vnum_small h];simp
 ·rw [vnum_big h];simp
theorem vnum_octets (x:Nat):Octets (vnum x):=by
 induction x using Nat.strongRecOn with
 | _ x ih =>
  by_cases h:x<128
  ·rw [vnum_small h]
   intro b hb
   simp at hb
   omega
  ·rw [vnum_big h]
   intro b hb
   simp only [List.mem_cons] at hb
   rcases hb with rfl|hb
   ·omega
   ·exact ih (x / 128) (by omega) b hb
theorem vnum_le:∀ (n x:Nat),x<2 ^ (7*(n+1))→(vnum x).length≤n+1
 | 0,x,h=>by rw [vnum_small (by simpa using h)];simp
 | n+1,x,h=>by
  by_cases hs:x<128
  ·rw [vnum_small hs];simp
  ·rw [vnum_big hs]
   have h2:x / 128<2 ^ (7*(n+1)):=by
    rw [show 7*(n+1+1)=7*(n+1)+7 by omega,Nat.pow_add] at h
    exact (Nat.div_lt_iff_lt_mul (by omega)).2 h
   have:=vnum_le n (x / 128) h2
   simp only [List.length_cons]
   omega
theorem vnum_ge:∀ (n x:Nat),2 ^ (7*n)≤x→n+1≤(vnum x).length
 | 0,x,_=>vnum_pos x
 | n+1,x,h=>by
  rw [show 7*(n+1)=7*n+7 by omega,Nat.pow_add] at h
  have hp:=Nat.two_pow_pos (7*n)
  have hs:¬ x<128:=by omega
  rw [vnum_big hs]
  have:=vnum_ge n (x / 128) ((Nat.le_div_iff_mul_le (by omega)).2 h)
  simp only [List.length_cons]
  omega
theorem vnum_ten {x:Nat} (h:x<18446744073709551616):(vnum x).length≤10 :=
 vnum_le 9 x (Nat.lt_of_lt_of_le h (by decide))
theorem vnum_len_ge (x:Nat) (h:1<(vnum x).length):2 ^ (7*((vnum x).length - 1))≤x:=by
 rcases Nat.lt_or_ge x (2 ^ (7*((vnum x).length - 1))) with h1|h1
 ·obtain ⟨m,hm⟩:∃ m,(vnum x).length - 1=m+1:=⟨(vnum x).length - 2,by omega⟩
  rw [hm] at h1
  have:=vnum_le m x h1
  omega
 ·exact h1
theorem vnum_mono {x y:Nat} (h:x≤y):(vnum x).length≤(vnum y).length:=by
 by_cases h1:1<(vnum x).length
 ·have h2:=vnum_ge _ y (Nat.le_trans (vnum_len_ge x h1) h)
  omega
 ·have:=vnum_pos y
  omega
structure VR where
 e:Int
 n:Nat
 x:Int
def vread:Nat→Bool→List Int→VR
 | 0,_,_=>⟨0,0,0⟩
 | _+1,_,[]=>⟨2,0,0⟩
 | f+1,first,b :: r =>
  if f=0∧1<b then ⟨3,1,0⟩
  else if first=false∧b=0 then ⟨4,1,0⟩
  else if b<128 then ⟨0,1,b⟩
  else ⟨(vread f false r).e,(vread f false r).n+1,b - 128+128*(vread f false r).x⟩
def vget (xs:List Int):VR:=vread 10 true xs
theorem vread_n:∀ (f:Nat) (first:Bool) (xs:List Int),(vread f first xs).n≤xs.length
 | 0,_,_=>by simp [vread]
 | _+1,_,[]=>by simp [vread]
 | f+1,first,b :: r=>by
  have:=vread_n f false r
  unfold vread
  split
  ·simp
  ·split
   ·simp
   ·split
    ·simp
    ·simp;omega
theorem vread_vnum:∀ (f:Nat) (first:Bool) (x:Nat) (r:List Int),x<2 ^ (7*f+1)→(first=false→x ≠ 0)→vread (f+1) first (vnum x ++ r)=⟨0,(vnum x).length,x⟩:=by
 intro f
 induction f with
 | zero =>
  intro first x r h h0
  have h:x<2:=h
  have hx:x<128:=by omega
  rw [vnum_small hx,List.singleton_append,vread]
  rw [if_neg (by omega),if_neg (by intro hh;exact h0 hh.1 (by omega)),if_pos (by omega)]
  rfl
 | succ f ih =>
  intro first x r h h0
  by_cases hx:x<128
  ·rw [vnum_small hx,List.singleton_append,vread]
   rw [if_neg (by omega),if_neg (by intro hh;exact h0 hh.1 (by omega)),if_pos (by omega)]
   rfl
  ·rw [vnum_big hx]
   have h1:x / 128<2 ^ (7*f+1):=by
    rw [show 7*(f+1)+1=7*f+1+7 by omega,Nat.pow_add] at h
    exact (Nat.div_lt_iff_lt_mul (by omega)).2 h
   have:=ih false (x / 128) r h1 (fun _=>by omega)
   rw [List.cons_append,vread,if_neg (by omega),if_neg (by intro hh;omega),if_neg (by omega),this]
   simp only [List.length_cons,VR.mk.injEq,true_and]
   omega
theorem vget_vnum (x:Nat) (r:List Int) (h:x<18446744073709551616):vget (vnum x ++ r)=⟨0,(vnum x).length,x⟩ :=
 vread_vnum 9 true x r (Nat.lt_of_lt_of_le h (by decide)) (fun h=>by simp at h)
theorem vread_bound:∀ (f:Nat) (first:Bool) (xs:List Int),Octets xs→(vread (f+1) first xs).e=0→0≤(vread (f+1) first xs).x∧(vread (f+1) first xs).x<2 ^ (7*f+1):=by
 intro f
 induction f with
 | zero =>
  intro first xs ho h
  match xs,ho,h with
  | [],_,h=>simp [vread] at h
  | b :: r,ho,h =>
   have hb:=ho b List.mem_cons_self
   unfold vread at h ⊢
   by_cases c1:(0=0∧1<b)
   ·rw [if_pos c1] at h;simp at h
   ·rw [if_neg c1] at h ⊢
    by_cases c2:(first=false∧b=0)
    ·rw [if_pos c2] at h;simp at h
    ·rw [if_neg c2] at h ⊢
     rw [if_pos (by omega)]
     simp;omega
 | succ f ih =>
  intro first xs ho h
  match xs,ho,h with
  | [],_,h=>simp [vread] at h
  | b :: r,ho,h =>
   have hb:=ho b List.mem_cons_self
   have hp:(0:Int)<2 ^ (7*f+1):=by have:=Nat.two_pow_pos (7*f+1);exact_mod_cast this
   have hq:(2:Int) ^ (7*(f+1)+1)=128*2 ^ (7*f+1):=by
    rw [show 7*(f+1)+1=7+(7*f+1) by omega,Int.pow_add];rfl
   rw [vread] at h ⊢
   rw [if_neg (by omega)] at h ⊢
   by_cases c2:(first=false∧b=0)
   ·rw [if_pos c2] at h;simp at h
   ·rw [if_neg c2] at h ⊢
    by_cases c3:b<128
    ·rw [if_pos c3]
     rw [hq]
     simp only
     omega
    ·rw [if_neg c3] at h ⊢
     have:=ih false r (fun x hx=>ho x (List.mem_cons_of_mem _ hx)) h
     rw [hq]
     simp only
     omega
theorem vread_only:∀ (f:Nat) (first:Bool) (xs:List Int),Octets xs→(vread (f+1) first xs).e=0→xs.take (vread (f+1) first xs).n=vnum (vread (f+1) first xs).x.toNat∧(first=false→(vread (f+1) first xs).x ≠ 0):=by
 intro f
 induction f with
 | zero =>
  intro first xs ho h
  match xs,ho,h with
  | [],_,h=>simp [vread] at h
  | b :: r,ho,h =>
   have hb:=ho b List.mem_cons_self
   unfold vread at h ⊢
   by_cases c1:(0=0∧1<b)
   ·rw [if_pos c1] at h;simp at h
   ·rw [if_neg c1] at h ⊢
    by_cases c2:(first=false∧b=0)
    ·rw [if_pos c2] at h;simp at h
    ·rw [if_neg c2] at h ⊢
     rw [if_pos (by omega)]
     simp only [List.take_succ_cons,List.take_zero]
     rw [vnum_small (by omega)]
     exact ⟨by congr 1;omega,fun hf hz=>c2 ⟨hf,hz⟩⟩
 | succ f ih =>
  intro first xs ho h
  match xs,ho,h with
  | [],_,h=>simp [vread] at h
  | b :: r,ho,h =>
   have hb:=ho b List.mem_cons_self
   rw [vread] at h ⊢
   rw [if_neg (by omega)] at h ⊢
   by_cases c2:(first=false∧b=0)
   ·rw [if_pos c2] at h;simp at h
   ·rw [if_neg c2] at h ⊢
    by_cases c3:b<128
    ·rw [if_pos c3]
     simp only [List.take_succ_cons,List.take_zero]
     rw [vnum_small (by omega)]
     exact ⟨by congr 1;omega,fun hf hz=>c2 ⟨hf,hz⟩⟩
    ·rw [if_neg c3] at h ⊢
     have hor:Octets r:=fun x hx=>ho x (List.mem_cons_of_mem _ hx)
     have hbd:=vread_bound f false r hor h
     obtain ⟨g1,g2⟩:=ih false r hor h
     have g2:=g2 rfl
     simp only
     have hx:¬ (b - 128+128*(vread (f+1) false r).x).toNat<128:=by omega
     rw [vnum_big hx,List.take_succ_cons,g1]
     have e1:(b - 128+128*(vread (f+1) false r).x).toNat / 128=(vread (f+1) false r).x.toNat:=by omega
     have e2:((128+(b - 128+128*(vread (f+1) false r).x).toNat % 128:Nat):Int)=b:=by omega
     rw [e1,e2]
     exact ⟨rfl,fun _=>by omega⟩
theorem or_seven (x b:Nat) (k:Nat) (hx:x<2 ^ (7*k)) (hb:2 ^ (7*k)*b<18446744073709551616) (hk:7*k<64) :
  bits BinOp.or IntKind.u64 (x:Int) (IntKind.u64.wrap ((b:Int)*2 ^ (7*k)))=((x+2 ^ (7*k)*b:Nat):Int):=by
 have hp:2 ^ (7*k)≤2 ^ 63:=Nat.pow_le_pow_right (by omega) (by omega)
 have e1:((b:Int)*2 ^ (7*k))=((2 ^ (7*k)*b:Nat):Int):=by push_cast;rw [Int.mul_comm]
 have e2:IntKind.u64.wrap ((b:Int)*2 ^ (7*k))=((2 ^ (7*k)*b:Nat):Int):=by
  rw [IntKind.wrap_u64,e1]
  omega
 rw [e2,u64_or_nat _ _ (by omega) hb,Nat.or_comm,← Nat.two_pow_add_eq_or_of_lt hx,Nat.add_comm]
theorem low_seven (b:Int) (h0:0≤b) (h1:b<256):bits BinOp.andNot IntKind.u8 b 128=b % 128:=by
 obtain ⟨n,rfl⟩:=Int.eq_ofNat_of_zero_le h0
 rw [show (128:Int)=((128:Nat):Int) from rfl,u8_andNot_nat n 128 (by omega) (by omega),show 255 - 128=127 from rfl,nat_mask7]
 omega
set_option maxRecDepth 20000 in
theorem more_seven (y:Nat):bits BinOp.or IntKind.u8 (IntKind.u8.wrap (y:Int)) 128=((128+y % 128:Nat):Int):=by
 rw [IntKind.wrap_u8',show ((y:Int) % 256)=((y % 256:Nat):Int) by omega,show (128:Int)=((128:Nat):Int) from rfl,u8_or_nat _ _ (by omega) (by omega)]
 have h:∀ n,n<256→n ||| 128=128+n % 128:=by decide
 rw [h _ (by omega)]
 omega
end
section
structure Rec where
 del:Bool
 seq:Nat
 key:List Int
 val:List Int
def Rec.none:Rec:=⟨false,0,[],[]⟩
structure Rec.Fine (r:Rec):Prop where
 seq:r.seq<18446744073709551616
 key:Octets r.key
 val:Octets r.val
def checkR (r:Rec):Int :=
 if r.key.length=0 then 4
 else if 4096<r.key.length then 3
 else if r.del=true∧0<r.val.length then 4
 else if 1048576<r.val.length then 3
 else 0
def textB (xs:List Int):List Int:=vnum xs.length ++ xs
def bodyR (r:Rec):List Int :=
 if r.del then 3 :: (vnum r.seq ++ textB r.key) else 2 :: (vnum r.seq ++ textB r.key ++ textB r.val)
structure VT where
 e:Int
 n:Nat
 t:List Int
def vtext (xs:List Int) (least most:Nat):VT :=
 if (vget xs).e ≠ 0 then ⟨(vget xs).e,(vget xs).n,[]⟩
 else if (most:Int)<(vget xs).x then ⟨3,(vget xs).n,[]⟩
 else if (vget xs).x<(least:Int) then ⟨4,(vget xs).n,[]⟩
 else if (xs.drop (vget xs).n).length<(vget xs).x.toNat then ⟨2,(vget xs).n,[]⟩
 else ⟨0,(vget xs).n+(vget xs).x.toNat,(xs.drop (vget xs).n).take (vget xs).x.toNat⟩
def readEnd (del:Bool) (seq:Nat) (key val rest:List Int):Int × Rec :=
 if rest=[] then (0,⟨del,seq,key,val⟩) else (3,Rec.none)
def readKey (k:Int) (seq:Nat) (xs:List Int):Int × Rec :=
 if (vtext xs 1 4096).e ≠ 0 then ((vtext xs 1 4096).e,Rec.none)
 else if k=3 then readEnd true seq (vtext xs 1 4096).t [] (xs.drop (vtext xs 1 4096).n)
 else if (vtext (xs.drop (vtext xs 1 4096).n) 0 1048576).e ≠ 0 then ((vtext (xs.drop (vtext xs 1 4096).n) 0 1048576).e,Rec.none)
 else readEnd false seq (vtext xs 1 4096).t (vtext (xs.drop (vtext xs 1 4096).n) 0 1048576).t ((xs.drop (vtext xs 1 4096).n).drop (vtext (xs.drop (vtext xs 1 4096).n) 0 1048576).n)
def readKind (k:Int) (xs:List Int):Int × Rec :=
 if k ≠ 2∧k ≠ 3 then (4,Rec.none)
 else if (vget xs).e ≠ 0 then ((vget xs).e,Rec.none)
 else readKey k (vget xs).x.toNat (xs.drop (vget xs).n)
def readR:List Int→Int × Rec
 | []=>(2,Rec.none)
 | k :: xs=>readKind k xs
theorem vtext_of {t:List Int} (r:List Int) (least most:Nat) (hl:least≤t.length) (hm:t.length≤most) (h64:t.length<18446744073709551616):vtext (textB t ++ r) least most=⟨0,(textB t).length,t⟩:=by
 have hg:vget (textB t ++ r)=⟨0,(vnum t.length).length,(t.length:Int)⟩:=by
  unfold textB
  rw [List.append_assoc]
  exact vget_vnum t.length _ h64
 unfold vtext
 rw [hg]
 have hd:(textB t ++ r).drop (vnum t.length).length=t ++ r:=by
  unfold textB
  rw [List.append_assoc,List.drop_left]
 have h1:¬ (most:Int)<(t.length:Int):=by omega
 have h2:¬ (t.length:Int)<(least:Int):=by omega
 simp only [ne_eq,not_true_eq_false,if_false]
 rw [if_neg h1,if_neg h2,hd,Int.toNat_natCast,if_neg (by rw [List.length_append];omega),List.take_left]
 congr 1
 unfold textB
 rw [List.length_append]
theorem readR_body {r:Rec} (hf:r.Fine) (h:checkR r=0):readR (bodyR r)=(0,r):=by
 obtain ⟨del,seq,key,val⟩:=r
 obtain ⟨h64,hk,hv⟩:=hf
 simp only at h64 hk hv
 unfold checkR at h
 simp only at h
 have h1:¬ key.length=0:=fun e=>by rw [if_pos e] at h;omega
 rw [if_neg h1] at h
 have h2:¬ 4096<key.length:=fun e=>by rw [if_pos e] at h;omega
 rw [if_neg h2] at h
 have h3:¬ (del=true∧0<val.length):=fun e=>by rw [if_pos e] at h;omega
 rw [if_neg h3] at h
 have h4:¬ 1048576<val.length:=fun e=>by rw [if_pos e] at h;omega
 cases del with
 | true =>
  have hv0:val=[]:=List.length_eq_zero_iff.1 (Nat.eq_zero_of_not_pos (fun e=>h3 ⟨rfl,e⟩))
  subst hv0
  have hg:vget (vnum seq ++ textB key)=⟨0,(vnum seq).length,(seq:Int)⟩:=vget_vnum seq _ h64
  have ht:=vtext_of (t:=key) [] 1 4096 (by omega) (by omega) (by omega)
  rw [List.append_nil] at ht
  show readKind 3 (vnum seq ++ textB key)=_
  unfold readKind
  rw [if_neg (by decide),hg]
  simp only [ne_eq,not_true_eq_false,if_false,Int.toNat_natCast]
  rw [List.drop_left]
  unfold readKey
  rw [ht]
  simp only [ne_eq,not_true_eq_false,if_false,if_true]
  unfold readEnd
  rw [List.drop_length,if_pos rfl]
 | false =>
  have hg:vget (vnum seq ++ (textB key ++ textB val))=⟨0,(vnum seq).length,(seq:Int)⟩:=vget_vnum seq _ h64
  have ht:=vtext_of (t:=key) (textB val) 1 4096 (by omega) (by omega) (by omega)
  have ht2:=vtext_of (t:=val) [] 0 1048576 (by omega) (by omega) (by omega)
  rw [List.append_nil] at ht2
  show readKind 2 (vnum seq ++ textB key ++ textB val)=_
  unfold readKind
  rw [if_neg (by decide),List.append_assoc,hg]
  simp only [ne_eq,not_true_eq_false,if_false,Int.toNat_natCast]
  rw [List.drop_left]
  unfold readKey
  rw [ht]
  simp only [ne_eq,not_true_eq_false,if_false]
  rw [if_neg (by decide),List.drop_left,ht2]
  simp only [not_true_eq_false,if_false]
  unfold readEnd
  rw [List.drop_length,if_pos rfl]
theorem vtext_only {xs:List Int} (ho:Octets xs) {least most:Nat} (h:(vtext xs least most).e=0):xs=textB (vtext xs least most).t ++ xs.drop (vtext xs least most).n∧least≤(vtext xs least most).t.length∧(vtext xs least most).t.length≤most∧(vtext xs least most).n≤xs.length:=by
 have key:=h
 unfold vtext at key
 by_cases h1:(vget xs).e ≠ 0
 ·rw [if_pos h1] at key;exact absurd key h1
 ·have h1':(vget xs).e=0:=by simpa using h1
  have hb:=vread_bound 9 true xs ho h1'
  have ho2:=(vread_only 9 true xs ho h1').1
  rw [show vread (9+1) true xs=vget xs from rfl] at hb ho2
  rw [if_neg h1] at key
  by_cases h2:(most:Int)<(vget xs).x
  ·rw [if_pos h2] at key;exact absurd key (by simp)
  ·rw [if_neg h2] at key
   by_cases h3:(vget xs).x<(least:Int)
   ·rw [if_pos h3] at key;exact absurd key (by simp)
   ·rw [if_neg h3] at key
    by_cases h4:(xs.drop (vget xs).n).length<(vget xs).x.toNat
    ·rw [if_pos h4] at key;exact absurd key (by simp)
    ·have e:vtext xs least most=⟨0,(vget xs).n+(vget xs).x.toNat,(xs.drop (vget xs).n).take (vget xs).x.toNat⟩:=by
      unfold vtext
      rw [if_neg h1,if_neg h2,if_neg h3,if_neg h4]
     rw [e]
     simp only
     have hl:((xs.drop (vget xs).n).take (vget xs).x.toNat).length=(vget xs).x.toNat:=by rw [List.length_take];omega
     have hnx:(vget xs).n≤xs.length:=by
      have:=vread_n 10 true xs
      exact this
     refine ⟨?_,by omega,by omega,by rw [List.length_drop] at h4;omega⟩
     unfold textB
     rw [hl,← ho2,← List.drop_drop,List.append_assoc,List.take_append_drop,List.take_append_drop]
theorem readR_only {xs:List Int} (ho:Octets xs) {r:Rec} (h:readR xs=(0,r)):r.Fine∧checkR r=0∧bodyR r=xs:=by
 cases xs with
 | nil=>simp [readR] at h
 | cons k xs =>
  have hor:Octets xs:=fun b hb=>ho b (List.mem_cons_of_mem _ hb)
  rw [show readR (k :: xs)=readKind k xs from rfl] at h
  unfold readKind at h
  by_cases h1:k ≠ 2∧k ≠ 3
  ·rw [if_pos h1] at h;simp at h
  ·rw [if_neg h1] at h
   by_cases h2:(vget xs).e ≠ 0
   ·rw [if_pos h2] at h
    exact absurd (congrArg Prod.fst h) h2
   ·rw [if_neg h2] at h
    have h2':(vget xs).e=0:=by simpa using h2
    have hb:=vread_bound 9 true xs hor h2'
    have ho2:=(vread_only 9 true xs hor h2').1
    rw [show vread (9+1) true xs=vget xs from rfl] at hb ho2
    have hs64:(vget xs).x.toNat<18446744073709551616:=by
     have:=Int.lt_of_lt_of_le hb.2 (show (2:Int) ^ 64≤18446744073709551616 by decide)
     omega
    obtain ⟨s,hs⟩:∃ s,s=(vget xs).x.toNat:=⟨_,rfl⟩
    obtain ⟨ys,hys⟩:∃ ys,ys=xs.drop (vget xs).n:=⟨_,rfl⟩
    have hxs:xs=vnum s ++ ys:=by
     rw [hs,hys,← ho2,List.take_append_drop]
    rw [← hs] at h hs64
    rw [← hys] at h
    have hoy:Octets ys:=by rw [hys];exact hor.drop _
    clear ho2 hb
    unfold readKey at h
    by_cases h3:(vtext ys 1 4096).e ≠ 0
    ·rw [if_pos h3] at h
     exact absurd (congrArg Prod.fst h) h3
    ·have h3':(vtext ys 1 4096).e=0:=by simpa using h3
     obtain ⟨e1,l1,m1,n1⟩:=vtext_only hoy h3'
     rw [if_neg h3] at h
     obtain ⟨t,ht⟩:∃ t,t=(vtext ys 1 4096).t:=⟨_,rfl⟩
     obtain ⟨zs,hzs⟩:∃ zs,zs=ys.drop (vtext ys 1 4096).n:=⟨_,rfl⟩
     rw [← ht] at h e1 l1 m1
     rw [← hzs] at h e1
     have hoz:Octets zs:=by rw [hzs];exact hoy.drop _
     have hot:Octets t:=fun b hb=>hoy b (by rw [e1];unfold textB;simp [hb])
     by_cases h4:k=3
     ·rw [if_pos h4] at h
      unfold readEnd at h
      by_cases h5:zs=[]
      ·rw [if_pos h5] at h
       obtain rfl:(⟨true,s,t,[]⟩:Rec)=r:=congrArg Prod.snd h
       refine ⟨⟨hs64,hot,fun b hb=>by simp at hb⟩,?_,?_⟩
       ·unfold checkR
        simp only [List.length_nil]
        rw [if_neg (by omega),if_neg (by omega),if_neg (by simp),if_neg (by decide)]
       ·show 3 :: (vnum s ++ textB t)=_
        rw [h4,hxs,e1,h5,List.append_nil]
      ·rw [if_neg h5] at h
       exact absurd (congrArg Prod.fst h) (by simp)
     ·rw [if_neg h4] at h
      by_cases h6:(vtext zs 0 1048576).e ≠ 0
      ·rw [if_pos h6] at h
       exact absurd (congrArg Prod.fst h) h6
      ·have h6':(vtext zs 0 1048576).e=0:=by simpa using h6
       obtain ⟨e2,l2,m2,n2⟩:=vtext_only hoz h6'
       rw [if_neg h6] at h
       unfold readEnd at h
       by_cases h5:zs.drop (vtext zs 0 1048576).n=[]
       ·rw [if_pos h5] at h
        rw [h5,List.append_nil] at e2
        obtain ⟨u,hu⟩:∃ u,u=(vtext zs 0 1048576).t:=⟨_,rfl⟩
        rw [← hu] at h e2 m2
        have hou:Octets u:=fun b hb=>hoz b (by rw [e2];unfold textB;simp [hb])
        obtain rfl:(⟨false,s,t,u⟩:Rec)=r:=congrArg Prod.snd h
        refine ⟨⟨hs64,hot,hou⟩,?_,?_⟩
        ·unfold checkR
         simp only
         rw [if_neg (by omega),if_neg (by omega),if_neg (by simp),if_neg (by omega)]
        ·show 2 :: (vnum s ++ textB t ++ textB u)=_
         rw [show k=2 by omega,hxs,e1,e2,List.append_assoc]
       ·rw [if_neg h5] at h
        exact absurd (congrArg Prod.fst h) (by simp)
def risesR:List Rec→Bool
 | []=>true
 | [_]=>true
 | a :: b :: l=>decide (a.seq<b.seq) && risesR (b :: l)
def firstBad:List Rec→Int
 | []=>0
 | r :: l=>if checkR r=0 then firstBad l else checkR r
def risingR (l:List Rec):Int:=if firstBad l ≠ 0 then firstBad l else if risesR l then 0 else 8
theorem firstBad_zero:∀ {l:List Rec},firstBad l=0 ↔ ∀ r ∈ l,checkR r=0
 | []=>by simp [firstBad]
 | a :: l=>by
  unfold firstBad
  by_cases h:checkR a=0
  ·rw [if_pos h,firstBad_zero]
   simp [h]
  ·rw [if_neg h]
   simp [h]
theorem risingR_zero {l:List Rec}:risingR l=0 ↔ firstBad l=0∧risesR l=true:=by
 unfold risingR
 by_cases h:firstBad l=0
 ·rw [if_neg (by simpa using h)]
  by_cases h2:risesR l=true
  ·rw [if_pos h2]
   simp [h,h2]
  ·rw [if_neg h2]
   simp [h2]
 ·rw [if_pos h]
  simp [h]
theorem textB_octets {t:List Int} (h:Octets t):Octets (textB t):=fun b hb=>by
 unfold textB at hb
 rcases List.mem_append.1 hb with h1|h1
 ·exact vnum_octets _ b h1
 ·exact h b h1
theorem bodyR_octets {r:Rec} (h:r.Fine):Octets (bodyR r):=fun b hb=>by
 unfold bodyR at hb
 cases hd:r.del with
 | true =>
  rw [hd,if_pos rfl,List.mem_cons,List.mem_append] at hb
  rcases hb with rfl|h1|h1
  ·exact ⟨by decide,by decide⟩
  ·exact vnum_octets _ b h1
  ·exact textB_octets h.key b h1
 | false =>
  rw [hd,if_neg (by simp),List.mem_cons,List.mem_append,List.mem_append] at hb
  rcases hb with rfl|(h1|h1)|h1
  ·exact ⟨by decide,by decide⟩
  ·exact vnum_octets _ b h1
  ·exact textB_octets h.key b h1
  ·exact textB_octets h.val b h1
end
end Go.Proofs.YtehkjkcnigknkaaGreat

/-
  FoLastN; FoAtWalk; KeepB; FoBackN; FoBack; FoLast.
-/
import Derived.RangeFuncBox
import Derived.RangeFuncNested
import Derived.RangeFuncBound
import Derived.RangeFuncCalls
import Derived.RangeFuncLeaves
import Derived.Shelf.Abstract
import Derived.Shelf.RegionOpen
import Derived.OwnWalkIn
import Derived.TacticsInMore
import Derived.LoopNIn
import Derived.LoopIn
import Derived.Maps.AppendAt
import Derived.Lib.Hide
import Derived.Test.YtbmhdfjaakkoaaaM01
import Derived.Test.YtbmhdfjaakkoaaaM04
import Derived.Test.YtbmhdfjaakkoaaaM07
namespace Go.Proofs.Ytbmhdfjaakkoaaa
open Lib (hid)
section
theorem last_go (k:List Int):∀ (l:List Rec) (o:Option Rec) (s:Int × List Int),(match o with|none=>s=(0,[])|some r=>r.key=k∧s=sayR r) →
  match l.foldl (fun st r=>if r.key=k then some r else st) o with
  | none=>l.foldl (atStep k) s=(0,[])
  | some r=>(r.key=k∧l.foldl (atStep k) s=sayR r):=by
 intro l
 induction l with
 | nil=>intro o s h;exact h
 | cons x l ih =>
  intro o s h
  rw [List.foldl_cons,List.foldl_cons]
  refine ih _ _ ?_
  by_cases hx:x.key=k
  ·rw [if_pos hx]
   refine ⟨hx,?_⟩
   unfold atStep
   rw [if_pos hx]
   rfl
  ·rw [if_neg hx,show atStep k s x=s from if_neg hx]
   exact h
theorem lastF_none {l:List Rec} {k:List Int} (h:lastF l k=none):atF l k=(0,[]):=by
 have:=last_go k l none (0,[]) rfl
 unfold lastF at h
 rw [h] at this
 exact this
theorem lastF_some {l:List Rec} {k:List Int} {r:Rec} (h:lastF l k=some r):r.key=k∧atF l k=sayR r:=by
 have:=last_go k l none (0,[]) rfl
 unfold lastF at h
 rw [h] at this
 exact this
theorem lastF_mem {k:List Int}:∀ (l:List Rec) (o:Option Rec) {r:Rec},l.foldl (fun st r=>if r.key=k then some r else st) o=some r→r ∈ l ∨ o=some r
 | [],o,r,h=>.inr h
 | x :: l,o,r,h=>by
  rw [List.foldl_cons] at h
  rcases lastF_mem l _ h with h|h
  ·exact .inl (by simp [h])
  ·by_cases hx:x.key=k
   ·rw [if_pos hx] at h
    exact .inl (by simp [Option.some.inj h])
   ·rw [if_neg hx] at h
    exact .inr h
theorem lastF_in {l:List Rec} {k:List Int} {r:Rec} (h:lastF l k=some r):r ∈ l:=by
 rcases lastF_mem l none h with h|h
 ·exact h
 ·cases h
end
section
open Go.RowKit
theorem few_rows18 {l:List Rec} {a b:Nat} (h:fewR l a b=true):l.length≤a∧∀ r ∈ l,r.key.length≤b∧r.val.length≤b:=by
 unfold fewR at h
 rw [Bool.and_eq_true,decide_eq_true_eq] at h
 refine ⟨h.2,fun r hr=>?_⟩
 have:=List.all_eq_true.1 h.1 r hr
 unfold littleR at this
 rw [Bool.and_eq_true,decide_eq_true_eq,decide_eq_true_eq] at this
 exact this
theorem key_mem {l:List Rec} {k:List Int} (h:k ∈ (byKeyF l).map Rec.key):∃ r ∈ l,r.key=k:=by
 obtain ⟨r,hr,rfl⟩:=List.mem_map.1 h
 exact ⟨r,compactF_mem (byKeyF_mem.1 hr),rfl⟩
set_option maxHeartbeats 16000000 in
set_option maxRecDepth 10000 in
theorem foldat_walk (HA:FoAtOk) (HT:FoLastOk) (HY:FoKeysOk) (p:Option Addr) (n c:Nat) (l:List Rec) (k:List Int) (w:World) (hn:n=l.length) (hc:n≤c) (hc':c≤9223372036854775807) (hf:∀ r ∈ l,r.Fine) (hb:∀ r ∈ l,r.key.length≤9223372036854775807∧r.val.length≤9223372036854775807) (hk:Octets k) (hl:RecsAt w p l) :
  Calls Try.prog 3 #[.slice p n c,.string (strOfNums k)] w fun e w'=>e=.returned (.bool true)∧Keeps NoBlock w w':=by
 have HLv:=hid (fun w=>lives18_true HA w)
 have HFw:=hid (fun (w:World) hl=>few_any p n c l 60 300 60 300 rfl rfl hn (by omega) hb w hl)
 have HL:=hid hl
 have hsz:=str_size k
 by_cases hfe:fewR l 60 300=true
 rotate_left
 ·rw [Bool.not_eq_true] at hfe
  rw [hfe] at HFw
  clear hfe hn hf hb hk hl HA HT HY
  go_enter Try.func3,Try.ntmps3
  go_wp2_with fail
  refine (HLv.out _).mono ?_
  rintro e w1 ⟨rfl,hk⟩
  have HK:=hid hk
  have HL:=hid (HL.out.keep hk (fun _ _ h=>h))
  clear hk
  go_wp2_with fail
  refine (HFw.out _ HL.out).mono ?_
  rintro e w2 ⟨rfl,hk⟩
  have HK:=hid (HK.out.trans hk)
  clear hk
  go_wp2_with fail
  refine (HLv.out _).mono ?_
  rintro e w3 ⟨rfl,hk⟩
  have HK:=hid (HK.out.trans hk)
  clear hk
  go_wp2_with fail
  go_ret
  exact ⟨rfl,HK.out⟩
 obtain ⟨hlen,hlit⟩:=few_rows18 hfe
 rw [hfe] at HFw
 have HI:=hid (show InR w p n c l from ⟨hn,hc,hc',hf,fun r hr=>by have:=(hlit r hr).1;omega,fun r hr=>by have:=(hlit r hr).2;omega,hl⟩)
 have hn60:n≤60:=by omega
 obtain ⟨N,hN⟩:∃ N,N=k.length:=⟨_,rfl⟩
 rw [← hN] at hsz
 by_cases hk3:300<N
 ·have d1:decide (300<N)=true:=decide_eq_true hk3
  have d2:decide ((300:Int)<(N:Int))=true:=decide_eq_true (by omega)
  clear hfe hn hf hb hk hl HA HT HY hlit HI hN hk3
  go_enter Try.func3,Try.ntmps3
  go_wp2_with fail
  refine (HLv.out _).mono ?_
  rintro e w1 ⟨rfl,hk⟩
  have HK:=hid hk
  have HL:=hid (HL.out.keep hk (fun _ _ h=>h))
  clear hk
  go_wp2_with fail
  refine (HFw.out _ HL.out).mono ?_
  rintro e w2 ⟨rfl,hk⟩
  have HK:=hid (HK.out.trans hk)
  clear hk
  go_wp2_with fail
  refine (HLv.out _).mono ?_
  rintro e w3 ⟨rfl,hk⟩
  have HK:=hid (HK.out.trans hk)
  clear hk
  go_wp2_with fail
  go_ret
  exact ⟨rfl,HK.out⟩
 have d1:decide (300<N)=false:=decide_eq_false hk3
 have d2:decide ((300:Int)<(N:Int))=false:=decide_eq_false (by omega)
 have HBy:=hid (fun W (h:InR W p n c l)=>byKey18_ref p n c l (by omega) W h)
 have HKe:=hid (fun W (h:InR W p n c l)=>HY.keys p n c l W h (by omega))
 have HAt:=hid (fun k W (h:InR W p n c l) hk hl=>HA.at_ p n c l k W h (by omega) hk hl)
 have HRf:=hid (fun k W (h:InR W p n c l) hk=>at18_ref p n c l k hk W h)
 have HLt:=hid (fun k W (h:InR W p n c l) hk hl=>HT.last p n c l k W h (by omega) hk hl)
 have HMem:=hid (fun x (h:x ∈ (byKeyF l).map Rec.key)=>(show Octets x∧x.length≤300 from by
  obtain ⟨r,hr,rfl⟩:=key_mem h
  exact ⟨(hf r hr).key,(hlit r hr).1⟩))
 have HSub:=hid (fun (r:Rec) (h:r ∈ byKeyF l)=>(compactF_mem (byKeyF_mem.1 h):r ∈ l))
 have HKo:=hid (And.intro hk (show k.length≤300 by omega))
 have hbl:(byKeyF l).length≤60:=by have:=byKeyF_length l;omega
 obtain ⟨B,hB⟩:∃ B,B=byKeyF l:=⟨_,rfl⟩
 rw [← hB] at HBy HKe HMem HSub hbl
 clear hfe hn hf hb hk hl HA HT HY hlit hN hk3 hB HL
 go_enter Try.func3,Try.ntmps3
 go_wp2_with fail
 refine (HLv.out _).mono ?_
 rintro e w1 ⟨rfl,hk⟩
 have HK:=hid hk
 have HI:=hid (HI.out.keep hk)
 clear hk
 go_wp2_with fail
 refine (HFw.out _ HI.out.at_).mono ?_
 rintro e w2 ⟨rfl,hk⟩
 have HK:=hid (HK.out.trans hk)
 have HI:=hid (HI.out.keep hk)
 clear hk HFw HLv
 go_wp2_with fail
 refine (HBy.out _ HI.out).mono ?_
 rintro e w3 ⟨v,rfl,hnew⟩
 obtain ⟨qB,mB,dB,rfl,hIB,hk⟩:=hnew.inR HI.out HSub.out
 have HK:=hid (HK.out.trans hk)
 have HI:=hid (HI.out.keep hk)
 have HIB:=hid hIB
 clear hk hnew hIB
 go_wp2_with fail
 refine (HKe.out _ HI.out).mono ?_
 rintro e w4 ⟨v,rfl,qK,mK,dK,rfl,hmK,hmdK,hdK,hqK,hatK,hk⟩
 have HK:=hid (HK.out.trans hk)
 have HI:=hid (HI.out.keep hk)
 have HIB:=hid (HIB.out.keep hk)
 have HAtK:=hid hatK
 obtain rfl:mK=mB:=by rw [hmK,List.length_map,HIB.out.len]
 have HQK:=hid (And.intro hqK (And.intro hmdK hdK))
 clear hk hatK hqK hmK hmdK hdK HBy HKe
 have hm60:mK≤60:=by rw [HIB.out.len];exact hbl
 go_wp2_with fail
 go_loopw [41] (fun x wr=>∃ j:Nat,j≤mK∧x=.int .i64 (j:Int)∧Hid (Keeps NoBlock w4 wr)) (fun x _=>mK - (intOf x).toNat)
 case atStart=>exact ⟨0,Nat.zero_le _,rfl,hid (Keeps.refl _ _)⟩
 case round =>
  obtain ⟨j,hj,rfl,HKr⟩:=hrel
  by_cases hlt:j<mK
  ·have hdj:decide ((j:Int)<(mK:Int))=true:=decide_eq_true (by omega)
   have hdj2:decide (j<mK)=true:=decide_eq_true hlt
   have hjI:(j:Int)<(mK:Int):=by omega
   have hjl:j<B.length:=by rw [← HIB.out.len];exact hlt
   obtain ⟨a,hqa,x0,x1,x2,x3⟩:=(HIB.out.at_.keep HKr.out (fun _ _ h=>h)) j hjl
   obtain rfl:=hqa
   have hjk:j<(B.map Rec.key).length:=by rw [List.length_map];exact hjl
   have HOn:=hid (fun W (h:Keeps NoBlock wr W)=>(HAtK.out.keep (HKr.out.trans h) (fun _ _ h=>h)) j hjk)
   have hkk:(B.map Rec.key).getD j []=(B.getD j Rec.none).key:=by simp [hjl]
   rw [hkk] at HOn
   obtain ⟨r,hr⟩:∃ r,r=B.getD j Rec.none:=⟨_,rfl⟩
   rw [← hr] at x0 x1 x2 x3 HOn
   obtain ⟨a2,hqa2,z0⟩:=HOn.out _ ((Keeps.refl NoBlock wr).alloc (.cells (recCells r) 30))
   obtain rfl:=hqa2
   unfold strV at z0
   unfold recCells at z0
   have HKa:=hid (HKr.out.alloc (.cells (recCells r) 30))
   unfold recCells at HKa
   clear hr hjl hjk hkk HOn
   go_wp2_with fail
   go_quiet (fail)
   go_wp2_with fail
   go_roundw
   case rel=>exact ⟨j+1,by omega,by go_num,hid (by first|exact HKa.out.drewN _|exact HKa.out)⟩
   case measure=>simp [intOf];omega
  have hdj:decide ((j:Int)<(mK:Int))=false:=decide_eq_false (by omega)
  have hdj2:decide (j<mK)=false:=decide_eq_false hlt
  have HW2:Hid (OnesSoFar strV 9 wr [k,[]] (.slice (some ⟨wr.heap.size,0,none⟩) 2 2) (wr.alloc (.cells #[.string (strOfNums k),.string ⟨#[]⟩] 9))):=hid (OnesSoFar.made wr [k,[]] #[.string (strOfNums k),.string ⟨#[]⟩] rfl (by show 2≤1000000000;omega))
  have HAtK2:=hid (HAtK.out.keep (HKr.out.alloc (.cells #[.string (strOfNums k),.string ⟨#[]⟩] 9)) (fun _ _ h=>h))
  have HBl:=hid (show mK=(B.map Rec.key).length by rw [List.length_map,HIB.out.len])
  have HIr:=hid (HI.out.keep HKr.out)
  have HKw:=hid (HK.out.trans HKr.out)
  have HKs:=hid (show ∀ x ∈ [k,[]] ++ B.map Rec.key,Octets x∧x.length≤300 from fun x hx=>by
   simp only [List.cons_append,List.nil_append,List.mem_cons] at hx
   rcases hx with rfl|rfl|hx
   ·exact HKo.out
   ·exact ⟨fun b hb=>by simp at hb,by decide⟩
   ·exact HMem.out x hx)
  obtain ⟨KS,hKS⟩:∃ KS,KS=[k,[]] ++ B.map Rec.key:=⟨_,rfl⟩
  have hKl:KS.length=2+mK:=by rw [hKS,List.length_append,← HBl.out];rfl
  rw [← hKS] at HKs
  have HKS:=hid hKS
  clear hKS HIB HSub HMem HI HK HKr hbl HAtK
  go_upto_region 13 with (fail)
  go_wp2_with (at_builtin;refine wpList_append_strs rfl _ _ rfl _ [k,[]] rfl HW2.out _ mK dK (B.map Rec.key) rfl (fun h=>by have:=HQK.out.1 h;omega) HBl.out HAtK2.out (by simp;omega) ?_)
  intro v5 w5 h5 _
  rw [show k :: [] :: B.map Rec.key=KS from HKS.out.symm] at h5
  obtain ⟨qS,mS,dS,rfl,hmS,hmdS,hdS,hqS,hatS,hk⟩:=h5.new (dd:=[])
  have HI:=hid (HIr.out.keep hk)
  have HK:=hid (HKw.out.trans hk)
  have HAtS:=hid hatS
  have HmS:=hid hmS
  have hmS9:mS≤62:=by omega
  clear hk hatS hqS hmS hmdS hdS h5 HIr HKw HW2 HAtK2 hKl hlt hj hdj hdj2
  go_wp2_with fail
  go_loopw [59] (fun x wq=>∃ i:Nat,i≤mS∧x=.int .i64 (i:Int)∧Hid (Keeps NoBlock w5 wq)) (fun x _=>mS - (intOf x).toNat)
  case atStart=>exact ⟨0,Nat.zero_le _,rfl,hid (Keeps.refl _ _)⟩
  case round =>
   obtain ⟨i,hi,rfl,HKq⟩:=hrel
   by_cases hli:i<mS
   rotate_left
   ·have hdi:decide ((i:Int)<(mS:Int))=false:=decide_eq_false (by omega)
    have hdi2:decide (i<mS)=false:=decide_eq_false hli
    go_wp2_with fail
    go_ret
    exact ⟨rfl,HK.out.trans HKq.out⟩
   have hdi:decide ((i:Int)<(mS:Int))=true:=decide_eq_true (by omega)
   have hdi2:decide (i<mS)=true:=decide_eq_true hli
   have hil:i<KS.length:=by rw [← HmS.out];exact hli
   obtain ⟨a,hqa,z0⟩:=(HAtS.out.keep HKq.out (fun _ _ h=>h)) i hil
   obtain rfl:=hqa
   obtain ⟨ho,h3⟩:=HKs.out (KS.getD i []) (by simp [hil])
   obtain ⟨x,hx⟩:∃ x,x=KS.getD i []:=⟨_,rfl⟩
   rw [← hx] at z0 ho h3
   unfold strV at z0
   have HIq:=hid (HI.out.keep HKq.out)
   have HAx:=hid (fun W h=>HAt.out x W h ho (by omega))
   have HRx:=hid (fun W h=>HRf.out x W h ho)
   have HLx:=hid (fun W h=>HLt.out x W h ho (by omega))
   have HIl:=hid (And.intro hi hli)
   clear hx hil ho h3
   cases hlast:lastF l x with
   | none =>
    rw [lastF_none hlast] at HAx HRx
    unfold lastV at HLx
    rw [hlast] at HLx
    simp only [Option.getD_none,Option.isSome_none] at HLx
    unfold recV Rec.none at HLx
    simp only [show strOfNums []=⟨#[]⟩ from rfl] at HAx HRx HLx
    clear hlast
    go_wp2_with fail
    refine (HAx.out _ HIq.out).mono ?_
    rintro e w6 ⟨rfl,hk⟩
    have HKq:=hid (HKq.out.trans hk)
    have HIq:=hid (HIq.out.keep hk)
    clear hk
    go_wp2_with fail
    refine (HRx.out _ HIq.out).mono ?_
    rintro e w7 ⟨rfl,hk⟩
    have HKq:=hid (HKq.out.trans hk)
    have HIq:=hid (HIq.out.keep hk)
    clear hk
    go_wp2_with fail
    refine (HLx.out _ HIq.out).mono ?_
    rintro e w8 ⟨rfl,hk⟩
    have HKq:=hid (HKq.out.trans hk)
    clear hk HIq
    have HKa:=hid (HKq.out.alloc (.cells #[.bool false,.int .u64 ((0:Nat):Int),.string ⟨#[]⟩,.string ⟨#[]⟩] 30))
    go_wp2_with fail
    go_roundw
    case rel=>exact ⟨i+1,by have:=HIl.out;omega,by go_num,HKa⟩
    case measure=>have:=HIl.out;simp [intOf];omega
   | some r =>
    obtain ⟨hrk,hsay⟩:=lastF_some hlast
    rw [hsay] at HAx HRx
    unfold lastV at HLx
    rw [hlast] at HLx
    simp only [Option.getD_some,Option.isSome_some] at HLx
    unfold recV at HLx
    rw [hrk] at HLx
    have HKb:=hid (fun (W:World) (h:Keeps NoBlock w5 W)=>h.alloc (.cells #[.bool r.del,.int .u64 (r.seq:Int),.string (strOfNums x),.string (strOfNums r.val)] 30))
    cases hd:r.del with
    | true =>
     rw [show sayR r=(1,[]) from by unfold sayR;rw [if_pos hd]] at HAx HRx
     rw [hd] at HLx HKb
     clear hlast hrk hsay hd
     go_wp2_with fail
     refine (HAx.out _ HIq.out).mono ?_
     rintro e w6 ⟨rfl,hk⟩
     have HKq:=hid (HKq.out.trans hk)
     have HIq:=hid (HIq.out.keep hk)
     clear hk
     go_wp2_with fail
     refine (HRx.out _ HIq.out).mono ?_
     rintro e w7 ⟨rfl,hk⟩
     have HKq:=hid (HKq.out.trans hk)
     have HIq:=hid (HIq.out.keep hk)
     clear hk
     go_wp2_with fail
     refine (HLx.out _ HIq.out).mono ?_
     rintro e w8 ⟨rfl,hk⟩
     have HKq:=hid (HKq.out.trans hk)
     clear hk HIq
     have HKa:=hid (HKb.out _ HKq.out)
     go_wp2_with fail
     go_roundw
     case rel=>exact ⟨i+1,by have:=HIl.out;omega,by go_num,HKa⟩
     case measure=>have:=HIl.out;simp [intOf];omega
    | false =>
     rw [show sayR r=(2,r.val) from by unfold sayR;rw [if_neg (by rw [hd];simp)]] at HAx HRx
     rw [hd] at HLx HKb
     clear hlast hrk hsay hd
     go_wp2_with fail
     refine (HAx.out _ HIq.out).mono ?_
     rintro e w6 ⟨rfl,hk⟩
     have HKq:=hid (HKq.out.trans hk)
     have HIq:=hid (HIq.out.keep hk)
     clear hk
     go_wp2_with fail
     refine (HRx.out _ HIq.out).mono ?_
     rintro e w7 ⟨rfl,hk⟩
     have HKq:=hid (HKq.out.trans hk)
     have HIq:=hid (HIq.out.keep hk)
     clear hk
     go_wp2_with fail
     refine (HLx.out _ HIq.out).mono ?_
     rintro e w8 ⟨rfl,hk⟩
     have HKq:=hid (HKq.out.trans hk)
     clear hk HIq
     have HKa:=hid (HKb.out _ HKq.out)
     go_wp2_with fail
     go_roundw
     case rel=>exact ⟨i+1,by have:=HIl.out;omega,by go_num,HKa⟩
     case measure=>have:=HIl.out;simp [intOf];omega
end
section
open Go.RowKit Go.Shelf
def KeepB (n₀ B:Nat) (W W':World):Prop:=Below n₀ W W'∧W'.heap[B]?=W.heap[B]?
theorem KeepB.refl (n₀ B:Nat) (W:World):KeepB n₀ B W W:=⟨Below.refl _ _,rfl⟩
theorem keepB_t {n₀ B:Nat} {A C D:World} (h:KeepB n₀ B A C) (k:KeepB n₀ B C D):KeepB n₀ B A D:=⟨h.1.trans k.1,k.2.trans h.2⟩
theorem keepB_b {n₀ B:Nat} {w:World} (hn:n₀≤w.heap.size) (hB:B<w.heap.size) (W:World) (l:Nat) (o o':Obj) (hl:w.heap.size≤l) (h:W.heap[l]?=some o) (h1:o.isCells=false) (h2:o.isWalk=false):KeepB n₀ B W (W.putObj l o') :=
 ⟨belowK_b hn W l o o' hl h h1 h2,World.putObj_heap_other (by omega)⟩
end
section
structure BkR (l:List Rec) where
 i:Nat
 hi:i<l.length
def BkR.r {l:List Rec} (x:BkR l):Rec:=l.getD x.i Rec.none
theorem BkR.mem {l:List Rec} (x:BkR l):x.r ∈ l:=by
 have:=x.hi
 unfold BkR.r
 simp [this]
def downTo (N k:Nat):List Nat:=(List.range k).map fun j=>N - 1 - j
theorem downTo_snoc (N k:Nat):downTo N (k+1)=downTo N k ++ [N - 1 - k]:=by
 unfold downTo
 rw [List.range_succ,List.map_append,List.map_singleton]
theorem downTo_all {l:List Rec} {pre:List (BkR l)} {N:Nat} (h:pre.map BkR.i=downTo N N) (j:Nat) (hj:j<N):∃ y ∈ pre,y.i=j:=by
 have hm:j ∈ pre.map BkR.i:=by
  rw [h]
  exact List.mem_map.2 ⟨N - 1 - j,List.mem_range.2 (by omega),by omega⟩
 obtain ⟨y,hy,e⟩:=List.mem_map.1 hm
 exact ⟨y,hy,e⟩
theorem downTo_last {l:List Rec} {pre:List (BkR l)} {x:BkR l} {N k:Nat} (h:(pre ++ [x]).map BkR.i=downTo N k) (hk:k≤N) (j:Nat) (hj:x.i<j) (hjN:j<N):∃ y ∈ pre,y.i=j:=by
 cases k with
 | zero=>rw [List.map_append] at h;simp [downTo] at h
 | succ k =>
  rw [downTo_snoc,List.map_append,List.map_singleton] at h
  obtain ⟨h1,h2⟩:=List.append_inj' h rfl
  simp only [List.cons.injEq,and_true] at h2
  have hm:j ∈ pre.map BkR.i:=by
   rw [h1]
   exact List.mem_map.2 ⟨N - 1 - j,List.mem_range.2 (by omega),by omega⟩
  obtain ⟨y,hy,e⟩:=List.mem_map.1 hm
  exact ⟨y,hy,e⟩
theorem foldLast_other {k:List Int}:∀ (l:List Rec),(∀ x ∈ l,x.key ≠ k)→∀ st:Option Rec,l.foldl (fun st r=>if r.key=k then some r else st) st=st
 | [],_,_=>rfl
 | r :: l,h,st=>by
  rw [List.foldl_cons,if_neg (h r (by simp)),foldLast_other l (fun x hx=>h x (by simp [hx]))]
theorem lastF_at {l:List Rec} {k:List Int} (i:Nat) (hi:i<l.length) (hk:(l.getD i Rec.none).key=k) (hB:∀ j,i<j→j<l.length→(l.getD j Rec.none).key ≠ k):lastF l k=some (l.getD i Rec.none):=by
 have e:l=l.take i ++ l.getD i Rec.none :: l.drop (i+1):=by rw [← drop_at hi,List.take_append_drop]
 unfold lastF
 rw [e,List.foldl_append,List.foldl_cons,← e,if_pos hk]
 refine foldLast_other _ (fun x hx=>?_) _
 obtain ⟨j,hj,rfl⟩:=List.mem_iff_getElem.1 hx
 have:=List.length_drop (i:=i+1) (l:=l)
 have:=hB (i+1+j) (by omega) (by omega)
 rw [List.getElem_drop]
 rwa [List.getD_eq_getElem?_getD,List.getElem?_eq_getElem (by omega)] at this
theorem lastF_absent {l:List Rec} {k:List Int} (hB:∀ j,j<l.length→(l.getD j Rec.none).key ≠ k):lastF l k=none:=by
 unfold lastF
 refine foldLast_other _ (fun x hx=>?_) _
 obtain ⟨j,hj,rfl⟩:=List.mem_iff_getElem.1 hx
 have:=hB j hj
 rwa [List.getD_eq_getElem?_getD,List.getElem?_eq_getElem hj] at this
end
section
open Go.RowKit Go.Shelf
attribute [local go_sem] Oper.semAt_some
def bkV {l:List Rec} (x:BkR l):Array Value:=#[.int .i64 (x.i:Int),recV x.r]
set_option maxRecDepth 100000 in
set_option maxHeartbeats 2000000 in
theorem iter_back (n:Nat) (hn:1≤n) (y B:Nat) (w0:World) (p:Option Addr) (N c:Nat) (l:List Rec) (hR:InR w0 p N c l) (hN9:N≤1000000)
  (J Jx:List (BkR l)→World→Prop)
  (hY:∀ pre x W,J pre W→pre.length<N+1→YieldAt Fence.wide (n - 1) Try.prog y (bkV x) W fun e W' =>
   (e=.returned (.bool true)∧J (pre ++ [x]) W'∧KeepB w0.heap.size B W W') ∨ (e=.returned (.bool false)∧Jx (pre ++ [x]) W'))
  (W:World) (hB:W.cell? ⟨B,0,none⟩=some (.slice p N c)) (hW:Below w0.heap.size w0 W) (h0:J [] W) :
  CallsIn Fence.wide n Try.prog 37 #[.func (.yield y) #[] #[],.pointer (some ⟨B,0,none⟩)] W fun e W'=>(∃ v,e=.returned v) ∧
   ((∃ ys,ys.map BkR.i=downTo N N∧J ys W') ∨ (∃ pre,(∃ k,k≤N∧pre.map BkR.i=downTo N k)∧Jx pre W')):=by
 have HR:=hid hR
 have HWB:=hid hW
 have hw1:IntKind.i64.wrap ((N:Int) - 1)=(N:Int) - 1:=by rw [IntKind.wrap_i64];omega
 clear hR hW
 refine callsIn_of_wp Try.func37 rfl trivial ?_ rfl
 simp only [Try.ntmps37,List.size_toArray,List.length_cons,List.length_nil,Nat.reduceAdd,Nat.reduceSub,Array.replicate_succ,Array.replicate_zero,List.push_toArray,List.append_toArray,List.nil_append,List.cons_append]
 gi_wp2
 gi_loopw [3] (fun v wr=>∃ (pre:List (BkR l)) (k:Nat),v=.int .i64 ((N:Int) - 1 - (k:Int))∧k≤N∧pre.length=k∧pre.map BkR.i=downTo N k∧J pre wr∧KeepB w0.heap.size B W wr)
  (fun v _=>(intOf v+1).toNat)
 case atStart =>
  exact ⟨[],0,by simp,Nat.zero_le _,rfl,rfl,h0,KeepB.refl _ _ _⟩
 case round =>
  obtain ⟨pre,k,rfl,hk,hlen,hg,hJ,hBel⟩:=hrel
  have cB:wr.cell? ⟨B,0,none⟩=some (.slice p N c):=(cellOfBlock (a:=⟨B,0,none⟩) hBel.2).trans hB
  by_cases hlt:k<N
  ·obtain ⟨j,hj⟩:∃ j,N=k+1+j:=⟨N - 1 - k,by omega⟩
   have hjN:j<N:=by omega
   have hjl:j<l.length:=by rw [← HR.out.len];exact hjN
   have hjk:N - 1 - k=j:=by omega
   rw [show (N:Int) - 1 - (k:Int)=(j:Int) by omega]
   have hd0:decide ((j:Int) ≥ 0)=true:=decide_eq_true (by omega)
   have hd1:decide ((0:Int)≤(j:Int))=true:=decide_eq_true (by omega)
   obtain ⟨a,rfl,c0,c1,c2,c3⟩:=(HR.out.keep (Keeps.ofBelow (HWB.out.trans hBel.1))).at_ j hjl
   obtain ⟨x,hx,hxi⟩:∃ x:BkR l,bkV x=#[.int .i64 (j:Int),.agg #[.bool (l.getD j Rec.none).del,.int .u64 ((l.getD j Rec.none).seq:Int),.string (strOfNums (l.getD j Rec.none).key),.string (strOfNums (l.getD j Rec.none).val)]]∧x.i=j:=⟨⟨j,hjl⟩,rfl,rfl⟩
   obtain ⟨r,hr⟩:∃ r,r=l.getD j Rec.none:=⟨_,rfl⟩
   rw [← hr] at c0 c1 c2 c3 hx
   obtain ⟨fn,tmps,assign,body,hy,hRR⟩:=hY pre x wr hJ (by omega)
   rw [hx] at hy
   have HRR:=hid hRR
   have HG:=hid (show (pre ++ [x]).map BkR.i=downTo N (k+1) by rw [List.map_append,List.map_singleton,hg,hxi,downTo_snoc,hjk])
   have HL:=hid (show (pre ++ [x]).length=k+1 by rw [List.length_append,List.length_singleton,hlen])
   have HJN:=hid (show (j:Int) - 1=(N:Int) - 1 - ((k+1:Nat):Int) by omega)
   have HK1:=hid (show k+1≤N by omega)
   have hjn:(j:Int)<(N:Int):=by omega
   have hw2:IntKind.i64.wrap ((j:Int) - 1)=(j:Int) - 1:=by rw [IntKind.wrap_i64];omega
   clear hRR hY hJ hg hlen hr hx hxi hjk hj hk hlt
   gi_wp2
   refine HRR.out.mono ?_
   rintro e W3 (⟨rfl,hJ3,hk3⟩|⟨rfl,hJx3⟩)
   ·have HJ3:=hid hJ3
    have HB3:=hid (keepB_t hBel hk3)
    clear hJ3 hk3 hBel
    gi_wp2
    exact ⟨⟨pre ++ [x],k+1,by rw [HJN.out],HK1.out,HL.out,HG.out,HJ3.out,HB3.out⟩,by simp [intOf]⟩
   ·gi_wp2
    go_returns
    exact ⟨⟨_,rfl⟩,.inr ⟨pre ++ [x],⟨k+1,HK1.out,HG.out⟩,hJx3⟩⟩
  ·obtain rfl:k=N:=by omega
   rw [show (k:Int) - 1 - (k:Int)=-1 by omega]
   have HG:=hid hg
   have HJ:=hid hJ
   clear hY hg hJ
   gi_wp2
   go_returns
   exact ⟨⟨_,rfl⟩,.inl ⟨pre,HG.out,HJ.out⟩⟩
set_option maxHeartbeats 1000000 in
set_option maxRecDepth 10000 in
theorem back_own (n:Nat) (p:Option Addr) (N c:Nat) (w:World) :
  CallsIn Fence.wide n Try.prog 25 #[.slice p N c] w fun e w'=>e=.returned (.func (.func 37) #[] #[.pointer (some ⟨w.heap.size,0,none⟩)])∧w'=w.alloc (.cells #[.slice p N c] 22):=by
 refine callsIn_of_wp Try.func25 rfl trivial ?_ rfl
 simp only [Try.ntmps25,List.size_toArray,List.length_cons,List.length_nil,Nat.reduceAdd,Nat.reduceSub,Array.replicate_succ,Array.replicate_zero,List.push_toArray,List.append_toArray,List.nil_append,List.cons_append]
 gi_wp2
 go_ret
 exact ⟨rfl,rfl⟩
theorem back_stops (n:Nat) (hn:1≤n) (B:Nat) (w0 w:World) (p:Option Addr) (N c:Nat) (l:List Rec) (hR:InR w0 p N c l) (hN9:N≤1000000)
  (hB:w.cell? ⟨B,0,none⟩=some (.slice p N c)) (hBw:B<w.heap.size) (hw0:w0.heap.size≤w.heap.size) (hW:Below w0.heap.size w0 w) :
  SeqStopsK Fence.wide n Try.prog 37 #[.pointer (some ⟨B,0,none⟩)] (fun x:BkR l=>bkV x) (KeepB w0.heap.size B) (fun ys=>ys.map BkR.i=downTo N N) (fun pre=>∃ k,k≤N∧pre.map BkR.i=downTo N k) (N+1) w :=
 fun y J Jx W hWB _ _ hY h0=>by
  have hB':=(hWB.cell (p:=⟨B,0,none⟩) hBw).trans hB
  refine (iter_back n hn y B w0 p N c l hR hN9 J Jx hY W hB' (hW.trans (hWB.mono hw0)) h0).mono ?_
  rintro e W' ⟨he,⟨ys,h1,h2⟩|⟨pre,h1,h⟩⟩
  ·exact ⟨he,.inl ⟨ys,h1,h2⟩⟩
  ·exact ⟨he,.inr ⟨pre,h1,h⟩⟩
end
section
open Go.RowKit Go.Shelf
attribute [local go_sem] Oper.semAt_some
theorem whole_own {β:Type} (B:Nat) (t:TypeId) (f:β→Array Value):Own (fun s W=>Whole W B t (f s)):=fun _ _ _ _ hs hg hrow =>
 (grownBy_keeps_cells hg hrow hs rfl).trans hs
theorem own_of {β:Type} (p:β→Prop):Own (fun s (_:World)=>p s):=fun _ _ _ _ hs _ _=>hs
theorem Whole.put {W:World} {B:Nat} {t:TypeId} {cs:Array Value} (h:Whole W B t cs) {D:Nat} {o:Obj} (o':Obj) (hD:W.heap[D]?=some o) (ho:o.isCells=false):Whole (W.putObj D o') B t cs :=
 (whole_own (β:=Unit) B t (fun _=>cs)) () W _ (some D) h (grownBy_putObj' W D o') (fun r e=>by cases e;exact ⟨o,hD,ho⟩)
theorem Whole.other4 {w:World} {g h:Nat} {t:TypeId} {cs:Array Value} (hw:Whole w g t cs) (hn:g ≠ h) (x y z u:Value):Whole ((((w.setCell ⟨h,0,none⟩ x).setCell ⟨h,1,none⟩ y).setCell ⟨h,2,none⟩ z).setCell ⟨h,3,none⟩ u) g t cs :=
 (((hw.setOther (p:=⟨h,0,none⟩) hn x).setOther (p:=⟨h,1,none⟩) hn y).setOther (p:=⟨h,2,none⟩) hn z).setOther (p:=⟨h,3,none⟩) hn u
theorem Whole.set4 {w:World} {g:Nat} {t:TypeId} {a b c d:Value} (hw:Whole w g t #[a,b,c,d]) (x y z u:Value):Whole ((((w.setCell ⟨g,0,none⟩ x).setCell ⟨g,1,none⟩ y).setCell ⟨g,2,none⟩ z).setCell ⟨g,3,none⟩ u) g t #[x,y,z,u]:=by
 have:=(((hw.set 0 x).set 1 y).set 2 z).set 3 u
 simpa using this
theorem kf_set {B:Nat} {W W':World} (h:KeepsFrom B W W') (p:Addr) (v:Value):KeepsFrom B W (W'.setCell p v):=h.trans ((KeepsOthers.setCell _ _ _).from B)
theorem KeepB.alloc {n₀ B:Nat} {W:World} (hn:n₀≤W.heap.size) (hB:B<W.heap.size) (o:Obj):KeepB n₀ B W (W.alloc o):=⟨(Below.refl _ _).alloc hn o,Below.heap_alloc _ _ _ hB⟩
def LastI (l:List Rec) (k:List Int) (p:Option Addr) (N c:Nat) (w:World) (pre:List (BkR l)) (W:World):Prop :=
 (∀ y ∈ pre,y.r.key ≠ k)∧Whole W w.heap.size 9 #[.string (strOfNums k)]∧Whole W (w.heap.size+1) 30 #[.bool false,.int .u64 0,.string ⟨#[]⟩,.string ⟨#[]⟩]∧Whole W (w.heap.size+1+1) 4 #[.bool false] ∧
  Whole W (w.heap.size+1+1+1) 22 #[.slice p N c]∧Below w.heap.size w W
def LastX (l:List Rec) (k:List Int) (w:World) (cd:Code) (pre:List (BkR l)) (W:World):Prop :=
 (cd=.ret∧∃ pre0 x,pre=pre0 ++ [x]∧(∀ y ∈ pre0,y.r.key ≠ k)∧x.r.key=k∧Whole W (w.heap.size+1) 30 (recCells x.r)∧Whole W (w.heap.size+1+1) 4 #[.bool true])∧Below w.heap.size w W
theorem lastI_own (l:List Rec) (k:List Int) (p:Option Addr) (N c:Nat) (w:World) (B:Nat) (hB:w.heap.size≤B):OwnFrom B (LastI l k p N c w) :=
 ((own_of _).from _).and (((whole_own _ _ _).from _).and (((whole_own _ _ _).from _).and (((whole_own _ _ _).from _).and (((whole_own _ _ _).from _).and (ownFrom_below (Nat.le_refl _) hB)))))
theorem lastX_own (l:List Rec) (k:List Int) (w:World) (cd:Code) (B:Nat) (hB:w.heap.size≤B):OwnFrom B (LastX l k w cd):=by
 rintro s X Y row ⟨⟨hc,pre0,x,h1,h2,h3,h4,h5⟩,hb⟩ hg hr
 refine ⟨⟨hc,pre0,x,h1,h2,h3,?_,?_⟩,ownFrom_below (Nat.le_refl _) hB () X Y row hb hg hr⟩
 ·exact ((whole_own (β:=Unit) _ _ (fun _=>recCells x.r)).from B) () X Y row h4 hg hr
 ·exact ((whole_own (β:=Unit) _ _ (fun _=>#[.bool true])).from B) () X Y row h5 hg hr
set_option maxRecDepth 100000 in
set_option maxHeartbeats 4000000 in
theorem last_in (n:Nat) (hn:3≤n) (p:Option Addr) (N c:Nat) (l:List Rec) (k:List Int) (w:World) (hR:InR w p N c l) (hN9:N≤1000000) (ho:Octets k) :
  CallsIn Fence.wide n Try.prog 13 #[.slice p N c,.string (strOfNums k)] w fun e W'=>e=.returned (lastV l k)∧Below w.heap.size w W':=by
 have h1:1≤n:=by omega
 have HR:=hid hR
 have HO:=hid ho
 clear hR ho
 refine callsIn_of_wp_marks Try.func13 rfl trivial ?_ rfl
 simp only [Try.ntmps13,List.size_toArray,List.length_cons,List.length_nil,Nat.reduceAdd,Nat.reduceSub,Array.replicate_succ,Array.replicate_zero,List.push_toArray,List.append_toArray,List.nil_append,List.cons_append]
 gi_wp2
 refine ⟨trivial,?_⟩
 refine (back_own _ _ _ _ _).mono ?_
 rintro e w' ⟨rfl,rfl⟩
 gi_wp2
 have b0:=Whole.new w 9 #[.string (strOfNums k)]
 have b1:=Whole.newAt (w.alloc (.cells #[.string (strOfNums k)] 9)) 30 #[.bool false,.int .u64 0,.string ⟨#[]⟩,.string ⟨#[]⟩] (w.heap.size+1) (by simp)
 have b2:=Whole.newAt ((w.alloc (.cells #[.string (strOfNums k)] 9)).alloc (.cells #[.bool false,.int .u64 0,.string ⟨#[]⟩,.string ⟨#[]⟩] 30)) 4 #[.bool false] (w.heap.size+1+1) (by simp)
 have b3:=Whole.newAt (((w.alloc (.cells #[.string (strOfNums k)] 9)).alloc (.cells #[.bool false,.int .u64 0,.string ⟨#[]⟩,.string ⟨#[]⟩] 30)).alloc (.cells #[.bool false] 4)) 22 #[.slice p N c] (w.heap.size+1+1+1) (by simp)
 have hB0:Below w.heap.size w ((((w.alloc (.cells #[.string (strOfNums k)] 9)).alloc (.cells #[.bool false,.int .u64 0,.string ⟨#[]⟩,.string ⟨#[]⟩] 30)).alloc (.cells #[.bool false] 4)).alloc (.cells #[.slice p N c] 22)) :=
  ((((Below.refl _ w).alloc (Nat.le_refl _) _).alloc (by simp) _).alloc (by simp;omega) _).alloc (by simp;omega) _
 have hI0:LastI l k p N c w [] ((((w.alloc (.cells #[.string (strOfNums k)] 9)).alloc (.cells #[.bool false,.int .u64 0,.string ⟨#[]⟩,.string ⟨#[]⟩] 30)).alloc (.cells #[.bool false] 4)).alloc (.cells #[.slice p N c] 22)) :=
  ⟨by simp,((b0.alloc _).alloc _).alloc _,(b1.alloc _).alloc _,b2.alloc _,b3,hB0⟩
 refine wpIn_rangeFunc_ownH rfl h1 (gf:=37) (lb:=#[.pointer (some ⟨w.heap.size+1+1+1,0,none⟩)]) rfl trivial (enters_of Try.func37 (by kernel_rfl) rfl)
  (back_stops (n - 1) (by omega) (w.heap.size+1+1+1) w _ p N c l HR.out hN9 (b3.cell 0 rfl) (by simp) (by simp;omega) hB0) keepB_t (keepB_b (by simp;omega) (by simp)) (Below.refl _ _) (fun _=>rfl)
  (LastI l k p N c w) (LastX l k w) (lastI_own l k p N c w _ (by simp;omega)) (fun cd=>lastX_own l k w cd _ (by simp;omega)) hI0
  (fun x a' W=>∃ b,w.heap.size+1+1+1+1≤b∧a'={ tmps:=#[.slice p N c,.string (strOfNums k),undef,.pointer (some ⟨w.heap.size,0,none⟩),.pointer (some ⟨w.heap.size+1,0,none⟩),.pointer (some ⟨w.heap.size+1+1,0,none⟩),undef,.pointer (some ⟨b,0,none⟩),.slice p N c,.func (.func 37) #[] #[.pointer (some ⟨w.heap.size+1+1+1,0,none⟩)],.int .i64 (x.i:Int),recV x.r,undef,undef,undef,undef,undef,undef],defers:=[] }∧Whole W b 30 (recCells x.r))
  (fun x a'=>by
   rintro s X Y row ⟨b,h1,h2,h3⟩ hg hr
   exact ⟨b,h1,h2,((whole_own (β:=Unit) b 30 (fun _=>recCells x.r)).from _) () X Y row h3 hg hr⟩) ?assign ?body ?done ?stop
 case assign =>
  rintro y pre x W K hI hK
  simp only [bkV,recV]
  have hI':=hid hI
  have HK:=hid hK
  clear hI hK
  have hz:=Whole.new W 30 #[.bool false,.int .u64 0,.string ⟨#[]⟩,.string ⟨#[]⟩]
  have z0:=hz.cell 0 rfl
  have z1:=hz.cell 1 rfl
  have z2:=hz.cell 2 rfl
  have z3:=hz.cell 3 rfl
  gi_wp2
  have hl:=hI'.out.2.2.2.2.1.lt
  refine HK.out _ _ (KeepsFrom.of_grownBy (World.grownBy_alloc W _ none) (fun j e=>by cases e)) (KeepB.alloc (by omega) hl _) ((lastI_own l k p N c w w.heap.size (Nat.le_refl _)).alloc _ hI'.out) ⟨W.heap.size,by omega,rfl,Whole.new W _ _⟩
 case body =>
  rintro y pre x a' W hy hloop hI ⟨b,hb,rfl,hx⟩ hlen
  simp only [recV]
  have hro:Octets x.r.key:=(HR.out.fine _ x.mem).key
  obtain ⟨r,hr⟩:∃ r,r=x.r:=⟨_,rfl⟩
  rw [← hr] at hx hro ⊢
  have c0:W.cell? ⟨b,0,none⟩=some (.bool r.del):=hx.cell 0 rfl
  have c1:W.cell? ⟨b,1,none⟩=some (.int .u64 (r.seq:Int)):=hx.cell 1 rfl
  have c2:W.cell? ⟨b,2,none⟩=some (.string (strOfNums r.key)):=hx.cell 2 rfl
  have c3:W.cell? ⟨b,3,none⟩=some (.string (strOfNums r.val)):=hx.cell 3 rfl
  have HX:=hid hr
  have HI:=hid hI
  obtain ⟨hI1,hI2,hI3,hI4,hI5,hI6⟩:=hI
  have k0:W.cell? ⟨w.heap.size,0,none⟩=some (.string (strOfNums k)):=hI2.cell 0 rfl
  have r0:=hI3.cell 0 rfl
  have r1:=hI3.cell 1 rfl
  have r2:=hI3.cell 2 rfl
  have r3:=hI3.cell 3 rfl
  have f0:=hI3.free 0
  have f1:=hI3.free 1
  have f2:=hI3.free 2
  have f3:=hI3.free 3
  have g0:=hI4.cell 0 rfl
  have g1:=hI4.free 0
  clear hr hI1 hI2 hI3 hI4 hI5 hI6 hx hloop
  by_cases hkk:r.key=k
  ·have hbq:((strOfNums r.key).toList == (strOfNums k).toList)=true:=by rw [hkk];simp
   have HKK:=hid hkk
   clear hkk hro
   gi_wp2
   have hS3:=(HI.out.2.2.1.set4 (.bool r.del) (.int .u64 (r.seq:Int)) (.string (strOfNums r.key)) (.string (strOfNums r.val))).setOther (p:=⟨w.heap.size+1+1,0,none⟩) (by simp) (.bool true)
   have hS4:=(HI.out.2.2.2.1.other4 (h:=w.heap.size+1) (by omega) (.bool r.del) (.int .u64 (r.seq:Int)) (.string (strOfNums r.key)) (.string (strOfNums r.val))).set 0 (.bool true)
   have hBel:=(((((HI.out.2.2.2.2.2.setCell (p:=⟨w.heap.size+1,0,none⟩) (by simp) (.bool r.del)).setCell (p:=⟨w.heap.size+1,1,none⟩) (by simp) (.int .u64 (r.seq:Int))).setCell (p:=⟨w.heap.size+1,2,none⟩) (by simp) (.string (strOfNums r.key))).setCell (p:=⟨w.heap.size+1,3,none⟩) (by simp) (.string (strOfNums r.val))).setCell (p:=⟨w.heap.size+1+1,0,none⟩) (by simp;omega) (.bool true))
   exact ⟨kf_set (kf_set (kf_set (kf_set (kf_set (KeepsFrom.refl _ W) _ _) _ _) _ _) _ _) _ _,⟨rfl,pre,x,rfl,HI.out.1,by rw [← HX.out];exact HKK.out,by rw [← HX.out];exact hS3,hS4⟩,hBel⟩
  ·have hbq:((strOfNums r.key).toList == (strOfNums k).toList)=false:=by rw [same_str hro HO.out];exact decide_eq_false hkk
   have HKK:=hid hkk
   clear hkk hro
   gi_wp2
   exact ⟨KeepsFrom.refl _ _,KeepB.refl _ _ _,fun y hy=>(List.mem_append.1 hy).elim (HI.out.1 y) (fun e=>by
    rw [List.mem_singleton] at e
    subst e
    rw [← HX.out]
    exact HKK.out),HI.out.2⟩
 case done =>
  rintro D xs W hD hS hI hK
  have HI:=hid hI
  obtain ⟨hI1,hI2,hI3,hI4,hI5,hI6⟩:=hI
  have r0:=hI3.cell 0 rfl
  have r1:=hI3.cell 1 rfl
  have r2:=hI3.cell 2 rfl
  have r3:=hI3.cell 3 rfl
  have f0:=hI3.free 0
  have f1:=hI3.free 1
  have f2:=hI3.free 2
  have f3:=hI3.free 3
  have g0:=hI4.cell 0 rfl
  have g1:=hI4.free 0
  clear hI1 hI2 hI3 hI4 hI5 hI6
  gi_wp2
  have hS3:=(HI.out.2.2.1.set4 (.bool false) (.int .u64 0) (.string ⟨#[]⟩) (.string ⟨#[]⟩)).setOther (p:=⟨w.heap.size+1+1,0,none⟩) (by simp) (.bool false)
  have hS4:=(HI.out.2.2.2.1.other4 (h:=w.heap.size+1) (by omega) (.bool false) (.int .u64 0) (.string ⟨#[]⟩) (.string ⟨#[]⟩)).set 0 (.bool false)
  have hKF:=kf_set (kf_set (kf_set (kf_set (kf_set (KeepsFrom.refl D W) ⟨w.heap.size+1,0,none⟩ (.bool false)) ⟨w.heap.size+1,1,none⟩ (.int .u64 0)) ⟨w.heap.size+1,2,none⟩ (.string ⟨#[]⟩)) ⟨w.heap.size+1,3,none⟩ (.string ⟨#[]⟩)) ⟨w.heap.size+1+1,0,none⟩ (.bool false)
  have hK':=hKF.same D _ (Nat.le_refl _) hK rfl
  have hBel:=(((((HI.out.2.2.2.2.2.setCell (p:=⟨w.heap.size+1,0,none⟩) (by simp) (.bool false)).setCell (p:=⟨w.heap.size+1,1,none⟩) (by simp) (.int .u64 0)).setCell (p:=⟨w.heap.size+1,2,none⟩) (by simp) (.string ⟨#[]⟩)).setCell (p:=⟨w.heap.size+1,3,none⟩) (by simp) (.string ⟨#[]⟩)).setCell (p:=⟨w.heap.size+1+1,0,none⟩) (by simp;omega) (.bool false))
  have hT3:=hS3.put (.deferred none) hK' rfl
  have hT4:=hS4.put (.deferred none) hK' rfl
  have q0:=hT3.cell 0 rfl
  have q1:=hT3.cell 1 rfl
  have q2:=hT3.cell 2 rfl
  have q3:=hT3.cell 3 rfl
  have q4:=hT4.cell 0 rfl
  refine ⟨by simp,.inl ⟨_,_,rfl,run_takeDeferred hK',?_⟩⟩
  refine ⟨lastV l k,?_,rfl,hBel.trans (belowK_b (w:=w) (Nat.le_refl _) _ D _ _ (by simp at hD;omega) hK' rfl rfl)⟩
  have hL:lastF l k=none:=lastF_absent (fun j hj=>by
   obtain ⟨y,hy,rfl⟩:=downTo_all hS j (by rw [HR.out.len];exact hj)
   exact HI.out.1 y hy)
  simp [results,Try.f13,go_sem,q0,q1,q2,q3,q4,lastV,hL,recV,Rec.none]
  rfl
 case stop =>
  rintro D cd pre W hD ⟨m,hm,hS⟩ ⟨⟨rfl,pre0,x,rfl,h2,h3,h4,h5⟩,hb⟩ hK
  gi_wp2
  have hT3:=h4.put (.deferred none) hK rfl
  have hT4:=h5.put (.deferred none) hK rfl
  have q0:=hT3.cell 0 rfl
  have q1:=hT3.cell 1 rfl
  have q2:=hT3.cell 2 rfl
  have q3:=hT3.cell 3 rfl
  have q4:=hT4.cell 0 rfl
  refine ⟨by simp,.inl ⟨_,_,rfl,run_takeDeferred hK,?_⟩⟩
  refine ⟨lastV l k,?_,rfl,hb.trans (belowK_b (w:=w) (Nat.le_refl _) _ D _ _ (by simp at hD;omega) hK rfl rfl)⟩
  have hL:lastF l k=some x.r:=lastF_at x.i x.hi h3 (fun j hj hjl=>by
   obtain ⟨y,hy,rfl⟩:=downTo_last hS hm j hj (by rw [HR.out.len];exact hjl)
   exact h2 y hy)
  simp [results,Try.f13,go_sem,q0,q1,q2,q3,q4,lastV,hL,recV,recCells]
theorem folast_ok:FoLastOk:=⟨fun p n c l k w hR hn ho _=>(callsIn_wide.1 (last_in 3 (Nat.le_refl _) p n c l k w hR (by omega) ho)).mono fun _ _ h=>⟨h.1,Keeps.ofBelow h.2⟩⟩
theorem grown_keeps {w w':World} (hg:w.grownBy w' none):Keeps NoBlock w w':=Keeps.ofBelow ((Below.refl _ w).grown hg (Nat.le_refl _) (fun j e=>by cases e))
set_option maxRecDepth 10000 in
set_option maxHeartbeats 2000000 in
theorem says_own (r:Rec) (w:World) :
  Calls Try.prog 24 #[recV r] w fun e w'=>e=.returned (.tuple #[.int .i64 (sayR r).1,.string (strOfNums (sayR r).2)])∧w.grownBy w' none:=by
 obtain ⟨del,seq,key,val⟩:=r
 unfold sayR recV
 have hg:=World.grownBy_alloc w (.cells #[.bool del,.int .u64 (seq:Int),.string (strOfNums key),.string (strOfNums val)] 30) none
 have HG:=hid hg
 clear hg
 cases del with
 | true =>
  go_enter Try.func24,Try.ntmps24
  go_wp2_with fail
  go_returns
  exact ⟨rfl,HG.out⟩
 | false =>
  have h0:(w.alloc (.cells #[.bool false,.int .u64 (seq:Int),.string (strOfNums key),.string (strOfNums val)] 30)).cell? ⟨w.heap.size,3,none⟩=some (.string (strOfNums val)):=(Whole.new w _ _).cell 3 rfl
  go_enter Try.func24,Try.ntmps24
  go_wp2_with fail
  go_region
  all_goals (go_wp2_with fail)
  go_returns
  exact ⟨rfl,⟨HG.out.os,HG.out.tape,HG.out.output,HG.out.size,HG.out.block⟩⟩
set_option maxRecDepth 10000 in
set_option maxHeartbeats 2000000 in
theorem foat_ok:FoAtOk:=⟨fun p n c l k w hR hn ho hk9=>by
 have HL:=hid (folast_ok.last p n c l k w hR hn ho hk9)
 have HA0:Hid (lastF l k=none→atF l k=(0,[])):=hid lastF_none
 have HA1:Hid (∀ r,lastF l k=some r→atF l k=sayR r):=hid (fun r h=>(lastF_some h).2)
 clear hR ho
 unfold lastV at HL
 obtain ⟨o,hof⟩:∃ o,o=lastF l k:=⟨_,rfl⟩
 rw [← hof] at HL HA0 HA1
 clear hof
 cases o with
 | none =>
  have e:=HA0.out rfl
  rw [e]
  clear HA0 HA1 e
  go_enter Try.func11,Try.ntmps11
  go_wp2_with fail
  refine HL.out.mono ?_
  rintro e w1 ⟨rfl,hk⟩
  have HK:=hid hk
  clear hk HL
  simp only [Option.getD_none,Option.isSome_none,recV,Rec.none]
  go_wp2_with fail
  go_returns
  exact ⟨rfl,HK.out.alloc _⟩
 | some r =>
  rw [HA1.out r rfl]
  have HS:=hid (fun w=>says_own r w)
  clear HA0 HA1
  simp only [Option.getD_some,Option.isSome_some,recV] at HL HS
  go_enter Try.func11,Try.ntmps11
  go_wp2_with fail
  refine HL.out.mono ?_
  rintro e w1 ⟨rfl,hk⟩
  have HK:=hid hk
  clear hk HL
  go_wp2_with fail
  refine (HS.out _).mono ?_
  rintro e w2 ⟨rfl,hg⟩
  have HG:=hid (HK.out.alloc (.cells #[.bool r.del,.int .u64 (r.seq:Int),.string (strOfNums r.key),.string (strOfNums r.val)] 30) |>.trans (grown_keeps hg))
  clear hg HS HK
  go_wp2_with fail
  go_returns
  exact ⟨rfl,HG.out⟩⟩
end
end Go.Proofs.Ytbmhdfjaakkoaaa

/-
  ThinLives; ChecksWalk; Copied; SumsWalk; RecRef3; RecRef4.
-/
import Derived.Lib.SlBytesConst
import Derived.Deep.RegionHeld3
import Derived.Deep.CutRange
import Derived.Deep.DeepCutAuto
import Derived.Lib.Hide
import Derived.Test.YtehkjkcnigknkaaGreatM02
import Derived.Test.YtehkjkcnigknkaaGreatM11
namespace Go.Proofs.YtehkjkcnigknkaaGreat
open Lib (hid)
section
open Go.RowKit
end
section
open Go.RowKit
end
section
open Go.RowKit
def Copied (w0:World) (N:Nat) (xs:List Int) (v:Value) (wx:World):Prop :=
 wx.ownsRow w0.heap.size 5 1 v N (xs.map (Value.int .u8))∧Below w0.heap.size w0 wx
theorem Copied.read {w0 wx:World} {N:Nat} {xs:List Int} {v:Value} (h:Copied w0 N xs v wx) (hn:N=xs.length):∃ q d,v=.slice q N d∧N≤d∧d≤9223372036854775807∧Bytes8 wx q xs:=by
 obtain ⟨⟨_,⟨rfl,rfl⟩|⟨g,cap,cur,rfl,hg,hh,hc1,hc2,hc3,hc4⟩⟩,_⟩:=h
 ·exact ⟨none,0,rfl,Nat.le_refl _,by omega,fun h=>by omega⟩
 ·unfold maxLen at hc2
  refine ⟨_,cap,rfl,hc1,by omega,fun hx=>⟨_,rfl,fun i hi=>?_⟩⟩
  have hw:Whole wx g 5 cur:=hh
  have hcell:cur[i]?=some (.int .u8 (xs.getD i 0)):=by
   have e:(cur.toList.take (N*1))[i]?=(xs.map (Value.int .u8))[i]?:=by rw [hc4]
   rw [List.getElem?_take,if_pos (by omega)] at e
   rw [← Array.getElem?_toList,e]
   simp [hi]
  rw [addZero]
  exact hw.cell i hcell
theorem Copied.read2 {w0 wx:World} {N:Nat} {xs:List Int} {v:Value} (h:Copied w0 N xs v wx) (hn:N=xs.length):∃ q d,v=.slice q N d∧N≤d∧d≤9223372036854775807∧Bytes8 wx q xs∧(q=none→N=0∧d=0):=by
 obtain ⟨q,d,hv,h1,h2,h3⟩:=h.read hn
 cases q with
 | some a=>exact ⟨_,d,hv,h1,h2,h3,fun h=>by simp at h⟩
 | none =>
  have hN:N=0:=by
   rcases Nat.eq_zero_or_pos N with h0|h0
   ·exact h0
   ·obtain ⟨a,ha,_⟩:=h3 (by omega)
    simp at ha
  obtain ⟨⟨_,⟨rfl,_⟩|⟨g,cap,cur,rfl,_⟩⟩,_⟩:=h
  ·exact ⟨none,0,by rw [hN],by omega,by omega,h3,fun _=>⟨hN,rfl⟩⟩
  ·simp at hv
theorem Copied.whole {w0 wx:World} {N:Nat} {xs:List Int} {v:Value} (h:Copied w0 N xs v wx) (hn:N=xs.length) (h0:0<N) :
  ∃ g d cur,v=.slice (some ⟨g,0,none⟩) N d∧N≤d∧d≤9223372036854775807∧w0.heap.size≤g∧Whole wx g 5 cur∧∀ i,i<N→cur[i]?=some (.int .u8 (xs.getD i 0)):=by
 obtain ⟨⟨_,⟨rfl,rfl⟩|⟨g,cap,cur,rfl,hg,hh,hc1,hc2,hc3,hc4⟩⟩,_⟩:=h
 ·omega
 ·unfold maxLen at hc2
  refine ⟨g,cap,cur,rfl,hc1,by omega,hg,hh,fun i hi=>?_⟩
  have e:(cur.toList.take (N*1))[i]?=(xs.map (Value.int .u8))[i]?:=by rw [hc4]
  rw [List.getElem?_take,if_pos (by omega)] at e
  rw [← Array.getElem?_toList,e]
  simp [show i<xs.length by omega]
end
section
open Go.RowKit
end
section
open Go.RowKit
def RecAt (w:World) (g:Nat) (r:Rec):Prop :=
 w.cell? ⟨g,0,none⟩=some (.bool r.del)∧w.cell? ⟨g,1,none⟩=some (.int .u64 (r.seq:Int))∧w.cell? ⟨g,2,none⟩=some (.string (strOfNums r.key))∧w.cell? ⟨g,3,none⟩=some (.string (strOfNums r.val))
theorem RecAt.ofWhole {w:World} {g:Nat} {t:TypeId} {r:Rec} (h:Whole w g t (recCells r)):RecAt w g r :=
 ⟨h.cell 0 rfl,h.cell 1 rfl,h.cell 2 rfl,h.cell 3 rfl⟩
theorem str_cons (b:Int) (xs:List Int) (c:UInt8) (h:UInt8.ofNat b.toNat=c):(⟨#[c]⟩:ByteArray) ++ strOfNums xs=strOfNums (b :: xs):=by
 have e:(⟨#[c]⟩:ByteArray)=strOfNums [b]:=by
  apply ByteArray.ext
  simp [strOfNums,h]
 rw [e,str_append]
 rfl
set_option maxHeartbeats 4000000 in
set_option maxRecDepth 10000 in
theorem body7_ref (r:Rec) (hf:r.Fine) (h1:r.key.length≤100000000) (h2:r.val.length≤100000000) (w:World) :
  Calls Tryz.prog 75 #[recV r] w fun e w'=>e=.returned (.string (strOfNums (bodyR r)))∧Keeps NoBlock w w':=by
 obtain ⟨del,seq,key,val⟩:=r
 have h64:=hf.seq
 simp only at h1 h2 h64
 have HN:=hid (fun w=>num_bytes seq (seq:Int) rfl h64 w)
 have HT:=hid (fun (xs:List Int) (w:World) (h:xs=key ∨ xs=val)=>text_ref xs (by rcases h with rfl|rfl <;> omega) w)
 have hten:=vnum_ten h64
 have htk:(textB key).length≤100000010:=by
  unfold textB
  rw [List.length_append]
  have:=vnum_ten (x:=key.length) (by omega)
  omega
 have htv:(textB val).length≤100000010:=by
  unfold textB
  rw [List.length_append]
  have:=vnum_ten (x:=val.length) (by omega)
  omega
 cases del with
 | true =>
  have hdef:bodyR ⟨true,seq,key,val⟩=3 :: (vnum seq ++ textB key):=rfl
  rw [hdef]
  have HTK:=hid (fun w=>HT.out key w (.inl rfl))
  have a1:=str_cons 3 (vnum seq) 3 rfl
  have a2:=str_append (3 :: vnum seq) (textB key)
  have z1:=str_size (vnum seq)
  have z2:(strOfNums (3 :: vnum seq)).size=(vnum seq).length+1:=str_size (3 :: vnum seq)
  have z3:=str_size (textB key)
  rw [List.cons_append] at a2
  obtain ⟨V,hV⟩:∃ V,V=vnum seq:=⟨_,rfl⟩
  obtain ⟨TK,hTK⟩:∃ TK,TK=textB key:=⟨_,rfl⟩
  rw [← hV] at HN a1 a2 z1 z2 hten ⊢
  rw [← hTK] at HTK a2 z3 htk ⊢
  have zz:(⟨#[3]⟩:ByteArray).size=1:=rfl
  have r1:¬ 9223372036854775807<1+V.length:=by omega
  have r2:¬ 9223372036854775807<V.length+1+TK.length:=by omega
  have HB:=hid (Whole.new w 48 (recCells ⟨true,seq,key,val⟩))
  clear hdef hV hTK HT hf h1 h2 htv
  unfold recV
  simp only
  go_enter Tryz.func75,Tryz.ntmps75
  go_wp2_with fail
  obtain ⟨W,hW⟩:∃ W,W=w.alloc (.cells #[.bool true,.int .u64 (seq:Int),.string (strOfNums key),.string (strOfNums val)] 48):=⟨_,rfl⟩
  have HBW:Hid (Whole W w.heap.size 48 (recCells ⟨true,seq,key,val⟩)):=by rw [hW];exact HB
  have HK0:Hid (Keeps NoBlock w W):=hid (by rw [hW];exact (Keeps.refl _ _).alloc _)
  rw [← hW]
  clear hW HB
  have s0:=RecAt.ofWhole (w:=W.drew) HBW.out
  have sN:=RecAt.ofWhole HBW.out
  unfold RecAt at s0 sN
  go_region_held3 (fun w'=>w'.cell? ⟨w.heap.size,0,none⟩=some (.bool true)∧w'.cell? ⟨w.heap.size,1,none⟩=some (.int .u64 (seq:Int))∧w'.cell? ⟨w.heap.size,2,none⟩=some (.string (strOfNums key))∧w'.cell? ⟨w.heap.size,3,none⟩=some (.string (strOfNums val)))
   (first|exact s5|exact s0|exact sN)
   (first|(go_at_call 69;refine (HN.out _).mono ?_;rintro e w5 ⟨rfl,hk⟩;have HK0:=hid (HK0.out.trans (c:=w5) (by first|exact hk|exact hk.ofDrew|exact hk.ofDrewN));have HBW:=hid (HBW.out.keep (w':=w5) (S:=NoBlock) (by first|exact hk|exact hk.ofDrew|exact hk.ofDrewN) (fun h=>h));have s5:=RecAt.ofWhole HBW.out;unfold RecAt at s5;clear hk)|(go_at_call 104;refine (HTK.out _).mono ?_;rintro e w5 ⟨rfl,hk⟩;have HK0:=hid (HK0.out.trans (c:=w5) (by first|exact hk|exact hk.ofDrew|exact hk.ofDrewN));have HBW:=hid (HBW.out.keep (w':=w5) (S:=NoBlock) (by first|exact hk|exact hk.ofDrew|exact hk.ofDrewN) (fun h=>h));have s5:=RecAt.ofWhole HBW.out;unfold RecAt at s5;clear hk))
  all_goals
   go_wp2_with fail
   go_ret
   exact ⟨rfl,HK0.out⟩
 | false =>
  have hdef:bodyR ⟨false,seq,key,val⟩=2 :: (vnum seq ++ (textB key ++ textB val)):=by rw [← List.append_assoc];rfl
  rw [hdef]
  have HTK:=hid (fun w=>HT.out key w (.inl rfl))
  have HTV:=hid (fun w=>HT.out val w (.inr rfl))
  have a1:=str_cons 2 (vnum seq) 2 rfl
  have a2:=str_append (2 :: vnum seq) (textB key)
  have z1:=str_size (vnum seq)
  have z2:(strOfNums (2 :: vnum seq)).size=(vnum seq).length+1:=str_size (2 :: vnum seq)
  have z3:=str_size (textB key)
  have a3:=str_append (2 :: (vnum seq ++ textB key)) (textB val)
  have z4:(strOfNums (2 :: (vnum seq ++ textB key))).size=(vnum seq).length+(textB key).length+1:=by rw [str_size];simp
  have z5:=str_size (textB val)
  rw [List.cons_append] at a2 a3
  obtain ⟨V,hV⟩:∃ V,V=vnum seq:=⟨_,rfl⟩
  obtain ⟨TK,hTK⟩:∃ TK,TK=textB key:=⟨_,rfl⟩
  obtain ⟨TV,hTV⟩:∃ TV,TV=textB val:=⟨_,rfl⟩
  rw [← hV] at HN a1 a2 a3 z1 z2 z4 hten ⊢
  rw [← hTK] at HTK a2 a3 z3 z4 htk ⊢
  rw [← hTV] at HTV a3 z5 htv ⊢
  have zz:(⟨#[2]⟩:ByteArray).size=1:=rfl
  have r1:¬ 9223372036854775807<1+V.length:=by omega
  have r2:¬ 9223372036854775807<V.length+1+TK.length:=by omega
  have r3:¬ 9223372036854775807<V.length+TK.length+1+TV.length:=by omega
  have HB:=hid (Whole.new w 48 (recCells ⟨false,seq,key,val⟩))
  clear hdef hV hTK hTV HT hf h1 h2
  unfold recV
  simp only
  go_enter Tryz.func75,Tryz.ntmps75
  go_wp2_with fail
  obtain ⟨W,hW⟩:∃ W,W=w.alloc (.cells #[.bool false,.int .u64 (seq:Int),.string (strOfNums key),.string (strOfNums val)] 48):=⟨_,rfl⟩
  have HBW:Hid (Whole W w.heap.size 48 (recCells ⟨false,seq,key,val⟩)):=by rw [hW];exact HB
  have HK0:Hid (Keeps NoBlock w W):=hid (by rw [hW];exact (Keeps.refl _ _).alloc _)
  rw [← hW]
  clear hW HB
  have s0:=RecAt.ofWhole (w:=W.drew) HBW.out
  have sN:=RecAt.ofWhole HBW.out
  unfold RecAt at s0 sN
  go_region_held3 (fun w'=>w'.cell? ⟨w.heap.size,0,none⟩=some (.bool false)∧w'.cell? ⟨w.heap.size,1,none⟩=some (.int .u64 (seq:Int))∧w'.cell? ⟨w.heap.size,2,none⟩=some (.string (strOfNums key))∧w'.cell? ⟨w.heap.size,3,none⟩=some (.string (strOfNums val)))
   (first|exact s5|exact s0|exact sN)
   (first|(go_at_call 69;refine (HN.out _).mono ?_;rintro e w5 ⟨rfl,hk⟩;have HK0:=hid (HK0.out.trans (c:=w5) (by first|exact hk|exact hk.ofDrew|exact hk.ofDrewN));have HBW:=hid (HBW.out.keep (w':=w5) (S:=NoBlock) (by first|exact hk|exact hk.ofDrew|exact hk.ofDrewN) (fun h=>h));have s5:=RecAt.ofWhole HBW.out;unfold RecAt at s5;clear hk)|(go_at_call 104;(first|refine (HTK.out _).mono ?_|refine (HTV.out _).mono ?_);rintro e w5 ⟨rfl,hk⟩;have HK0:=hid (HK0.out.trans (c:=w5) (by first|exact hk|exact hk.ofDrew|exact hk.ofDrewN));have HBW:=hid (HBW.out.keep (w':=w5) (S:=NoBlock) (by first|exact hk|exact hk.ofDrew|exact hk.ofDrewN) (fun h=>h));have s5:=RecAt.ofWhole HBW.out;unfold RecAt at s5;clear hk))
  all_goals
   go_wp2_with fail
   go_ret
   exact ⟨rfl,HK0.out⟩
end
section
open Go.RowKit
structure GS where
 X:List Int
 A:Int
 E:Int
 T:List Int
def gtS (X:List Int) (A E:Int) (l m:Nat):GS :=
 if E=0 then ⟨X.drop (vtext X l m).n,A+(vtext X l m).n,(vtext X l m).e,(vtext X l m).t⟩ else ⟨X,A,E,[]⟩
theorem vtext_n (X:List Int) (l m:Nat):(vtext X l m).n≤X.length:=by
 have hn:(vget X).n≤X.length:=vread_n 10 true X
 unfold vtext
 split
 ·exact hn
 ·split
  ·exact hn
  ·split
   ·exact hn
   ·split
    ·exact hn
    ·rename_i h
     rw [List.length_drop] at h
     show (vget X).n+(vget X).x.toNat≤X.length
     omega
theorem gtS_octets {X:List Int} {A E:Int} {l m:Nat} (h:Octets X):Octets (gtS X A E l m).X:=by
 unfold gtS
 split
 ·exact h.drop _
 ·exact h
theorem gtS_room {X:List Int} {A E:Int} {l m:Nat} {B:Int} (h0:0≤A) (h:A+X.length≤B):0≤(gtS X A E l m).A∧(gtS X A E l m).A+(gtS X A E l m).X.length≤B∧(gtS X A E l m).X.length≤X.length:=by
 have hn:=vtext_n X l m
 unfold gtS
 split
 ·simp only [List.length_drop]
  omega
 ·exact ⟨h0,h,Nat.le_refl _⟩
theorem gettext_all (X:List Int) (A E:Int) (l m:Nat) (zl zm:Int) (hzl:zl=(l:Int)) (hzm:zm=(m:Int)) (hl4:l≤4096) (hmp:0<m) (hm:m≤1048576) (hl:X.length≤140737488355328) (ha:0≤A∧A+X.length≤140737488355328) (ho:Octets X) (w:World) :
  Calls Tryz.prog 98 #[rdr X A E,.int .i64 zl,.int .i64 zm] w fun e w'=>e=.returned (.tuple #[rdr (gtS X A E l m).X (gtS X A E l m).A (gtS X A E l m).E,.string (strOfNums (gtS X A E l m).T)])∧Keeps NoBlock w w':=by
 unfold gtS
 by_cases hE:E=0
 ·subst hE
  rw [if_pos rfl]
  exact gettext_ref X A l m zl zm hzl hzm hl4 hmp hm hl ha ho w
 ·rw [if_neg hE]
  exact gettext_gone X A E zl zm hE w
def readOut7 (t:Int × Rec):Value:=.tuple #[recV t.2,.int .i64 t.1]
def fin7 (del:Bool) (s:Nat) (k v X:List Int) (E:Int):Int × Rec:=if endE X E=0 then (0,⟨del,s,k,v⟩) else (endE X E,Rec.none)
theorem fin7_bad {del:Bool} {s:Nat} {k v X:List Int} {E:Int} (h:E ≠ 0):fin7 del s k v X E=(E,Rec.none):=by
 have e:endE X E=E:=by unfold endE;rw [if_neg h]
 unfold fin7
 rw [e,if_neg h]
theorem fin7_end {del:Bool} {s:Nat} {k v X:List Int}:fin7 del s k v X 0=readEnd del s k v X:=by
 unfold fin7 readEnd endE
 rw [if_pos rfl]
 by_cases h:X=[]
 ·rw [if_pos h,if_pos rfl,if_pos h]
 ·rw [if_neg h,if_neg (by decide),if_neg h]
def gone7 (k:GS):GS:=⟨k.X,k.A,k.E,[]⟩
def key7 (xs:List Int):GS:=gtS (xs.drop (vget xs).n) ((vget xs).n:Int) (vget xs).e 1 4096
def val7 (del:Bool) (k:GS):GS:=if del then gone7 k else gtS k.X k.A k.E 0 1048576
def seq7 (xs:List Int):Nat:=(if (vget xs).e=0 then (vget xs).x else 0).toNat
def steps7 (del:Bool) (xs:List Int):Int × Rec :=
 fin7 del (seq7 xs) (key7 xs).T (val7 del (key7 xs)).T (val7 del (key7 xs)).X (val7 del (key7 xs)).E
theorem gtS_bad {X:List Int} {A E:Int} {l m:Nat} (h:E ≠ 0):gtS X A E l m=⟨X,A,E,[]⟩:=by unfold gtS;rw [if_neg h]
theorem gtS_good {X:List Int} {A:Int} {l m:Nat}:gtS X A 0 l m=⟨X.drop (vtext X l m).n,A+(vtext X l m).n,(vtext X l m).e,(vtext X l m).t⟩:=by unfold gtS;rw [if_pos rfl]
theorem val7_bad {del:Bool} {k:GS} (h:k.E ≠ 0):(val7 del k).E=k.E:=by
 unfold val7
 cases del with
 | true=>rfl
 | false=>rw [if_neg (by decide),gtS_bad h]
theorem steps7_read (del:Bool) (xs:List Int):steps7 del xs=readKind (if del then 3 else 2) xs:=by
 unfold steps7 readKind
 have h1:¬ ((if del=true then (3:Int) else 2) ≠ 2∧(if del=true then (3:Int) else 2) ≠ 3):=by cases del <;> simp
 rw [if_neg h1]
 by_cases he:(vget xs).e=0
 ·rw [if_neg (by simpa using he)]
  have hs:seq7 xs=(vget xs).x.toNat:=by unfold seq7;rw [if_pos he]
  have hk:key7 xs=⟨(xs.drop (vget xs).n).drop (vtext (xs.drop (vget xs).n) 1 4096).n,((vget xs).n:Int)+(vtext (xs.drop (vget xs).n) 1 4096).n,(vtext (xs.drop (vget xs).n) 1 4096).e,(vtext (xs.drop (vget xs).n) 1 4096).t⟩:=by
   unfold key7
   rw [he,gtS_good]
  rw [hs]
  unfold readKey
  by_cases hte:(vtext (xs.drop (vget xs).n) 1 4096).e=0
  ·rw [if_neg (by simpa using hte)]
   cases del with
   | true =>
    have hv:val7 true (key7 xs)=gone7 (key7 xs):=rfl
    rw [hv,hk]
    unfold gone7
    simp only [if_true]
    rw [hte,fin7_end]
   | false =>
    have hv:val7 false (key7 xs)=gtS (key7 xs).X (key7 xs).A (key7 xs).E 0 1048576:=rfl
    rw [hv,hk]
    simp only
    rw [hte,gtS_good]
    simp only
    have h32:¬ ((if false=true then (3:Int) else 2)=3):=by decide
    rw [if_neg h32]
    by_cases hue:(vtext (List.drop (vtext (xs.drop (vget xs).n) 1 4096).n (xs.drop (vget xs).n)) 0 1048576).e=0
    ·rw [if_neg (by simpa using hue),hue,fin7_end]
    ·rw [if_pos (by simpa using hue),fin7_bad hue]
  ·have hkE:(key7 xs).E ≠ 0:=by rw [hk];exact hte
   rw [if_pos (by simpa using hte),fin7_bad (by rw [val7_bad hkE];exact hkE),val7_bad hkE,hk]
 ·rw [if_pos (by simpa using he)]
  have hkE:(key7 xs).E=(vget xs).e:=by unfold key7;rw [gtS_bad he]
  have hk0:(key7 xs).E ≠ 0:=by rw [hkE];exact he
  rw [fin7_bad (by rw [val7_bad hk0];exact hk0),val7_bad hk0,hkE]
end
end Go.Proofs.YtehkjkcnigknkaaGreat

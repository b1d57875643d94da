/-
  BufO; NewBytes; TabLaws; CurD; CurE; VarGet.
-/
import Derived.RegionTactic
import Derived.BigRegion
import Derived.ChangeAlike
import Derived.LaidEqlPtr
import Derived.Lib.Builder
import Derived.Lib.Hide
import Derived.Test.YtehkjkcnigknkaaGreatV01
import Derived.Test.YtehkjkcnigknkaaGreatV02
import Derived.Test.YtehkjkcnigknkaaGreatV04
namespace Go.Proofs.YtehkjkcnigknkaaGreat
open Lib (hid)
section
open Go.RowKit
theorem bufNewB (w:World) (base:Nat):BufAt (w.alloc (.cells #[.slice none 0 0] 145)) base w.heap.size [] :=
 ⟨.slice none 0 0,Whole.new _ _ _,by simp,.inl ⟨rfl,by simp⟩⟩
theorem BufAt.keepO {w w':World} {base g:Nat} {xs:List Int} (h:BufAt w base g xs) {S:Nat→Prop} (hk:Keeps S w w') (hg:¬ S g) (ho:∀ j cs,Whole w j 5 cs→base≤j→¬ S j):BufAt w' base g xs:=by
 obtain ⟨v,hv,hown⟩:=h
 refine ⟨v,hv.keep hk hg,hown.1,?_⟩
 rcases hown.2 with h2|⟨j,cap,cur,rfl,hb,hh,r⟩
 ·exact .inl h2
 ·exact .inr ⟨j,cap,cur,rfl,hb,Whole.keep (show Whole w j 5 cur from hh) hk (ho j cur hh hb),r⟩
theorem BufAt.lower {w:World} {base base' g:Nat} {xs:List Int} (h:BufAt w base g xs) (hb:base'≤base):BufAt w base' g xs:=by
 obtain ⟨v,hv,hown⟩:=h
 refine ⟨v,hv,hown.1,?_⟩
 rcases hown.2 with h2|⟨j,cap,cur,rfl,hb2,r⟩
 ·exact .inl h2
 ·exact .inr ⟨j,cap,cur,rfl,Nat.le_trans hb hb2,r⟩
end
section
open Go.RowKit
def NewBytes (w:World) (ys:List Int) (v:Value) (w':World):Prop :=
 ∃ (q:Option Addr) (m d:Nat),v=.slice q m d∧m=ys.length∧m≤d∧d≤9223372036854775807∧(q=none→m=0∧d=0)∧Bytes8 w' q ys∧Keeps NoBlock w w'
theorem NewBytes.ofNil (w w':World) (h:Keeps NoBlock w w'):NewBytes w [] (.slice none 0 0) w' :=
 ⟨none,0,0,rfl,rfl,Nat.le_refl _,by decide,fun _=>⟨rfl,rfl⟩,Bytes8.nil _ _,h⟩
end
section
open Go.RowKit
structure InE (w:World) (p:Option Addr) (n c:Nat) (l:List En):Prop where
 len:n=l.length
 cap:n≤c
 room:c≤9223372036854775807
 bare:p=none→n=0∧c=0
 fine:∀ e ∈ l,e.Fine
 at_:EnsAt w p l
theorem EnsAt.keepFar {w w':World} {q:Option Addr} {l:List En} (h:EnsAt w q l) {S:Nat→Prop} (hk:Keeps S w w') (hs:0<l.length→∀ a,q=some a→¬ S a.block):EnsAt w' q l:=fun i hi=>by
 obtain ⟨a,rfl,c0,c1⟩:=h i hi
 exact ⟨a,rfl,hk.cell c0 (by rw [addBlock];exact hs (by omega) a rfl),hk.cell c1 (by show ¬ S (a.add (i*2)).block;rw [addBlock];exact hs (by omega) a rfl)⟩
theorem EnsAt.old {w:World} {q:Option Addr} {l:List En} (h:EnsAt w q l) (h0:0<l.length) (a:Addr) (ha:q=some a):a.block<w.heap.size:=by
 obtain ⟨a',ha',c0,_⟩:=h.at_ 0 h0
 obtain rfl:=Option.some.inj (ha.symm.trans ha')
 have:=ltOfCell c0
 rwa [addBlock] at this
end
section
open Go.RowKit
def doorTmps (V A E k:Nat) (a y:Int) (r:List Value):Array Value :=
 ⟨[.pointer (some ⟨V,0,none⟩),.pointer (some ⟨A,0,none⟩),.pointer (some ⟨E,0,none⟩),undef,undef,undef,.pointer (some ⟨k,0,none⟩),.pointer (some ⟨k,0,none⟩),.pointer (some ⟨k,1,none⟩),.int .i64 a,.pointer (some ⟨k,0,none⟩),.pointer (some ⟨k,0,none⟩),.pointer (some ⟨k,3,none⟩),.int .i64 y] ++ r⟩
def Told (V A E k:Nat) (a:Nat) (y:Int) (w w':World):Prop :=
 Whole w' V 212 #[.pointer (some ⟨k,0,none⟩)]∧Whole w' A 3 #[.int .i64 a]∧Whole w' E 30 #[.int .i64 y]∧CurB w' k none 0 0 0 false 0∧Keeps (fun i=>i=A ∨ i=E ∨ i=k) w w'
def MidPost (V A E k:Nat) (a:Nat) (y:Int) (w:World):Exit→Act→World→Prop
 | .normal,a',w'=>a'={ tmps:=doorTmps V A E k a y (List.replicate 15 undef),defers:=[] }∧∃ m,w'=(((w.setCell ⟨A,0,none⟩ (.int .i64 a)).setCell ⟨E,0,none⟩ (.int .i64 y)).drewN m)
 | _,_,_=>False
theorem MidPost.told {V A E k a:Nat} {y:Int} {w w':World} {e:Exit} {a':Act} (h:MidPost V A E k a y w e a' w') :
  e=.normal∧a'={ tmps:=doorTmps V A E k a y (List.replicate 15 undef),defers:=[] }∧∃ m,w'=(((w.setCell ⟨A,0,none⟩ (.int .i64 a)).setCell ⟨E,0,none⟩ (.int .i64 y)).drewN m):=by
 cases e with
 | normal=>exact ⟨rfl,h⟩
 | _=>exact h.elim
theorem Told.alloc {V A E k a:Nat} {y:Int} {w w':World} (h:Told V A E k a y w w') (o:Obj):Told V A E k a y w (w'.alloc o) :=
 ⟨h.1.alloc o,h.2.1.alloc o,h.2.2.1.alloc o,Whole.alloc h.2.2.2.1 o,h.2.2.2.2.alloc o⟩
theorem infoCursor:(Tryz.prog.info? 239).map (fun i=>i.size)=some 4:=by kernel_rfl
theorem neqSame (a:Addr) (w:World):(binOp .neq 212 (.pointer (some a)) (.pointer (some a))).run Tryz.prog w=.ok (.bool false) w:=by
 obtain ⟨i,hi,hs⟩:=Option.map_eq_some_iff.1 infoCursor
 first|exact run_neq_ptr_same w a Tryz.underlying212 hi|exact Lib.run_neq_ptr_same w a Tryz.underlying212 hi
theorem assertStopped (q:Option Addr) (w:World):(Instr.typeAssert (.iface 241 (.agg #[.pointer q])) 20 241 true).run Tryz.prog w=.ok (.tuple #[.agg #[.pointer q],.bool true]) w:=by kernel_rfl
set_option maxHeartbeats 1000000 in
theorem door_idle (V A E k : Nat) (p : Option Addr) (N c a : Nat) (o : Bool) (y x0 x1 : Int) (w : World) (hV : Whole w V 212 #[.pointer (some ⟨k, 0, none⟩)]) (hA : Whole w A 3 #[.int .i64 x0]) (hE : Whole w E 30 #[.int .i64 x1]) (hC : CurB w k p N c a o y) :
    CallsD Tryz.prog 173 #[.pointer (some ⟨V, 0, none⟩), .pointer (some ⟨A, 0, none⟩), .pointer (some ⟨E, 0, none⟩)] .returning w fun e u' w' => e = .returned (.tuple #[]) ∧ u' = .returning ∧ Told V A E k a y w w' := by
  have hVA : V ≠ A := fun e => by subst e; exact absurd (hV.unique hA).1 (by decide)
  have hVE : V ≠ E := fun e => by subst e; exact absurd (hV.unique hE).1 (by decide)
  have hVk : V ≠ k := fun e => by subst e; exact absurd (hV.unique hC).1 (by decide)
  have hAE : A ≠ E := fun e => by subst e; exact absurd (hA.unique hE).1 (by decide)
  have hAk : A ≠ k := fun e => by subst e; exact absurd (hA.unique hC).1 (by decide)
  have hEk : E ≠ k := fun e => by subst e; exact absurd (hE.unique hC).1 (by decide)
  have cV := hV.cell 0 rfl
  have cA := hA.cell 0 rfl
  have cE := hE.cell 0 rfl
  have c1 := Whole.cell hC 1 rfl
  have c3 := Whole.cell hC 3 rfl
  have fA := hA.free 0
  have fE := hE.free 0
  simp only [List.getElem_toArray, List.getElem_cons_zero, List.getElem_cons_succ] at cV cA cE c1 c3
  refine callsD_of_wpS Tryz.func173 rfl fun c₀ cs hu => ?_
  simp only [Tryz.ntmps173, List.size_toArray, List.length_cons, List.length_nil, Nat.reduceAdd, Nat.reduceSub, Array.replicate_succ,
     Array.replicate_zero, List.push_toArray, List.append_toArray, List.nil_append, List.cons_append]
  apply wpS_seq
  refine wpS_of_wp (Code.wp_mono (Q := MidPost V A E k a y w) ?_ ?_)
  case refine_2 =>
    go_region
    all_goals (exact ⟨rfl, _, rfl⟩)
  intro e a' w' hmid
  obtain ⟨rfl, rfl, m, rfl⟩ := hmid.told
  clear hmid
  simp only [Exit.thenS]
  apply wpS_seq
  have dV : (((w.setCell ⟨A, 0, none⟩ (.int .i64 a)).setCell ⟨E, 0, none⟩ (.int .i64 y)).drewN m).cell? ⟨V, 0, none⟩ = some (.pointer (some ⟨k, 0, none⟩)) := Whole.cell ((((hV.setOther hVA _).setOther hVE _).drewN m)) 0 rfl
  obtain ⟨W, hW⟩ : ∃ W, W = (((w.setCell ⟨A, 0, none⟩ (.int .i64 a)).setCell ⟨E, 0, none⟩ (.int .i64 y)).drewN m) := ⟨_, rfl⟩
  rw [← hW] at dV ⊢
  have dC : CurB W k p N c a o y := by rw [hW]; exact ((Whole.setOther hC (Ne.symm hAk) _).setOther (Ne.symm hEk) _).drewN m
  have d0 := Whole.cell dC 0 rfl
  have d1 := Whole.cell dC 1 rfl
  have d2 := Whole.cell dC 2 rfl
  have d3 := Whole.cell dC 3 rfl
  have f0 := Whole.free dC 0
  have f1 := Whole.free dC 1
  have f2 := Whole.free dC 2
  have f3 := Whole.free dC 3
  have HW := Lib.hid hW
  clear hW cV cA cE c1 c3 fA fE
  unfold doorTmps
  refine wpS_of_wp ?_
  go_wp2
  simp only [Exit.thenS]
  have hT : Told V A E k a y w ((((W.setCell ⟨k, 0, none⟩ (.slice none 0 0)).setCell ⟨k, 1, none⟩ (.int .i64 0)).setCell ⟨k, 2, none⟩ (.bool false)).setCell ⟨k, 3, none⟩ (.int .i64 0)) := by
    have HW := HW.out
    refine ⟨?_, ?_, ?_, Whole.set (Whole.set (Whole.set (Whole.set dC 0 _) 1 _) 2 _) 3 _, ?_⟩
    · refine Whole.setOther (Whole.setOther (Whole.setOther (Whole.setOther ?_ hVk _) hVk _) hVk _) hVk _
      rw [HW]; exact ((hV.setOther hVA _).setOther hVE _).drewN m
    · refine Whole.setOther (Whole.setOther (Whole.setOther (Whole.setOther ?_ hAk _) hAk _) hAk _) hAk _
      rw [HW]; exact ((hA.set 0 _).setOther hAE _).drewN m
    · refine Whole.setOther (Whole.setOther (Whole.setOther (Whole.setOther ?_ hEk _) hEk _) hEk _) hEk _
      rw [HW]; exact ((hE.setOther (Ne.symm hAE) _).set 0 _).drewN m
    · refine Keeps.setIn (Keeps.setIn (Keeps.setIn (Keeps.setIn ?_ (.inr (.inr rfl)) _ _) (.inr (.inr rfl)) _ _) (.inr (.inr rfl)) _ _) (.inr (.inr rfl)) _ _
      rw [HW]
      exact (((Keeps.refl _ _).setIn (.inl rfl) _ _).setIn (.inr (.inl rfl)) _ _).drewN m
  obtain ⟨W2, hW2⟩ : ∃ W2, W2 = ((((W.setCell ⟨k, 0, none⟩ (.slice none 0 0)).setCell ⟨k, 1, none⟩ (.int .i64 0)).setCell ⟨k, 2, none⟩ (.bool false)).setCell ⟨k, 3, none⟩ (.int .i64 0)) := ⟨_, rfl⟩
  rw [← hW2] at hT ⊢
  clear hW2 HW dV d0 d1 d2 d3 f0 f1 f2 f3 dC hC hV hA hE
  have eV := Whole.cell hT.1 0 rfl
  simp only [List.getElem_toArray, List.getElem_cons_zero] at eV
  have HT := Lib.hid hT
  clear hT
  apply wpS_seq
  apply wpS_region
  simp [wpOpsS, go_sem, recoverD, hu, Exit.thenS]
  refine wpS_of_wp ?_
  go_wp2
  refine ⟨rfl, .returning, ?_, .tuple #[], by simp [results, Tryz.results173], rfl, rfl, HT.out⟩
  rw [← hu]
set_option maxHeartbeats 1000000 in
theorem door_own (older : List PanicEntry) (V A E k : Nat) (p : Option Addr) (N c a : Nat) (o : Bool) (y x0 x1 : Int) (w : World) (hV : Whole w V 212 #[.pointer (some ⟨k, 0, none⟩)]) (hA : Whole w A 3 #[.int .i64 x0]) (hE : Whole w E 30 #[.int .i64 x1]) (hC : CurB w k p N c a o y) :
    CallsD Tryz.prog 173 #[.pointer (some ⟨V, 0, none⟩), .pointer (some ⟨A, 0, none⟩), .pointer (some ⟨E, 0, none⟩)] (.panicking ({ v := .iface 241 (.agg #[.pointer (some ⟨k, 0, none⟩)]), recovered := false } :: older)) w fun e u' w' => e = .returned (.tuple #[]) ∧ u' = .panicking ({ v := .iface 241 (.agg #[.pointer (some ⟨k, 0, none⟩)]), recovered := true } :: older) ∧ Told V A E k a y w w' := by
  have hta := assertStopped
  have hns := neqSame
  have hVA : V ≠ A := fun e => by subst e; exact absurd (hV.unique hA).1 (by decide)
  have hVE : V ≠ E := fun e => by subst e; exact absurd (hV.unique hE).1 (by decide)
  have hVk : V ≠ k := fun e => by subst e; exact absurd (hV.unique hC).1 (by decide)
  have hAE : A ≠ E := fun e => by subst e; exact absurd (hA.unique hE).1 (by decide)
  have hAk : A ≠ k := fun e => by subst e; exact absurd (hA.unique hC).1 (by decide)
  have hEk : E ≠ k := fun e => by subst e; exact absurd (hE.unique hC).1 (by decide)
  have cV := hV.cell 0 rfl
  have cA := hA.cell 0 rfl
  have cE := hE.cell 0 rfl
  have c1 := Whole.cell hC 1 rfl
  have c3 := Whole.cell hC 3 rfl
  have fA := hA.free 0
  have fE := hE.free 0
  simp only [List.getElem_toArray, List.getElem_cons_zero, List.getElem_cons_succ] at cV cA cE c1 c3
  refine callsD_of_wpS Tryz.func173 rfl fun c₀ cs hu => ?_
  simp only [Tryz.ntmps173, List.size_toArray, List.length_cons, List.length_nil, Nat.reduceAdd, Nat.reduceSub, Array.replicate_succ,
     Array.replicate_zero, List.push_toArray, List.append_toArray, List.nil_append, List.cons_append]
  apply wpS_seq
  refine wpS_of_wp (Code.wp_mono (Q := MidPost V A E k a y w) ?_ ?_)
  case refine_2 =>
    go_region
    all_goals (exact ⟨rfl, _, rfl⟩)
  intro e a' w' hmid
  obtain ⟨rfl, rfl, m, rfl⟩ := hmid.told
  clear hmid
  simp only [Exit.thenS]
  apply wpS_seq
  have dV : (((w.setCell ⟨A, 0, none⟩ (.int .i64 a)).setCell ⟨E, 0, none⟩ (.int .i64 y)).drewN m).cell? ⟨V, 0, none⟩ = some (.pointer (some ⟨k, 0, none⟩)) := Whole.cell ((((hV.setOther hVA _).setOther hVE _).drewN m)) 0 rfl
  obtain ⟨W, hW⟩ : ∃ W, W = (((w.setCell ⟨A, 0, none⟩ (.int .i64 a)).setCell ⟨E, 0, none⟩ (.int .i64 y)).drewN m) := ⟨_, rfl⟩
  rw [← hW] at dV ⊢
  have dC : CurB W k p N c a o y := by rw [hW]; exact ((Whole.setOther hC (Ne.symm hAk) _).setOther (Ne.symm hEk) _).drewN m
  have d0 := Whole.cell dC 0 rfl
  have d1 := Whole.cell dC 1 rfl
  have d2 := Whole.cell dC 2 rfl
  have d3 := Whole.cell dC 3 rfl
  have f0 := Whole.free dC 0
  have f1 := Whole.free dC 1
  have f2 := Whole.free dC 2
  have f3 := Whole.free dC 3
  have HW := Lib.hid hW
  clear hW cV cA cE c1 c3 fA fE
  unfold doorTmps
  refine wpS_of_wp ?_
  go_wp2
  simp only [Exit.thenS]
  have hT : Told V A E k a y w ((((W.setCell ⟨k, 0, none⟩ (.slice none 0 0)).setCell ⟨k, 1, none⟩ (.int .i64 0)).setCell ⟨k, 2, none⟩ (.bool false)).setCell ⟨k, 3, none⟩ (.int .i64 0)) := by
    have HW := HW.out
    refine ⟨?_, ?_, ?_, Whole.set (Whole.set (Whole.set (Whole.set dC 0 _) 1 _) 2 _) 3 _, ?_⟩
    · refine Whole.setOther (Whole.setOther (Whole.setOther (Whole.setOther ?_ hVk _) hVk _) hVk _) hVk _
      rw [HW]; exact ((hV.setOther hVA _).setOther hVE _).drewN m
    · refine Whole.setOther (Whole.setOther (Whole.setOther (Whole.setOther ?_ hAk _) hAk _) hAk _) hAk _
      rw [HW]; exact ((hA.set 0 _).setOther hAE _).drewN m
    · refine Whole.setOther (Whole.setOther (Whole.setOther (Whole.setOther ?_ hEk _) hEk _) hEk _) hEk _
      rw [HW]; exact ((hE.setOther (Ne.symm hAE) _).set 0 _).drewN m
    · refine Keeps.setIn (Keeps.setIn (Keeps.setIn (Keeps.setIn ?_ (.inr (.inr rfl)) _ _) (.inr (.inr rfl)) _ _) (.inr (.inr rfl)) _ _) (.inr (.inr rfl)) _ _
      rw [HW]
      exact (((Keeps.refl _ _).setIn (.inl rfl) _ _).setIn (.inr (.inl rfl)) _ _).drewN m
  obtain ⟨W2, hW2⟩ : ∃ W2, W2 = ((((W.setCell ⟨k, 0, none⟩ (.slice none 0 0)).setCell ⟨k, 1, none⟩ (.int .i64 0)).setCell ⟨k, 2, none⟩ (.bool false)).setCell ⟨k, 3, none⟩ (.int .i64 0)) := ⟨_, rfl⟩
  rw [← hW2] at hT ⊢
  clear hW2 HW dV d0 d1 d2 d3 f0 f1 f2 f3 dC hC hV hA hE
  have eV := Whole.cell hT.1 0 rfl
  simp only [List.getElem_toArray, List.getElem_cons_zero] at eV
  have eV2 : ∀ o, (W2.alloc o).cell? ⟨V, 0, none⟩ = some (.pointer (some ⟨k, 0, none⟩)) := fun o => Whole.cell (hT.1.alloc o) 0 rfl
  have HT := Lib.hid hT
  clear hT
  apply wpS_seq
  apply wpS_region
  simp [wpOpsS, go_sem, recoverD, hu, Exit.thenS]
  refine wpS_of_wp ?_
  go_wp2
  refine ⟨rfl, .panicking ({ v := .iface 241 (.agg #[.pointer (some ⟨k, 0, none⟩)]), recovered := true } :: older), rfl, .tuple #[], by simp [results, Tryz.results173], rfl, rfl, HT.out.alloc _⟩
end
section
open Go.RowKit
structure Begun (w:World) (p:Option Addr) (N c:Nat) (a:Nat) (y:Int) (W:World):Prop where
 at_:Whole W w.heap.size 3 #[.int .i64 0]
 why:Whole W (w.heap.size+1) 30 #[.int .i64 0]
 cur:CurB W (w.heap.size+1+1) p N c a true y
 var:Whole W (w.heap.size+1+1+1) 212 #[.pointer (some ⟨w.heap.size+1+1,0,none⟩)]
def Gave (k:Nat) (e:Ending):Prop :=
 ∃ older:List PanicEntry,e=.panicked ({ v:=.iface 241 (.agg #[.pointer (some ⟨k,0,none⟩)]),recovered:=false } :: older)∧older.dropWhile (fun x=>!x.goexit)=[]
theorem gave_given (k:Nat):Gave k (.panicked (given k)):=⟨[],rfl,rfl⟩
theorem funcNotNil (f:Fn) (a b:Array Value) (w:World):(binOp .eql 216 (.func f a b) .nilFunc).run Tryz.prog w=.ok (.bool false) w:=by kernel_rfl
theorem Begun.keep {w:World} {p:Option Addr} {N c a:Nat} {y:Int} {W W':World} (h:Begun w p N c a y W) {b:Nat} {z:Int} (hk:Keeps (Just (w.heap.size+1+1)) W W') (hc:CurB W' (w.heap.size+1+1) p N c b true z):Begun w p N c b z W' :=
 ⟨h.at_.keep hk (by unfold Just;omega),h.why.keep hk (by unfold Just;omega),hc,h.var.keep hk (by unfold Just;omega)⟩
theorem Begun.stay {w:World} {p:Option Addr} {N c a:Nat} {y:Int} {W W':World} (h:Begun w p N c a y W) {S:Nat→Prop} (hk:Keeps S W W') (hs:∀ i,w.heap.size≤i→¬ S i):Begun w p N c a y W' :=
 ⟨h.at_.keep hk (hs _ (by omega)),h.why.keep hk (hs _ (by omega)),Whole.keep h.cur hk (hs _ (by omega)),h.var.keep hk (hs _ (by omega))⟩
theorem begun (w:World) (p:Option Addr) (N c:Nat):Begun w p N c 0 0 ((((w.alloc (.cells #[.int .i64 0] 3)).alloc (.cells #[.int .i64 0] 30)).alloc (.cells #[.slice p N c,.int .i64 0,.bool true,.int .i64 0] 239)).alloc (.cells #[.pointer (some ⟨w.heap.size+1+1,0,none⟩)] 212)) :=
 ⟨(((Whole.new _ _ _).alloc _).alloc _).alloc _,((Whole.newAt _ _ _ _ (by simp)).alloc _).alloc _,Whole.alloc (Whole.newAt _ _ _ _ (by simp)) _,Whole.newAt _ _ _ _ (by simp)⟩
theorem begun_keeps (S:Nat→Prop) (w:World) (p:Option Addr) (N c:Nat):Keeps S w ((((w.alloc (.cells #[.int .i64 0] 3)).alloc (.cells #[.int .i64 0] 30)).alloc (.cells #[.slice p N c,.int .i64 0,.bool true,.int .i64 0] 239)).alloc (.cells #[.pointer (some ⟨w.heap.size+1+1,0,none⟩)] 212)) :=
 ((((Keeps.refl _ _).alloc _).alloc _).alloc _).alloc _
def RunTold (w:World) (a:Nat) (y:Int) (R:World→Prop) (e:Ending) (w':World):Prop :=
 e=.returned (.tuple #[.int .i64 a,.int .i64 y])∧∃ w2,R w2∧Told (w.heap.size+1+1+1) w.heap.size (w.heap.size+1) (w.heap.size+1+1) a y w2 w'
def ReadEnds (w:World) (p:Option Addr) (N c a:Nat) (y:Int) (R:World→Prop) (e:Ending) (w2:World):Prop :=
 (e=.returned (.tuple #[]) ∨ Gave (w.heap.size+1+1) e)∧Begun w p N c a y w2∧R w2
set_option maxHeartbeats 1000000 in
theorem run_any (K:Nat) (cap:Array Value) (p:Option Addr) (N c a:Nat) (y:Int) (R:World→Prop) (w:World) (hK:∀ (args:Array Value) (w:World),(callFunc K args).run Tryz.prog w=.ok (.enter K args) w)
  (hread:∀ W,Begun w p N c 0 0 W→Keeps NoBlock w W→W.heap.size=w.heap.size+1+1+1+1→Calls Tryz.prog K (#[.pointer (some ⟨w.heap.size+1+1,0,none⟩)] ++ cap) W (ReadEnds w p N c a y R)) :
  Calls Tryz.prog 141 #[.slice p N c,.func (.func K) #[] cap] w (RunTold w a y R):=by
 have hmf:∀ (fn:Fn) (first cap:Array Value) (w:World),(Instr.makeFunc fn first cap).run Tryz.prog w=.ok (.func fn first cap) w:=fun _ _ _ _=>rfl
 have hfn:=funcNotNil
 have HR:=hid (hread _ (begun w p N c) (begun_keeps _ w p N c) (by simp))
 clear hread
 go_enter_defers Tryz.func141,Tryz.ntmps141
 go_wp2_with fail
 refine HR.out.mono ?_
 rintro e w2 ⟨he,hB,hR⟩
 clear HR
 have HB:=hid hB;have HR:=hid hR
 clear hB hR
 rcases he with rfl|⟨older,rfl,hold⟩
 ·go_wp2_with fail
  refine leaves_cons (f:=173) (args:=#[.pointer (some ⟨w.heap.size+1+1+1,0,none⟩),.pointer (some ⟨w.heap.size,0,none⟩),.pointer (some ⟨w.heap.size+1,0,none⟩)]) (by simp) (by simp [go_sem]) ?_
  refine (door_idle _ _ _ _ p N c a true y 0 0 w2 HB.out.var HB.out.at_ HB.out.why HB.out.cur).mono ?_
  rintro e u' w3 ⟨rfl,rfl,hT⟩
  have HT:=hid hT
  have r1:=hT.2.1.cell 0 rfl
  have r2:=hT.2.2.1.cell 0 rfl
  clear hT
  simp only [List.getElem_toArray,List.getElem_cons_zero] at r1 r2
  simp [Leaves,settle,results,Tryz.results141,go_sem,r1,r2]
  exact ⟨rfl,w2,HR.out,HT.out⟩
 ·simp only [bodyPostD]
  refine leaves_cons (f:=173) (args:=#[.pointer (some ⟨w.heap.size+1+1+1,0,none⟩),.pointer (some ⟨w.heap.size,0,none⟩),.pointer (some ⟨w.heap.size+1,0,none⟩)]) (by simp) (by simp [go_sem]) ?_
  refine (door_own older _ _ _ _ p N c a true y 0 0 w2 HB.out.var HB.out.at_ HB.out.why HB.out.cur).mono ?_
  rintro e u' w3 ⟨rfl,rfl,hT⟩
  have HT:=hid hT
  have r1:=hT.2.1.cell 0 rfl
  have r2:=hT.2.2.1.cell 0 rfl
  clear hT
  simp only [List.getElem_toArray,List.getElem_cons_zero] at r1 r2
  simp [Leaves,settle,hold,results,Tryz.results141,go_sem,r1,r2]
  exact ⟨rfl,w2,HR.out,HT.out⟩
end
section
open Go.RowKit
theorem fail_at (k:Nat) (p:Option Addr) (N c a:Nat) (y:Int) (w:World) (h:CurB w k p N c a true 0) (hy:¬ y=0) :
  Calls Tryz.prog 175 #[.pointer (some ⟨k,0,none⟩),.int .i64 y] w fun e w'=>e=.panicked (given k)∧CurB w' k p N c a true y∧Keeps (Just k) w w':=by
 have h2:=Whole.cell h 2 rfl
 have H:=hid h;clear h
 go_enter Tryz.func175,Tryz.ntmps175
 go_wp2_with fail
 refine (within_at _ true _ h2).mono ?_
 rintro e w' ⟨rfl,rfl⟩
 go_wp2_with fail
 refine (stop_first k p N c a y _ H.out).mono ?_
 rintro e w' ⟨rfl,hcur,hk⟩
 exact ⟨rfl,rfl,hcur,hk⟩
def GetPost (k:Nat) (p:Option Addr) (N c a:Nat) (t:VR) (w:World) (e:Ending) (w':World):Prop :=
 Keeps (Just k) w w'∧((t.e=0∧e=.returned (.int .u64 t.x)∧CurB w' k p N c (a+t.n) true 0) ∨ (t.e ≠ 0∧e=.panicked (given k)∧CurB w' k p N c (a+t.n) true t.e))
def VR.up (i X:Nat) (t:VR):VR:=⟨t.e,t.n+i,X+2 ^ (7*i)*t.x⟩
structure GState (k:Nat) (p:Option Addr) (xs:List Int) (N c a:Nat) (w:World) (i X:Nat) (wr:World):Prop where
 cur:CurB wr k p N c (a+i) true 0
 keep:Keeps (Just k) w wr
 lt:X<2 ^ (7*i)
 vr:vget (xs.drop a)=(vread (9 - i+1) (i == 0) (xs.drop (a+i))).up i X
 le:a+i≤N
 i9:i≤9
section
variable {k:Nat} {p:Option Addr} {xs:List Int} {N c a:Nat} {w:World} {i X:Nat} {wr:World}
theorem drop_cons {xs:List Int} {n:Nat} (h:n<xs.length):xs.drop n=xs.getD n 0 :: xs.drop (n+1):=by
 rw [List.drop_eq_getElem_cons h]
 simp [h]
theorem GState.short (h:GState k p xs N c a w i X wr) (hx:N=xs.length) (hs:N<a+i+1) {w2:World} {e:Ending} (he:e=.panicked (given k)) (hc:CurB w2 k p N c (a+i) true 2) (hk:Keeps (Just k) wr w2):GetPost k p N c a (vget (xs.drop a)) w e w2:=by
 have hd:xs.drop (a+i)=[]:=List.drop_eq_nil_of_le (by omega)
 rw [h.vr,hd,vread]
 refine ⟨h.keep.trans hk,.inr ⟨by simp [VR.up],he,?_⟩⟩
 simpa [VR.up] using hc
theorem GState.wrong (h:GState k p xs N c a w i X wr) (hx:N=xs.length) (hs:a+i<N) (y b:Int) (hb:b=xs.getD (a+i) 0) (hy:(y=3∧i=9∧1<b) ∨ (y=4∧¬ (i=9∧1<b)∧0<i∧b=0)) {w2:World} {e:Ending} (he:e=.panicked (given k)) (hc:CurB w2 k p N c (a+i+1) true y) (hk:Keeps (Just k) wr w2):GetPost k p N c a (vget (xs.drop a)) w e w2:=by
 have hd:=drop_cons (xs:=xs) (n:=a+i) (by omega)
 rw [← hb] at hd
 have hi9:=h.i9
 have e2:vget (xs.drop a)=⟨y,i+1,X+2 ^ (7*i)*0⟩:=by
  rw [h.vr,hd,vread]
  rcases hy with ⟨rfl,rfl,h1⟩|⟨rfl,h0,h1,h2⟩
  ·rw [if_pos ⟨by omega,h1⟩]
   simp [VR.up,Nat.add_comm]
  ·rw [if_neg (by omega),if_pos ⟨beq_false_of_ne (by omega),h2⟩]
   simp [VR.up,Nat.add_comm]
 rw [e2]
 refine ⟨h.keep.trans hk,.inr ⟨by rcases hy with ⟨rfl,_⟩|⟨rfl,_⟩ <;> simp,he,?_⟩⟩
 exact hc
theorem GState.last (h:GState k p xs N c a w i X wr) (hx:N=xs.length) (hs:a+i<N) (b:Int) (hb:b=xs.getD (a+i) 0) (h9:¬ (i=9∧1<b)) (h0:¬ (0<i∧b=0)) (h1:b<128) {w2:World} {e:Ending} (he:e=.returned (.int .u64 (X+2 ^ (7*i)*b))) (hc:CurB w2 k p N c (a+i+1) true 0) (hk:Keeps (Just k) wr w2):GetPost k p N c a (vget (xs.drop a)) w e w2:=by
 have hd:=drop_cons (xs:=xs) (n:=a+i) (by omega)
 rw [← hb] at hd
 have hi9:=h.i9
 have e2:vget (xs.drop a)=⟨0,i+1,X+2 ^ (7*i)*b⟩:=by
  rw [h.vr,hd,vread,if_neg (by omega),if_neg (fun hh=>h0 ⟨Nat.pos_of_ne_zero (by simpa using hh.1),hh.2⟩),if_pos h1]
  simp [VR.up,Nat.add_comm]
 rw [e2]
 exact ⟨h.keep.trans hk,.inl ⟨rfl,he,hc⟩⟩
theorem GState.more (h:GState k p xs N c a w i X wr) (hx:N=xs.length) (hs:a+i<N) (b:Int) (hb:b=xs.getD (a+i) 0) (h9:i≤8) (h0:128≤b) (h1:b<256) {w2:World} (hc:CurB w2 k p N c (a+i+1) true 0) (hk:Keeps (Just k) wr w2):GState k p xs N c a w (i+1) (X+2 ^ (7*i)*(b.toNat % 128)) w2:=by
 have hd:=drop_cons (xs:=xs) (n:=a+i) (by omega)
 rw [← hb] at hd
 have hp:2 ^ (7*(i+1))=128*2 ^ (7*i):=by rw [show 7*(i+1)=7+7*i by omega,Nat.pow_add]
 refine ⟨hc,h.keep.trans hk,?_,?_,by omega,by omega⟩
 ·have:=h.lt
  have h2:2 ^ (7*i)*(b.toNat % 128)≤2 ^ (7*i)*127:=Nat.mul_le_mul_left _ (by omega)
  omega
 ·rw [h.vr,hd,vread,if_neg (by omega),if_neg (by omega),if_neg (by omega)]
  have e1:9 - i=9 - (i+1)+1:=by omega
  rw [show ((i+1 == 0):Bool)=false from by simp,Nat.add_assoc a i 1,← e1]
  simp only [VR.up,VR.mk.injEq,true_and]
  refine ⟨by omega,?_⟩
  have e2:((2:Int) ^ (7*(i+1)))=128*2 ^ (7*i):=by rw [show 7*(i+1)=7+7*i by omega,Int.pow_add];rfl
  have e3:((X+2 ^ (7*i)*(b.toNat % 128):Nat):Int)=X+2 ^ (7*i)*(b - 128):=by
   push_cast
   congr 2
   omega
  rw [e2,e3,Int.mul_add,Int.mul_assoc,Int.add_assoc,Int.mul_left_comm]
end
theorem ret_u64 {a b:Int} (h:a=b):Ending.returned (.int .u64 a)=.returned (.int .u64 b):=by rw [h]
theorem or_group (X i:Nat) (b:Int) (b0:0≤b) (b1:b<256) (hX:X<2 ^ (7*i)) (hi:i≤9) (h9:i=9→b≤1) :
  bits BinOp.or IntKind.u64 (X:Int) (IntKind.u64.wrap (IntKind.u64.wrap (bits BinOp.andNot IntKind.u8 b 128)*2 ^ (7*i)))=((X+2 ^ (7*i)*(b.toNat % 128):Nat):Int):=by
 have e1:IntKind.u64.wrap (bits BinOp.andNot IntKind.u8 b 128)=((b.toNat % 128:Nat):Int):=by
  rw [low_seven b b0 b1,IntKind.wrap_u64]
  omega
 have hp:2 ^ (7*i)*(b.toNat % 128)<18446744073709551616:=by
  by_cases h:i=9
  ·subst h
   have:=h9 rfl
   have h1:b.toNat % 128≤1:=by omega
   have h2:2 ^ (7*9)*(b.toNat % 128)≤2 ^ (7*9)*1:=Nat.mul_le_mul_left _ h1
   exact Nat.lt_of_le_of_lt h2 (by decide)
  ·have h1:2 ^ (7*i)≤2 ^ 56:=Nat.pow_le_pow_right (by omega) (by omega)
   have h2:2 ^ (7*i)*(b.toNat % 128)≤2 ^ 56*127:=Nat.mul_le_mul h1 (by omega)
   exact Nat.lt_of_le_of_lt h2 (by decide)
 rw [e1,or_seven X _ i hX hp (by omega)]
theorem or_last (X i:Nat) (b:Int) (b0:0≤b) (b1:b<128) (hX:X<2 ^ (7*i)) (hi:i≤9) (h9:i=9→b≤1) :
  bits BinOp.or IntKind.u64 (X:Int) (IntKind.u64.wrap (IntKind.u64.wrap (bits BinOp.andNot IntKind.u8 b 128)*2 ^ (7*i)))=X+2 ^ (7*i)*b:=by
 rw [or_group X i b b0 (by omega) hX hi h9]
 push_cast
 congr 2
 omega
set_option maxHeartbeats 2000000 in
set_option maxRecDepth 10000 in
theorem get_any (k:Nat) (p:Option Addr) (xs:List Int) (N c a:Nat) (w:World) (hx:N=xs.length) (h:CurB w k p N c a true 0) (hb:Bytes8 w p xs) (ho:Octets xs) (hp:0<xs.length→∀ q,p=some q→q.block ≠ k)
  (hn:a≤N) (hN:N≤c) (hc:c≤9223372036854775807) :
  Calls Tryz.prog 144 #[.pointer (some ⟨k,0,none⟩)] w (GetPost k p N c a (vget (xs.drop a)) w):=by
 have HX:=hid hx;have H:=hid h;have HB:=hid hb;have HO:=hid ho;have HP:=hid hp;have HC:=hid (And.intro hn (And.intro hN hc))
 clear hx h hb ho hp hn hN hc
 go_enter Tryz.func144,Tryz.ntmps144
 go_wp2_with fail
 go_loopw [3,6] (fun x v wr=>∃ (i X:Nat),x=.int .u64 X∧v=.int .i64 i∧i≤9∧GState k p xs N c a w i X wr) (fun _ v _=>10 - (intOf v).toNat)
 case atStart=>exact ⟨0,0,rfl,rfl,by omega,⟨H.out,Keeps.refl _ _,by decide,by simp [VR.up,vget],HC.out.1,by omega⟩⟩
 case round =>
  obtain ⟨i,X,rfl,rfl,hi9,hst⟩:=hrel
  have HS:=hid hst
  have hlt:=hst.lt
  clear hst
  by_cases hs:a+i<N
  ·obtain ⟨b,hbd⟩:∃ b,b=xs.getD (a+i) 0:=⟨_,rfl⟩
   have hby:=byte_at k p xs N c (a+i) wr HX.out HS.out.cur (HB.out.keepPos HS.out.keep (fun h0 q hq=>HP.out h0 q hq)) HO.out HP.out (by omega) HC.out.2.1 HC.out.2.2
   have hb0:0≤b∧b<256:=by rw [hbd];exact HO.out.getD _
   rw [← hbd] at hby
   have HBy:=hid hby;have HBd:=hid hbd
   obtain ⟨b0,b1⟩:=hb0
   clear hby hbd
   have HLt:=hid hlt
   clear hlt
   go_wp2_with fail
   refine HBy.out.mono ?_
   rintro e w1 ⟨rfl,hcur,hk⟩
   have HCur:=hid hcur;have HK:=hid hk
   clear hcur hk HBy
   have hcurE:CurB w1 k p N c (a+i+1) true 0:=HCur.out
   have HE:=hid hcurE
   clear hcurE
   by_cases h9:i=9
   ·by_cases c1:1<b
    ·subst h9
     go_wp2_with fail
     refine (fail_at k p N c (a+9+1) 3 _ HE.out (by decide)).mono ?_
     rintro e w2 ⟨rfl,hcur,hk⟩
     exact ⟨rfl,HS.out.wrong HX.out (by omega) 3 b HBd.out (.inl ⟨rfl,rfl,c1⟩) rfl hcur (HK.out.trans hk)⟩
    ·by_cases c0:b=0
     ·subst h9
      subst c0
      go_wp2_with fail
      refine (fail_at k p N c (a+9+1) 4 _ HE.out (by decide)).mono ?_
      rintro e w2 ⟨rfl,hcur,hk⟩
      exact ⟨rfl,HS.out.wrong HX.out (by omega) 4 0 HBd.out (.inr ⟨rfl,by omega,by omega,rfl⟩) rfl hcur (HK.out.trans hk)⟩
     ·subst h9
      go_wp2_with fail
      go_ret
      exact HS.out.last HX.out (by omega) b HBd.out (by omega) (by omega) (by omega) (ret_u64 (or_last X 9 b b0 (by omega) HLt.out (by omega) (fun _=>by omega))) HE.out HK.out
   ·by_cases c0:b=0
    ·by_cases hi0:i=0
     ·subst hi0
      subst c0
      go_wp2_with fail
      go_ret
      refine HS.out.last HX.out (by omega) 0 HBd.out (by omega) (by omega) (by omega) (ret_u64 ?_) HE.out HK.out
      have e:=or_last X 0 0 (by omega) (by omega) HLt.out (by omega) (fun _=>by omega)
      simpa using e
     ·subst c0
      have hi1:0<i:=by omega
      go_wp2_with fail
      refine (fail_at k p N c (a+i+1) 4 _ HE.out (by decide)).mono ?_
      rintro e w2 ⟨rfl,hcur,hk⟩
      exact ⟨rfl,HS.out.wrong HX.out (by omega) 4 0 HBd.out (.inr ⟨rfl,by omega,by omega,rfl⟩) rfl hcur (HK.out.trans hk)⟩
    ·by_cases c2:b<128
     ·go_wp2_with fail
      all_goals
       go_ret
       exact HS.out.last HX.out (by omega) b HBd.out (by omega) (by omega) (by omega) (ret_u64 (or_last X i b b0 (by omega) HLt.out (by omega) (fun _=>by omega))) HE.out HK.out
     ·go_wp2_with fail
      all_goals
       go_roundw
       case rel=>exact ⟨i+1,X+2 ^ (7*i)*(b.toNat % 128),congrArg (Value.int IntKind.u64) (or_group X i b b0 b1 HLt.out (by omega) (fun _=>by omega)),by go_num,by omega,HS.out.more HX.out (by omega) b HBd.out (by omega) (by omega) b1 HE.out HK.out⟩
       case measure=>simp [intOf];omega
  ·go_wp2_with fail
   refine (byte_short k p N c (a+i) wr HS.out.cur HS.out.le (by omega) (by have:=HC.out;omega)).mono ?_
   rintro e w1 ⟨rfl,hcur,hk⟩
   exact ⟨rfl,HS.out.short HX.out (by omega) rfl hcur hk⟩
end
end Go.Proofs.YtehkjkcnigknkaaGreat

/-
  VBackRead; FtGet; FtLaws; PkLaws; PkPlWalk; PkGrNum.
-/
import Derived.Test.YtehkjkcnigknkaaGreatV05
import Derived.Test.YtehkjkcnigknkaaGreatV07
import Derived.Test.YtehkjkcnigknkaaGreatV11
import Derived.Test.YtehkjkcnigknkaaGreatV16
namespace Go.Proofs.YtehkjkcnigknkaaGreat
section
open Go.RowKit
theorem RowN.keepAt {w w':World} {p:Option Addr} {l:List Nat} (h:RowN w p l) {S:Nat→Prop} (hk:Keeps S w w') (hs:0<l.length→∀ q,p=some q→¬ S q.block):RowN w' p l:=fun i hi=>by
 obtain ⟨a,rfl,hc⟩:=h i hi
 exact ⟨a,rfl,hk.cell hc (by rw [addBlock];exact hs (by omega) a rfl)⟩
end
section
open Go.RowKit
def FtPost (w:World) (U:GFt) (e:Ending) (w':World):Prop :=
 ∃ (q:Option Addr) (m d:Nat),e=.returned (.tuple #[ftV U.f.used q m d,.int .i64 U.y])∧m=U.f.tab.length∧m≤d∧d≤9223372036854775807∧(q=none→m=0∧d=0)∧EnsAt w' q U.f.tab∧Keeps NoBlock w w'
theorem FtPost.gone {w w':World} {U:GFt} {y:Int} (hU:U=⟨y,Ft.none⟩) (hk:Keeps NoBlock w w'):FtPost w U (.returned (.tuple #[.agg #[.int .u32 0,.slice none 0 0],.int .i64 y])) w':=by
 subst hU
 exact ⟨none,0,0,rfl,rfl,Nat.le_refl _,by decide,fun _=>⟨rfl,rfl⟩,TwosAt.nil _ _,hk⟩
structure RdSt (w:World) (g:Nat) (xs:List Int) (a y:Int) (W:World):Prop where
 rd:Whole W g 163 (rdrCells xs a y)
 z:Whole W w.heap.size 77 (ftCells 0 none 0 0)
 kp:Keeps NoBlock w W
 lt:w.heap.size<g
theorem RdSt.keep {w:World} {g:Nat} {xs:List Int} {a y:Int} {W W':World} (h:RdSt w g xs a y W) (hk:Keeps NoBlock W W'):RdSt w g xs a y W':=⟨h.rd.keep hk (fun h=>h),h.z.keep hk (fun h=>h),h.kp.trans hk,h.lt⟩
theorem RdSt.put {w : World} {g : Nat} {xs : List Int} {a y : Int} {W : World} (h : RdSt w g xs a y W) (xs' : List Int) (a' y' : Int) : RdSt w g xs' a' y' (((W.setCell ⟨g, 0, none⟩ (.string (strOfNums xs'))).setCell ⟨g, 1, none⟩ (.int .i64 a')).setCell ⟨g, 2, none⟩ (.int .i64 y')) :=
  ⟨((h.rd.set 0 _).set 1 _).set 2 _, ((h.z.setOther (by have := h.lt; simp; omega) _).setOther (by have := h.lt; simp; omega) _).setOther (by have := h.lt; simp; omega) _,
   ((h.kp.setNew (g := g) (Nat.le_of_lt h.lt) 0 _).setNew (g := g) (Nat.le_of_lt h.lt) 1 _).setNew (g := g) (Nat.le_of_lt h.lt) 2 _, h.lt⟩
end
section
open Go.RowKit
def Row32 (w:World) (p:Option Addr) (l:List Nat):Prop:=∀ i,i<l.length→∃ a,p=some a∧w.cell? (a.add i)=some (.int .u32 (l.getD i 0:Nat))
theorem Row32.keep {w w':World} {p:Option Addr} {l:List Nat} (h:Row32 w p l) {S:Nat→Prop} (hk:Keeps S w w') (hs:∀ k,k<w.heap.size→¬ S k):Row32 w' p l:=fun i hi=>by
 obtain ⟨a,rfl,hc⟩:=h i hi
 exact ⟨a,rfl,hk.cell hc (hs _ (ltOfCell hc))⟩
def NewRow32 (w:World) (l:List Nat) (v:Value) (w':World):Prop :=
 ∃ (q:Option Addr) (m d:Nat),v=.slice q m d∧m=l.length∧m≤d∧d≤9223372036854775807∧(q=none→m=0∧d=0)∧Row32 w' q l∧Keeps NoBlock w w'
structure FtPutOk:Prop where
 put:∀ (u:Nat) (q:Option Addr) (n c:Nat) (l:List En) (w:World),u<4294967296→InE w q n c l→n≤10000 →
  Calls Tryz.prog 94 #[ftV u q n c] w fun e w'=>∃ v,e=.returned (.tuple #[v,.int .i64 (checkFt ⟨u,l⟩)])∧NewBytes w (putFt ⟨u,l⟩) v w'
end
section
open Go.RowKit
end
section
open Go.RowKit
theorem InZ.keep {w w':World} {p:Option Addr} {n c:Nat} {zs:List Int} (h:InZ w p n c zs) (hk:Keeps NoBlock w w'):InZ w' p n c zs :=
 ⟨h.len,h.cap,h.room,h.bare,h.fine,h.at_.keep hk (fun _ _ h=>h)⟩
end
section
end
end Go.Proofs.YtehkjkcnigknkaaGreat

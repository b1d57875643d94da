/-
  FtGetN; VarRead; Lives2; ApartWalk; VBackRead; FtGet.
-/
import Derived.Test.YtehkjkcnigknkaaGreatM05
import Derived.Test.YtehkjkcnigknkaaGreatM07
import Derived.Test.YtehkjkcnigknkaaGreatM09
import Derived.Test.YtehkjkcnigknkaaGreatM14
import Derived.Test.YtehkjkcnigknkaaGreatM15
namespace Go.Proofs.YtehkjkcnigknkaaGreat
section
open Go.RowKit
end
section
open Go.RowKit
theorem Begun.store {w0:World} {p:Option Addr} {N c a:Nat} {y:Int} {W:World} (h:Begun w0 p N c a y W) {D:Nat} (hD:D<w0.heap.size) (v:Value):Begun w0 p N c a y (W.setCell ⟨D,0,none⟩ v) :=
 ⟨h.at_.setOther (by simp;omega) v,h.why.setOther (by simp;omega) v,Whole.setOther h.cur (by simp;omega) v,h.var.setOther (by simp;omega) v⟩
theorem getFnOk:∀ (fn:Fn) (first cap:Array Value) (w:World),(Instr.makeFunc fn first cap).run Tryz.prog w=.ok (.func fn first cap) w:=fun _ _ _ _=>rfl
end
section
open Go.RowKit
end
section
open Go.RowKit
end
section
open Go.RowKit
theorem RowN.keepAt {w w':World} {p:Option Addr} {l:List Nat} (h:RowN w p l) {S:Nat→Prop} (hk:Keeps S w w') (hs:0<l.length→∀ q,p=some q→¬ S q.block):RowN w' p l:=fun i hi=>by
 obtain ⟨a,rfl,hc⟩:=h i hi
 exact ⟨a,rfl,hk.cell hc (by rw [addBlock];exact hs (by omega) a rfl)⟩
end
section
open Go.RowKit
def FtPost (w:World) (U:GFt) (e:Ending) (w':World):Prop :=
 ∃ (q:Option Addr) (m d:Nat),e=.returned (.tuple #[ftV U.f.used q m d,.int .i64 U.y])∧m=U.f.tab.length∧m≤d∧d≤9223372036854775807∧(q=none→m=0∧d=0)∧EnsAt w' q U.f.tab∧Keeps NoBlock w w'
theorem FtPost.gone {w w':World} {U:GFt} {y:Int} (hU:U=⟨y,Ft.none⟩) (hk:Keeps NoBlock w w'):FtPost w U (.returned (.tuple #[.agg #[.int .u32 0,.slice none 0 0],.int .i64 y])) w':=by
 subst hU
 exact ⟨none,0,0,rfl,rfl,Nat.le_refl _,by decide,fun _=>⟨rfl,rfl⟩,TwosAt.nil _ _,hk⟩
structure RdSt (w:World) (g:Nat) (xs:List Int) (a y:Int) (W:World):Prop where
 rd:Whole W g 163 (rdrCells xs a y)
 z:Whole W w.heap.size 77 (ftCells 0 none 0 0)
 kp:Keeps NoBlock w W
 lt:w.heap.size<g
theorem RdSt.keep {w:World} {g:Nat} {xs:List Int} {a y:Int} {W W':World} (h:RdSt w g xs a y W) (hk:Keeps NoBlock W W'):RdSt w g xs a y W':=⟨h.rd.keep hk (fun h=>h),h.z.keep hk (fun h=>h),h.kp.trans hk,h.lt⟩
theorem RdSt.put {w : World} {g : Nat} {xs : List Int} {a y : Int} {W : World} (h : RdSt w g xs a y W) (xs' : List Int) (a' y' : Int) : RdSt w g xs' a' y' (((W.setCell ⟨g, 0, none⟩ (.string (strOfNums xs'))).setCell ⟨g, 1, none⟩ (.int .i64 a')).setCell ⟨g, 2, none⟩ (.int .i64 y')) :=
  ⟨((h.rd.set 0 _).set 1 _).set 2 _, ((h.z.setOther (by have := h.lt; simp; omega) _).setOther (by have := h.lt; simp; omega) _).setOther (by have := h.lt; simp; omega) _,
   ((h.kp.setNew (g := g) (Nat.le_of_lt h.lt) 0 _).setNew (g := g) (Nat.le_of_lt h.lt) 1 _).setNew (g := g) (Nat.le_of_lt h.lt) 2 _, h.lt⟩
end
end Go.Proofs.YtehkjkcnigknkaaGreat

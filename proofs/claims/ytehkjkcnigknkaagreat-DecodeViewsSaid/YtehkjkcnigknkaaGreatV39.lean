/-
  PlainIn.
-/
import Derived.Deep.RegionHeld
import Derived.OwnWalkIn
import Derived.Test.YtehkjkcnigknkaaGreatV02
namespace Go.Proofs.YtehkjkcnigknkaaGreat
section
open Go.RowKit
def Stayed:Result Next→Prop
 | .ok (.value _) _=>True
 | .ok .skip _=>True
 | .halt _ _=>True
 | _=>False
theorem stayed_v {P:Program} {w:World} (s:Sem Value):Stayed ((s >>= fun x=>(pure (Next.value x):Sem Next)).run P w):=by
 rw [Sem.run_bind]
 cases s.run P w with
 | ok x w'=>trivial
 | halt h w'=>trivial
theorem stayed_u {P:Program} {w:World} (s:Sem Unit):Stayed ((s >>= fun _=>(pure Next.skip:Sem Next)).run P w):=by
 rw [Sem.run_bind]
 cases s.run P w with
 | ok x w'=>trivial
 | halt h w'=>trivial
def plainB (o:Oper):Bool :=
 match o.op with
 | .move _ | .assign _ | .alloc _ | .box _ _ | .build _ _ | .buildSlice _ _ _ | .load _ _ | .store _ _ _ | .binOp _ _ _ _ _ | .slice _ _ _ _ _ | .fieldAddr _ _ _ | .indexAddr _ _ _=>true
 | .call c=>match c.callee with
  | .builtin .append=>true
  | .builtin .len=>true
  | _=>false
 | _=>false
theorem plain_stayed {P:Program} {w:World} {ρ:Operand→Value} {o:Oper} (h:plainB o=true):Stayed ((execOp ρ o).run P w):=by
 unfold plainB at h
 unfold execOp
 split at h
 case h_13 c ho =>
  rw [ho]
  split at h
  ·rename_i hc
   simp only [resolve,hc,invoke,builtin,pure_bind]
   exact stayed_v _
  ·rename_i hc
   simp only [resolve,hc,invoke,builtin,pure_bind]
   exact stayed_v _
  ·cases h
 case h_14=>cases h
 all_goals (rename_i ho;rw [ho];first|exact stayed_v _|exact stayed_u _|trivial)
theorem plain_about {P:Program} {w:World} {ρ:Operand→Value} {o:Oper} (h:plainB o=true):o.about P w ρ=none:=by
 unfold plainB at h
 unfold Oper.about
 split at h
 case h_13 c ho =>
  rw [ho]
  split at h
  ·rename_i hc
   simp [resolve,hc,Target.leads]
  ·rename_i hc
   simp [resolve,hc,Target.leads]
  ·cases h
 case h_14=>cases h
 all_goals (rename_i ho;rw [ho])
theorem plain_nodefer {o:Oper} (h:plainB o=true) (c:Call):o.op ≠ .defer c:=by
 intro ho
 unfold plainB at h
 rw [ho] at h
 cases h
section
variable {F:Fence} {n:Nat} {P:Program} {ops:Array Oper} {Q:Exit→Act→World→Prop} {md:Region.Mode}
theorem wpOpIn_of_plain {i:Nat} {K K':Act→World→Prop} {a:Act} {w:World} (hp:∀ (j:Nat) (o:Oper),ops[j]?=some o→plainB o=true) (hl:¬ LetsOut Q) (hK:∀ a w,K a w→K' a w) (h:wpOp P ops Q i K a w):wpOpIn F n P ops Q i K' a w:=by
 unfold wpOp at h
 unfold wpOpIn
 cases ho:ops[i]? with
 | none =>
  simp only [ho] at h ⊢
  exact hK _ _ h
 | some o =>
  simp only [ho] at h ⊢
  have hpo:=hp i o ho
  by_cases hw:Region.wanted o (yielded ops a.tmps)=true
  ·rw [if_pos hw] at h ⊢
   rcases h with h|⟨_,h⟩
   ·refine ⟨fun f hf=>(by rw [plain_about hpo] at hf;cases hf),?_⟩
    rw [Oper.semAt_plain F _ _ (plain_nodefer hpo)]
    have hs:=plain_stayed (P:=P) (ρ:=a.eval) (w:=w) hpo
    unfold Oper.wp at h
    generalize (execOp a.eval o).run P w=r at h hs ⊢
    cases r with
    | ok x w'=>cases x <;> first|exact hs.elim|exact hK _ _ h
    | halt x w'=>cases x <;> exact h
   ·exact absurd h hl
  ·rw [if_neg hw] at h ⊢
   exact ⟨fun f hf=>(by rw [plain_about hpo] at hf;cases hf),hK _ _ h⟩
theorem wpAnyIn_of_plain (hp:∀ (j:Nat) (o:Oper),ops[j]?=some o→plainB o=true) (hl:¬ LetsOut Q):∀ (fuel:Nat) (listed:Array Bool) (a:Act) (w:World),wpAny P md ops Q fuel listed a w→wpAnyIn F n P md ops Q fuel listed a w
 | 0,_,_,_,h=>h
 | fuel+1,_,_,_,h=>⟨h.1,fun i hi=>wpOpIn_of_plain hp hl (fun a w=>wpAnyIn_of_plain hp hl fuel _ a w) (h.2 i hi)⟩
theorem wpIn_region_plain {S:World→Prop} {id:Nat} {a:Act} {w:World} (hm:P.follows .mixedOrders=true) (hp:ops.all plainB=true) (hl:¬ LetsOut Q) (hS:S w.drew)
  (h:S w.drew→wpAnyH P .any ops Q S ops.size (Array.replicate ops.size false) a w.drew):(Code.region id ops true).wpIn F n P Q a w :=
 wpIn_region_any hm (wpAnyIn_of_plain (fun j o ho=>by
  obtain ⟨hj,rfl⟩:=Array.getElem?_eq_some_iff.1 ho
  exact Array.all_eq_true.1 hp j hj) hl _ _ _ _ (wpAny_of_held _ _ _ _ (h hS)))
theorem step_append_own {o:Oper} {a:Act} {w:World} {K:Act→World→Prop} {E:Prop}
  (hg:o.guard=none) (s x:Operand) (t:TypeId) (hop:o.op=Op.call { callee:=Callee.builtin Builtin.append,args:=#[s,x],argTypes:=#[t,t] })
  (base:Nat) (e:TypeId) (i:TypeInfo) (z:Value) (size bytes:Nat) (h1:P.underlying t=some (.slice e)) (h2:P.info? e=some i) (h3:i.zero=some z) (h4:i.size=size) (h5:i.bytes=bytes) (h6:z.cells.size=size) (h7:0<size)
  (v:Value) (k:Nat) (xs:List Value) (hs:a.eval s=v) (hown:w.ownsRow base e size v k xs) (ad:Addr) (m c:Nat) (news:List Value) (hx:a.eval x=.slice (some ad) m c) (hn:news.length=m*size)
  (hc:∀ j u,news[j]?=some u→w.cell? (ad.add j)=some u) (h1c:∀ u ∈ news,u.oneCell'=true) (b1:k+m≤maxLen) (b2:(k+m)*bytes≤140737488355328) (b3:base≤w.heap.size)
  (hK:∀ v' w',w'.ownsRow base e size v' (k+m) (xs ++ news)→w.grownBy w' v.ownBlock→(v'=.slice none 0 0 ↔ v=.slice none 0 0∧m=0)→K (a.put o.dst v') w') :
  if Region.wanted o (yielded ops a.tmps)=true then Oper.wp P o a w K Q else E:=by
 have hw:Region.wanted o (yielded ops a.tmps)=true:=by simp [Region.wanted,hg]
 rw [if_pos hw]
 obtain ⟨v',w',hrun,r1,r2,r3⟩:=run_append_own (P:=P) w base t o.type e i z size bytes h1 h2 h3 h4 h5 h6 h7 v k xs hown ad m c news hn hc h1c b1 b2 b3
 unfold Oper.wp
 simp [execOp,hop,resolve,invoke,builtin,hs,hx,hrun,Result.andThen]
 exact hK v' w' r1 r2 r3
end
end
end Go.Proofs.YtehkjkcnigknkaaGreat

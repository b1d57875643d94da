/-
  Lives2; ApartWalk; VBackRead; FtGet; FtLaws; PkLaws.
-/
import Derived.Test.YtjeammmfdniokaaGreatM05
import Derived.Test.YtjeammmfdniokaaGreatM07
import Derived.Test.YtjeammmfdniokaaGreatM09
import Derived.Test.YtjeammmfdniokaaGreatM11
import Derived.Test.YtjeammmfdniokaaGreatM14
namespace Go.Proofs.YtjeammmfdniokaaGreat
open Go.RowKit

end Go.Proofs.YtjeammmfdniokaaGreat

namespace Go.Proofs.YtjeammmfdniokaaGreat
open Go.RowKit

end Go.Proofs.YtjeammmfdniokaaGreat


namespace Go.Proofs.YtjeammmfdniokaaGreat
open Go.RowKit

end Go.Proofs.YtjeammmfdniokaaGreat

namespace Go.Proofs.YtjeammmfdniokaaGreat
open Go.RowKit

/-- How Get of a footer ends. -/
def FtPost (w : World) (U : GFt) (e : Ending) (w' : World) : Prop :=
  ∃ (q : Option Addr) (m d : Nat), e = .returned (.tuple #[ftV U.f.used q m d, .int .i64 U.y]) ∧ m = U.f.tab.length ∧ m ≤ d ∧ d ≤ 9223372036854775807 ∧ (q = none → m = 0 ∧ d = 0) ∧ EnsAt w' q U.f.tab ∧ Keeps NoBlock w w'
theorem FtPost.gone {w w' : World} {U : GFt} {y : Int} (hU : U = ⟨y, Ft.none⟩) (hk : Keeps NoBlock w w') : FtPost w U (.returned (.tuple #[.agg #[.int .u32 0, .slice none 0 0], .int .i64 y])) w' := by
  subst hU
  exact ⟨none, 0, 0, rfl, rfl, Nat.le_refl _, by decide, fun _ => ⟨rfl, rfl⟩, TwosAt.nil _ _, hk⟩
end Go.Proofs.YtjeammmfdniokaaGreat

namespace Go.Proofs.YtjeammmfdniokaaGreat
open Go.RowKit

/-- A row of numbers of 32 bits that can be read. -/
def Row32 (w : World) (p : Option Addr) (l : List Nat) : Prop := ∀ i, i < l.length → ∃ a, p = some a ∧ w.cell? (a.add i) = some (.int .u32 (l.getD i 0 : Nat))
theorem Row32.keep {w w' : World} {p : Option Addr} {l : List Nat} (h : Row32 w p l) {S : Nat → Prop} (hk : Keeps S w w') (hs : ∀ k, k < w.heap.size → ¬ S k) : Row32 w' p l := fun i hi => by
  obtain ⟨a, rfl, hc⟩ := h i hi
  exact ⟨a, rfl, hk.cell hc (hs _ (ltOfCell hc))⟩
/-- A row of numbers of 32 bits of new memory. -/
def NewRow32 (w : World) (l : List Nat) (v : Value) (w' : World) : Prop :=
  ∃ (q : Option Addr) (m d : Nat), v = .slice q m d ∧ m = l.length ∧ m ≤ d ∧ d ≤ 9223372036854775807 ∧ (q = none → m = 0 ∧ d = 0) ∧ Row32 w' q l ∧ Keeps NoBlock w w'

structure FtPutOk : Prop where
  put : ∀ (u : Nat) (q : Option Addr) (n c : Nat) (l : List En) (w : World), u < 4294967296 → InE w q n c l → n ≤ 10000 →
    Calls Tryz.prog 83 #[ftV u q n c] w fun e w' => ∃ v, e = .returned (.tuple #[v, .int .i64 (checkFt ⟨u, l⟩)]) ∧ NewBytes w (putFt ⟨u, l⟩) v w'
end Go.Proofs.YtjeammmfdniokaaGreat

namespace Go.Proofs.YtjeammmfdniokaaGreat
open Go.RowKit

end Go.Proofs.YtjeammmfdniokaaGreat

/-
  The document's GetText: the next text, or what is wrong; where it stopped.
-/
import Derived.Test.YtldogkmmnamjbaaRecRef
namespace Go.Proofs.Ytldogkmmnamjbaa
open Go.RowKit

/-- What the document's GetText leaves. -/
def textOut (xs : List Int) (a : Int) (t : VT) : Value := .tuple #[rdr (xs.drop t.n) (a + t.n) t.e, .string (strOfNums t.t)]

theorem str_nil : (strOfNums [] : ByteArray) = ⟨#[]⟩ := rfl

end Go.Proofs.Ytldogkmmnamjbaa

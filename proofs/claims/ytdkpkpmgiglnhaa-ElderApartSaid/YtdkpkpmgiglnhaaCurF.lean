/-
  How a reading's End ends.
-/
import Derived.Test.YtdkpkpmgiglnhaaCurE
import Derived.Test.YtdkpkpmgiglnhaaVarGet
namespace Go.Proofs.Ytdkpkpmgiglnhaa
open Go.RowKit

end Go.Proofs.Ytdkpkpmgiglnhaa

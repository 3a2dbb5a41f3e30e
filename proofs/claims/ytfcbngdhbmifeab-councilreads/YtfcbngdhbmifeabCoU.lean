/- The program's: who joins, who leaves. -/
import Derived.Test.YtfcbngdhbmifeabCoT
import Derived.Test.YtfcbngdhbmifeabCoM
namespace Go.Proofs.Ytfcbngdhbmifeab
open Go.RowKit

end Go.Proofs.Ytfcbngdhbmifeab

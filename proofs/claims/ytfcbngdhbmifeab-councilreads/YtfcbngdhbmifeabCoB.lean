/- The document's counts, members and leaders. -/
import Derived.Test.YtfcbngdhbmifeabCoA
namespace Go.Proofs.Ytfcbngdhbmifeab
open Go.RowKit

end Go.Proofs.Ytfcbngdhbmifeab

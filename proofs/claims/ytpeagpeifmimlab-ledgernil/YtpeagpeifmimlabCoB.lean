/- The document's counts, members and leaders. -/
import Derived.Test.YtpeagpeifmimlabCoA
namespace Go.Proofs.Ytpeagpeifmimlab
open Go.RowKit

end Go.Proofs.Ytpeagpeifmimlab

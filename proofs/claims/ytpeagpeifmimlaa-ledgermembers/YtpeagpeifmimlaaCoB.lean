/- The document's counts, members and leaders. -/
import Derived.Test.YtpeagpeifmimlaaCoA
namespace Go.Proofs.Ytpeagpeifmimlaa
open Go.RowKit

end Go.Proofs.Ytpeagpeifmimlaa

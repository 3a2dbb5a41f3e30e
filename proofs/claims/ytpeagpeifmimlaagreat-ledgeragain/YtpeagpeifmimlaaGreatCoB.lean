/- The document's counts, members and leaders. -/
import Derived.Test.YtpeagpeifmimlaaGreatCoA
namespace Go.Proofs.YtpeagpeifmimlaaGreat
open Go.RowKit

end Go.Proofs.YtpeagpeifmimlaaGreat

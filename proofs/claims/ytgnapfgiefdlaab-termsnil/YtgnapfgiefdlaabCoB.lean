/- The document's counts, members and leaders. -/
import Derived.Test.YtgnapfgiefdlaabCoA
namespace Go.Proofs.Ytgnapfgiefdlaab
open Go.RowKit

end Go.Proofs.Ytgnapfgiefdlaab

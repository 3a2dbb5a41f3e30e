/- The document's members. -/
import Derived.Test.YtpeagpeifmimlabCoB
import Derived.Deep.QuietTactic
namespace Go.Proofs.Ytpeagpeifmimlab
open Go.RowKit

end Go.Proofs.Ytpeagpeifmimlab

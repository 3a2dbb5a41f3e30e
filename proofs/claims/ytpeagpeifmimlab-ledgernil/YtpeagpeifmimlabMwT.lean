/- The contracts of the document's writer: texts. -/
import Derived.Test.YtpeagpeifmimlabMwC
import Derived.Test.YtpeagpeifmimlabPkB
namespace Go.Proofs.Ytpeagpeifmimlab
open Go.RowKit

end Go.Proofs.Ytpeagpeifmimlab

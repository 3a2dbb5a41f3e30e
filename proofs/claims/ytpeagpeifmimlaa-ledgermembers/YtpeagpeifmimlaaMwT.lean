/- The contracts of the document's writer: texts. -/
import Derived.Test.YtpeagpeifmimlaaMwC
import Derived.Test.YtpeagpeifmimlaaPkB
namespace Go.Proofs.Ytpeagpeifmimlaa
open Go.RowKit

end Go.Proofs.Ytpeagpeifmimlaa

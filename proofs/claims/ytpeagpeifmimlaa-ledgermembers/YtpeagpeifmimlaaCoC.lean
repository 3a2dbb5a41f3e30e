/- The document's members. -/
import Derived.Test.YtpeagpeifmimlaaCoB
import Derived.Deep.QuietTactic
namespace Go.Proofs.Ytpeagpeifmimlaa
open Go.RowKit

end Go.Proofs.Ytpeagpeifmimlaa

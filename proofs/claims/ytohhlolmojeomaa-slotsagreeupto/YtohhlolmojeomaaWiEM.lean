/- The program's tests of signatures. -/
import Derived.Test.YtohhlolmojeomaaWiDM
namespace Go.Proofs.Ytohhlolmojeomaa
open Go.RowKit

end Go.Proofs.Ytohhlolmojeomaa

/- The program's tests of certificates and changes. -/
import Derived.Test.YtohhlolmojeomaaWiEM
import Derived.Test.YtohhlolmojeomaaKh1
import Derived.BigQuiet
namespace Go.Proofs.Ytohhlolmojeomaa
open Go.RowKit

end Go.Proofs.Ytohhlolmojeomaa

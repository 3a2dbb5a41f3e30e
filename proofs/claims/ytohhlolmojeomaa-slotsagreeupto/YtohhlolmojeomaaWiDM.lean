/- The program's small tests of a message's parts. -/
import Derived.Test.YtohhlolmojeomaaKe1
import Derived.Test.YtohhlolmojeomaaKl1
import Derived.Test.YtohhlolmojeomaaKd1
import Derived.Test.YtohhlolmojeomaaKh1
import Derived.Test.YtohhlolmojeomaaKi1
namespace Go.Proofs.Ytohhlolmojeomaa
open Go.RowKit

end Go.Proofs.Ytohhlolmojeomaa

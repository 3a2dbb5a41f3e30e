/- The program's counts. -/
import Derived.Test.YtpgfdnmlkaoigabCx1
namespace Go.Proofs.Ytpgfdnmlkaoigab
open Go.RowKit

end Go.Proofs.Ytpgfdnmlkaoigab

/- The contracts of the document's writer: texts. -/
import Derived.Test.YtpgfdnmlkaoigabMwC
import Derived.Test.YtpgfdnmlkaoigabPkB
namespace Go.Proofs.Ytpgfdnmlkaoigab
open Go.RowKit

end Go.Proofs.Ytpgfdnmlkaoigab

/- The program's: who joins, who leaves. -/
import Derived.Test.YtpgfdnmlkaoigabCoTM
import Derived.Test.YtpgfdnmlkaoigabCoMM
namespace Go.Proofs.Ytpgfdnmlkaoigab
open Go.RowKit

end Go.Proofs.Ytpgfdnmlkaoigab

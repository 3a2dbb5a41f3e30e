/- The program's council: what each call answers. -/
import Derived.Test.YtpgfdnmlkaoigabCoUM
import Derived.Test.YtpgfdnmlkaoigabCx1
import Derived.Test.YtpgfdnmlkaoigabCoNM
import Derived.Test.YtpgfdnmlkaoigabCoVM
namespace Go.Proofs.Ytpgfdnmlkaoigab
open Go.RowKit

end Go.Proofs.Ytpgfdnmlkaoigab

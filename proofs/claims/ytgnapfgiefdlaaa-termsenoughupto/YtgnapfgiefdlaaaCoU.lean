/- The program's: who joins, who leaves. -/
import Derived.Test.YtgnapfgiefdlaaaCoT
import Derived.Test.YtgnapfgiefdlaaaCoM
namespace Go.Proofs.Ytgnapfgiefdlaaa
open Go.RowKit

end Go.Proofs.Ytgnapfgiefdlaaa

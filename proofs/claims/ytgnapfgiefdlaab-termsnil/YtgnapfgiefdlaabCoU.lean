/- The program's: who joins, who leaves. -/
import Derived.Test.YtgnapfgiefdlaabCoT
import Derived.Test.YtgnapfgiefdlaabCoM
namespace Go.Proofs.Ytgnapfgiefdlaab
open Go.RowKit

end Go.Proofs.Ytgnapfgiefdlaab

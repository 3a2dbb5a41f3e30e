/- The document's members. -/
import Derived.Test.YtgnapfgiefdlaabCoB
import Derived.Deep.QuietTactic
namespace Go.Proofs.Ytgnapfgiefdlaab
open Go.RowKit

end Go.Proofs.Ytgnapfgiefdlaab

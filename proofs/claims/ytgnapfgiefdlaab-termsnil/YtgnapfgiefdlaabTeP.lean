/- The program's terms: what each call answers. -/
import Derived.Test.YtgnapfgiefdlaabTsD
import Derived.Test.YtgnapfgiefdlaabTsE
namespace Go.Proofs.Ytgnapfgiefdlaab
end Go.Proofs.Ytgnapfgiefdlaab

/- The program's terms: what each call answers. -/
import Derived.Test.YtgnapfgiefdlaaaTsD
import Derived.Test.YtgnapfgiefdlaaaTsE
namespace Go.Proofs.Ytgnapfgiefdlaaa
end Go.Proofs.Ytgnapfgiefdlaaa

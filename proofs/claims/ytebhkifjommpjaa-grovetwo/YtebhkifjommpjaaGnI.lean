/- Lists of numbers held against each other. -/
import Derived.Test.YtebhkifjommpjaaBaC
namespace Go.Proofs.Ytebhkifjommpjaa
open Go.RowKit

end Go.Proofs.Ytebhkifjommpjaa

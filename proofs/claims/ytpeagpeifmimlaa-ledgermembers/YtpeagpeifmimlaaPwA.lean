/- The program's writer, as the walks of its users see it: what lies in it, numbers, bits, texts put to it, its end. -/
import Derived.Test.YtpeagpeifmimlaaTxA
import Derived.Test.YtpeagpeifmimlaaPkB
namespace Go.Proofs.Ytpeagpeifmimlaa
open Go.RowKit

end Go.Proofs.Ytpeagpeifmimlaa

/- The contracts of the document's writer (layer 1's reference). -/
import Derived.Test.YtpeagpeifmimlaaMwA
import Derived.Maps.AppendAt
namespace Go.Proofs.Ytpeagpeifmimlaa
open Go.RowKit

section
variable {w : World} {c : Nat} {v : Value} {lim : Int} {l : List UInt8} {er : Int}
end

end Go.Proofs.Ytpeagpeifmimlaa

/- The document's text of a request. -/
import Derived.Test.YtpeagpeifmimlabDsC
import Derived.Test.YtpeagpeifmimlabTxA
namespace Go.Proofs.Ytpeagpeifmimlab
open Go.RowKit

theorem below_up {B C : Nat} {x y z : World} (h : Below B x y) (k : Below C y z) (hC : B ≤ C) (_hs : C ≤ y.heap.size) : Below B x z := h.trans (k.mono hC)
end Go.Proofs.Ytpeagpeifmimlab

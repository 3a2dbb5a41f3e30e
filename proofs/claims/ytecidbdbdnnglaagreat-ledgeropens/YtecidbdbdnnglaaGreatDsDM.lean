/- The document's text of a request. -/
import Derived.Test.YtecidbdbdnnglaaGreatDsCM
import Derived.Test.YtecidbdbdnnglaaGreatTxAM
namespace Go.Proofs.YtecidbdbdnnglaaGreat
open Go.RowKit

theorem below_up {B C : Nat} {x y z : World} (h : Below B x y) (k : Below C y z) (hC : B ≤ C) (_hs : C ≤ y.heap.size) : Below B x z := h.trans (k.mono hC)
end Go.Proofs.YtecidbdbdnnglaaGreat

/- The contracts of the document's writer: numbers, bits, texts, items. -/
import Derived.Test.YtpeagpeifmimlaaMwB
import Derived.Test.YtpeagpeifmimlaaPkB
namespace Go.Proofs.Ytpeagpeifmimlaa
open Go.RowKit

theorem cells_of_row {w : World} {g : Nat} {xs : List UInt8} (h : w.heap[g]? = some (.cells (bC xs).toArray 5 (0, 0))) : ∀ j u, (bC xs)[j]? = some u → w.cell? ⟨g, j, none⟩ = some u := by
  intro j u hj
  have hjl := (List.getElem?_eq_some_iff.1 hj).1
  rw [cell_of_blk h j (by simpa using hjl)]
  rw [← hj]
  simp [hjl]


end Go.Proofs.Ytpeagpeifmimlaa

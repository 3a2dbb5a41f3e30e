/- The document's: is a signature in the list? -/
import Derived.Test.YtgnapfgiefdlaabTeA
import Derived.Deep.QuietTactic
namespace Go.Proofs.Ytgnapfgiefdlaab
open Go.RowKit

theorem data_list (b : ByteArray) : b.toList = b.data.toList := ByteArray.toList_eq b
theorem SgP.new (w : World) (q : Int) (r : ByteArray) : (w.alloc (.cells #[.int .i64 q, .string r] 23)).heap[w.heap.size]? = some (.cells #[.int .i64 q, .string r] 23 (0, 0)) := heap_alloc_last w _
end Go.Proofs.Ytgnapfgiefdlaab

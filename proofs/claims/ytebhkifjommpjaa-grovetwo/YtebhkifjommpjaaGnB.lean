/- The document's digest, as a text. -/
import Derived.Test.YtebhkifjommpjaaGnA
import Derived.Test.YtebhkifjommpjaaShP
namespace Go.Proofs.Ytebhkifjommpjaa
open Go.RowKit

/-- A digest, as a text. -/
def shaS (z : ByteArray) : ByteArray := ⟨(shaB z.data.toList).toArray⟩
theorem shaS_size (z : ByteArray) : (shaS z).size = 32 := by rw [← data_len, shaS, mk_data, shaB_len]
theorem qsum_s (z : ByteArray) (hz : z.size ≤ 1099511627000) (u : World) : Calls Try.prog 36 #[.string z] u fun e w' => e = .returned (.string (shaS z)) ∧ Below u.heap.size u w' := qsum_any z hz u
end Go.Proofs.Ytebhkifjommpjaa

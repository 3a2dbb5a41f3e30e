/- The contract of package pack's reader of texts. -/
import Derived.Test.YtpeagpeifmimlaaPkR
import Derived.Laws.IdiomStrings
namespace Go.Proofs.Ytpeagpeifmimlaa
open Go.RowKit

/-- A string's bytes as a slice, and back: the string. -/
theorem back_conv (w : World) (x : ByteArray) (cap : Nat) (fr : Nat × Nat) :
    (convert 99 9 (.slice (some ⟨w.heap.size, 0, none⟩) x.size cap)).run Try.prog (w.alloc (.cells (bytesRow x cap) 5 fr)).drew = .ok (.string x) (w.alloc (.cells (bytesRow x cap) 5 fr)).drew := by
  have h := run_convert_bytes_back (P := Try.prog) (w.alloc (.cells (bytesRow x cap) 5 fr)).drew 99 9 5 ⟨w.heap.size, 0, none⟩ cap x.data.toList Try.underlying99 Try.underlying5 Try.underlying9 (fun j hj => by
    show (w.alloc (.cells (bytesRow x cap) 5 fr)).cell? ((⟨w.heap.size, 0, none⟩ : Addr).add j) = _
    rw [Addr.add_lit, Nat.zero_add, World.cell?_alloc_mark, bytesRow_at x _ j (by simpa using hj)]
    simp)
  simpa using h

/-- Can a text be read next? -/
def tOK (s : ByteArray) (sh : Bool) : Bool := hasB s sh 2 && decide (2 + val (s.data.toList.take 2) ≤ s.size)
def tT (s : ByteArray) (sh : Bool) : ByteArray := if tOK s sh then s.extract 2 (2 + val (s.data.toList.take 2)) else ⟨#[]⟩
def tS (s : ByteArray) (sh : Bool) : ByteArray := if tOK s sh then s.extract (2 + val (s.data.toList.take 2)) s.size else s
def tB (s : ByteArray) (sh : Bool) : Bool := !tOK s sh

end Go.Proofs.Ytpeagpeifmimlaa

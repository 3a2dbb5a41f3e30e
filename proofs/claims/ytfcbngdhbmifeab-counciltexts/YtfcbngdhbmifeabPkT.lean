/- The contract of package pack's reader of texts. -/
import Derived.Test.YtfcbngdhbmifeabPkR
import Derived.Laws.IdiomStrings
namespace Go.Proofs.Ytfcbngdhbmifeab
open Go.RowKit

theorem take_at (b : Nat) (s : ByteArray) (sh : Bool) (n : Nat) (z : Int) (hz : z = n) (w : World) (h : RdAt w b s sh) (hn : n ≤ s.size) :
    Calls Try.prog 42 #[.pointer (some ⟨b, 0, none⟩), .int .i64 z] w fun e w' => e = .returned (.string (s.extract 0 n)) ∧ w' = w.setCell ⟨b, 0, none⟩ (.string (s.extract n s.size)) := by
  subst hz
  exact take_any b s sh n w h hn

/-- A string's bytes as a slice, and back: the string. -/
theorem back_conv (w : World) (x : ByteArray) (cap : Nat) (fr : Nat × Nat) :
    (convert 54 9 (.slice (some ⟨w.heap.size, 0, none⟩) x.size cap)).run Try.prog (w.alloc (.cells (bytesRow x cap) 5 fr)).drew = .ok (.string x) (w.alloc (.cells (bytesRow x cap) 5 fr)).drew := by
  have h := run_convert_bytes_back (P := Try.prog) (w.alloc (.cells (bytesRow x cap) 5 fr)).drew 54 9 5 ⟨w.heap.size, 0, none⟩ cap x.data.toList Try.underlying54 Try.underlying5 Try.underlying9 (fun j hj => by
    show (w.alloc (.cells (bytesRow x cap) 5 fr)).cell? ((⟨w.heap.size, 0, none⟩ : Addr).add j) = _
    rw [Addr.add_lit, Nat.zero_add, World.cell?_alloc_mark, bytesRow_at x _ j (by simpa using hj)]
    simp)
  simpa using h

/-- Can a text be read next? -/
def tOK (s : ByteArray) (sh : Bool) : Bool := hasB s sh 2 && decide (2 + val (s.data.toList.take 2) ≤ s.size)
def tT (s : ByteArray) (sh : Bool) : ByteArray := if tOK s sh then s.extract 2 (2 + val (s.data.toList.take 2)) else ⟨#[]⟩
def tS (s : ByteArray) (sh : Bool) : ByteArray := if tOK s sh then s.extract (2 + val (s.data.toList.take 2)) s.size else s
def tB (s : ByteArray) (sh : Bool) : Bool := !tOK s sh

end Go.Proofs.Ytfcbngdhbmifeab

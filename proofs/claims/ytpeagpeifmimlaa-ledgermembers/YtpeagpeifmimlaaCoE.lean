/- The document's leaders. -/
import Derived.Test.YtpeagpeifmimlaaCoD
namespace Go.Proofs.Ytpeagpeifmimlaa
open Go.RowKit

theorem right_mem {ep : Int} {l : List Int} (h : rightC ep l = true) : (0 ≤ ep ∧ ep ≤ 60) ∧ memB l = true := by
  obtain ⟨h1, h2⟩ := Bool.and_eq_true_iff.1 h
  exact ⟨of_decide_eq_true h1, h2⟩
theorem leadN_lt (l : List Int) (view : Int) (hl : 0 < l.length) : leadN l view < l.length ∧ view % (l.length : Int) = (leadN l view : Int) := by
  unfold leadN
  have h1 := Int.emod_nonneg view (show (l.length : Int) ≠ 0 by omega)
  have h2 := Int.emod_lt_of_pos view (show (0 : Int) < (l.length : Int) by omega)
  omega
/-- A struct of two cells, as laid. -/
theorem conf_cells (w : World) (ep s : Value) : (w.alloc (.cells #[ep, s] 24)).heap[w.heap.size]? = some (.cells [ep, s].toArray 24 (0, 0)) := heap_alloc_last w _
end Go.Proofs.Ytpeagpeifmimlaa

/- Texts held against each other. -/
import Derived.Test.YtnlmjclloaholaaMChecks
namespace Go.Proofs.Ytnlmjclloaholaa
open Go.RowKit

theorem tag_same (T : ByteArray) : (T.toList == T.toList) = true := by simp
theorem tag_ne (x T : ByteArray) (h : x.size ≠ T.size) : (x.toList == T.toList) = false := by
  rw [ByteArray.toList_eq, ByteArray.toList_eq, beq_eq_false_iff_ne]
  intro e
  exact h (by rw [← data_len, ← data_len, e])
theorem tag_more (T : ByteArray) : ((T ++ ⟨#[120]⟩ : ByteArray).toList == T.toList) = false := tag_ne _ _ (by
  rw [ByteArray.size_append]
  show T.size + 1 ≠ T.size
  omega)
theorem tag_less (T : ByteArray) (h : T.size = 8) : ((T.extract 0 7).toList == T.toList) = false := tag_ne _ _ (by
  rw [ByteArray.size_extract, h]
  decide)
end Go.Proofs.Ytnlmjclloaholaa

/- Lists of texts made by make, and filled. -/
import Derived.Test.YtebhkifjommpjaaBaC
namespace Go.Proofs.Ytebhkifjommpjaa
open Go.RowKit

/-- As far as k filled. -/
def upTo (l : List ByteArray) (n k : Nat) : List ByteArray := l.take k ++ List.replicate (n - k) ⟨#[]⟩
theorem upTo_len (l : List ByteArray) (n k : Nat) (h : l.length = n) (hk : k ≤ n) : (upTo l n k).length = n := by
  rw [upTo, List.length_append, List.length_take, List.length_replicate]; omega
theorem upTo_set (l : List ByteArray) (n k : Nat) (x : ByteArray) (h : l.length = n) (hk : k < n) (hx : l[k]? = some x) : (upTo l n k).set k x = upTo l n (k + 1) := by
  have e : (l.take k).length = k := by rw [List.length_take]; omega
  have e2 : n - k = (n - (k + 1)) + 1 := by omega
  unfold upTo
  rw [List.set_append_right _ _ (by rw [e]; exact Nat.le_refl _), e, Nat.sub_self, e2, List.replicate_succ, List.take_add_one, hx]
  simp
theorem upTo_all (l : List ByteArray) (n : Nat) (h : l.length = n) : upTo l n n = l := by
  rw [upTo, Nat.sub_self, List.replicate_zero, List.append_nil, List.take_of_length_le (by omega)]
theorem made_strs (l : List ByteArray) (n : Nat) : (madeCells #[.string ⟨#[]⟩] n).toList = sC (upTo l n 0) := by
  rw [toList_madeCells_one, upTo, List.take_zero, List.nil_append, sC, List.map_replicate]
  rfl
end Go.Proofs.Ytebhkifjommpjaa

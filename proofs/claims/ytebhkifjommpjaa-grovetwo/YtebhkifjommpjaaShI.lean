/- The digester in memory. -/
import Derived.Test.YtebhkifjommpjaaShH
namespace Go.Proofs.Ytebhkifjommpjaa
open Go.RowKit

/-- The digester's cells: the state, the block, how much of it is used, how many bytes came in all. -/
def dgC (S : St) (B : List UInt8) (k n : Nat) : List Value := uC S.list ++ (bC B ++ [.int .i64 (k : Int), .int .u64 (n : Int)])
theorem dg_len (S : St) (B : List UInt8) (k n : Nat) (hB : B.length = 64) : (dgC S B k n).length = 74 := by
  simp [dgC, uC_len, bC_len, list_len, hB]
theorem dg_state (S : St) (B : List UInt8) (k n : Nat) (j : Nat) (v : Value) (h : (uC S.list)[j]? = some v) : (dgC S B k n)[0 + j]? = some v := by
  have hj : j < (uC S.list).length := (List.getElem?_eq_some_iff.1 h).1
  rw [Nat.zero_add, dgC, List.getElem?_append_left hj, h]
theorem dg_block (S : St) (B : List UInt8) (k n : Nat) (j : Nat) (v : Value) (h : (bC B)[j]? = some v) : (dgC S B k n)[8 + j]? = some v := by
  have hj : j < (bC B).length := (List.getElem?_eq_some_iff.1 h).1
  have e : (uC S.list).length = 8 := by rw [uC_len, list_len]
  rw [dgC, List.getElem?_append_right (by omega), e, show 8 + j - 8 = j by omega, List.getElem?_append_left hj, h]
theorem dg_used (S : St) (B : List UInt8) (k n : Nat) (hB : B.length = 64) : (dgC S B k n)[72]? = some (.int .i64 (k : Int)) := by
  have e : (uC S.list).length = 8 := by rw [uC_len, list_len]
  rw [dgC, List.getElem?_append_right (by omega), e, List.getElem?_append_right (by rw [bC_len]; omega), bC_len, hB]
  rfl
theorem dg_total (S : St) (B : List UInt8) (k n : Nat) (hB : B.length = 64) : (dgC S B k n)[73]? = some (.int .u64 (n : Int)) := by
  have e : (uC S.list).length = 8 := by rw [uC_len, list_len]
  rw [dgC, List.getElem?_append_right (by omega), e, List.getElem?_append_right (by rw [bC_len]; omega), bC_len, hB]
  rfl
theorem dg_set_used (S : St) (B : List UInt8) (k n k' : Nat) (hB : B.length = 64) : (dgC S B k n).set 72 (.int .i64 (k' : Int)) = dgC S B k' n := by
  have e : (uC S.list).length = 8 := by rw [uC_len, list_len]
  rw [dgC, List.set_append_right _ _ (by omega), e, List.set_append_right _ _ (by rw [bC_len]; omega), bC_len, hB]
  rfl
theorem dg_set_total (S : St) (B : List UInt8) (k n n' : Nat) (hB : B.length = 64) : (dgC S B k n).set 73 (.int .u64 (n' : Int)) = dgC S B k n' := by
  have e : (uC S.list).length = 8 := by rw [uC_len, list_len]
  rw [dgC, List.set_append_right _ _ (by omega), e, List.set_append_right _ _ (by rw [bC_len]; omega), bC_len, hB]
  rfl
theorem dg_put (S S' : St) (B : List UInt8) (k n : Nat) : splice (dgC S B k n) 0 (uC S'.list) = dgC S' B k n := by
  have e : (uC S.list).length = 8 := by rw [uC_len, list_len]
  have e' : (uC S'.list).length = 8 := by rw [uC_len, list_len]
  rw [splice, List.take_zero, List.nil_append, e', dgC, Nat.zero_add, ← e, List.drop_left]
  rfl
theorem dg_copy (S : St) (B : List UInt8) (k n j : Nat) (xs : List UInt8) (hB : B.length = 64) (h : j + xs.length ≤ 64) : splice (dgC S B k n) (8 + j) (bC xs) = dgC S (splice B j xs) k n := by
  have e : (uC S.list).length = 8 := by rw [uC_len, list_len]
  unfold splice dgC
  rw [List.take_append, List.drop_append, e, List.take_of_length_le (by rw [e]; omega), List.drop_eq_nil_of_le (by rw [e]; omega), List.nil_append, bC_len]
  rw [show 8 + j - 8 = j by omega, show 8 + j + xs.length - 8 = j + xs.length by omega]
  rw [List.take_append_of_le_length (by rw [bC_len]; omega), List.drop_append_of_le_length (by rw [bC_len]; omega)]
  simp [bC, List.map_take, List.map_drop]
theorem splice_take (B xs : List UInt8) (j : Nat) (h : j + xs.length ≤ B.length) : (splice B j xs).take (j + xs.length) = B.take j ++ xs := by
  unfold splice
  rw [← List.append_assoc, List.take_append_of_le_length (by simp; omega), List.take_of_length_le (by simp; omega)]

theorem arr_set (L : List Value) (j : Nat) (v : Value) : L.toArray.setIfInBounds j v = (L.set j v).toArray := by simp

/-- A digester at block b that has been given the bytes m. -/
structure Dig (w : World) (b : Nat) (S : St) (B : List UInt8) (k : Nat) (d m : List UInt8) : Prop where
  blk : w.heap[b]? = some (.cells (dgC S B k m.length).toArray 86 (0, 0))
  len : B.length = 64
  lt : k < 64
  st : S = hashB .start d
  whole : ∃ q, d.length = 64 * q
  all : d ++ B.take k = m

section
variable {P : Program} {o : Oper} {a : Act} {w : World} {K : Act → World → Prop} {Q : Exit → Act → World → Prop} {ops : Array Oper} {E : Prop}
end

end Go.Proofs.Ytebhkifjommpjaa

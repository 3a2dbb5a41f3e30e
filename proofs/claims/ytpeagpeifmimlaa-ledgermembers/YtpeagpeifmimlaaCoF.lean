/- The document's: who joins, who leaves. -/
import Derived.Test.YtpeagpeifmimlaaCoE
namespace Go.Proofs.Ytpeagpeifmimlaa
open Go.RowKit

/-- The members with id, so far. -/
def joinTo (l : List Int) (id : Int) : Nat → List Int
  | 0 => []
  | j + 1 => joinTo l id j ++ (if (j : Int) = id ∨ (j : Int) ∈ l then [(j : Int)] else [])
theorem joinTo_yes (l : List Int) (id : Int) (j : Nat) (h : (j : Int) = id ∨ (j : Int) ∈ l) : joinTo l id (j + 1) = joinTo l id j ++ [(j : Int)] := by rw [joinTo, if_pos h]
theorem joinTo_no (l : List Int) (id : Int) (j : Nat) (h : ¬ ((j : Int) = id ∨ (j : Int) ∈ l)) : joinTo l id (j + 1) = joinTo l id j := by rw [joinTo, if_neg h, List.append_nil]
theorem joinTo_len (l : List Int) (id : Int) : ∀ j, (joinTo l id j).length ≤ j
  | 0 => Nat.le_refl _
  | j + 1 => by
    have := joinTo_len l id j
    rw [joinTo, List.length_append]
    split <;> simp <;> omega
def joinE (l : List Int) (id : Int) : Int := if ¬ (memB l = true ∧ 0 ≤ id ∧ id < 16) then 1 else if hasM l id = true then 7 else if 10 ≤ l.length then 10 else 0
def joinR (l : List Int) (id : Int) : List Int := if joinE l id = 0 then joinTo l id 16 else []
/-- The members without id. -/
def leaveF (l : List Int) (id : Int) : List Int := l.filter fun z => decide (z ≠ id)
def leaveE (l : List Int) (id : Int) : Int := if ¬ (memB l = true ∧ 0 ≤ id ∧ id < 16) then 1 else if hasM l id = false then 8 else if l.length ≤ 4 then 9 else 0
def leaveR (l : List Int) (id : Int) : List Int := if leaveE l id = 0 then leaveF l id else []
theorem leave_snoc (l : List Int) (id : Int) (j : Nat) (hj : j < l.length) :
    (l.getD j 0 ≠ id → leaveF (l.take (j + 1)) id = (leaveF (l.take j) id) ++ [l.getD j 0]) ∧
    (l.getD j 0 = id → leaveF (l.take (j + 1)) id = leaveF (l.take j) id) := by
  unfold leaveF
  rw [List.take_add_one, getD_some hj, List.filter_append]
  constructor
  · intro h
    rw [List.getD_eq_getElem?_getD] at h
    congr 1
    simp [h]
  · intro h
    rw [List.getD_eq_getElem?_getD] at h
    simp [h]

end Go.Proofs.Ytpeagpeifmimlaa

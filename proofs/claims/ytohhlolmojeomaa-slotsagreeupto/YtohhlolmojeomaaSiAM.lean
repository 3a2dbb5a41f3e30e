/- The document's SameInts, of any two lists. -/
import Derived.Test.YtohhlolmojeomaaKb1
namespace Go.Proofs.Ytohhlolmojeomaa
open Go.RowKit

theorem take_grow {α : Type} {l1 l2 : List α} {j : Nat} {s : α} (h : l1.take j = l2.take j) (h1 : l1[j]? = some s) (h2 : l2[j]? = some s) : l1.take (j + 1) = l2.take (j + 1) := by
  obtain ⟨hj1, e1⟩ := List.getElem?_eq_some_iff.1 h1
  obtain ⟨hj2, e2⟩ := List.getElem?_eq_some_iff.1 h2
  rw [List.take_succ_eq_append_getElem hj1, List.take_succ_eq_append_getElem hj2, h, e1, e2]
theorem ne_of_at {α : Type} {l1 l2 : List α} {j : Nat} {s t : α} (h1 : l1[j]? = some s) (h2 : l2[j]? = some t) (h : s ≠ t) : l1 ≠ l2 := fun e => by
  rw [e, h2] at h1
  cases h1
  exact h rfl
end Go.Proofs.Ytohhlolmojeomaa

/- The document's: what can be made out of what was seen. -/
import Derived.Test.YtgnapfgiefdlaabTeB
import Derived.Test.YtgnapfgiefdlaabCoD
namespace Go.Proofs.Ytgnapfgiefdlaab
open Go.RowKit

/-- Each is by one of the bad, or stands in the list. -/
def derivA (l : List (Int × ByteArray)) (bad : List Int) (p : Int × ByteArray) : Bool := hasM bad p.1 || stands l p
def derivB (l : List (Int × ByteArray)) (bad : List Int) (ss : List (Int × ByteArray)) : Bool := ss.all (derivA l bad)
theorem deriv_snoc {l : List (Int × ByteArray)} {bad : List Int} {ss : List (Int × ByteArray)} {j : Nat} (hj : j < ss.length) (h : derivB l bad (ss.take j) = true) (hx : derivA l bad (idOf ss j, rtOf ss j) = true) : derivB l bad (ss.take (j + 1)) = true := by
  rw [derivB] at h ⊢
  rw [List.take_add_one, getP_some hj, List.all_append, h]
  simp [hx]
theorem deriv_no {l : List (Int × ByteArray)} {bad : List Int} {ss : List (Int × ByteArray)} {j : Nat} (hj : j < ss.length) (hx : derivA l bad (idOf ss j, rtOf ss j) = false) : derivB l bad ss = false := by
  cases e : derivB l bad ss with
  | false => rfl
  | true =>
    rw [derivB, List.all_eq_true] at e
    rw [e _ (List.mem_of_getElem? (getP_some hj))] at hx
    cases hx
end Go.Proofs.Ytgnapfgiefdlaab

/- Signatures as pairs. No walk here. -/
import Derived.Test.YtgnapfgiefdlaaaPaA
namespace Go.Proofs.Ytgnapfgiefdlaaa
open Go.RowKit

theorem bytes_eq {a b : ByteArray} (h : a.data.toList = b.data.toList) : a = b := by
  apply ByteArray.ext
  exact Array.toList_inj.1 h
def eqP (p q : Int × ByteArray) : Bool := decide (p.1 = q.1) && decide (p.2.data.toList = q.2.data.toList)
theorem eqP_iff (p q : Int × ByteArray) : eqP p q = true ↔ p = q := by
  unfold eqP
  rw [Bool.and_eq_true_iff, decide_eq_true_iff, decide_eq_true_iff]
  constructor
  · rintro ⟨h1, h2⟩
    exact Prod.ext h1 (bytes_eq h2)
  · rintro rfl
    exact ⟨rfl, rfl⟩
def stands (l : List (Int × ByteArray)) (p : Int × ByteArray) : Bool := l.any (eqP p)
theorem stands_iff (l : List (Int × ByteArray)) (p : Int × ByteArray) : stands l p = true ↔ p ∈ l := by
  unfold stands
  rw [List.any_eq_true]
  constructor
  · rintro ⟨q, hq, h⟩
    rw [(eqP_iff p q).1 h]
    exact hq
  · intro h
    exact ⟨p, h, (eqP_iff p p).2 rfl⟩
theorem stands_no {l : List (Int × ByteArray)} {p : Int × ByteArray} (h : p ∉ l) : stands l p = false := by
  cases e : stands l p with
  | false => rfl
  | true => exact absurd ((stands_iff l p).1 e) h
theorem stands_snoc {l : List (Int × ByteArray)} {p : Int × ByteArray} {j : Nat} (h : p ∉ l.take j) (hx : (idOf l j, rtOf l j) ≠ p) (hj : j < l.length) : p ∉ l.take (j + 1) := by
  rw [List.take_add_one, getP_some hj]
  intro hm
  rcases List.mem_append.1 hm with h1 | h1
  · exact h h1
  · exact hx (List.mem_singleton.1 h1).symm
theorem stands_at {l : List (Int × ByteArray)} {p : Int × ByteArray} {j : Nat} (hx : (idOf l j, rtOf l j) = p) (hj : j < l.length) : p ∈ l := by
  rw [← hx]
  exact List.mem_of_getElem? (getP_some hj)
end Go.Proofs.Ytgnapfgiefdlaaa

/- Who signed a text, gathered. No walk here. -/
import Derived.Test.YtgnapfgiefdlaabTeA
import Derived.Test.YtgnapfgiefdlaabCoI
namespace Go.Proofs.Ytgnapfgiefdlaab
open Go.RowKit

/-- Numbers with one text. -/
def gP (t : ByteArray) (zs : List Int) : List (Int × ByteArray) := zs.map fun z => (z, t)
theorem gP_len (t : ByteArray) (zs : List Int) : (gP t zs).length = zs.length := by simp [gP]
theorem gP_app (t : ByteArray) (a b : List Int) : gP t (a ++ b) = gP t a ++ gP t b := by simp [gP]
theorem gP_mem (t : ByteArray) (zs : List Int) (z : Int) : (z, t) ∈ gP t zs ↔ z ∈ zs := by
  unfold gP
  rw [List.mem_map]
  constructor
  · rintro ⟨y, hy, h⟩
    have e : y = z := congrArg Prod.fst h
    rw [← e]
    exact hy
  · intro h
    exact ⟨z, h, rfl⟩
theorem gP_stands (t : ByteArray) (zs : List Int) (z : Int) : stands (gP t zs) (z, t) = hasM zs z := by
  by_cases h : z ∈ zs
  · rw [(stands_iff _ _).2 ((gP_mem t zs z).2 h)]
    exact (decide_eq_true h).symm
  · rw [stands_no (fun hm => h ((gP_mem t zs z).1 hm))]
    exact (decide_eq_false h).symm
/-- The members whose signature is there, each once. -/
def gOut (l : List Int) (t : ByteArray) (ss : List (Int × ByteArray)) : Nat → List Int
  | 0 => []
  | j + 1 => gOut l t ss j ++ (if stands ss (l.getD j 0, t) = true ∧ hasM (gOut l t ss j) (l.getD j 0) = false then [l.getD j 0] else [])
theorem gOut_yes {l : List Int} {t : ByteArray} {ss : List (Int × ByteArray)} {j : Nat} (h1 : stands ss (l.getD j 0, t) = true) (h2 : hasM (gOut l t ss j) (l.getD j 0) = false) : gOut l t ss (j + 1) = gOut l t ss j ++ [l.getD j 0] := by rw [gOut, if_pos ⟨h1, h2⟩]
theorem gOut_no {l : List Int} {t : ByteArray} {ss : List (Int × ByteArray)} {j : Nat} (h : ¬ (stands ss (l.getD j 0, t) = true ∧ hasM (gOut l t ss j) (l.getD j 0) = false)) : gOut l t ss (j + 1) = gOut l t ss j := by rw [gOut, if_neg h, List.append_nil]
theorem gOut_len (l : List Int) (t : ByteArray) (ss : List (Int × ByteArray)) : ∀ j, (gOut l t ss j).length ≤ j
  | 0 => Nat.le_refl _
  | j + 1 => by
    have := gOut_len l t ss j
    rw [gOut, List.length_append]
    split <;> simp <;> omega
theorem gOut_nodup (l : List Int) (t : ByteArray) (ss : List (Int × ByteArray)) : ∀ j, (gOut l t ss j).Nodup
  | 0 => List.Pairwise.nil
  | j + 1 => by
    rw [gOut]
    split
    · next h =>
      refine List.nodup_append.2 ⟨gOut_nodup l t ss j, by simp, fun x hx y hy => ?_⟩
      rw [List.mem_singleton.1 hy]
      intro e
      rw [e] at hx
      exact of_decide_eq_false h.2 hx
    · rw [List.append_nil]
      exact gOut_nodup l t ss j
theorem gOut_mem (l : List Int) (t : ByteArray) (ss : List (Int × ByteArray)) (z : Int) : ∀ j, j ≤ l.length → (z ∈ gOut l t ss j ↔ z ∈ l.take j ∧ (z, t) ∈ ss)
  | 0, _ => by simp [gOut]
  | j + 1, hj => by
    have ih := gOut_mem l t ss z j (by omega)
    have hl : l.getD j 0 = l[j]'(by omega) := getD_get l j (by omega)
    rw [List.take_add_one, List.getElem?_eq_getElem (show j < l.length by omega)]
    by_cases hc : stands ss (l.getD j 0, t) = true ∧ hasM (gOut l t ss j) (l.getD j 0) = false
    · rw [gOut_yes hc.1 hc.2, List.mem_append, List.mem_append, ih, hl]
      constructor
      · rintro (h | h)
        · exact ⟨.inl h.1, h.2⟩
        · have e := List.mem_singleton.1 h
          refine ⟨.inr (by simp [e]), ?_⟩
          rw [e, ← hl]
          exact (stands_iff _ _).1 hc.1
      · rintro ⟨h | h, h2⟩
        · exact .inl ⟨h, h2⟩
        · exact .inr (by simpa using h)
    · rw [gOut_no hc, List.mem_append, ih]
      constructor
      · rintro ⟨h, h2⟩
        exact ⟨.inl h, h2⟩
      · rintro ⟨h | h, h2⟩
        · exact ⟨h, h2⟩
        · have e : z = l.getD j 0 := by rw [hl]; simpa using h
          have hs : stands ss (l.getD j 0, t) = true := (stands_iff _ _).2 (by rw [← e]; exact h2)
          have hh : hasM (gOut l t ss j) (l.getD j 0) = true := by
            cases e2 : hasM (gOut l t ss j) (l.getD j 0) with
            | true => rfl
            | false => exact absurd ⟨hs, e2⟩ hc
          have := of_decide_eq_true hh
          rw [← e] at this
          exact ih.1 this
/-- A list of different ones is no longer than a list that has them all. -/
theorem nodup_len {α : Type} [DecidableEq α] : ∀ (a b : List α), a.Nodup → (∀ x, x ∈ a → x ∈ b) → a.length ≤ b.length
  | [], _, _, _ => Nat.zero_le _
  | x :: a, b, h1, h2 => by
    have hx := h2 x (List.mem_cons_self ..)
    have h3 := List.nodup_cons.1 h1
    have := nodup_len a (b.erase x) h3.2 (fun y hy => (List.mem_erase_of_ne (a := y) (b := x) (fun e => h3.1 (by rw [← e]; exact hy))).2 (h2 y (List.mem_cons_of_mem _ hy)))
    rw [List.length_erase_of_mem hx] at this
    have := List.length_pos_of_mem hx
    rw [List.length_cons]
    omega
theorem gP_nodup (t : ByteArray) {zs : List Int} (h : zs.Nodup) : (gP t zs).Nodup := List.pairwise_map.2 (h.imp (fun hab e => hab (congrArg Prod.fst e)))
theorem gOut_le (l : List Int) (t : ByteArray) (ss : List (Int × ByteArray)) (j : Nat) (hj : j ≤ l.length) : (gOut l t ss j).length ≤ ss.length := by
  rw [← gP_len t]
  refine nodup_len _ _ (gP_nodup t (gOut_nodup l t ss j)) (fun x hx => ?_)
  obtain ⟨z, hz, rfl⟩ := List.mem_map.1 hx
  exact ((gOut_mem l t ss z j hj).1 hz).2
/-- .. rising. -/
def gathL (l : List Int) (t : ByteArray) (ss : List (Int × ByteArray)) : List Int := (gOut l t ss l.length).mergeSort (fun a b => decide (a ≤ b))
theorem gathL_mem (l : List Int) (t : ByteArray) (ss : List (Int × ByteArray)) (z : Int) : z ∈ gathL l t ss ↔ z ∈ l ∧ (z, t) ∈ ss := by
  rw [gathL, List.mem_mergeSort, gOut_mem l t ss z l.length (Nat.le_refl _), List.take_length]
theorem gathL_inc (l : List Int) (t : ByteArray) (ss : List (Int × ByteArray)) : Inc (gathL l t ss) := by
  have h1 : (gathL l t ss).Pairwise (fun a b => decide (a ≤ b) = true) := List.pairwise_mergeSort (fun a b c h1 h2 => by simp at *; omega) (fun a b => by simp; omega) _
  have h2 : (gathL l t ss).Nodup := (List.mergeSort_perm _ _).nodup_iff.2 (gOut_nodup l t ss _)
  exact (List.pairwise_and_iff.2 ⟨h1, h2⟩).imp (fun {a b} h => by have := of_decide_eq_true h.1; have := h.2; omega)
theorem gathL_eq {l : List Int} {t : ByteArray} {ss : List (Int × ByteArray)} {S : List Int} (h1 : Inc S) (h2 : ∀ z, z ∈ S ↔ z ∈ gOut l t ss l.length) : S = gathL l t ss :=
  inc_eq _ _ h1 (gathL_inc l t ss) (fun z => by rw [h2, gOut_mem l t ss z l.length (Nat.le_refl _), List.take_length, gathL_mem])
end Go.Proofs.Ytgnapfgiefdlaab

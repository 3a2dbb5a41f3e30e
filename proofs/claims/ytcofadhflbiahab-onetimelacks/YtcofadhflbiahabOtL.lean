/- The last digits tell what the others lack. No walk here. -/
import Derived.Test.YtcofadhflbiahabOtA
namespace Go.Proofs.Ytcofadhflbiahab
open Go.RowKit

theorem le_sum : ∀ (X Y : List Nat), X.length = Y.length → (∀ i, X.getD i 0 ≤ Y.getD i 0) → X.sum ≤ Y.sum ∧ (Y.sum ≤ X.sum → X = Y)
  | [], [], _, _ => ⟨Nat.le_refl _, fun _ => rfl⟩
  | [], _ :: _, h, _ => by simp at h
  | _ :: _, [], h, _ => by simp at h
  | x :: X, y :: Y, h, hle => by
    have h0 : x ≤ y := by simpa using hle 0
    obtain ⟨h1, h2⟩ := le_sum X Y (by simpa using h) (fun i => by simpa using hle (i + 1))
    simp only [List.sum_cons]
    refine ⟨by omega, fun h3 => ?_⟩
    rw [h2 (by omega)]
    congr 1
    omega
theorem half_inj : ∀ (a b : List UInt8), a.length = b.length → halfN a = halfN b → a = b
  | [], [], _, _ => rfl
  | [], _ :: _, h, _ => by simp at h
  | _ :: _, [], h, _ => by simp at h
  | x :: a, y :: b, h, e => by
    have e' : (x.toNat / 16) :: (x.toNat % 16) :: halfN a = (y.toNat / 16) :: (y.toNat % 16) :: halfN b := e
    injection e' with e1 e2
    injection e2 with e3 e4
    rw [half_inj a b (by simpa using h) e4]
    congr 1
    apply UInt8.toNat_inj.1
    omega
theorem half_sum : ∀ l : List UInt8, (halfN l).sum = sumN l
  | [] => rfl
  | x :: l => by
    have e : halfN (x :: l) = (x.toNat / 16) :: (x.toNat % 16) :: halfN l := rfl
    have e2 : sumN (x :: l) = (x.toNat / 16 + x.toNat % 16) + sumN l := by simp [sumN]
    rw [e, e2, List.sum_cons, List.sum_cons, half_sum l]
    omega
theorem getD_left (l r : List Nat) (i : Nat) (h : i < l.length) : (l ++ r).getD i 0 = l.getD i 0 := by
  simp [List.getD, List.getElem?_append_left h]
theorem dg_half (l : List UInt8) (h : l.length = 16) (i : Nat) (hi : i < 32) : (dgN l).getD i 0 = (halfN l).getD i 0 := by
  rw [dgN]
  exact getD_left _ _ i (by rw [halfN_len, h]; omega)
theorem dg_last (l : List UInt8) (h : l.length = 16) : (dgN l).getD 32 0 = (480 - sumN l) / 256 ∧ (dgN l).getD 33 0 = (480 - sumN l) / 16 % 16 ∧ (dgN l).getD 34 0 = (480 - sumN l) % 16 := by
  have e : (halfN l).length = 32 := by rw [halfN_len, h]
  unfold dgN
  generalize halfN l = H at e
  refine ⟨?_, ?_, ?_⟩ <;> simp [List.getD, e]
theorem dg_tells (l : List UInt8) (h : l.length = 16) : 256 * (dgN l).getD 32 0 + 16 * (dgN l).getD 33 0 + (dgN l).getD 34 0 = 480 - sumN l := by
  obtain ⟨e1, e2, e3⟩ := dg_last l h
  rw [e1, e2, e3]
  omega
/-- The sum of the digits so far. -/
def upSum (D : List Nat) : Nat → Nat
  | 0 => 0
  | j + 1 => upSum D j + (if j < 32 then D.getD j 0 else 0)
theorem upSum_lo (D : List Nat) (j : Nat) (h : j < 32) : upSum D (j + 1) = upSum D j + D.getD j 0 := by rw [upSum, if_pos h]
theorem upSum_hi (D : List Nat) (j : Nat) (h : ¬ j < 32) : upSum D (j + 1) = upSum D j := by rw [upSum, if_neg h, Nat.add_zero]
theorem upSum_take (D : List Nat) : ∀ j, j ≤ 32 → j ≤ D.length → upSum D j = (D.take j).sum
  | 0, _, _ => by simp [upSum]
  | j + 1, h, hl => by
    rw [upSum_lo D j (by omega), upSum_take D j (by omega) (by omega), List.take_add_one, List.sum_append, List.getElem?_eq_getElem (by omega), List.getD_eq_getElem?_getD, List.getElem?_eq_getElem (by omega)]
    simp
theorem upSum_all (D : List Nat) (h : D.length = 35) : upSum D 35 = (D.take 32).sum := by
  rw [upSum_hi D 34 (by omega), upSum_hi D 33 (by omega), upSum_hi D 32 (by omega), upSum_take D 32 (by omega) (by omega)]
theorem upSum_le (D : List Nat) (h : ∀ i, D.getD i 0 < 16) : ∀ j, upSum D j ≤ 15 * j
  | 0 => Nat.le_refl _
  | j + 1 => by
    have h1 := upSum_le D h j
    have h2 := h j
    rw [upSum]
    split <;> omega
theorem dg_480 (l : List UInt8) (h : l.length = 16) : 256 * (dgN l).getD 32 0 + 16 * (dgN l).getD 33 0 + (dgN l).getD 34 0 + upSum (dgN l) 35 = 480 := by
  have hs := sumN_le l
  rw [dg_tells l h, upSum_all _ (dgN_len l h), dgN, List.take_append_of_le_length (by rw [halfN_len, h]; decide), List.take_of_length_le (by rw [halfN_len, h]; decide), half_sum]
  omega
/-- Is one of the first j of G below D's? -/
def belowN (D G : List Nat) : Nat → Bool
  | 0 => false
  | j + 1 => belowN D G j || decide (G.getD j 0 < D.getD j 0)
theorem belowN_false (D G : List Nat) : ∀ n, belowN D G n = false → ∀ i, i < n → D.getD i 0 ≤ G.getD i 0
  | 0, _, i, hi => by omega
  | n + 1, h, i, hi => by
    rw [belowN, Bool.or_eq_false_iff] at h
    by_cases e : i = n
    · subst e
      have := of_decide_eq_false h.2
      omega
    · exact belowN_false D G n h.1 i (by omega)
/-- No other digest's digits are all as great. -/
theorem dg_only (a b : List UInt8) (ha : a.length = 16) (hb : b.length = 16) (h : belowN (dgN a) (dgN b) 35 = false) : a = b := by
  have hle := belowN_false _ _ 35 h
  have ta := dg_tells a ha
  have tb := dg_tells b hb
  have h32 := hle 32 (by omega)
  have h33 := hle 33 (by omega)
  have h34 := hle 34 (by omega)
  have sa := sumN_le a
  have sb := sumN_le b
  have hh : ∀ i, (halfN a).getD i 0 ≤ (halfN b).getD i 0 := fun i => by
    by_cases hi : i < 32
    · rw [← dg_half a ha i hi, ← dg_half b hb i hi]
      exact hle i (by omega)
    · rw [List.getD_eq_getElem?_getD, List.getElem?_eq_none (by rw [halfN_len, ha]; omega)]
      exact Nat.zero_le _
  obtain ⟨h1, h2⟩ := le_sum (halfN a) (halfN b) (by rw [halfN_len, halfN_len, ha, hb]) hh
  rw [half_sum, half_sum] at h1 h2
  exact half_inj a b (by rw [ha, hb]) (h2 (by omega))
end Go.Proofs.Ytcofadhflbiahab

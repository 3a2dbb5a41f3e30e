/- What is derivable stays so. No walk here. -/
import Derived.Test.YtgnapfgiefdlaabTeD
import Derived.Test.YtgnapfgiefdlaabTeG
namespace Go.Proofs.Ytgnapfgiefdlaab
open Go.RowKit

theorem derivB_iff (L : List (Int × ByteArray)) (bad : List Int) (ss : List (Int × ByteArray)) : derivB L bad ss = true ↔ ∀ s, s ∈ ss → s.1 ∈ bad ∨ s ∈ L := by
  rw [derivB, List.all_eq_true]
  constructor
  · intro h s hs
    have := h s hs
    rw [derivA, Bool.or_eq_true] at this
    exact this.imp of_decide_eq_true (stands_iff _ _).1
  · intro h s hs
    rw [derivA, Bool.or_eq_true]
    exact (h s hs).imp (fun h => decide_eq_true h) (stands_iff _ _).2
theorem derivB_mono {L L' : List (Int × ByteArray)} {bad bad' : List Int} {ss : List (Int × ByteArray)} (h : derivB L bad ss = true) (h1 : ∀ x, x ∈ bad → x ∈ bad') (h2 : ∀ s, s ∈ L → s ∈ L') : derivB L' bad' ss = true :=
  (derivB_iff _ _ _).2 (fun s hs => ((derivB_iff _ _ _).1 h s hs).imp (h1 _) (h2 _))
theorem derivB_noted (L : List (Int × ByteArray)) (bad : List Int) (ss : List (Int × ByteArray)) : derivB (noted L ss) bad ss = true :=
  (derivB_iff _ _ _).2 (fun s hs => .inr ((noted_mem ss s L).2 (.inr hs)))
theorem derivB_none (L : List (Int × ByteArray)) (ss : List (Int × ByteArray)) : derivB L [] ss = ss.all (stands L) := by
  rw [Bool.eq_iff_iff, derivB_iff, List.all_eq_true]
  constructor
  · intro h s hs
    rcases h s hs with h | h
    · cases h
    · exact (stands_iff _ _).2 h
  · intro h s hs
    exact .inr ((stands_iff _ _).1 (h s hs))
end Go.Proofs.Ytgnapfgiefdlaab

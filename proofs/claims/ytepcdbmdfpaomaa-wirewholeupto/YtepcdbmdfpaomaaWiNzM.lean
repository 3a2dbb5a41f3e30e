/- Lists of a message in memory. -/
import Derived.Test.YtepcdbmdfpaomaaWiLM
namespace Go.Proofs.Ytepcdbmdfpaomaa
open Go.RowKit
theorem slice_pairs {F : Nat → Prop} {w : World} {a : Option Addr} {n c : Nat} {ps : List Sg} (h : Reads F w (.slice a n c) (dPairs ps)) : PairsIn w a ps := by
  obtain ⟨ad, cap, hv, hp, _⟩ := reads_pairs h
  cases hv
  exact hp
theorem slice_ints {F : Nat → Prop} {w : World} {a : Option Addr} {n c : Nat} {xs : List Int} (h : Reads F w (.slice a n c) (dInts xs)) : IntsIn w a xs := by
  obtain ⟨ad, cap, hv, hp, _⟩ := reads_ints h
  cases hv
  exact hp
end Go.Proofs.Ytepcdbmdfpaomaa

/- The document's proofs. -/
import Derived.Test.YtclfphffbfdimaaKg1
import Derived.Test.YtclfphffbfdimaaKb1
namespace Go.Proofs.Ytclfphffbfdimaa
open Go.RowKit

/-- The i-th signature is of this text, by a member, behind the one ahead of it. -/
def okT (l : List Int) (t : ByteArray) (ss : List (Int × ByteArray)) (i : Nat) : Bool := decide ((rtOf ss i).data.toList = t.data.toList) && (hasM l (idOf ss i) && (decide (i = 0) || decide (idOf ss (i - 1) < idOf ss i)))
def okTTo (l : List Int) (t : ByteArray) (ss : List (Int × ByteArray)) : Nat → Bool
  | 0 => true
  | j + 1 => okTTo l t ss j && okT l t ss j
theorem okTTo_succ (l : List Int) (t : ByteArray) (ss : List (Int × ByteArray)) (j : Nat) : okTTo l t ss (j + 1) = (okTTo l t ss j && okT l t ss j) := rfl
theorem okTTo_false (l : List Int) (t : ByteArray) (ss : List (Int × ByteArray)) (j n : Nat) (h : okTTo l t ss j = false) (hn : j ≤ n) : okTTo l t ss n = false := by
  induction n with
  | zero =>
    obtain rfl : j = 0 := by omega
    exact h
  | succ n ih =>
    by_cases e : j = n + 1
    · rw [← e]; exact h
    · rw [okTTo_succ, ih (by omega)]; rfl
def provesB (ep : Int) (l : List Int) (t : ByteArray) (ss : List (Int × ByteArray)) : Bool := okTTo l t ss ss.length && (rightC ep l && (decide (quoZ (l.length : Int) ≤ (ss.length : Int)) && decide (ss.length ≤ 16)))
end Go.Proofs.Ytclfphffbfdimaa

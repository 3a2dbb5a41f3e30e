/- The contracts of package pack's readers. -/
import Derived.Test.YtpeagpeifmimlaaPkM
namespace Go.Proofs.Ytpeagpeifmimlaa
open Go.RowKit

theorem ret_int {k : IntKind} {a b : Int} (h : a = b) : Ending.returned (.int k a) = .returned (.int k b) := by rw [h]

def endOf (s : ByteArray) (sh : Bool) : Int := if sh then 2 else if 0 < s.size then 5 else 0

/-- has: it says yes where there are enough bytes and it never fell short; else it falls short. -/
def hasB (s : ByteArray) (sh : Bool) (n : Int) : Bool := !sh && decide (n ≤ s.size)

/-- What is read next as a number of n bytes; what is left; whether it fell short. -/
def rN (s : ByteArray) (sh : Bool) (n : Nat) : Nat := if hasB s sh n then val (s.data.toList.take n) else 0
def rS (s : ByteArray) (sh : Bool) (n : Nat) : ByteArray := if hasB s sh n then s.extract n s.size else s
def rB (s : ByteArray) (sh : Bool) (n : Nat) : Bool := !hasB s sh n

theorem rN_lt (s : ByteArray) (sh : Bool) (n : Nat) : rN s sh n < 256 ^ n := by
  unfold rN
  split
  · have := val_lt (s.data.toList.take n)
    exact Nat.lt_of_lt_of_le this (Nat.pow_le_pow_right (by decide) (by simp; omega))
  · exact Nat.pow_pos (by decide)
theorem rN_i (s : ByteArray) (sh : Bool) (n : Nat) (hn : 256 ^ n ≤ 4294967296) : (rN s sh n : Int) ≤ 4294967295 := by
  have := rN_lt s sh n
  omega

end Go.Proofs.Ytpeagpeifmimlaa

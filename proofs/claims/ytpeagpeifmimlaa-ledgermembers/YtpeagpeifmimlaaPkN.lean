/- The contracts of package pack's writers of numbers. -/
import Derived.Test.YtpeagpeifmimlaaPkP
namespace Go.Proofs.Ytpeagpeifmimlaa
open Go.RowKit

theorem kept_none {b : Nat} {r : Option Nat} {w w' : World} (h : Kept b none w w') : Kept b r w w' := ⟨h.os, h.tape, h.output, h.size, fun k hk hb _ => h.block k hk hb (by simp)⟩

/-- Is the number one of so many bytes? -/
def inR (s : Nat) (n : Int) : Bool := decide (0 ≤ n ∧ n < ((256 ^ s : Nat) : Int))
/-- The error behind a number of so many bytes; the bytes. -/
def wE (lim : Int) (l : List UInt8) (er : Int) (s : Nat) (n : Int) : Int := adm lim l.length er (inR s n) s
def wL (lim : Int) (l : List UInt8) (er : Int) (s : Nat) (n : Int) : List UInt8 := if adm lim l.length er (inR s n) s = 0 then l ++ be s n.toNat else l

end Go.Proofs.Ytpeagpeifmimlaa

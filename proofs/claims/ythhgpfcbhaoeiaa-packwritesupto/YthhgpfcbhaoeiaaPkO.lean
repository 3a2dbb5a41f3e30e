/- A slice of items that came in, as the walks are told of it. -/
import Derived.Test.YthhgpfcbhaoeiaaPkI
namespace Go.Proofs.Ythhgpfcbhaoeiaa
open Go.RowKit

theorem Try.own : ownKnob Try.prog.godebug = none := by kernel_rfl
theorem Try.laidOut : laidOutB Try.prog = true := by kernel_rfl

/-- An item's numbers fit their kinds. -/
def It.fits (i : It) : Prop := -9223372036854775808 ≤ i.n ∧ i.n ≤ 9223372036854775807 ∧ i.q < 18446744073709551616 ∧ i.s.size ≤ maxLen

/-- The four cells of an item. -/
def ItemAt (w : World) (b o : Nat) (i : It) : Prop :=
  w.cell? ⟨b, o, none⟩ = some (.int .i64 i.k) ∧ w.cell? ⟨b, o + 1, none⟩ = some (.int .i64 i.n) ∧ w.cell? ⟨b, o + 2, none⟩ = some (.int .u64 (i.q : Int)) ∧ w.cell? ⟨b, o + 3, none⟩ = some (.string i.s)

/-- A slice of items that came in. -/
structure ItemsAt (w : World) (a : Option Addr) (len : Nat) (its : List It) : Prop where
  leng : its.length = len
  cells : 0 < len → ∃ b off, a = some ⟨b, off, none⟩ ∧ b < w.heap.size ∧ ∀ i it, its[i]? = some it → ItemAt w b (off + i * 4) it
  fits : ∀ it ∈ its, it.fits

/-- The same, where it lies somewhere. -/
structure ItemsIn (w : World) (b off len : Nat) (its : List It) : Prop where
  leng : its.length = len
  lt : b < w.heap.size
  cell : ∀ i it, its[i]? = some it → ItemAt w b (off + i * 4) it
  fits : ∀ it ∈ its, it.fits

theorem ItemAt.below {w w' : World} {b o : Nat} {i : It} (h : ItemAt w b o i) (hb : Below w.heap.size w w') (hlt : b < w.heap.size) : ItemAt w' b o i := by
  obtain ⟨h0, h1, h2, h3⟩ := h
  exact ⟨(hb.cell hlt).trans h0, (hb.cell hlt).trans h1, (hb.cell hlt).trans h2, (hb.cell hlt).trans h3⟩

end Go.Proofs.Ythhgpfcbhaoeiaa

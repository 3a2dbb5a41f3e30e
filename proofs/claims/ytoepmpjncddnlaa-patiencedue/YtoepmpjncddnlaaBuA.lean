/- All blocks but one as they were. -/
import Derived.Test.YtoepmpjncddnlaaBaB
import Derived.Test.YtoepmpjncddnlaaBaC
namespace Go.Proofs.Ytoepmpjncddnlaa
open Go.RowKit

/-- All blocks but b are as they were; the streams too. -/
structure But (b : Nat) (w w' : World) : Prop where
  os : w'.os = w.os
  tape : w'.tape = w.tape
  output : w'.output = w.output
  size : w.heap.size ≤ w'.heap.size
  block : ∀ k, k < w.heap.size → k ≠ b → w'.heap[k]? = w.heap[k]?
theorem But.refl (b : Nat) (w : World) : But b w w := ⟨rfl, rfl, rfl, Nat.le_refl _, fun _ _ _ => rfl⟩
theorem But.trans {b : Nat} {x y z : World} (h : But b x y) (k : But b y z) : But b x z :=
  ⟨k.os.trans h.os, k.tape.trans h.tape, k.output.trans h.output, Nat.le_trans h.size k.size, fun i hi hb => (k.block i (Nat.lt_of_lt_of_le hi h.size) hb).trans (h.block i hi hb)⟩
theorem But.of {b : Nat} {x y : World} (h : Below x.heap.size x y) : But b x y := ⟨h.os, h.tape, h.output, h.size, fun k hk _ => h.block k hk⟩
theorem But.setCell {b : Nat} {x y : World} (h : But b x y) (o : Nat) (u : Value) : But b x (y.setCell ⟨b, o, none⟩ u) :=
  ⟨h.os, h.tape, h.output, by have := h.size; simpa [World.setCell] using this, fun i hi hb => by rw [Below.heap_setCell _ _ _ _ hb, h.block i hi hb]⟩
theorem But.below {b B : Nat} {x y : World} (h : But b x y) (hB : B ≤ x.heap.size) (hb : B ≤ b) : Below B x y := ⟨h.os, h.tape, h.output, h.size, fun k hk => h.block k (by omega) (by omega)⟩
theorem But.cell {b : Nat} {x y : World} (h : But b x y) (g o : Nat) (hg : g < x.heap.size) (hne : g ≠ b) : y.cell? ⟨g, o, none⟩ = x.cell? ⟨g, o, none⟩ := by
  simp only [World.cell?, h.block g hg hne]
theorem But.strs {b : Nat} {x y : World} {a : Option Addr} {ss : List ByteArray} (h : But b x y) (hS : StrsIn x a ss) (hne : ∀ ad, a = some ad → ad.block ≠ b) : StrsIn y a ss := by
  rcases hS with k | ⟨g, off, ha, hg, hc⟩
  · exact .inl k
  · exact .inr ⟨g, off, ha, Nat.lt_of_lt_of_le hg h.size, fun j s hs => (h.cell g _ hg (hne _ ha)).trans (hc j s hs)⟩
end Go.Proofs.Ytoepmpjncddnlaa

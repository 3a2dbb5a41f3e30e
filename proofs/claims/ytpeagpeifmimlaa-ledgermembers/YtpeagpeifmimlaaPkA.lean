/- Words for the contracts of package pack: what a writer and a reader look like in memory, and what a call keeps. No walk here. -/
import Derived.Test.YtpeagpeifmimlaaBaA
import Derived.Deep.RegionHeld3
import Derived.Deep.AppendLies
import Derived.Deep.DrawnRows
namespace Go.Proofs.Ytpeagpeifmimlaa
open Go.RowKit

/-- All blocks but b and row r are as they were; the streams too. -/
structure Kept (b : Nat) (r : Option Nat) (w w' : World) : Prop where
  os : w'.os = w.os
  tape : w'.tape = w.tape
  output : w'.output = w.output
  size : w.heap.size ≤ w'.heap.size
  block : ∀ k, k < w.heap.size → k ≠ b → some k ≠ r → w'.heap[k]? = w.heap[k]?

theorem Kept.refl (b : Nat) (r : Option Nat) (w : World) : Kept b r w w := ⟨rfl, rfl, rfl, Nat.le_refl _, fun _ _ _ _ => rfl⟩
/-- Where the row has moved to a new block. -/
theorem Kept.trans {b : Nat} {r r' : Option Nat} {x y z : World} (h : Kept b r x y) (k : Kept b r' y z) (hr : r' = r ∨ ∃ g, r' = some g ∧ x.heap.size ≤ g) : Kept b r x z :=
  ⟨k.os.trans h.os, k.tape.trans h.tape, k.output.trans h.output, Nat.le_trans h.size k.size, fun i hi hb hne => by
    rw [k.block i (Nat.lt_of_lt_of_le hi h.size) hb (by rcases hr with rfl | ⟨g, rfl, hg⟩ <;> first | exact hne | (intro e; cases e; omega)), h.block i hi hb hne]⟩
theorem Kept.alloc {b : Nat} {r : Option Nat} {x y : World} (h : Kept b r x y) (o : Obj) : Kept b r x (y.alloc o) :=
  ⟨h.os, h.tape, h.output, by have := h.size; simp; omega, fun i hi hb hne => by rw [Below.heap_alloc _ _ _ (Nat.lt_of_lt_of_le hi h.size), h.block i hi hb hne]⟩
theorem Kept.drew {b : Nat} {r : Option Nat} {x y : World} (h : Kept b r x y) : Kept b r x y.drew := ⟨h.os, h.tape, h.output, h.size, h.block⟩
theorem Kept.setCell {b : Nat} {r : Option Nat} {x y : World} (h : Kept b r x y) (o : Nat) (u : Value) : Kept b r x (y.setCell ⟨b, o, none⟩ u) :=
  ⟨h.os, h.tape, h.output, by have := h.size; simpa [World.setCell] using this, fun i hi hb hne => by rw [Below.heap_setCell _ _ _ _ hb, h.block i hi hb hne]⟩
theorem Kept.grown {b : Nat} {r r' : Option Nat} {x y z : World} (h : Kept b r x y) (hg : y.grownBy z r') (hr : r' = r ∨ ∃ g, r' = some g ∧ x.heap.size ≤ g) : Kept b r x z :=
  h.trans ⟨hg.os, hg.tape, hg.output, hg.size, fun k hk _ hne => hg.block k hk hne⟩ hr
theorem Kept.below {b : Nat} {r : Option Nat} {x y : World} {B : Nat} (h : Kept b r x y) (hB : B ≤ x.heap.size) (hb : B ≤ b) (hr : ∀ g, r = some g → B ≤ g) : Below B x y :=
  ⟨h.os, h.tape, h.output, h.size, fun k hk => h.block k (by omega) (by omega) (fun e => by have := hr k e.symm; omega)⟩

theorem cell_of_blk {w : World} {b : Nat} {cs : Array Value} {t : TypeId} {fr : Nat × Nat} (h : w.heap[b]? = some (.cells cs t fr)) (j : Nat) (hj : j < cs.size) : w.cell? ⟨b, j, none⟩ = some cs[j] := by
  simp [World.cell?, h, hj]
theorem free_of_blk {w : World} {b : Nat} {cs : Array Value} {t : TypeId} (h : w.heap[b]? = some (.cells cs t (0, 0))) (j : Nat) : w.frozen? ⟨b, j, none⟩ = false := by
  simp [World.frozen?, h]

end Go.Proofs.Ytpeagpeifmimlaa

/- What all families of texts share: all blocks but a few stay. -/
import Derived.Test.YtpeagpeifmimlaaBaC
namespace Go.Proofs.Ytpeagpeifmimlaa
open Go.RowKit

/-- All blocks but those named stay. -/
structure Out (F : List Nat) (w w' : World) : Prop where
  os : w'.os = w.os
  tape : w'.tape = w.tape
  output : w'.output = w.output
  size : w.heap.size ≤ w'.heap.size
  block : ∀ k, k < w.heap.size → k ∉ F → w'.heap[k]? = w.heap[k]?
theorem Out.refl (F : List Nat) (w : World) : Out F w w := ⟨rfl, rfl, rfl, Nat.le_refl _, fun _ _ _ => rfl⟩
theorem Out.then {F : List Nat} {w w1 w2 : World} {m : Nat} (h : Out F w w1) (hg : w1.grownBy w2 (some m)) (hm : m ∈ F ∨ w.heap.size ≤ m) : Out F w w2 :=
  ⟨hg.os.trans h.os, hg.tape.trans h.tape, hg.output.trans h.output, Nat.le_trans h.size hg.size, fun k hk hF => (hg.block k (Nat.lt_of_lt_of_le hk h.size) (fun e => by
    cases e
    rcases hm with hm | hm
    · exact hF hm
    · omega)).trans (h.block k hk hF)⟩
theorem Out.alloc {F : List Nat} {w w1 : World} (h : Out F w w1) (o : Obj) : Out F w (w1.alloc o) :=
  ⟨h.os, h.tape, h.output, by have := h.size; simp; omega, fun k hk hF => (Below.heap_alloc _ _ _ (Nat.lt_of_lt_of_le hk h.size)).trans (h.block k hk hF)⟩
theorem Out.drew {F : List Nat} {w w1 : World} (h : Out F w w1) : Out F w w1.drew := ⟨h.os, h.tape, h.output, h.size, h.block⟩
theorem Out.setCell {F : List Nat} {w w1 : World} (h : Out F w w1) (g o : Nat) (v : Value) (hg : g ∈ F) : Out F w (w1.setCell ⟨g, o, none⟩ v) :=
  ⟨h.os, h.tape, h.output, by have := h.size; simpa using this, fun k hk hF => (Below.heap_setCell _ _ _ _ (show k ≠ g from fun e => hF (by rw [e]; exact hg))).trans (h.block k hk hF)⟩
theorem Out.below {F : List Nat} {w w' : World} {B : Nat} (h : Out F w w') (hB : B ≤ w.heap.size) (hF : ∀ b, b ∈ F → B ≤ b) : Below B w w' :=
  ⟨h.os, h.tape, h.output, h.size, fun k hk => h.block k (by omega) (fun hm => by have := hF k hm; omega)⟩
theorem Out.trans {F G : List Nat} {w w1 w2 : World} (h : Out F w w1) (k : Out G w1 w2) (hG : ∀ b, b ∈ G → b ∈ F ∨ w.heap.size ≤ b) : Out F w w2 :=
  ⟨k.os.trans h.os, k.tape.trans h.tape, k.output.trans h.output, Nat.le_trans h.size k.size, fun b hb hF => (k.block b (Nat.lt_of_lt_of_le hb h.size) (fun hm => by
    rcases hG b hm with h1 | h1
    · exact hF h1
    · omega)).trans (h.block b hb hF)⟩
theorem Out.of_below {F : List Nat} {w w' : World} (h : Below w.heap.size w w') : Out F w w' := ⟨h.os, h.tape, h.output, h.size, fun k hk _ => h.block k hk⟩
theorem Out.more {F : List Nat} {w w1 w2 : World} (h : Out F w w1) (k : Below w1.heap.size w1 w2) : Out F w w2 :=
  ⟨k.os.trans h.os, k.tape.trans h.tape, k.output.trans h.output, Nat.le_trans h.size k.size, fun b hb hF => (k.block b (Nat.lt_of_lt_of_le hb h.size)).trans (h.block b hb hF)⟩
theorem Out.low {F : List Nat} {B : Nat} {w0 w w' : World} (h : Below B w0 w) (k : Out F w w') (hB : B ≤ w0.heap.size) (hF : ∀ b, b ∈ F → B ≤ b) : Below B w0 w' :=
  h.trans (k.below (Nat.le_trans hB h.size) hF)
end Go.Proofs.Ytpeagpeifmimlaa

/- A row of steps in memory. -/
import Derived.Test.YtoepmpjncddnlaaPtB
namespace Go.Proofs.Ytoepmpjncddnlaa
open Go.RowKit

/-- Steps: pairs of numbers. -/
def TwosIn (w : World) (a : Option Addr) (xs : List (Int × Int)) : Prop := xs = [] ∨ ∃ g off, a = some ⟨g, off, none⟩ ∧ g < w.heap.size ∧ ∀ j s, xs[j]? = some s → w.cell? ⟨g, off + j * 2, none⟩ = some (.int .i64 s.1) ∧ w.cell? ⟨g, off + j * 2 + 1, none⟩ = some (.int .i64 s.2)
theorem TwosIn.at {w : World} {a : Option Addr} {xs : List (Int × Int)} (h : TwosIn w a xs) (j : Nat) (s : Int × Int) (hj : xs[j]? = some s) : ∃ g off, a = some ⟨g, off, none⟩ ∧ ∀ u : World, Below w.heap.size w u → u.cell? ⟨g, off + j * 2, none⟩ = some (.int .i64 s.1) ∧ u.cell? ⟨g, off + j * 2 + 1, none⟩ = some (.int .i64 s.2) := by
  rcases h with rfl | ⟨g, off, ha, hg, hc⟩
  · simp at hj
  · refine ⟨g, off, ha, fun u hu => ?_⟩
    have h1 := hc j s hj
    have hb : u.heap[g]? = w.heap[g]? := hu.block g hg
    simp only [World.cell?, hb]
    exact h1
/-- A step, boxed. -/
def OpAt (w : World) (b : Nat) (k n : Int) : Prop := w.heap[b]? = some (.cells #[.int .i64 k, .int .i64 n] 30 (0, 0))
theorem OpAt.cells {w : World} {b : Nat} {k n : Int} (h : OpAt w b k n) : w.cell? ⟨b, 0, none⟩ = some (.int .i64 k) ∧ w.cell? ⟨b, 1, none⟩ = some (.int .i64 n) := ⟨cell_at (L := [_, _]) h 0 _ rfl, cell_at (L := [_, _]) h 1 _ rfl⟩
theorem OpAt.keep {w w' : World} {b : Nat} {k n : Int} (h : OpAt w b k n) (hb : Below w.heap.size w w') : OpAt w' b k n := (hb.block b (lt_of_blk h)).trans h
theorem OpAt.but {w w' : World} {b c : Nat} {k n : Int} (h : OpAt w b k n) (hb : But c w w') (hne : b ≠ c) : OpAt w' b k n := (hb.block b (lt_of_blk h) hne).trans h
theorem wrap_up (x : Int) (h0 : -9223372036854775808 ≤ x) (h1 : x ≤ 9223372036854775807) : IntKind.i64.wrap x = x := by
  simp [IntKind.wrap, IntKind.bits, IntKind.signed]
  omega
/-- While steps come. -/
structure PwSt (w0 w : World) (b : Nat) (m e : Int) : Prop where
  tm : TmAt w b m e
  bel : Below w0.heap.size w0 w
  far : w0.heap.size ≤ b
  hm : 0 ≤ m ∧ m ≤ 504
theorem PwSt.but {w0 w w' : World} {b : Nat} {m e m2 e2 : Int} (h : PwSt w0 w b m e) (hb : But b w w') (ht : TmAt w' b m2 e2) (hm : 0 ≤ m2 ∧ m2 ≤ 504) : PwSt w0 w' b m2 e2 := ⟨ht, h.bel.trans (hb.below h.bel.size h.far), h.far, hm⟩
theorem md_nat (k : Int) (q : Nat) (h0 : 0 < q) (h1 : q ≤ 4611686018427387904) : ∃ F : Nat, wrap64 ((IntKind.u64.wrap k).tmod (q : Int)) = (F : Int) ∧ F < q := by
  have e1 : IntKind.u64.wrap k = k % 18446744073709551616 := by simp [IntKind.wrap, IntKind.bits, IntKind.signed]
  have e2 : (k % 18446744073709551616).tmod (q : Int) = k % 18446744073709551616 % (q : Int) := Int.tmod_eq_emod_of_nonneg (by omega)
  rw [e1, e2]
  have h2 : 0 ≤ k % 18446744073709551616 % (q : Int) := Int.emod_nonneg _ (by omega)
  have h3 : k % 18446744073709551616 % (q : Int) < (q : Int) := Int.emod_lt_of_pos _ (by omega)
  refine ⟨(k % 18446744073709551616 % (q : Int)).toNat, ?_, by omega⟩
  unfold wrap64
  omega
end Go.Proofs.Ytoepmpjncddnlaa

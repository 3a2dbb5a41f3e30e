/- The document's lineage: which link is good behind which configuration. -/
import Derived.Test.YtclfphffbfdimaaTeCM
import Derived.Test.YtclfphffbfdimaaKb1
import Derived.Test.YtclfphffbfdimaaKc1
namespace Go.Proofs.Ytclfphffbfdimaa
open Go.RowKit

/-- Which link is good behind which configuration. -/
def validE (ep : Int) (l : List Int) (e2 : Int) (l2 : List Int) (ss : List (Int × ByteArray)) : Int :=
  if rightC ep l = false then 1 else if rightC e2 l2 = false then 1 else if e2 ≠ ep + 1 then 12 else if provesB ep l (textC e2 l2) ss = false then 15 else 0
/-- A link at block b. -/
def LnAt (w : World) (b : Nat) (e : Int) (vm vs : Value) : Prop := w.heap[b]? = some (.cells [.int .i64 e, vm, vs].toArray 49 (0, 0))
theorem LnAt.lt {w : World} {b : Nat} {e : Int} {vm vs : Value} (h : LnAt w b e vm vs) : b < w.heap.size := lt_of_blk h
theorem LnAt.keep {w w' : World} {b : Nat} {e : Int} {vm vs : Value} (h : LnAt w b e vm vs) (hb : Below w.heap.size w w') : LnAt w' b e vm vs := (hb.block b h.lt).trans h
theorem LnAt.cells {w : World} {b : Nat} {e : Int} {vm vs : Value} (h : LnAt w b e vm vs) : w.cell? ⟨b, 0, none⟩ = some (.int .i64 e) ∧ w.cell? ⟨b, 1, none⟩ = some vm ∧ w.cell? ⟨b, 2, none⟩ = some vs :=
  ⟨cell_at h 0 _ rfl, cell_at h 1 _ rfl, cell_at h 2 _ rfl⟩
/-- While a link is looked at: the old configuration, the link. -/
structure VaSt (w0 : World) (ep : Int) (vo : Value) (e2 : Int) (vm vs : Value) (w : World) : Prop where
  old : w.heap[w0.heap.size]? = some (.cells #[.int .i64 ep, vo] 24 (0, 0))
  ln : LnAt w (w0.heap.size + 1) e2 vm vs
  bel : Below w0.heap.size w0 w
theorem VaSt.keep {w0 : World} {ep : Int} {vo : Value} {e2 : Int} {vm vs : Value} {w w' : World} (h : VaSt w0 ep vo e2 vm vs w) (hb : Below w.heap.size w w') : VaSt w0 ep vo e2 vm vs w' :=
  ⟨(hb.block _ (lt_of_blk h.old)).trans h.old, h.ln.keep hb, h.bel.trans (hb.mono h.bel.size)⟩
end Go.Proofs.Ytclfphffbfdimaa

/- The document's deeds: which operation is right, which request, which is the null one. -/
import Derived.Test.YtpeagpeifmimlabDsA
import Derived.Test.YtpeagpeifmimlabRlC
import Derived.Test.YtpeagpeifmimlabBaB
namespace Go.Proofs.Ytpeagpeifmimlab
open Go.RowKit

theorem ret_bool {X Y : Bool} (h : X = Y) : Ending.returned (.bool X) = Ending.returned (.bool Y) := by rw [h]
theorem none_size (s : ByteArray) : s.toList.isEmpty = decide (s.size = 0) := by
  rw [ByteArray.toList_eq]
  cases h : s.data.toList with
  | nil =>
    have : s.size = 0 := by rw [← data_len, h]; rfl
    simp [this]
  | cons x l =>
    have : s.size ≠ 0 := by rw [← data_len, h]; simp
    simp [this]
/-- An operation, a request in a variable. -/
def OpAt (w : World) (b : Nat) (r : Rq) : Prop := w.heap[b]? = some (.cells [.int .i64 r.k, .string r.key, .float .f64 r.b, .int .i64 r.id].toArray 34 (0, 0))
def RqAt (w : World) (b : Nat) (r : Rq) : Prop := w.heap[b]? = some (.cells [.int .i64 r.c, .int .i64 r.st, .int .i64 r.k, .string r.key, .float .f64 r.b, .int .i64 r.id].toArray 36 (0, 0))
theorem OpAt.cells {w : World} {b : Nat} {r : Rq} (h : OpAt w b r) : w.cell? ⟨b, 0, none⟩ = some (.int .i64 r.k) ∧ w.cell? ⟨b, 1, none⟩ = some (.string r.key) ∧ w.cell? ⟨b, 2, none⟩ = some (.float .f64 r.b) ∧ w.cell? ⟨b, 3, none⟩ = some (.int .i64 r.id) :=
  ⟨cell_at h 0 _ rfl, cell_at h 1 _ rfl, cell_at h 2 _ rfl, cell_at h 3 _ rfl⟩
theorem RqAt.cells {w : World} {b : Nat} {r : Rq} (h : RqAt w b r) : (w.cell? ⟨b, 0, none⟩ = some (.int .i64 r.c) ∧ w.cell? ⟨b, 1, none⟩ = some (.int .i64 r.st)) ∧ w.cell? ⟨b, 2, none⟩ = some (.int .i64 r.k) ∧ w.cell? ⟨b, 3, none⟩ = some (.string r.key) ∧ w.cell? ⟨b, 4, none⟩ = some (.float .f64 r.b) ∧ w.cell? ⟨b, 5, none⟩ = some (.int .i64 r.id) :=
  ⟨⟨cell_at h 0 _ rfl, cell_at h 1 _ rfl⟩, cell_at h 2 _ rfl, cell_at h 3 _ rfl, cell_at h 4 _ rfl, cell_at h 5 _ rfl⟩
theorem OpAt.keep {w w' : World} {b : Nat} {r : Rq} (h : OpAt w b r) (hb : Below w.heap.size w w') : OpAt w' b r := (hb.block b (lt_of_blk h)).trans h
theorem RqAt.keep {w w' : World} {b : Nat} {r : Rq} (h : RqAt w b r) (hb : Below w.heap.size w w') : RqAt w' b r := (hb.block b (lt_of_blk h)).trans h
end Go.Proofs.Ytpeagpeifmimlab

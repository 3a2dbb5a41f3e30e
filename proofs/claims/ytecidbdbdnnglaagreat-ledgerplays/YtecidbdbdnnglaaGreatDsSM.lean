/- Stores of reals, of requests and of results, as one step of a walk each. -/
import Derived.Test.YtecidbdbdnnglaaGreatDsCM
import Derived.Deep.MidRow
namespace Go.Proofs.YtecidbdbdnnglaaGreat
open Go.RowKit

/-- Only block b may be another one. -/
structure One (b : Nat) (w w' : World) : Prop where
  os : w'.os = w.os
  tape : w'.tape = w.tape
  output : w'.output = w.output
  size : w'.heap.size = w.heap.size
  block : ∀ k, k ≠ b → w'.heap[k]? = w.heap[k]?
theorem one_cells (b : Nat) : ∀ (vs : List Value) (o : Nat) (w : World), One b w (w.setCells b o vs)
  | [], _, _ => ⟨rfl, rfl, rfl, rfl, fun _ _ => rfl⟩
  | v :: vs, o, w => by
    have h := one_cells b vs (o + 1) (w.setCell ⟨b, o, none⟩ v)
    exact ⟨h.os, h.tape, h.output, h.size.trans (by simp [World.setCell]), fun k hk => (h.block k hk).trans (Below.heap_setCell _ _ _ _ hk)⟩
theorem One.below {b B : Nat} {x w w' : World} (h : One b w w') (hb : Below B x w) (hB : B ≤ b) : Below B x w' :=
  ⟨h.os.trans hb.os, h.tape.trans hb.tape, h.output.trans hb.output, by rw [h.size]; exact hb.size, fun k hk => (h.block k (by omega)).trans (hb.block k hk)⟩
theorem rq_all {w : World} {b : Nat} {r0 r : Rq} (h : RqAt w b r0) : RqAt (w.setCells b 0 [.int .i64 r.c, .int .i64 r.st, .int .i64 r.k, .string r.key, .float .f64 r.b, .int .i64 r.id]) b r := by
  have h0 := blk_set h 0 (.int .i64 r.c)
  have h1 := blk_set h0 1 (.int .i64 r.st)
  have h2 := blk_set h1 2 (.int .i64 r.k)
  have h3 := blk_set h2 3 (.string r.key)
  have h4 := blk_set h3 4 (.float .f64 r.b)
  have h5 := blk_set h4 5 (.int .i64 r.id)
  exact h5.trans (by simp)
theorem rq_there {w : World} {b : Nat} {r0 : Rq} (h : RqAt w b r0) : w.there b 0 6 := fun j hj => by
  obtain ⟨⟨z0, z1⟩, z2, z3, z4, z5⟩ := h.cells
  refine ⟨?_, free_at h _⟩
  rw [Nat.zero_add]
  match j, hj with
  | 0, _ => rw [z0]; rfl
  | 1, _ => rw [z1]; rfl
  | 2, _ => rw [z2]; rfl
  | 3, _ => rw [z3]; rfl
  | 4, _ => rw [z4]; rfl
  | 5, _ => rw [z5]; rfl
/-- A result in a variable. -/
def RsAt (w : World) (b : Nat) (c : Int) (f : Nat) : Prop := w.heap[b]? = some (.cells [.int .i64 c, .float .f64 f].toArray 50 (0, 0))
theorem RsAt.cells {w : World} {b : Nat} {c : Int} {f : Nat} (h : RsAt w b c f) : w.cell? ⟨b, 0, none⟩ = some (.int .i64 c) ∧ w.cell? ⟨b, 1, none⟩ = some (.float .f64 f) := ⟨cell_at h 0 _ rfl, cell_at h 1 _ rfl⟩
theorem RsAt.keep {w w' : World} {b : Nat} {c : Int} {f : Nat} (h : RsAt w b c f) (hb : Below w.heap.size w w') : RsAt w' b c f := (hb.block b (lt_of_blk h)).trans h
theorem rs_all {w : World} {b : Nat} {c0 c : Int} {f0 f : Nat} (h : RsAt w b c0 f0) : RsAt (w.setCells b 0 [.int .i64 c, .float .f64 f]) b c f := by
  have h0 := blk_set h 0 (.int .i64 c)
  have h1 := blk_set h0 1 (.float .f64 f)
  exact h1.trans (by simp)
theorem rs_there {w : World} {b : Nat} {c : Int} {f : Nat} (h : RsAt w b c f) : w.there b 0 2 := fun j hj => by
  obtain ⟨z0, z1⟩ := h.cells
  refine ⟨?_, free_at h _⟩
  rw [Nat.zero_add]
  match j, hj with
  | 0, _ => rw [z0]; rfl
  | 1, _ => rw [z1]; rfl
section
variable {P : Program} {o : Oper} {a : Act} {w : World} {Q : Exit → Act → World → Prop} {ops : Array Oper} {rest : List Oper}
theorem wl_store_rq (hgd : o.guard = none) (p x : Operand) (ho : o.op = .store 56 p x) (b : Nat) (hp : a.eval p = .pointer (some ⟨b, 0, none⟩)) (r0 r : Rq) (hx : a.eval x = .agg #[.int .i64 r.c, .int .i64 r.st, .int .i64 r.k, .string r.key, .float .f64 r.b, .int .i64 r.id]) (hR : RqAt w b r0)
    (h : ∀ w', Hid (RqAt w' b r ∧ One b w w') → wpList Tryz.prog ops Q rest (a.put o.dst undef) w') : wpList Tryz.prog ops Q (o :: rest) a w :=
  wpList_store_mid (P := Tryz.prog) hgd 56 p x ho b 0 #[.int .i64 r.c, .int .i64 r.st, .int .i64 r.k, .string r.key, .float .f64 r.b, .int .i64 r.id] hp hx (rq_there hR) (by kernel_rfl) (by simp [Value.oneCell']) (h _ ⟨rq_all hR, one_cells b _ 0 w⟩)
theorem wl_store_rs (hgd : o.guard = none) (p x : Operand) (ho : o.op = .store 50 p x) (b : Nat) (hp : a.eval p = .pointer (some ⟨b, 0, none⟩)) (c0 c : Int) (f0 f : Nat) (hx : a.eval x = .agg #[.int .i64 c, .float .f64 f]) (hR : RsAt w b c0 f0)
    (h : ∀ w', Hid (RsAt w' b c f ∧ One b w w') → wpList Tryz.prog ops Q rest (a.put o.dst undef) w') : wpList Tryz.prog ops Q (o :: rest) a w :=
  wpList_store_mid (P := Tryz.prog) hgd 50 p x ho b 0 #[.int .i64 c, .float .f64 f] hp hx (rs_there hR) (by kernel_rfl) (by simp [Value.oneCell']) (h _ ⟨rs_all hR, one_cells b _ 0 w⟩)
/-- A real put into a field. -/
theorem wl_store_f (hgd : o.guard = none) (p x : Operand) (ho : o.op = .store 48 p x) (b off : Nat) (hp : a.eval p = .pointer (some ⟨b, off, none⟩)) (f : Nat) (hx : a.eval x = .float .f64 f) (v : Value) (hc : w.cell? ⟨b, off, none⟩ = some v) (hf : w.frozen? ⟨b, off, none⟩ = false)
    (h : wpList Tryz.prog ops Q rest (a.put o.dst undef) (w.setCell ⟨b, off, none⟩ (.float .f64 f))) : wpList Tryz.prog ops Q (o :: rest) a w := by
  refine wpList_plain hgd fun K hK => owp_skip (w' := w.setCell ⟨b, off, none⟩ (.float .f64 f)) ?_ (hK _ _ h)
  have hi : (Tryz.prog.info? 48).map (·.size) = some 1 := by kernel_rfl
  have hr := run_store Tryz.prog w ⟨b, off, none⟩ (.float .f64 f) .plain rfl
  rw [hc] at hr
  simp only [hf] at hr
  cases hq : Tryz.prog.info? 48 with
  | none => simp [hq] at hi
  | some i =>
    have hs : i.size = 1 := by simp [hq] at hi; omega
    simp [execOp, ho, Instr.storeAt, Instr.sureAddr, hp, hx, storeVar, sizeOf, typeInfo, hq, hs, Value.cells, storeCells, Addr.add, hr, Result.andThen]
end
end Go.Proofs.YtecidbdbdnnglaaGreat

/- Texts laid together: DsS StA CgA LnA LdA StB LnB LnC ApA DsD DsE WiMs. -/
import Derived.Test.YthjgnfeadagmeaaGreatDsCM
import Derived.Deep.MidRow
import Derived.Test.YthjgnfeadagmeaaGreatOa3
import Derived.Test.YthjgnfeadagmeaaGreatOa1
import Derived.BigQuiet
import Derived.Deep.DeepMust
import Derived.Deep.Cut
import Derived.Lib.SliceRun
import Derived.Maps.AppendAt
import Derived.Test.YthjgnfeadagmeaaGreatOa4
import Derived.Test.YthjgnfeadagmeaaGreatOa2
/- Stores of reals, of requests and of results, as one step of a walk each. -/
namespace Go.Proofs.YthjgnfeadagmeaaGreat
open Go.RowKit

/-- Only block b may be another one. -/
structure One (b : Nat) (w w' : World) : Prop where
  os : w'.os = w.os
  tape : w'.tape = w.tape
  output : w'.output = w.output
  size : w'.heap.size = w.heap.size
  block : ∀ k, k ≠ b → w'.heap[k]? = w.heap[k]?
theorem one_cells (b : Nat) : ∀ (vs : List Value) (o : Nat) (w : World), One b w (w.setCells b o vs)
  | [], _, _ => ⟨rfl, rfl, rfl, rfl, fun _ _ => rfl⟩
  | v :: vs, o, w => by
    have h := one_cells b vs (o + 1) (w.setCell ⟨b, o, none⟩ v)
    exact ⟨h.os, h.tape, h.output, h.size.trans (by simp [World.setCell]), fun k hk => (h.block k hk).trans (Below.heap_setCell _ _ _ _ hk)⟩
theorem One.below {b B : Nat} {x w w' : World} (h : One b w w') (hb : Below B x w) (hB : B ≤ b) : Below B x w' :=
  ⟨h.os.trans hb.os, h.tape.trans hb.tape, h.output.trans hb.output, by rw [h.size]; exact hb.size, fun k hk => (h.block k (by omega)).trans (hb.block k hk)⟩
theorem rq_all {w : World} {b : Nat} {r0 r : Rq} (h : RqAt w b r0) : RqAt (w.setCells b 0 [.int .i64 r.c, .int .i64 r.st, .int .i64 r.k, .string r.key, .float .f64 r.b, .int .i64 r.id]) b r := by
  have h0 := blk_set h 0 (.int .i64 r.c)
  have h1 := blk_set h0 1 (.int .i64 r.st)
  have h2 := blk_set h1 2 (.int .i64 r.k)
  have h3 := blk_set h2 3 (.string r.key)
  have h4 := blk_set h3 4 (.float .f64 r.b)
  have h5 := blk_set h4 5 (.int .i64 r.id)
  exact h5.trans (by simp)
theorem rq_there {w : World} {b : Nat} {r0 : Rq} (h : RqAt w b r0) : w.there b 0 6 := fun j hj => by
  obtain ⟨⟨z0, z1⟩, z2, z3, z4, z5⟩ := h.cells
  refine ⟨?_, free_at h _⟩
  rw [Nat.zero_add]
  match j, hj with
  | 0, _ => rw [z0]; rfl
  | 1, _ => rw [z1]; rfl
  | 2, _ => rw [z2]; rfl
  | 3, _ => rw [z3]; rfl
  | 4, _ => rw [z4]; rfl
  | 5, _ => rw [z5]; rfl
/-- A result in a variable. -/
def RsAt (w : World) (b : Nat) (c : Int) (f : Nat) : Prop := w.heap[b]? = some (.cells [.int .i64 c, .float .f64 f].toArray 43 (0, 0))
theorem RsAt.cells {w : World} {b : Nat} {c : Int} {f : Nat} (h : RsAt w b c f) : w.cell? ⟨b, 0, none⟩ = some (.int .i64 c) ∧ w.cell? ⟨b, 1, none⟩ = some (.float .f64 f) := ⟨cell_at h 0 _ rfl, cell_at h 1 _ rfl⟩
theorem RsAt.keep {w w' : World} {b : Nat} {c : Int} {f : Nat} (h : RsAt w b c f) (hb : Below w.heap.size w w') : RsAt w' b c f := (hb.block b (lt_of_blk h)).trans h
theorem rs_all {w : World} {b : Nat} {c0 c : Int} {f0 f : Nat} (h : RsAt w b c0 f0) : RsAt (w.setCells b 0 [.int .i64 c, .float .f64 f]) b c f := by
  have h0 := blk_set h 0 (.int .i64 c)
  have h1 := blk_set h0 1 (.float .f64 f)
  exact h1.trans (by simp)
theorem rs_there {w : World} {b : Nat} {c : Int} {f : Nat} (h : RsAt w b c f) : w.there b 0 2 := fun j hj => by
  obtain ⟨z0, z1⟩ := h.cells
  refine ⟨?_, free_at h _⟩
  rw [Nat.zero_add]
  match j, hj with
  | 0, _ => rw [z0]; rfl
  | 1, _ => rw [z1]; rfl
section
variable {P : Program} {o : Oper} {a : Act} {w : World} {Q : Exit → Act → World → Prop} {ops : Array Oper} {rest : List Oper}
theorem wl_store_rq (hgd : o.guard = none) (p x : Operand) (ho : o.op = .store 41 p x) (b : Nat) (hp : a.eval p = .pointer (some ⟨b, 0, none⟩)) (r0 r : Rq) (hx : a.eval x = .agg #[.int .i64 r.c, .int .i64 r.st, .int .i64 r.k, .string r.key, .float .f64 r.b, .int .i64 r.id]) (hR : RqAt w b r0)
    (h : ∀ w', Hid (RqAt w' b r ∧ One b w w') → wpList Tryz.prog ops Q rest (a.put o.dst undef) w') : wpList Tryz.prog ops Q (o :: rest) a w :=
  wpList_store_mid (P := Tryz.prog) hgd 41 p x ho b 0 #[.int .i64 r.c, .int .i64 r.st, .int .i64 r.k, .string r.key, .float .f64 r.b, .int .i64 r.id] hp hx (rq_there hR) (by kernel_rfl) (by simp [Value.oneCell']) (h _ ⟨rq_all hR, one_cells b _ 0 w⟩)
theorem wl_store_rs (hgd : o.guard = none) (p x : Operand) (ho : o.op = .store 43 p x) (b : Nat) (hp : a.eval p = .pointer (some ⟨b, 0, none⟩)) (c0 c : Int) (f0 f : Nat) (hx : a.eval x = .agg #[.int .i64 c, .float .f64 f]) (hR : RsAt w b c0 f0)
    (h : ∀ w', Hid (RsAt w' b c f ∧ One b w w') → wpList Tryz.prog ops Q rest (a.put o.dst undef) w') : wpList Tryz.prog ops Q (o :: rest) a w :=
  wpList_store_mid (P := Tryz.prog) hgd 43 p x ho b 0 #[.int .i64 c, .float .f64 f] hp hx (rs_there hR) (by kernel_rfl) (by simp [Value.oneCell']) (h _ ⟨rs_all hR, one_cells b _ 0 w⟩)
/-- A real put into a field. -/
theorem wl_store_f (hgd : o.guard = none) (p x : Operand) (ho : o.op = .store 37 p x) (b off : Nat) (hp : a.eval p = .pointer (some ⟨b, off, none⟩)) (f : Nat) (hx : a.eval x = .float .f64 f) (v : Value) (hc : w.cell? ⟨b, off, none⟩ = some v) (hf : w.frozen? ⟨b, off, none⟩ = false)
    (h : wpList Tryz.prog ops Q rest (a.put o.dst undef) (w.setCell ⟨b, off, none⟩ (.float .f64 f))) : wpList Tryz.prog ops Q (o :: rest) a w := by
  refine wpList_plain hgd fun K hK => owp_skip (w' := w.setCell ⟨b, off, none⟩ (.float .f64 f)) ?_ (hK _ _ h)
  have hi : (Tryz.prog.info? 37).map (·.size) = some 1 := by kernel_rfl
  have hr := run_store Tryz.prog w ⟨b, off, none⟩ (.float .f64 f) .plain rfl
  rw [hc] at hr
  simp only [hf] at hr
  cases hq : Tryz.prog.info? 37 with
  | none => simp [hq] at hi
  | some i =>
    have hs : i.size = 1 := by simp [hq] at hi; omega
    simp [execOp, ho, Instr.storeAt, Instr.sureAddr, hp, hx, storeVar, sizeOf, typeInfo, hq, hs, Value.cells, storeCells, Addr.add, hr, Result.andThen]
end
end Go.Proofs.YthjgnfeadagmeaaGreat

/- Stores into blocks that are known whole, as one step of a walk each. -/
namespace Go.Proofs.YthjgnfeadagmeaaGreat
open Go.RowKit

/-- A list of cells, these put from o on. -/
def setAt : List Value → Nat → List Value → List Value
  | L, _, [] => L
  | L, o, v :: vs => setAt (L.set o v) (o + 1) vs
theorem blk_cells {b : Nat} {T : TypeId} : ∀ (vs : List Value) (o : Nat) (L : List Value) (w : World), w.heap[b]? = some (.cells L.toArray T (0, 0)) → (w.setCells b o vs).heap[b]? = some (.cells (setAt L o vs).toArray T (0, 0))
  | [], _, _, _, h => h
  | v :: vs, o, L, w, h => blk_cells vs (o + 1) (L.set o v) (w.setCell ⟨b, o, none⟩ v) (by have := blk_set h o v; simpa using this)
theorem blk_there {w : World} {b : Nat} {T : TypeId} {L : List Value} (h : w.heap[b]? = some (.cells L.toArray T (0, 0))) (o n : Nat) (hn : o + n ≤ L.length) : w.there b o n := fun j hj => by
  have hl : o + j < L.length := by omega
  exact ⟨by rw [cell_at h (o + j) _ (List.getElem?_eq_getElem hl)]; rfl, free_at h _⟩
section
variable {o : Oper} {a : Act} {w : World} {K : Act → World → Prop} {Q : Exit → Act → World → Prop} {ops : Array Oper} {rest : List Oper}
theorem owp_store_blk (T : TypeId) (p x : Operand) (ho : o.op = .store T p x) (b off : Nat) (hp : a.eval p = .pointer (some ⟨b, off, none⟩)) (cells : Array Value) (hx : a.eval x = .agg cells) (L : List Value) (TB : TypeId) (hL : w.heap[b]? = some (.cells L.toArray TB (0, 0))) (hn : off + cells.size ≤ L.length)
    (hi : (Tryz.prog.info? T).map (·.size) = some cells.size) (h1 : cells.all (·.oneCell') = true) (h : ∀ w', Hid (w'.heap[b]? = some (.cells (setAt L off cells.toList).toArray TB (0, 0)) ∧ One b w w') → K (a.put o.dst undef) w') : o.wp Tryz.prog a w K Q :=
  wp_store_mid (P := Tryz.prog) T p x ho b off cells hp hx (blk_there hL off _ hn) hi h1 (h _ ⟨blk_cells cells.toList off L w hL, one_cells b _ off w⟩)
theorem wl_store_blk (hgd : o.guard = none) (T : TypeId) (p x : Operand) (ho : o.op = .store T p x) (b off : Nat) (hp : a.eval p = .pointer (some ⟨b, off, none⟩)) (cells : Array Value) (hx : a.eval x = .agg cells) (L : List Value) (TB : TypeId) (hL : w.heap[b]? = some (.cells L.toArray TB (0, 0))) (hn : off + cells.size ≤ L.length)
    (hi : (Tryz.prog.info? T).map (·.size) = some cells.size) (h1 : cells.all (·.oneCell') = true) (h : ∀ w', Hid (w'.heap[b]? = some (.cells (setAt L off cells.toList).toArray TB (0, 0)) ∧ One b w w') → wpList Tryz.prog ops Q rest (a.put o.dst undef) w') : wpList Tryz.prog ops Q (o :: rest) a w :=
  wpList_plain hgd fun _ hK => owp_store_blk T p x ho b off hp cells hx L TB hL hn hi h1 (fun w' hw => hK _ _ (h w' hw))
end
end Go.Proofs.YthjgnfeadagmeaaGreat

/- Certificates and changes in memory; variables of cells. No walk here. -/
namespace Go.Proofs.YthjgnfeadagmeaaGreat
open Go.RowKit

/-- A variable of these cells. -/
def BxAt (w : World) (b : Nat) (L : List Value) (T : TypeId) : Prop := w.heap[b]? = some (.cells L.toArray T (0, 0))
theorem BxAt.keep {w w' : World} {b : Nat} {L : List Value} {T : TypeId} (h : BxAt w b L T) (hb : Below w.heap.size w w') : BxAt w' b L T := (hb.block b (lt_of_blk h)).trans h
theorem BxAt.cell {w : World} {b : Nat} {L : List Value} {T : TypeId} (h : BxAt w b L T) (j : Nat) (v : Value) (hv : L[j]? = some v) : w.cell? ⟨b, j, none⟩ = some v := cell_at h j v hv
theorem BxAt.cls {w : World} {b : Nat} {L : List Value} {T : TypeId} (h : BxAt w b L T) (j : Nat) (v : Value) (hv : L[j]? = some v) (cx : Cls w) : cx.1.cell? ⟨b, j, none⟩ = some v := (cx.2.cell (p := ⟨b, j, none⟩) (lt_of_blk h)).trans (h.cell j v hv)
def ctC (c : Ct) (v : Value) : List Value := [.int .i64 c.1, .int .i64 c.2.1, .int .i64 c.2.2.1.c, .int .i64 c.2.2.1.st, .int .i64 c.2.2.1.k, .string c.2.2.1.key, .float .f64 c.2.2.1.b, .int .i64 c.2.2.1.id, v]
def cgC (c : Cg) (v : Value) : List Value := [.int .i64 c.1, .int .i64 c.2.1, v, .int .i64 c.2.2.2.1, .string c.2.2.2.2]
theorem ct_at {F : Nat → Prop} {w : World} {v : Value} {l : List Ct} (h : Reads F w v (dCts l)) (j : Nat) (hj : j < l.length) :
    ∃ g off cap a k, v = .slice (some ⟨g, off, none⟩) l.length cap ∧ PairsIn w a (l.getD j ct0).2.2.2 ∧ g < w.heap.size ∧ ∀ (q : Nat) (u : Value), (ctC (l.getD j ct0) (.slice a (l.getD j ct0).2.2.2.length k))[q]? = some u → w.cell? ⟨g, off + j * 9 + q, none⟩ = some u := by
  have hx : (l.map dCt)[j]? = some (dCt (l.getD j ct0)) := by rw [List.getElem?_map]; simp [hj]
  obtain ⟨g, off, cap, hv, _, hg, _, hc⟩ := h.at j _ hx
  obtain ⟨u8, k8, r8⟩ := hc 8 _ rfl
  obtain ⟨a, k, rfl, hp, _⟩ := reads_pairs r8
  rw [List.length_map] at hv
  refine ⟨g, off, cap, a, k, hv, hp, hg, fun q u hq => ?_⟩
  match q, hq with
  | 0, hq => obtain ⟨x, k0, r0⟩ := hc 0 _ rfl; rw [r0.int] at k0; cases hq; exact k0
  | 1, hq => obtain ⟨x, k0, r0⟩ := hc 1 _ rfl; rw [r0.int] at k0; cases hq; exact k0
  | 2, hq => obtain ⟨x, k0, r0⟩ := hc 2 _ rfl; rw [r0.int] at k0; cases hq; exact k0
  | 3, hq => obtain ⟨x, k0, r0⟩ := hc 3 _ rfl; rw [r0.int] at k0; cases hq; exact k0
  | 4, hq => obtain ⟨x, k0, r0⟩ := hc 4 _ rfl; rw [r0.int] at k0; cases hq; exact k0
  | 5, hq => obtain ⟨x, k0, r0⟩ := hc 5 _ rfl; rw [r0.str] at k0; cases hq; exact k0
  | 6, hq => obtain ⟨x, k0, r0⟩ := hc 6 _ rfl; rw [r0.flt] at k0; cases hq; exact k0
  | 7, hq => obtain ⟨x, k0, r0⟩ := hc 7 _ rfl; rw [r0.int] at k0; cases hq; exact k0
  | 8, hq => cases hq; exact k8
  | q + 9, hq => cases hq
theorem cg_at {F : Nat → Prop} {w : World} {v : Value} {l : List Cg} (h : Reads F w v (dCgs l)) (j : Nat) (hj : j < l.length) :
    ∃ g off cap a n k, v = .slice (some ⟨g, off, none⟩) l.length cap ∧ Reads F w (.slice a n k) (dCts (l.getD j cg0).2.2.1) ∧ g < w.heap.size ∧ ∀ (q : Nat) (u : Value), (cgC (l.getD j cg0) (.slice a n k))[q]? = some u → w.cell? ⟨g, off + j * 5 + q, none⟩ = some u := by
  have hx : (l.map dCg)[j]? = some (dCg (l.getD j cg0)) := by rw [List.getElem?_map]; simp [hj]
  obtain ⟨g, off, cap, hv, _, hg, _, hc⟩ := h.at j _ hx
  obtain ⟨u2, k2, r2⟩ := hc 2 _ rfl
  obtain ⟨a, k, hu⟩ := Reads.form r2
  subst hu
  rw [List.length_map] at hv
  refine ⟨g, off, cap, a, _, k, hv, r2, hg, fun q u hq => ?_⟩
  match q, hq with
  | 0, hq => obtain ⟨x, k0, r0⟩ := hc 0 _ rfl; rw [r0.int] at k0; cases hq; exact k0
  | 1, hq => obtain ⟨x, k0, r0⟩ := hc 1 _ rfl; rw [r0.int] at k0; cases hq; exact k0
  | 2, hq => cases hq; exact k2
  | 3, hq => obtain ⟨x, k0, r0⟩ := hc 3 _ rfl; rw [r0.int] at k0; cases hq; exact k0
  | 4, hq => obtain ⟨x, k0, r0⟩ := hc 4 _ rfl; rw [r0.str] at k0; cases hq; exact k0
  | q + 5, hq => cases hq

theorem heap_lt {w : World} {k : Nat} {o : Obj} (h : w.heap[k]? = some o) : k < w.heap.size := by
  rcases Nat.lt_or_ge k w.heap.size with h1 | h1
  · exact h1
  · rw [Array.getElem?_eq_none h1] at h; cases h
theorem inR_of {s : Nat} {z : Int} (h0 : 0 ≤ z) (h1 : z < ((256 ^ s : Nat) : Int)) : inR s z = true := decide_eq_true ⟨h0, h1⟩
theorem flat_snoc {α : Type} {f : α → List UInt8} {l : List α} {d : α} (j : Nat) (hj : j < l.length) : (l.take j).flatMap f ++ f (l.getD j d) = (l.take (j + 1)).flatMap f := by
  rw [List.take_succ_eq_append_getElem hj, List.flatMap_append]
  simp [hj]
end Go.Proofs.YthjgnfeadagmeaaGreat

/- A row of structs that is copied and then written over, one element after the other: what stands, what is still to be written. No walk here. -/
namespace Go.Proofs.YthjgnfeadagmeaaGreat
open Go.RowKit

section
variable {k : Nat} {G : List (List Value)} {X : List Value}
theorem jn_len : ∀ {G : List (List Value)}, (∀ x, x ∈ G → x.length = k) → G.flatten.length = G.length * k
  | [], _ => by simp
  | x :: G, h => by
    rw [List.flatten_cons, List.length_append, h x (List.mem_cons_self ..), jn_len (fun y hy => h y (List.mem_cons_of_mem _ hy)), List.length_cons, Nat.succ_mul]
    omega
theorem jn_split {i : Nat} {x : List Value} (h : G[i]? = some x) : G.flatten = (G.take i).flatten ++ (x ++ (G.drop (i + 1)).flatten) := by
  obtain ⟨hl, he⟩ := List.getElem?_eq_some_iff.1 h
  conv => lhs; rw [← List.take_append_drop i G, List.drop_eq_getElem_cons hl, he]
  rw [List.flatten_append, List.flatten_cons]
theorem jn_take (hG : ∀ x, x ∈ G → x.length = k) {i : Nat} (hi : i ≤ G.length) : (G.take i).flatten.length = i * k := by
  rw [jn_len (k := k) (fun x hx => hG x (List.mem_of_mem_take hx)), List.length_take, Nat.min_eq_left hi]
theorem jn_at (hG : ∀ x, x ∈ G → x.length = k) {i : Nat} {x : List Value} (h : G[i]? = some x) (q : Nat) (hq : q < k) : (G.flatten ++ X)[i * k + q]? = x[q]? := by
  obtain ⟨hl, _⟩ := List.getElem?_eq_some_iff.1 h
  have h1 := jn_take hG (Nat.le_of_lt hl)
  have hx := hG x (List.mem_of_getElem? h)
  rw [jn_split h, List.append_assoc, List.getElem?_append_right (by omega), h1, Nat.add_sub_cancel_left, List.append_assoc, List.getElem?_append_left (by omega)]
theorem jn_mid : ∀ (vs A B C : List Value), B.length = vs.length → setAt (A ++ (B ++ C)) A.length vs = A ++ (vs ++ C)
  | [], A, B, C, h => by
    obtain rfl := List.eq_nil_of_length_eq_zero h
    rfl
  | v :: vs, A, [], C, h => by cases h
  | v :: vs, A, b :: B, C, h => by
    have h1 : (A ++ (b :: B ++ C)).set A.length v = (A ++ [v]) ++ (B ++ C) := by simp
    rw [setAt, h1]
    have h2 := jn_mid vs (A ++ [v]) B C (by simpa using h)
    rw [List.length_append] at h2
    rw [show A.length + 1 = A.length + [v].length from rfl, h2]
    simp
theorem jn_set (hG : ∀ x, x ∈ G → x.length = k) {i : Nat} (hi : i < G.length) (y : List Value) (hy : y.length = k) : setAt (G.flatten ++ X) (i * k) y = (G.set i y).flatten ++ X := by
  have h : G[i]? = some G[i] := List.getElem?_eq_getElem hi
  have h1 := jn_take hG (Nat.le_of_lt hi)
  have h2 : (G.set i y)[i]? = some y := by simp [hi]
  rw [jn_split h, ← h1, List.append_assoc, List.append_assoc, jn_mid _ _ _ _ (by rw [hy]; exact hG _ (List.getElem_mem hi)), jn_split h2, List.take_set, List.drop_set, List.set_eq_of_length_le (l := G.take i) (by rw [List.length_take]; omega)]
  simp
end
/-- These cells read as these data. -/
def RowD (F : Nat → Prop) (w : World) (x : List Value) (ds : List Dat) : Prop := x.length = ds.length ∧ ∀ (q : Nat) (d : Dat), ds[q]? = some d → ∃ u, x[q]? = some u ∧ Reads F w u d
theorem RowD.keep {F : Nat → Prop} {w w' : World} {x : List Value} {ds : List Dat} (h : RowD F w x ds) (hs : w.heap.size ≤ w'.heap.size) (hb : ∀ k, k < w.heap.size → F k → w'.heap[k]? = w.heap[k]?) : RowD F w' x ds := ⟨h.1, fun q d hd => by
  obtain ⟨u, h1, h2⟩ := h.2 q d hd
  exact ⟨u, h1, h2.keep hs hb⟩⟩
theorem RowD.mono {F F' : Nat → Prop} {w : World} {x : List Value} {ds : List Dat} (h : RowD F w x ds) (hF : ∀ k, k < w.heap.size → F k → F' k) : RowD F' w x ds := ⟨h.1, fun q d hd => by
  obtain ⟨u, h1, h2⟩ := h.2 q d hd
  exact ⟨u, h1, h2.mono hF⟩⟩
theorem Reads.cell1 {F : Nat → Prop} {w : World} {u : Value} {d : Dat} (h : Reads F w u d) : u.oneCell' = true := by cases h <;> rfl
theorem RowD.cell1 {F : Nat → Prop} {w : World} {x : List Value} {ds : List Dat} (h : RowD F w x ds) (u : Value) (hu : u ∈ x) : u.oneCell' = true := by
  obtain ⟨q, hq, rfl⟩ := List.mem_iff_getElem.1 hu
  obtain ⟨v, h1, h2⟩ := h.2 q _ (List.getElem?_eq_getElem (by rw [← h.1]; exact hq))
  rw [List.getElem?_eq_getElem hq] at h1
  cases h1
  exact h2.cell1
/-- A list that is read, as rows of cells. -/
theorem rows_of {F : Nat → Prop} {w : World} {ad : Addr} {n c sz : Nat} {es : List (List Dat)} (h : Reads F w (.slice (some ad) n c) (.l sz es)) (hw : ∀ e, e ∈ es → e.length = sz) :
    ∃ G : List (List Value), n = es.length ∧ G.length = es.length ∧ (∀ x, x ∈ G → x.length = sz) ∧ (∀ (j : Nat) (u : Value), G.flatten[j]? = some u → w.cell? (ad.add j) = some u) ∧ ∀ (i : Nat) (d : List Dat), es[i]? = some d → ∃ x, G[i]? = some x ∧ RowD F w x d := by
  cases h with
  | nil _ _ _ => exact ⟨[], rfl, rfl, (fun x hx => (List.not_mem_nil hx).elim), (fun j u hu => by cases hu), (fun i d hd => by cases hd)⟩
  | l g off cap sz es cf hF hg hs hc hr =>
    obtain ⟨G, hl, hG⟩ := list_pick (Q := fun i x => ∃ d, es[i]? = some d ∧ RowD F w x d ∧ ∀ q, q < sz → ∃ u, x[q]? = some u ∧ w.cell? ⟨g, off + i * sz + q, none⟩ = some u) es.length (fun i hi => by
      have hd := List.getElem?_eq_getElem hi
      have hsz := hs i _ hd
      refine ⟨(List.range sz).map (fun q => cf i q), _, hd, ⟨by simp [hsz], fun q d hq => ⟨cf i q, ?_, hr i _ q d hd hq⟩⟩, fun q hq => ⟨cf i q, by simp [hq], ?_⟩⟩
      · have : q < sz := by rw [← hsz]; exact (List.getElem?_eq_some_iff.1 hq).1
        simp [this]
      · exact hc i _ q _ hd (List.getElem?_eq_getElem (by rw [hsz]; exact hq)))
    have hwid : ∀ x, x ∈ G → x.length = sz := fun x hx => by
      obtain ⟨i, hi⟩ := List.mem_iff_getElem?.1 hx
      obtain ⟨d, hd, hR, _⟩ := hG i x hi
      rw [hR.1, hs i d hd]
    refine ⟨G, rfl, hl, hwid, fun j u hj => ?_, fun i d hd => ?_⟩
    · have hjl := (List.getElem?_eq_some_iff.1 hj).1
      rw [jn_len hwid] at hjl
      have hsz0 : 0 < sz := Nat.pos_of_ne_zero (fun e => by rw [e] at hjl; omega)
      have hi : j / sz < G.length := Nat.div_lt_of_lt_mul (by rw [Nat.mul_comm]; exact hjl)
      have hq : j % sz < sz := Nat.mod_lt _ hsz0
      have hx := List.getElem?_eq_getElem hi
      have hjq : j / sz * sz + j % sz = j := by rw [Nat.mul_comm]; exact Nat.div_add_mod j sz
      have h2 := jn_at (X := []) hwid hx (j % sz) hq
      rw [hjq, List.append_nil, hj] at h2
      obtain ⟨d, _, _, h3⟩ := hG _ _ hx
      obtain ⟨u2, h4, h5⟩ := h3 _ hq
      rw [h4] at h2
      cases h2
      rw [Nat.add_assoc, hjq] at h5
      rw [Addr.add_lit]
      exact h5
    · obtain ⟨x, hx⟩ : ∃ x, G[i]? = some x := ⟨_, List.getElem?_eq_getElem (by rw [hl]; exact (List.getElem?_eq_some_iff.1 hd).1)⟩
      obtain ⟨d2, h1, h2, _⟩ := hG i x hx
      rw [hd] at h1
      cases h1
      exact ⟨x, hx, h2⟩
/-- A row at b that held es: the first j of it are written over by fs. -/
structure OlSt (T : TypeId) (sz b : Nat) (w0 w : World) (es fs : List (List Dat)) (G : List (List Value)) (X : List Value) (j : Nat) : Prop where
  blk : w.heap[b]? = some (.cells (G.flatten ++ X).toArray T (0, 0))
  wid : ∀ x, x ∈ G → x.length = sz
  len : G.length = es.length
  done : ∀ (i : Nat) (d : List Dat), i < j → fs[i]? = some d → ∃ x, G[i]? = some x ∧ RowD (fun k => w0.heap.size ≤ k ∧ k ≠ b) w x d
  rest : ∀ (i : Nat) (d : List Dat), j ≤ i → es[i]? = some d → ∃ x, G[i]? = some x ∧ RowD (fun k => k ≠ b) w x d
  low : w0.heap.size ≤ b
  bel : Below w0.heap.size w0 w
section
variable {T : TypeId} {sz b : Nat} {w0 w w' : World} {es fs : List (List Dat)} {G : List (List Value)} {X : List Value} {j : Nat}
theorem OlSt.keep (h : OlSt T sz b w0 w es fs G X j) (hb : Below w.heap.size w w') : OlSt T sz b w0 w' es fs G X j :=
  ⟨(hb.block _ (lt_of_blk h.blk)).trans h.blk, h.wid, h.len, fun i d hi hd => by
    obtain ⟨x, h1, h2⟩ := h.done i d hi hd
    exact ⟨x, h1, h2.keep hb.size (fun k hk _ => hb.block k hk)⟩, fun i d hi hd => by
    obtain ⟨x, h1, h2⟩ := h.rest i d hi hd
    exact ⟨x, h1, h2.keep hb.size (fun k hk _ => hb.block k hk)⟩, h.low, h.bel.trans (hb.mono h.bel.size)⟩
theorem OlSt.at (h : OlSt T sz b w0 w es fs G X j) {i : Nat} {x : List Value} (hx : G[i]? = some x) (q : Nat) (u : Value) (hu : x[q]? = some u) : w.cell? ⟨b, i * sz + q, none⟩ = some u := by
  refine cell_at h.blk _ _ ?_
  rw [jn_at h.wid hx q (by rw [← h.wid x (List.mem_of_getElem? hx)]; exact (List.getElem?_eq_some_iff.1 hu).1)]
  exact hu
theorem OlSt.put (h : OlSt T sz b w0 w es fs G X j) (y : List Value) (d : List Dat) (hj : j < es.length) (hd : fs[j]? = some d) (hy : y.length = sz) (hr : RowD (fun k => w0.heap.size ≤ k ∧ k ≠ b) w y d) (ho : One b w w') (hw : w'.heap[b]? = some (.cells (setAt (G.flatten ++ X) (j * sz) y).toArray T (0, 0))) :
    OlSt T sz b w0 w' es fs (G.set j y) X (j + 1) := by
  have hjG : j < G.length := by rw [h.len]; exact hj
  rw [jn_set h.wid hjG y hy] at hw
  have hk : ∀ {x : List Value} {ds : List Dat} {F : Nat → Prop}, (∀ k, F k → k ≠ b) → RowD F w x ds → RowD F w' x ds := fun hF hx => hx.keep (Nat.le_of_eq ho.size.symm) (fun k _ hk => ho.block k (hF k hk))
  refine ⟨hw, fun x hx => ?_, by rw [List.length_set]; exact h.len, fun i e hi he => ?_, fun i e hi he => ?_, h.low, ho.below h.bel h.low⟩
  · rcases List.mem_or_eq_of_mem_set hx with hx | rfl
    · exact h.wid x hx
    · exact hy
  · by_cases hij : i = j
    · subst hij
      rw [hd] at he
      cases he
      exact ⟨y, by simp [hjG], hk (fun k hk => hk.2) hr⟩
    · obtain ⟨x, h1, h2⟩ := h.done i e (by omega) he
      exact ⟨x, by rw [List.getElem?_set_ne (fun e => hij e.symm)]; exact h1, hk (fun k hk => hk.2) h2⟩
  · obtain ⟨x, h1, h2⟩ := h.rest i e (by omega) he
    exact ⟨x, by rw [List.getElem?_set_ne (by omega)]; exact h1, hk (fun k hk => hk) h2⟩
/-- All is written over. -/
theorem OlSt.all (h : OlSt T sz b w0 w es fs G X es.length) (hf : fs.length = es.length) (hw : ∀ d, d ∈ fs → d.length = sz) (cap : Nat) : Reads (fun k => w0.heap.size ≤ k) w (.slice (some ⟨b, 0, none⟩) es.length cap) (.l sz fs) := by
  have hR : ∀ (i : Nat) (d : List Dat), fs[i]? = some d → ∃ x, G[i]? = some x ∧ RowD (fun k => w0.heap.size ≤ k ∧ k ≠ b) w x d := fun i d hd => h.done i d (by rw [← hf]; exact (List.getElem?_eq_some_iff.1 hd).1) hd
  rw [← hf]
  refine .l b 0 cap sz fs (fun i q => ((G.getD i []).getD q undef)) h.low (lt_of_blk h.blk) (fun i e he => hw e (List.mem_of_getElem? he)) (fun i e q d he hd => ?_) (fun i e q d he hd => ?_)
  · obtain ⟨x, h1, h2, h3⟩ := hR i e he
    obtain ⟨u, h4, _⟩ := h3 q d hd
    rw [Nat.zero_add, List.getD_eq_getElem?_getD, List.getD_eq_getElem?_getD, h1, Option.getD_some, h4]
    exact h.at h1 q u h4
  · obtain ⟨x, h1, h2, h3⟩ := hR i e he
    obtain ⟨u, h4, h5⟩ := h3 q d hd
    rw [List.getD_eq_getElem?_getD, List.getD_eq_getElem?_getD, h1, Option.getD_some, h4]
    exact h5.mono (fun k _ hk => hk.1)
/-- A copy at its beginning. -/
theorem OlSt.begin {F : Nat → Prop} {n : Nat} {v : Value} (hown : w'.ownsRow w.heap.size T sz v n G.flatten) (hb : Below w.heap.size w w') (hn : n = es.length) (hl : G.length = es.length) (hw : ∀ x, x ∈ G → x.length = sz) (hr : ∀ (i : Nat) (d : List Dat), es[i]? = some d → ∃ x, G[i]? = some x ∧ RowD F w x d) :
    (es = [] ∧ ∃ a c, v = .slice a 0 c) ∨ ∃ b c X, v = .slice (some ⟨b, 0, none⟩) n c ∧ OlSt T sz b w w' es fs G X 0 := by
  rcases hown.2 with ⟨hv, h0⟩ | ⟨g, cap, cur, hv, hg, hh, hnc, hcp, hcs, ht⟩
  · exact .inl ⟨List.eq_nil_of_length_eq_zero (by omega), none, 0, hv⟩
  · refine .inr ⟨g, cap, cur.toList.drop (n * sz), hv, ?_, hw, hl, fun i d hi => absurd hi (Nat.not_lt_zero _), fun i d _ hd => ?_, hg, hb⟩
    · rw [hh, ← ht, List.take_append_drop]
    · obtain ⟨x, h1, h2⟩ := hr i d hd
      exact ⟨x, h1, (h2.mono (F' := fun k => k ≠ g) (fun k hk _ => by omega)).keep hb.size (fun k hk _ => hb.block k hk)⟩
end
end Go.Proofs.YthjgnfeadagmeaaGreat

/- Structs loaded at any place of a block, as one value; a result that is a variable. No walk here. -/
namespace Go.Proofs.YthjgnfeadagmeaaGreat
open Go.RowKit

section
variable {o : Oper} {a : Act} {w : World} {K : Act → World → Prop} {Q : Exit → Act → World → Prop} {ops : Array Oper} {rest : List Oper}
/-- A struct read at a place of a block, as one value. -/
theorem owp_ldat (T : TypeId) (p : Operand) (ho : o.op = .load T p) (b off : Nat) (hp : a.eval p = .pointer (some ⟨b, off, none⟩)) (L : List Value) (hL : ∀ (j : Nat) (v : Value), L[j]? = some v → w.cell? ⟨b, off + j, none⟩ = some v) (d : TypeDesc) (hu : Tryz.prog.underlying T = some d) (hd : d.isRow = true) (hi : (Tryz.prog.info? T).map (·.size) = some L.length) (A : Value) (hA : A = .agg L.toArray)
    (h : K (a.put o.dst A) w) : o.wp Tryz.prog a w K Q :=
  wp_load_mid T p ho b off hp L d hL hu hd hi (by rw [← hA]; exact h)
theorem wl_ldat (hw : Region.wanted o (yielded ops a.tmps) = true) (T : TypeId) (p : Operand) (ho : o.op = .load T p) (b off : Nat) (hp : a.eval p = .pointer (some ⟨b, off, none⟩)) (L : List Value) (hL : ∀ (j : Nat) (v : Value), L[j]? = some v → w.cell? ⟨b, off + j, none⟩ = some v) (d : TypeDesc) (hu : Tryz.prog.underlying T = some d) (hd : d.isRow = true) (hi : (Tryz.prog.info? T).map (·.size) = some L.length) (A : Value) (hA : A = .agg L.toArray)
    (h : wpList Tryz.prog ops Q rest (a.put o.dst A) w) : wpList Tryz.prog ops Q (o :: rest) a w := by
  refine wpList_step fun K hK => ?_
  rw [if_pos hw]
  exact owp_ldat T p ho b off hp L hL d hu hd hi A hA (hK _ _ h)
/-- A whole block read, as one value. -/
theorem wl_loadB (hw : Region.wanted o (yielded ops a.tmps) = true) (T : TypeId) (p : Operand) (ho : o.op = .load T p) (b off : Nat) (hp : a.eval p = .pointer (some ⟨b, off, none⟩)) (L : List Value) (TB : TypeId) (hL : w.heap[b]? = some (.cells L.toArray TB (0, 0))) (d : TypeDesc) (hu : Tryz.prog.underlying T = some d) (hd : d.isRow = true) (hi : (Tryz.prog.info? T).map (·.size) = some L.length) (A : Value) (hA : A = .agg L.toArray)
    (h0 : off = 0) (h : wpList Tryz.prog ops Q rest (a.put o.dst A) w) : wpList Tryz.prog ops Q (o :: rest) a w := by
  subst h0
  exact wl_ldat hw T p ho b 0 hp L (fun j v hv => by rw [Nat.zero_add]; exact cell_at hL j v hv) d hu hd hi A hA h
theorem ret_cell1 {f : Func} {a : Act} {w : World} {Q : Ending → World → Prop} {s : Nat} {t : TypeId} {ad : Addr} {v : Value} (hr : f.results = #[.cell s t]) (hs : a.tmps.getD s undef = .pointer (some ad)) (hl : (loadVar t ad).run Tryz.prog w = .ok v w) (hd : a.defers = [])
    (h : Q (.returned v) w) : bodyPost Tryz.prog f Q .ret a w := by
  refine bodyPost_ret (v := v) ?_ hd h
  have h1 : a.tmps.getD s undef = .pointer (some ad) := hs
  simp [results, hr, -Array.getD_eq_getD_getElem?, h1, asAddr, hl]
end
theorem load_whole {w : World} {b : Nat} {L : List Value} {T TB : TypeId} (h : w.heap[b]? = some (.cells L.toArray TB (0, 0))) (d : TypeDesc) (hu : Tryz.prog.underlying T = some d) (hd : d.isRow = true) (hi : (Tryz.prog.info? T).map (·.size) = some L.length) : (loadVar T ⟨b, 0, none⟩).run Tryz.prog w = .ok (.agg L.toArray) w :=
  run_loadVar_mid (P := Tryz.prog) w b 0 T L d (fun j v hv => by rw [Nat.zero_add]; exact cell_at h j v hv) hu hd hi
/-- Two variables made one behind the other. -/
theorem two_new (w : World) (o1 o2 : Obj) : ∃ W, (w.alloc o1).alloc o2 = W ∧ Below w.heap.size w W ∧ W.heap[w.heap.size]? = some o1 ∧ W.heap[w.heap.size + 1]? = some o2 ∧ W.heap.size = w.heap.size + 2 := by
  have h1 : Below w.heap.size w (w.alloc o1) := (Below.refl _ _).alloc (Nat.le_refl _) _
  have h2 : Below (w.alloc o1).heap.size (w.alloc o1) ((w.alloc o1).alloc o2) := (Below.refl _ _).alloc (Nat.le_refl _) _
  refine ⟨_, rfl, h1.trans (h2.mono h1.size), (h2.block _ (by simp)).trans (heap_alloc_last w o1), ?_, by simp⟩
  have := heap_alloc_last (w.alloc o1) o2
  rw [show (w.alloc o1).heap.size = w.heap.size + 1 by simp] at this
  exact this
end Go.Proofs.YthjgnfeadagmeaaGreat

/- One cell put into a block that is known whole. -/
namespace Go.Proofs.YthjgnfeadagmeaaGreat
open Go.RowKit

section
variable {o : Oper} {a : Act} {w : World} {K : Act → World → Prop} {Q : Exit → Act → World → Prop} {ops : Array Oper} {rest : List Oper}
theorem owp_stone (T : TypeId) (p x : Operand) (ho : o.op = .store T p x) (b off : Nat) (hp : a.eval p = .pointer (some ⟨b, off, none⟩)) (u : Value) (hx : a.eval x = u) (hc : u.cells = #[u]) (h1 : u.oneCell' = true) (L : List Value) (TB : TypeId) (hL : w.heap[b]? = some (.cells L.toArray TB (0, 0))) (hn : off < L.length)
    (hi : (Tryz.prog.info? T).map (·.size) = some 1) (h : ∀ w', Hid (w'.heap[b]? = some (.cells (L.set off u).toArray TB (0, 0)) ∧ One b w w') → K (a.put o.dst undef) w') : o.wp Tryz.prog a w K Q := by
  have hcl : w.cell? ⟨b, off, none⟩ = some L[off] := cell_at hL off _ (List.getElem?_eq_getElem hn)
  have hf : w.frozen? ⟨b, off, none⟩ = false := free_at hL _
  have hb : (w.setCell ⟨b, off, none⟩ u).heap[b]? = some (.cells (L.set off u).toArray TB (0, 0)) := by have := blk_set hL off u; simpa using this
  refine owp_skip (w' := w.setCell ⟨b, off, none⟩ u) ?_ (h _ ⟨hb, one_cells b [u] off w⟩)
  have hr := run_store Tryz.prog w ⟨b, off, none⟩ u .plain h1
  rw [hcl] at hr
  simp only [hf] at hr
  cases hq : Tryz.prog.info? T with
  | none => simp [hq] at hi
  | some i =>
    have hs : i.size = 1 := by simp [hq] at hi; omega
    simp [execOp, ho, Instr.storeAt, Instr.sureAddr, hp, hx, storeVar, sizeOf, typeInfo, hq, hs, hc, storeCells, Addr.add, hr, Result.andThen]
theorem wl_stone (hgd : o.guard = none) (T : TypeId) (p x : Operand) (ho : o.op = .store T p x) (b off : Nat) (hp : a.eval p = .pointer (some ⟨b, off, none⟩)) (u : Value) (hx : a.eval x = u) (hc : u.cells = #[u]) (h1 : u.oneCell' = true) (L : List Value) (TB : TypeId) (hL : w.heap[b]? = some (.cells L.toArray TB (0, 0))) (hn : off < L.length)
    (hi : (Tryz.prog.info? T).map (·.size) = some 1) (h : ∀ w', Hid (w'.heap[b]? = some (.cells (L.set off u).toArray TB (0, 0)) ∧ One b w w') → wpList Tryz.prog ops Q rest (a.put o.dst undef) w') : wpList Tryz.prog ops Q (o :: rest) a w :=
  wpList_plain hgd fun _ hK => owp_stone T p x ho b off hp u hx hc h1 L TB hL hn hi (fun w' hw => hK _ _ (h w' hw))
end
end Go.Proofs.YthjgnfeadagmeaaGreat

/- The program's copies: a real, a request, a signature. -/
namespace Go.Proofs.YthjgnfeadagmeaaGreat
open Go.RowKit

theorem two_newL (L Z : List Value) (T T2 : TypeId) (w : World) : ∃ wb, (w.alloc (.cells L.toArray T)).alloc (.cells Z.toArray T2) = wb ∧ Below w.heap.size w wb ∧ BxAt wb w.heap.size L T ∧ BxAt wb (w.heap.size + 1) Z T2 := by
  have h1 : Below w.heap.size w (w.alloc (.cells L.toArray T)) := (Below.refl _ _).alloc (Nat.le_refl _) _
  have hs : (w.alloc (.cells L.toArray T)).heap.size = w.heap.size + 1 := by simp
  have h2 : Below (w.alloc (.cells L.toArray T)).heap.size (w.alloc (.cells L.toArray T)) ((w.alloc (.cells L.toArray T)).alloc (.cells Z.toArray T2)) := (Below.refl _ _).alloc (Nat.le_refl _) _
  have h3 : BxAt (w.alloc (.cells L.toArray T)) w.heap.size L T := heap_alloc_last w _
  refine ⟨_, rfl, h1.trans (h2.mono h1.size), h3.keep h2, ?_⟩
  have h4 := heap_alloc_last (w.alloc (.cells L.toArray T)) (.cells Z.toArray T2)
  rw [hs] at h4
  exact h4
theorem sub_cell {w : World} {b : Nat} {L : List Value} {T : TypeId} (h : BxAt w b L T) (o : Nat) (M : List Value) (hM : (L.drop o).take M.length = M) (j : Nat) (v : Value) (hv : M[j]? = some v) : w.cell? ⟨b, o + j, none⟩ = some v := by
  refine h.cell _ _ ?_
  have hj := (List.getElem?_eq_some_iff.1 hv).1
  rw [← hM, List.getElem?_take_of_lt hj, List.getElem?_drop] at hv
  exact hv
theorem below_eq {w w' : World} (h : w' = w) : Below w.heap.size w w' := by rw [h]; exact Below.refl _ _
theorem ncanon_any (b : Nat) (w : World) : Calls Tryz.prog 56 #[.float .f64 b] w fun e w' => e = .returned (.float .f64 (canW b)) ∧ Below w.heap.size w w' := by
  go_enter Tryz.func56, Tryz.ntmps56
  cases hn : nanW b
  · go_wp2_with (go_at_call 91; refine (isnan_any _ _).mono ?_; rintro e w1 ⟨rfl, rfl⟩; rw [hn])
    go_ret
    exact ⟨by simp [canW, hn], Below.refl _ _⟩
  · go_wp2_with (first | (go_at_call 91; refine (isnan_any _ _).mono ?_; rintro e w1 ⟨rfl, rfl⟩; rw [hn]) | rw [ff_run])
    go_ret
    exact ⟨by simp [canW, hn], Below.refl _ _⟩
set_option maxRecDepth 100000 in
set_option maxHeartbeats 1600000 in
theorem nownRq_any (r : Rq) (ht : r.key.size ≤ 281474976710656) (w : World) :
    Calls Tryz.prog 55 #[.agg #[.int .i64 r.c, .int .i64 r.st, .int .i64 r.k, .string r.key, .float .f64 r.b, .int .i64 r.id]] w fun e w' => e = .returned (.agg #[.int .i64 r.c, .int .i64 r.st, .int .i64 r.k, .string r.key, .float .f64 (canW r.b), .int .i64 r.id]) ∧ Below w.heap.size w w' := by
  obtain ⟨wa, ha, hb, hx, hz⟩ := two_newL [.int .i64 r.c, .int .i64 r.st, .int .i64 r.k, .string r.key, .float .f64 r.b, .int .i64 r.id] [.int .i64 0, .int .i64 0, .int .i64 0, .string ⟨#[]⟩, .float .f64 0, .int .i64 0] 41 41 w
  have HT := hid ht
  have HA := hid ha
  have S0 : Hid (Below w.heap.size w wa ∧ BxAt wa w.heap.size [.int .i64 r.c, .int .i64 r.st, .int .i64 r.k, .string r.key, .float .f64 r.b, .int .i64 r.id] 41 ∧ BxAt wa (w.heap.size + 1) [.int .i64 0, .int .i64 0, .int .i64 0, .string ⟨#[]⟩, .float .f64 0, .int .i64 0] 41) := hid ⟨hb, hx, hz⟩
  clear ha hb hx hz ht
  have z3 := S0.out.2.1.cell 3 _ rfl
  go_enter Tryz.func55, Tryz.ntmps55
  go_upto_region 1 with fail
  rw [HA.out]
  go_wp2_with (first
    | (have := S2; refine wl_store_blk rfl 41 _ _ rfl (w.heap.size + 1) 0 rfl _ rfl [.int .i64 0, .int .i64 0, .int .i64 0, .string ⟨#[]⟩, .float .f64 0, .int .i64 0] 41 S2.out.2.2 (by simp) (by kernel_rfl) (by simp [Value.oneCell']) ?_; go_must (intro wz Hz; have SZ : Hid (BxAt wz (w.heap.size + 1) [.int .i64 r.c, .int .i64 r.st, .int .i64 r.k, .string r.key, .float .f64 (canW r.b), .int .i64 r.id] 41 ∧ One (w.heap.size + 1) w2s wz) := hid Hz.out; clear Hz))
    | (have := S2; refine wl_loadB rfl 41 _ rfl w.heap.size 0 rfl [.int .i64 r.c, .int .i64 r.st, .int .i64 r.k, .string r.key, .float .f64 (canW r.b), .int .i64 r.id] 41 S2.out.2.1 _ Tryz.underlying41 rfl (by kernel_rfl) (.agg #[.int .i64 r.c, .int .i64 r.st, .int .i64 r.k, .string r.key, .float .f64 (canW r.b), .int .i64 r.id]) rfl rfl ?_)
    | (have := C2; refine wl_stone rfl 37 _ _ rfl w.heap.size 4 rfl (.float .f64 (canW r.b)) rfl rfl rfl [.int .i64 r.c, .int .i64 r.st, .int .i64 r.k, .string r.key, .float .f64 r.b, .int .i64 r.id] 41 C2.out.2.1 (by simp) (by kernel_rfl) ?_; go_must (intro w2s Hz; have S2 : Hid (Below w.heap.size w w2s ∧ BxAt w2s w.heap.size [.int .i64 r.c, .int .i64 r.st, .int .i64 r.k, .string r.key, .float .f64 (canW r.b), .int .i64 r.id] 41 ∧ BxAt w2s (w.heap.size + 1) [.int .i64 0, .int .i64 0, .int .i64 0, .string ⟨#[]⟩, .float .f64 0, .int .i64 0] 41) := hid ⟨Hz.out.2.below C2.out.1 (Nat.le_refl _), Hz.out.1, (Hz.out.2.block _ (by omega)).trans C2.out.2.2⟩; clear Hz))
    | (have := S1; go_at_call 56; go_must (refine (ncanon_any _ _).mono ?_; rintro e w2 ⟨rfl, hb⟩; have hB := S1.out.1; have C2 : Hid (Below w.heap.size w w2 ∧ BxAt w2 w.heap.size [.int .i64 r.c, .int .i64 r.st, .int .i64 r.k, .string r.key, .float .f64 r.b, .int .i64 r.id] 41 ∧ BxAt w2 (w.heap.size + 1) [.int .i64 0, .int .i64 0, .int .i64 0, .string ⟨#[]⟩, .float .f64 0, .int .i64 0] 41) := hid ⟨hB.trans (hb.mono hB.size), S1.out.2.1.keep hb, S1.out.2.2.keep hb⟩; clear hb hB))
    | (have := C1; refine wl_stone rfl 9 _ _ rfl w.heap.size 3 rfl (.string r.key) rfl rfl rfl [.int .i64 r.c, .int .i64 r.st, .int .i64 r.k, .string r.key, .float .f64 r.b, .int .i64 r.id] 41 C1.out.2.1 (by simp) (by kernel_rfl) ?_; go_must (intro w1s Hz; have S1 : Hid (Below w.heap.size w w1s ∧ BxAt w1s w.heap.size [.int .i64 r.c, .int .i64 r.st, .int .i64 r.k, .string r.key, .float .f64 r.b, .int .i64 r.id] 41 ∧ BxAt w1s (w.heap.size + 1) [.int .i64 0, .int .i64 0, .int .i64 0, .string ⟨#[]⟩, .float .f64 0, .int .i64 0] 41) := hid ⟨Hz.out.2.below C1.out.1 (Nat.le_refl _), Hz.out.1, (Hz.out.2.block _ (by omega)).trans C1.out.2.2⟩; clear Hz; have z4 := S1.out.2.1.cell 4 _ rfl))
    | (have := S0; go_at_call 57; go_must (refine (sclone_any _ (by first | exact HT.out | exact HT.out.1 | exact HT.out.2) _).mono ?_; rintro e w1 ⟨rfl, hb⟩; have hB := S0.out.1; have C1 : Hid (Below w.heap.size w w1 ∧ BxAt w1 w.heap.size [.int .i64 r.c, .int .i64 r.st, .int .i64 r.k, .string r.key, .float .f64 r.b, .int .i64 r.id] 41 ∧ BxAt w1 (w.heap.size + 1) [.int .i64 0, .int .i64 0, .int .i64 0, .string ⟨#[]⟩, .float .f64 0, .int .i64 0] 41) := hid ⟨hB.trans (hb.mono hB.size), S0.out.2.1.keep hb, S0.out.2.2.keep hb⟩; clear hb hB)))
  refine ret_cell1 (s := 2) (ad := ⟨w.heap.size + 1, 0, none⟩) rfl rfl (load_whole SZ.out.1 _ Tryz.underlying41 rfl (by kernel_rfl)) rfl ?_
  have hBz : Below w.heap.size w wz := SZ.out.2.below S2.out.1 (by omega)
  exact ⟨rfl, hBz⟩
set_option maxRecDepth 100000 in
set_option maxHeartbeats 1600000 in
theorem nownSig_any (x : Int) (t : ByteArray) (ht : t.size ≤ 281474976710656) (w : World) :
    Calls Tryz.prog 95 #[.agg #[.int .i64 x, .string t]] w fun e w' => e = .returned (.agg #[.int .i64 x, .string t]) ∧ Below w.heap.size w w' := by
  obtain ⟨wa, ha, hb, hx, hz⟩ := two_newL [.int .i64 x, .string t] [.int .i64 0, .string ⟨#[]⟩] 87 87 w
  have HT := hid ht
  have HA := hid ha
  have S0 : Hid (Below w.heap.size w wa ∧ BxAt wa w.heap.size [.int .i64 x, .string t] 87 ∧ BxAt wa (w.heap.size + 1) [.int .i64 0, .string ⟨#[]⟩] 87) := hid ⟨hb, hx, hz⟩
  clear ha hb hx hz ht
  have z1 := S0.out.2.1.cell 1 _ rfl
  go_enter Tryz.func95, Tryz.ntmps95
  go_upto_region 1 with fail
  rw [HA.out]
  go_wp2_with (first
    | (have := S1; refine wl_store_blk rfl 87 _ _ rfl (w.heap.size + 1) 0 rfl _ rfl [.int .i64 0, .string ⟨#[]⟩] 87 S1.out.2.2 (by simp) (by kernel_rfl) (by simp [Value.oneCell']) ?_; go_must (intro wz Hz; have SZ : Hid (BxAt wz (w.heap.size + 1) [.int .i64 x, .string t] 87 ∧ One (w.heap.size + 1) w1s wz) := hid Hz.out; clear Hz))
    | (have := S1; refine wl_loadB rfl 87 _ rfl w.heap.size 0 rfl [.int .i64 x, .string t] 87 S1.out.2.1 _ Tryz.underlying87 rfl (by kernel_rfl) (.agg #[.int .i64 x, .string t]) rfl rfl ?_)
    | (have := C1; refine wl_stone rfl 9 _ _ rfl w.heap.size 1 rfl (.string t) rfl rfl rfl [.int .i64 x, .string t] 87 C1.out.2.1 (by simp) (by kernel_rfl) ?_; go_must (intro w1s Hz; have S1 : Hid (Below w.heap.size w w1s ∧ BxAt w1s w.heap.size [.int .i64 x, .string t] 87 ∧ BxAt w1s (w.heap.size + 1) [.int .i64 0, .string ⟨#[]⟩] 87) := hid ⟨Hz.out.2.below C1.out.1 (Nat.le_refl _), Hz.out.1, (Hz.out.2.block _ (by omega)).trans C1.out.2.2⟩; clear Hz))
    | (have := S0; go_at_call 57; go_must (refine (sclone_any _ (by first | exact HT.out | exact HT.out.1 | exact HT.out.2) _).mono ?_; rintro e w1 ⟨rfl, hb⟩; have hB := S0.out.1; have C1 : Hid (Below w.heap.size w w1 ∧ BxAt w1 w.heap.size [.int .i64 x, .string t] 87 ∧ BxAt w1 (w.heap.size + 1) [.int .i64 0, .string ⟨#[]⟩] 87) := hid ⟨hB.trans (hb.mono hB.size), S0.out.2.1.keep hb, S0.out.2.2.keep hb⟩; clear hb hB)))
  refine ret_cell1 (s := 2) (ad := ⟨w.heap.size + 1, 0, none⟩) rfl rfl (load_whole SZ.out.1 _ Tryz.underlying87 rfl (by kernel_rfl)) rfl ?_
  have hBz : Below w.heap.size w wz := SZ.out.2.below S1.out.1 (by omega)
  exact ⟨rfl, hBz⟩
end Go.Proofs.YthjgnfeadagmeaaGreat

/- The program's copies: rows of cells, slices.Clone, a list of signatures. -/
namespace Go.Proofs.YthjgnfeadagmeaaGreat
open Go.RowKit

theorem wrap_l3 {x : Int} (h0 : 0 ≤ x) (h1 : x ≤ 9223372036854775807) : IntKind.i64.wrap x = x := by
  rw [IntWalk.i64_left]
  exact IntWalk.wrap64_in x ⟨by omega, h1⟩
def sgS (p : Sg) : Prop := p.2.size ≤ 281474976710656
def sgsS (l : List Sg) : Prop := l.length * 24 ≤ 140737488355328 ∧ ∀ p, p ∈ l → sgS p
def ctS (c : Ct) : Prop := c.2.2.1.key.size ≤ 281474976710656 ∧ sgsS c.2.2.2
def cgS (c : Cg) : Prop := (c.2.2.1.length * 96 ≤ 140737488355328 ∧ ∀ x, x ∈ c.2.2.1 → ctS x) ∧ sgS c.2.2.2
def lnS (k : Ln) : Prop := k.1.2.length * 8 ≤ 140737488355328 ∧ sgsS k.2
def sigC (p : Sg) : List Value := [.int .i64 p.1, .string p.2]
def linkC (k : Ln) (v v2 : Value) : List Value := [.int .i64 k.1.1, v, v2]
theorem list_2 {x : List Value} {x0 x1 : Value} (h : x.length = 2) (h0 : x[0]? = some x0) (h1 : x[1]? = some x1) : x = [x0, x1] := by
  refine List.ext_getElem? (fun i => ?_)
  match i with
  | 0 => rw [h0]; rfl
  | 1 => rw [h1]; rfl
  | i + 2 => rw [List.getElem?_eq_none (by omega)]; rfl
theorem list_3 {x : List Value} {x0 x1 x2 : Value} (h : x.length = 3) (h0 : x[0]? = some x0) (h1 : x[1]? = some x1) (h2 : x[2]? = some x2) : x = [x0, x1, x2] := by
  refine List.ext_getElem? (fun i => ?_)
  match i with
  | 0 => rw [h0]; rfl
  | 1 => rw [h1]; rfl
  | 2 => rw [h2]; rfl
  | i + 3 => rw [List.getElem?_eq_none (by omega)]; rfl
theorem list_5 {x : List Value} {x0 x1 x2 x3 x4 : Value} (h : x.length = 5) (h0 : x[0]? = some x0) (h1 : x[1]? = some x1) (h2 : x[2]? = some x2) (h3 : x[3]? = some x3) (h4 : x[4]? = some x4) : x = [x0, x1, x2, x3, x4] := by
  refine List.ext_getElem? (fun i => ?_)
  match i with
  | 0 => rw [h0]; rfl
  | 1 => rw [h1]; rfl
  | 2 => rw [h2]; rfl
  | 3 => rw [h3]; rfl
  | 4 => rw [h4]; rfl
  | i + 5 => rw [List.getElem?_eq_none (by omega)]; rfl
theorem list_9 {x : List Value} {x0 x1 x2 x3 x4 x5 x6 x7 x8 : Value} (h : x.length = 9) (h0 : x[0]? = some x0) (h1 : x[1]? = some x1) (h2 : x[2]? = some x2) (h3 : x[3]? = some x3) (h4 : x[4]? = some x4) (h5 : x[5]? = some x5) (h6 : x[6]? = some x6) (h7 : x[7]? = some x7) (h8 : x[8]? = some x8) : x = [x0, x1, x2, x3, x4, x5, x6, x7, x8] := by
  refine List.ext_getElem? (fun i => ?_)
  match i with
  | 0 => rw [h0]; rfl
  | 1 => rw [h1]; rfl
  | 2 => rw [h2]; rfl
  | 3 => rw [h3]; rfl
  | 4 => rw [h4]; rfl
  | 5 => rw [h5]; rfl
  | 6 => rw [h6]; rfl
  | 7 => rw [h7]; rfl
  | 8 => rw [h8]; rfl
  | i + 9 => rw [List.getElem?_eq_none (by omega)]; rfl
theorem cellsSig {F : Nat → Prop} {w : World} {x : List Value} {c : Sg} (h : RowD F w x ((fun p : Sg => [Dat.i p.1, Dat.s p.2]) c)) : x = sigC c := by
  obtain ⟨h1, h2⟩ := h
  have hl : x.length = 2 := h1
  obtain ⟨u0, k0, r0⟩ := h2 0 _ rfl
  obtain ⟨u1, k1, r1⟩ := h2 1 _ rfl
  obtain rfl := r0.int
  obtain rfl := r1.str
  have hx : x = [_, _] := list_2 hl k0 k1
  exact hx
theorem rowdSig {F : Nat → Prop} {w : World} {c : Sg} : RowD F w (sigC c) ((fun p : Sg => [Dat.i p.1, Dat.s p.2]) c) := ⟨rfl, fun q d hd => by
  match q, hd with
  | 0, hd => cases hd; exact ⟨_, rfl, .i _⟩
  | 1, hd => cases hd; exact ⟨_, rfl, .s _⟩
  | q + 2, hd => cases hd⟩
theorem cellsCert {F : Nat → Prop} {w : World} {x : List Value} {c : Ct} (h : RowD F w x (dCt c)) : ∃ v : Value, x = ctC c v ∧ Reads F w v (dPairs c.2.2.2) := by
  obtain ⟨h1, h2⟩ := h
  have hl : x.length = 9 := h1
  obtain ⟨u0, k0, r0⟩ := h2 0 _ rfl
  obtain ⟨u1, k1, r1⟩ := h2 1 _ rfl
  obtain ⟨u2, k2, r2⟩ := h2 2 _ rfl
  obtain ⟨u3, k3, r3⟩ := h2 3 _ rfl
  obtain ⟨u4, k4, r4⟩ := h2 4 _ rfl
  obtain ⟨u5, k5, r5⟩ := h2 5 _ rfl
  obtain ⟨u6, k6, r6⟩ := h2 6 _ rfl
  obtain ⟨u7, k7, r7⟩ := h2 7 _ rfl
  obtain ⟨u8, k8, r8⟩ := h2 8 _ rfl
  obtain rfl := r0.int
  obtain rfl := r1.int
  obtain rfl := r2.int
  obtain rfl := r3.int
  obtain rfl := r4.int
  obtain rfl := r5.str
  obtain rfl := r6.flt
  obtain rfl := r7.int
  have hx : x = [_, _, _, _, _, _, _, _, u8] := list_9 hl k0 k1 k2 k3 k4 k5 k6 k7 k8
  exact ⟨u8, hx, r8⟩
theorem rowdCert {F : Nat → Prop} {w : World} {c : Ct} {v : Value} (h0 : Reads F w v (dPairs c.2.2.2)) : RowD F w (ctC c v) (dCt c) := ⟨rfl, fun q d hd => by
  match q, hd with
  | 0, hd => cases hd; exact ⟨_, rfl, .i _⟩
  | 1, hd => cases hd; exact ⟨_, rfl, .i _⟩
  | 2, hd => cases hd; exact ⟨_, rfl, .i _⟩
  | 3, hd => cases hd; exact ⟨_, rfl, .i _⟩
  | 4, hd => cases hd; exact ⟨_, rfl, .i _⟩
  | 5, hd => cases hd; exact ⟨_, rfl, .s _⟩
  | 6, hd => cases hd; exact ⟨_, rfl, .f _⟩
  | 7, hd => cases hd; exact ⟨_, rfl, .i _⟩
  | 8, hd => cases hd; exact ⟨_, rfl, h0⟩
  | q + 9, hd => cases hd⟩
theorem cellsChange {F : Nat → Prop} {w : World} {x : List Value} {c : Cg} (h : RowD F w x (dCg c)) : ∃ v : Value, x = cgC c v ∧ Reads F w v (dCts c.2.2.1) := by
  obtain ⟨h1, h2⟩ := h
  have hl : x.length = 5 := h1
  obtain ⟨u0, k0, r0⟩ := h2 0 _ rfl
  obtain ⟨u1, k1, r1⟩ := h2 1 _ rfl
  obtain ⟨u2, k2, r2⟩ := h2 2 _ rfl
  obtain ⟨u3, k3, r3⟩ := h2 3 _ rfl
  obtain ⟨u4, k4, r4⟩ := h2 4 _ rfl
  obtain rfl := r0.int
  obtain rfl := r1.int
  obtain rfl := r3.int
  obtain rfl := r4.str
  have hx : x = [_, _, u2, _, _] := list_5 hl k0 k1 k2 k3 k4
  exact ⟨u2, hx, r2⟩
theorem rowdChange {F : Nat → Prop} {w : World} {c : Cg} {v : Value} (h0 : Reads F w v (dCts c.2.2.1)) : RowD F w (cgC c v) (dCg c) := ⟨rfl, fun q d hd => by
  match q, hd with
  | 0, hd => cases hd; exact ⟨_, rfl, .i _⟩
  | 1, hd => cases hd; exact ⟨_, rfl, .i _⟩
  | 2, hd => cases hd; exact ⟨_, rfl, h0⟩
  | 3, hd => cases hd; exact ⟨_, rfl, .i _⟩
  | 4, hd => cases hd; exact ⟨_, rfl, .s _⟩
  | q + 5, hd => cases hd⟩
theorem cellsLink {F : Nat → Prop} {w : World} {x : List Value} {c : Ln} (h : RowD F w x (dLn c)) : ∃ v : Value, ∃ v2 : Value, x = linkC c v v2 ∧ Reads F w v (dInts c.1.2) ∧ Reads F w v2 (dPairs c.2) := by
  obtain ⟨h1, h2⟩ := h
  have hl : x.length = 3 := h1
  obtain ⟨u0, k0, r0⟩ := h2 0 _ rfl
  obtain ⟨u1, k1, r1⟩ := h2 1 _ rfl
  obtain ⟨u2, k2, r2⟩ := h2 2 _ rfl
  obtain rfl := r0.int
  have hx : x = [_, u1, u2] := list_3 hl k0 k1 k2
  exact ⟨u1, u2, hx, r1, r2⟩
theorem rowdLink {F : Nat → Prop} {w : World} {c : Ln} {v v2 : Value} (h0 : Reads F w v (dInts c.1.2)) (h1 : Reads F w v2 (dPairs c.2)) : RowD F w (linkC c v v2) (dLn c) := ⟨rfl, fun q d hd => by
  match q, hd with
  | 0, hd => cases hd; exact ⟨_, rfl, .i _⟩
  | 1, hd => cases hd; exact ⟨_, rfl, h0⟩
  | 2, hd => cases hd; exact ⟨_, rfl, h1⟩
  | q + 3, hd => cases hd⟩
theorem nInfoSig : (Tryz.prog.info? 87).map (fun i => (i.zero, i.size, i.bytes)) = some (some (.agg #[.int .i64 0, .string ⟨#[]⟩]), 2, 24) := by kernel_rfl
set_option maxRecDepth 100000 in
set_option maxHeartbeats 2000000 in
theorem ncloneSig_any {F : Nat → Prop} (es fs : List (List Dat)) (a : Option Addr) (n cap : Nat) (hw : ∀ e, e ∈ es → e.length = 2) (hm : es.length * 24 ≤ 140737488355328) (w : World) (hI : Reads F w (.slice a n cap) (.l 2 es)) :
    Calls Tryz.prog 131 #[.slice a n cap] w fun e w' => ∃ a1 c1, e = .returned (.slice a1 n c1) ∧ Below w.heap.size w w' ∧ (n = 0 ∨ ∃ b G X, a1 = some ⟨b, 0, none⟩ ∧ OlSt 87 2 b w w' es fs G X 0) := by
  have q22 : ∀ (w : World) (a : Option Addr) (n c n' c' : Nat), (binOp .eql 44 (.slice a n c) (.slice none n' c')).run Tryz.prog w = .ok (.bool a.isNone) w := fun w a n c n' c' => Lib.run_eql_slice_nil w _ _ a n c n' c' Tryz.underlying44
  cases a with
  | none =>
    obtain rfl : n = 0 := by cases hI; rfl
    clear hI hm hw
    go_enter Tryz.func131, Tryz.ntmps131
    go_wp2
    go_ret
    first | exact ⟨none, 0, rfl, Below.refl _ _, .inl rfl⟩ | exact ⟨none, ⟨0, rfl⟩, Below.refl _ _, .inl trivial⟩ | exact ⟨none, 0, rfl, Below.refl _ _, .inl trivial⟩ | exact ⟨none, ⟨0, rfl⟩, Below.refl _ _⟩ | exact ⟨⟨0, rfl⟩, Below.refl _ _, .inl trivial⟩
  | some ad =>
    obtain ⟨i0, hi0, hz0, hz1, hz2⟩ := info_parts nInfoSig
    obtain ⟨G, rfl, hgl, hgw, hgc, hgr⟩ := rows_of hI hw
    have HG := hid (And.intro hgl (And.intro hgw (And.intro hgc hgr)))
    have HN := hid hm
    clear hI hm hw hgl hgw hgc hgr
    go_enter Tryz.func131, Tryz.ntmps131
    go_wp2_with (at_builtin; refine wpList_append_own _ rfl _ _ 44 rfl w.heap.size 87 i0 (.agg #[.int .i64 0, .string ⟨#[]⟩]) 2 24 Tryz.underlying44 hi0 hz0 hz1 hz2 rfl (by decide) _ _ _ rfl (World.ownsRow_made w #[] 0 (Nat.le_refl _) (Nat.zero_le _) rfl) ad es.length cap G.flatten rfl ?qc1 ?qc2 ?qc3 ?qc4 ?qc5 ?qc6 ?_)
    case qc1 => rw [jn_len HG.out.2.1, HG.out.1]
    case qc2 =>
      intro j u hj
      exact Lib.cell?_alloc_some _ (HG.out.2.2.1 j u hj)
    case qc3 =>
      intro u hu
      obtain ⟨x, hx, hux⟩ := List.mem_flatten.1 hu
      obtain ⟨i, hi⟩ := List.mem_iff_getElem?.1 hx
      obtain ⟨y, hy, hr⟩ := HG.out.2.2.2 i _ (List.getElem?_eq_getElem (by rw [← HG.out.1]; exact (List.getElem?_eq_some_iff.1 hi).1))
      rw [hi] at hy
      cases hy
      exact hr.cell1 u hux
    case qc4 => have := HN.out; unfold maxLen; omega
    case qc5 => have := HN.out; omega
    case qc6 => simp
    intro v' w1 hown hgrow hnil
    have hb : Below w.heap.size w w1 := ((Below.refl _ w).alloc (Nat.le_refl _) _).grown hgrow (by simp) (by intro k hk; simp [Value.ownBlock] at hk; omega)
    have HO : Hid (w1.ownsRow w.heap.size 87 2 v' es.length G.flatten ∧ Below w.heap.size w w1) := hid ⟨by simpa using hown, hb⟩
    clear hown hgrow hnil hb
    obtain ⟨a1, c1, hv, hN⟩ : ∃ a1 c1, v' = .slice a1 es.length c1 ∧ (es.length = 0 ∨ ∃ b G X, a1 = some ⟨b, 0, none⟩ ∧ OlSt 87 2 b w w1 es fs G X 0) := by
      rcases OlSt.begin (fs := fs) HO.out.1 HO.out.2 rfl HG.out.1 HG.out.2.1 HG.out.2.2.2 with ⟨h0, a, c, hv⟩ | ⟨b, c, X, hv, hS⟩
      · exact ⟨a, c, by rw [hv, h0]; rfl, .inl (by rw [h0]; rfl)⟩
      · exact ⟨_, c, hv, .inr ⟨b, G, X, rfl, hS⟩⟩
    subst hv
    have HNw := hid hN
    clear hN
    go_wp2
    go_ret
    first | exact ⟨a1, c1, rfl, HO.out.2, HNw.out⟩ | exact ⟨a1, ⟨c1, rfl⟩, HO.out.2, HNw.out⟩
theorem nInfoCert : (Tryz.prog.info? 92).map (fun i => (i.zero, i.size, i.bytes)) = some (some (.agg #[.int .i64 0, .int .i64 0, .int .i64 0, .int .i64 0, .int .i64 0, .string ⟨#[]⟩, .float .f64 0, .int .i64 0, .slice none 0 0]), 9, 96) := by kernel_rfl
set_option maxRecDepth 100000 in
set_option maxHeartbeats 2000000 in
theorem ncloneCert_any {F : Nat → Prop} (es fs : List (List Dat)) (a : Option Addr) (n cap : Nat) (hw : ∀ e, e ∈ es → e.length = 9) (hm : es.length * 96 ≤ 140737488355328) (w : World) (hI : Reads F w (.slice a n cap) (.l 9 es)) :
    Calls Tryz.prog 132 #[.slice a n cap] w fun e w' => ∃ a1 c1, e = .returned (.slice a1 n c1) ∧ Below w.heap.size w w' ∧ (n = 0 ∨ ∃ b G X, a1 = some ⟨b, 0, none⟩ ∧ OlSt 92 9 b w w' es fs G X 0) := by
  have q22 : ∀ (w : World) (a : Option Addr) (n c n' c' : Nat), (binOp .eql 88 (.slice a n c) (.slice none n' c')).run Tryz.prog w = .ok (.bool a.isNone) w := fun w a n c n' c' => Lib.run_eql_slice_nil w _ _ a n c n' c' Tryz.underlying88
  cases a with
  | none =>
    obtain rfl : n = 0 := by cases hI; rfl
    clear hI hm hw
    go_enter Tryz.func132, Tryz.ntmps132
    go_wp2
    go_ret
    first | exact ⟨none, 0, rfl, Below.refl _ _, .inl rfl⟩ | exact ⟨none, ⟨0, rfl⟩, Below.refl _ _, .inl trivial⟩ | exact ⟨none, 0, rfl, Below.refl _ _, .inl trivial⟩ | exact ⟨none, ⟨0, rfl⟩, Below.refl _ _⟩ | exact ⟨⟨0, rfl⟩, Below.refl _ _, .inl trivial⟩
  | some ad =>
    obtain ⟨i0, hi0, hz0, hz1, hz2⟩ := info_parts nInfoCert
    obtain ⟨G, rfl, hgl, hgw, hgc, hgr⟩ := rows_of hI hw
    have HG := hid (And.intro hgl (And.intro hgw (And.intro hgc hgr)))
    have HN := hid hm
    clear hI hm hw hgl hgw hgc hgr
    go_enter Tryz.func132, Tryz.ntmps132
    go_wp2_with (at_builtin; refine wpList_append_own _ rfl _ _ 88 rfl w.heap.size 92 i0 (.agg #[.int .i64 0, .int .i64 0, .int .i64 0, .int .i64 0, .int .i64 0, .string ⟨#[]⟩, .float .f64 0, .int .i64 0, .slice none 0 0]) 9 96 Tryz.underlying88 hi0 hz0 hz1 hz2 rfl (by decide) _ _ _ rfl (World.ownsRow_made w #[] 0 (Nat.le_refl _) (Nat.zero_le _) rfl) ad es.length cap G.flatten rfl ?qc1 ?qc2 ?qc3 ?qc4 ?qc5 ?qc6 ?_)
    case qc1 => rw [jn_len HG.out.2.1, HG.out.1]
    case qc2 =>
      intro j u hj
      exact Lib.cell?_alloc_some _ (HG.out.2.2.1 j u hj)
    case qc3 =>
      intro u hu
      obtain ⟨x, hx, hux⟩ := List.mem_flatten.1 hu
      obtain ⟨i, hi⟩ := List.mem_iff_getElem?.1 hx
      obtain ⟨y, hy, hr⟩ := HG.out.2.2.2 i _ (List.getElem?_eq_getElem (by rw [← HG.out.1]; exact (List.getElem?_eq_some_iff.1 hi).1))
      rw [hi] at hy
      cases hy
      exact hr.cell1 u hux
    case qc4 => have := HN.out; unfold maxLen; omega
    case qc5 => have := HN.out; omega
    case qc6 => simp
    intro v' w1 hown hgrow hnil
    have hb : Below w.heap.size w w1 := ((Below.refl _ w).alloc (Nat.le_refl _) _).grown hgrow (by simp) (by intro k hk; simp [Value.ownBlock] at hk; omega)
    have HO : Hid (w1.ownsRow w.heap.size 92 9 v' es.length G.flatten ∧ Below w.heap.size w w1) := hid ⟨by simpa using hown, hb⟩
    clear hown hgrow hnil hb
    obtain ⟨a1, c1, hv, hN⟩ : ∃ a1 c1, v' = .slice a1 es.length c1 ∧ (es.length = 0 ∨ ∃ b G X, a1 = some ⟨b, 0, none⟩ ∧ OlSt 92 9 b w w1 es fs G X 0) := by
      rcases OlSt.begin (fs := fs) HO.out.1 HO.out.2 rfl HG.out.1 HG.out.2.1 HG.out.2.2.2 with ⟨h0, a, c, hv⟩ | ⟨b, c, X, hv, hS⟩
      · exact ⟨a, c, by rw [hv, h0]; rfl, .inl (by rw [h0]; rfl)⟩
      · exact ⟨_, c, hv, .inr ⟨b, G, X, rfl, hS⟩⟩
    subst hv
    have HNw := hid hN
    clear hN
    go_wp2
    go_ret
    first | exact ⟨a1, c1, rfl, HO.out.2, HNw.out⟩ | exact ⟨a1, ⟨c1, rfl⟩, HO.out.2, HNw.out⟩
theorem nInfoChange : (Tryz.prog.info? 90).map (fun i => (i.zero, i.size, i.bytes)) = some (some (.agg #[.int .i64 0, .int .i64 0, .slice none 0 0, .int .i64 0, .string ⟨#[]⟩]), 5, 64) := by kernel_rfl
set_option maxRecDepth 100000 in
set_option maxHeartbeats 2000000 in
theorem ncloneChange_any {F : Nat → Prop} (es fs : List (List Dat)) (a : Option Addr) (n cap : Nat) (hw : ∀ e, e ∈ es → e.length = 5) (hm : es.length * 64 ≤ 140737488355328) (w : World) (hI : Reads F w (.slice a n cap) (.l 5 es)) :
    Calls Tryz.prog 96 #[.slice a n cap] w fun e w' => ∃ a1 c1, e = .returned (.slice a1 n c1) ∧ Below w.heap.size w w' ∧ (n = 0 ∨ ∃ b G X, a1 = some ⟨b, 0, none⟩ ∧ OlSt 90 5 b w w' es fs G X 0) := by
  have q22 : ∀ (w : World) (a : Option Addr) (n c n' c' : Nat), (binOp .eql 45 (.slice a n c) (.slice none n' c')).run Tryz.prog w = .ok (.bool a.isNone) w := fun w a n c n' c' => Lib.run_eql_slice_nil w _ _ a n c n' c' Tryz.underlying45
  cases a with
  | none =>
    obtain rfl : n = 0 := by cases hI; rfl
    clear hI hm hw
    go_enter Tryz.func96, Tryz.ntmps96
    go_wp2
    go_ret
    first | exact ⟨none, 0, rfl, Below.refl _ _, .inl rfl⟩ | exact ⟨none, ⟨0, rfl⟩, Below.refl _ _, .inl trivial⟩ | exact ⟨none, 0, rfl, Below.refl _ _, .inl trivial⟩ | exact ⟨none, ⟨0, rfl⟩, Below.refl _ _⟩ | exact ⟨⟨0, rfl⟩, Below.refl _ _, .inl trivial⟩
  | some ad =>
    obtain ⟨i0, hi0, hz0, hz1, hz2⟩ := info_parts nInfoChange
    obtain ⟨G, rfl, hgl, hgw, hgc, hgr⟩ := rows_of hI hw
    have HG := hid (And.intro hgl (And.intro hgw (And.intro hgc hgr)))
    have HN := hid hm
    clear hI hm hw hgl hgw hgc hgr
    go_enter Tryz.func96, Tryz.ntmps96
    go_wp2_with (at_builtin; refine wpList_append_own _ rfl _ _ 45 rfl w.heap.size 90 i0 (.agg #[.int .i64 0, .int .i64 0, .slice none 0 0, .int .i64 0, .string ⟨#[]⟩]) 5 64 Tryz.underlying45 hi0 hz0 hz1 hz2 rfl (by decide) _ _ _ rfl (World.ownsRow_made w #[] 0 (Nat.le_refl _) (Nat.zero_le _) rfl) ad es.length cap G.flatten rfl ?qc1 ?qc2 ?qc3 ?qc4 ?qc5 ?qc6 ?_)
    case qc1 => rw [jn_len HG.out.2.1, HG.out.1]
    case qc2 =>
      intro j u hj
      exact Lib.cell?_alloc_some _ (HG.out.2.2.1 j u hj)
    case qc3 =>
      intro u hu
      obtain ⟨x, hx, hux⟩ := List.mem_flatten.1 hu
      obtain ⟨i, hi⟩ := List.mem_iff_getElem?.1 hx
      obtain ⟨y, hy, hr⟩ := HG.out.2.2.2 i _ (List.getElem?_eq_getElem (by rw [← HG.out.1]; exact (List.getElem?_eq_some_iff.1 hi).1))
      rw [hi] at hy
      cases hy
      exact hr.cell1 u hux
    case qc4 => have := HN.out; unfold maxLen; omega
    case qc5 => have := HN.out; omega
    case qc6 => simp
    intro v' w1 hown hgrow hnil
    have hb : Below w.heap.size w w1 := ((Below.refl _ w).alloc (Nat.le_refl _) _).grown hgrow (by simp) (by intro k hk; simp [Value.ownBlock] at hk; omega)
    have HO : Hid (w1.ownsRow w.heap.size 90 5 v' es.length G.flatten ∧ Below w.heap.size w w1) := hid ⟨by simpa using hown, hb⟩
    clear hown hgrow hnil hb
    obtain ⟨a1, c1, hv, hN⟩ : ∃ a1 c1, v' = .slice a1 es.length c1 ∧ (es.length = 0 ∨ ∃ b G X, a1 = some ⟨b, 0, none⟩ ∧ OlSt 90 5 b w w1 es fs G X 0) := by
      rcases OlSt.begin (fs := fs) HO.out.1 HO.out.2 rfl HG.out.1 HG.out.2.1 HG.out.2.2.2 with ⟨h0, a, c, hv⟩ | ⟨b, c, X, hv, hS⟩
      · exact ⟨a, c, by rw [hv, h0]; rfl, .inl (by rw [h0]; rfl)⟩
      · exact ⟨_, c, hv, .inr ⟨b, G, X, rfl, hS⟩⟩
    subst hv
    have HNw := hid hN
    clear hN
    go_wp2
    go_ret
    first | exact ⟨a1, c1, rfl, HO.out.2, HNw.out⟩ | exact ⟨a1, ⟨c1, rfl⟩, HO.out.2, HNw.out⟩
theorem nInfoLink : (Tryz.prog.info? 96).map (fun i => (i.zero, i.size, i.bytes)) = some (some (.agg #[.int .i64 0, .slice none 0 0, .slice none 0 0]), 3, 56) := by kernel_rfl
set_option maxRecDepth 100000 in
set_option maxHeartbeats 2000000 in
theorem ncloneLink_any {F : Nat → Prop} (es fs : List (List Dat)) (a : Option Addr) (n cap : Nat) (hw : ∀ e, e ∈ es → e.length = 3) (hm : es.length * 56 ≤ 140737488355328) (w : World) (hI : Reads F w (.slice a n cap) (.l 3 es)) :
    Calls Tryz.prog 99 #[.slice a n cap] w fun e w' => ∃ a1 c1, e = .returned (.slice a1 n c1) ∧ Below w.heap.size w w' ∧ (n = 0 ∨ ∃ b G X, a1 = some ⟨b, 0, none⟩ ∧ OlSt 96 3 b w w' es fs G X 0) := by
  have q22 : ∀ (w : World) (a : Option Addr) (n c n' c' : Nat), (binOp .eql 46 (.slice a n c) (.slice none n' c')).run Tryz.prog w = .ok (.bool a.isNone) w := fun w a n c n' c' => Lib.run_eql_slice_nil w _ _ a n c n' c' Tryz.underlying46
  cases a with
  | none =>
    obtain rfl : n = 0 := by cases hI; rfl
    clear hI hm hw
    go_enter Tryz.func99, Tryz.ntmps99
    go_wp2
    go_ret
    first | exact ⟨none, 0, rfl, Below.refl _ _, .inl rfl⟩ | exact ⟨none, ⟨0, rfl⟩, Below.refl _ _, .inl trivial⟩ | exact ⟨none, 0, rfl, Below.refl _ _, .inl trivial⟩ | exact ⟨none, ⟨0, rfl⟩, Below.refl _ _⟩ | exact ⟨⟨0, rfl⟩, Below.refl _ _, .inl trivial⟩
  | some ad =>
    obtain ⟨i0, hi0, hz0, hz1, hz2⟩ := info_parts nInfoLink
    obtain ⟨G, rfl, hgl, hgw, hgc, hgr⟩ := rows_of hI hw
    have HG := hid (And.intro hgl (And.intro hgw (And.intro hgc hgr)))
    have HN := hid hm
    clear hI hm hw hgl hgw hgc hgr
    go_enter Tryz.func99, Tryz.ntmps99
    go_wp2_with (at_builtin; refine wpList_append_own _ rfl _ _ 46 rfl w.heap.size 96 i0 (.agg #[.int .i64 0, .slice none 0 0, .slice none 0 0]) 3 56 Tryz.underlying46 hi0 hz0 hz1 hz2 rfl (by decide) _ _ _ rfl (World.ownsRow_made w #[] 0 (Nat.le_refl _) (Nat.zero_le _) rfl) ad es.length cap G.flatten rfl ?qc1 ?qc2 ?qc3 ?qc4 ?qc5 ?qc6 ?_)
    case qc1 => rw [jn_len HG.out.2.1, HG.out.1]
    case qc2 =>
      intro j u hj
      exact Lib.cell?_alloc_some _ (HG.out.2.2.1 j u hj)
    case qc3 =>
      intro u hu
      obtain ⟨x, hx, hux⟩ := List.mem_flatten.1 hu
      obtain ⟨i, hi⟩ := List.mem_iff_getElem?.1 hx
      obtain ⟨y, hy, hr⟩ := HG.out.2.2.2 i _ (List.getElem?_eq_getElem (by rw [← HG.out.1]; exact (List.getElem?_eq_some_iff.1 hi).1))
      rw [hi] at hy
      cases hy
      exact hr.cell1 u hux
    case qc4 => have := HN.out; unfold maxLen; omega
    case qc5 => have := HN.out; omega
    case qc6 => simp
    intro v' w1 hown hgrow hnil
    have hb : Below w.heap.size w w1 := ((Below.refl _ w).alloc (Nat.le_refl _) _).grown hgrow (by simp) (by intro k hk; simp [Value.ownBlock] at hk; omega)
    have HO : Hid (w1.ownsRow w.heap.size 96 3 v' es.length G.flatten ∧ Below w.heap.size w w1) := hid ⟨by simpa using hown, hb⟩
    clear hown hgrow hnil hb
    obtain ⟨a1, c1, hv, hN⟩ : ∃ a1 c1, v' = .slice a1 es.length c1 ∧ (es.length = 0 ∨ ∃ b G X, a1 = some ⟨b, 0, none⟩ ∧ OlSt 96 3 b w w1 es fs G X 0) := by
      rcases OlSt.begin (fs := fs) HO.out.1 HO.out.2 rfl HG.out.1 HG.out.2.1 HG.out.2.2.2 with ⟨h0, a, c, hv⟩ | ⟨b, c, X, hv, hS⟩
      · exact ⟨a, c, by rw [hv, h0]; rfl, .inl (by rw [h0]; rfl)⟩
      · exact ⟨_, c, hv, .inr ⟨b, G, X, rfl, hS⟩⟩
    subst hv
    have HNw := hid hN
    clear hN
    go_wp2
    go_ret
    first | exact ⟨a1, c1, rfl, HO.out.2, HNw.out⟩ | exact ⟨a1, ⟨c1, rfl⟩, HO.out.2, HNw.out⟩
set_option maxRecDepth 100000 in
set_option maxHeartbeats 3200000 in
theorem nlistSig_any {F : Nat → Prop} (l : List Sg) (a : Option Addr) (cap : Nat) (hm : l.length * 24 ≤ 140737488355328) (hl : ∀ c, c ∈ l → sgS c) (w : World) (hI : Reads F w (.slice a l.length cap) (.l 2 (l.map (fun p : Sg => [Dat.i p.1, Dat.s p.2])))) :
    Calls Tryz.prog 94 #[.slice a l.length cap, .func (.func 95) #[] #[]] w fun e w' => ∃ a1 c1, e = .returned (.slice a1 l.length c1) ∧ Reads (fun k => w.heap.size ≤ k) w' (.slice a1 l.length c1) (.l 2 (l.map (fun p : Sg => [Dat.i p.1, Dat.s p.2]))) ∧ Below w.heap.size w w' := by
  have hwd : ∀ e, e ∈ l.map (fun p : Sg => [Dat.i p.1, Dat.s p.2]) → e.length = 2 := fun e he => by
    obtain ⟨c, _, rfl⟩ := List.mem_map.1 he
    rfl
  have hwn : ∀ e, e ∈ l.map (fun p : Sg => [Dat.i p.1, Dat.s p.2]) → e.length = 2 := fun e he => by
    obtain ⟨c, _, rfl⟩ := List.mem_map.1 he
    rfl
  have HC := hid (ncloneSig_any (l.map (fun p : Sg => [Dat.i p.1, Dat.s p.2])) (l.map (fun p : Sg => [Dat.i p.1, Dat.s p.2])) a l.length cap hwd (by rw [List.length_map]; exact hm) w hI)
  have hll : (l.length : Int) ≤ 140737488355328 := by omega
  have HL := hid (And.intro hl (And.intro hwn hll))
  clear hm hl hI hwd hwn hll
  go_enter Tryz.func94, Tryz.ntmps94
  go_wp2_with (go_at_call 131; go_must (refine (HC.out).mono ?_; rintro e w1 ⟨a1, c1, rfl, hb, hS⟩; have H1 := hid (And.intro hb hS); clear hb hS))
  go_loopw [10] (fun i wr => ∃ (j : Nat), j ≤ l.length ∧ i = .int .i64 (j : Int) ∧ Below w.heap.size w wr ∧ (l.length = 0 ∨ ∃ b G X, a1 = some ⟨b, 0, none⟩ ∧ OlSt 87 2 b w wr (l.map (fun p : Sg => [Dat.i p.1, Dat.s p.2])) (l.map (fun p : Sg => [Dat.i p.1, Dat.s p.2])) G X j))
    (fun i _ => ((l.length : Int) - intOf i).toNat)
  case atStart => exact ⟨0, by omega, rfl, H1.out⟩
  case round =>
    obtain ⟨j, hj, rfl, hB, hS⟩ := hrel
    have HS := hid (And.intro hB hS)
    clear hB hS
    by_cases hjn : j = l.length
    · have hj1 : ¬ ((j : Int) < (l.length : Int)) := by omega
      have HJ := hid hjn
      clear hj hjn
      go_wp2
      go_ret
      have hfin : Reads (fun k => w.heap.size ≤ k) wr (.slice a1 l.length c1) (.l 2 (l.map (fun p : Sg => [Dat.i p.1, Dat.s p.2]))) := by
        rcases HS.out.2 with h0 | ⟨b, G, X, rfl, hS⟩
        · obtain rfl := List.eq_nil_of_length_eq_zero h0
          exact .nil _ _ _
        · have h2 := hS
          rw [HJ.out, show l.length = (l.map (fun p : Sg => [Dat.i p.1, Dat.s p.2])).length by simp] at h2
          have h3 := h2.all (by simp) HL.out.2.1 c1
          rw [List.length_map] at h3
          exact h3
      first | exact ⟨a1, c1, rfl, hfin, HS.out.1⟩ | exact ⟨a1, ⟨c1, rfl⟩, hfin, HS.out.1⟩ | exact ⟨_, _, rfl, hfin, HS.out.1⟩
    · have hj1 : (j : Int) < (l.length : Int) := by omega
      have hj0 : (0 : Int) ≤ (j : Int) := Int.natCast_nonneg _
      have hjw : IntKind.i64.wrap ((j : Int) + 1) = (j : Int) + 1 := wrap_l3 (by have := HL.out.2.2; omega) (by have := HL.out.2.2; omega)
      obtain ⟨c, hc⟩ : ∃ c, l[j]? = some c := ⟨_, List.getElem?_eq_getElem (by omega)⟩
      obtain ⟨hB, hS⟩ := HS.out
      obtain ⟨b, G, X, rfl, hT⟩ := hS.resolve_left (by omega)
      clear hS
      have hS := hT
      clear hT
      obtain ⟨x, hx, hR⟩ := hS.rest j ((fun p : Sg => [Dat.i p.1, Dat.s p.2]) c) (Nat.le_refl _) (by rw [List.getElem?_map, hc]; rfl)
      obtain rfl := cellsSig hR
      have HR := hid True.intro
      have H2 : Hid (OlSt 87 2 b w wr (l.map (fun p : Sg => [Dat.i p.1, Dat.s p.2])) (l.map (fun p : Sg => [Dat.i p.1, Dat.s p.2])) G X j ∧ G[j]? = some (sigC c)) := hid ⟨hS, hx⟩
      have HJ := hid (And.intro hj (And.intro hjn hc))
      have hlen : j * 2 + 2 ≤ (G.flatten ++ X).length := by
        have h1 := jn_len hS.wid
        have h2 := hS.len
        rw [List.length_map] at h2
        rw [List.length_append, h1, h2]
        omega
      have HLn := hid hlen
      clear hB hS hR hx hj hjn hc hlen 
      go_wp2_with (first
        | (have := H3; refine wl_store_blk rfl 87 _ _ rfl b (j * 2) rfl _ rfl (G.flatten ++ X) 87 H3.out.1.blk (by exact HLn.out) (by kernel_rfl) (by simp [Value.oneCell']) ?_; go_must (intro w3 Hz; have H4 := Hz; clear Hz))
        | (go_at_call 95; go_must (refine (nownSig_any _ _ (by first | exact HL.out.1 c (List.mem_of_getElem? HJ.out.2.2)) _).mono ?_; rintro e w2 ⟨rfl, hb⟩; have H3 : Hid (OlSt 87 2 b w w2 (l.map (fun p : Sg => [Dat.i p.1, Dat.s p.2])) (l.map (fun p : Sg => [Dat.i p.1, Dat.s p.2])) G X j ∧ Below wr.heap.size wr w2) := hid ⟨H2.out.1.keep hb, hb⟩; clear hb))
        | (refine wl_ldat rfl 87 _ rfl b (j * 2) rfl [.int .i64 c.1, .string c.2] (fun q u hu => H2.out.1.at H2.out.2 q u hu) _ Tryz.underlying87 rfl (by kernel_rfl) (.agg #[.int .i64 c.1, .string c.2]) rfl ?_))
      go_roundw
      case rel =>
        have hbb := lt_of_blk H2.out.1.blk
        have hsw := H2.out.1.bel.size
        have hj2 := HJ.out
        refine ⟨j + 1, by omega, by simp, H4.out.2.below H3.out.1.bel H3.out.1.low, .inr ⟨b, _, X, rfl, H3.out.1.put [.int .i64 c.1, .string c.2] ((fun p : Sg => [Dat.i p.1, Dat.s p.2]) c) (by rw [List.length_map]; omega) (by simp [hj2.2.2]) rfl ?_ H4.out.2 H4.out.1⟩⟩
        exact rowdSig (c := c)
      case measure => have := HJ.out; simp [intOf]; omega
theorem nownSigs_any {F : Nat → Prop} (l : List Sg) (a : Option Addr) (cap : Nat) (hl : sgsS l) (w : World) (hI : Reads F w (.slice a l.length cap) (dPairs l)) :
    Calls Tryz.prog 58 #[.slice a l.length cap] w fun e w' => ∃ a1 c1, e = .returned (.slice a1 l.length c1) ∧ Reads (fun k => w.heap.size ≤ k) w' (.slice a1 l.length c1) (dPairs l) ∧ Below w.heap.size w w' := by
  have HC := hid (nlistSig_any l a cap hl.1 hl.2 w hI)
  clear hl hI
  go_enter Tryz.func58, Tryz.ntmps58
  go_wp2_with (go_at_call 94; go_must (refine (HC.out).mono ?_; rintro e w1 ⟨a1, c1, rfl, hr, hb⟩; have H1 := hid (And.intro hr hb); clear hr hb))
  go_ret
  first | exact ⟨a1, c1, rfl, H1.out⟩ | exact ⟨a1, ⟨c1, rfl⟩, H1.out⟩ | exact ⟨_, _, rfl, H1.out⟩
end Go.Proofs.YthjgnfeadagmeaaGreat

/- One thing more in a row of one's own, by an append in a region; a store of a slice. -/
namespace Go.Proofs.YthjgnfeadagmeaaGreat
open Go.RowKit

section
variable {o : Oper} {a : Act} {w : World} {K : Act → World → Prop} {Q : Exit → Act → World → Prop} {ops : Array Oper} {rest : List Oper}
theorem owp_storeV (T : TypeId) (p x : Operand) (ho : o.op = .store T p x) (b off : Nat) (hp : a.eval p = .pointer (some ⟨b, off, none⟩)) (u : Value) (hx : a.eval x = u) (hc : u.cells = #[u]) (h1 : u.oneCell' = true) (L : List Value) (TB : TypeId) (hL : w.heap[b]? = some (.cells L.toArray TB (0, 0))) (hn : off < L.length)
    (hi : (Tryz.prog.info? T).map (·.size) = some 1) (h : ∀ w', Hid (w'.heap[b]? = some (.cells (L.set off u).toArray TB (0, 0)) ∧ One b w w') → K (a.put o.dst undef) w') : o.wp Tryz.prog a w K Q := by
  have hcl : w.cell? ⟨b, off, none⟩ = some L[off] := cell_at hL off _ (List.getElem?_eq_getElem hn)
  have hf : w.frozen? ⟨b, off, none⟩ = false := free_at hL _
  have hb : (w.setCell ⟨b, off, none⟩ u).heap[b]? = some (.cells (L.set off u).toArray TB (0, 0)) := by have := blk_set hL off u; simpa using this
  refine owp_skip (w' := w.setCell ⟨b, off, none⟩ u) ?_ (h _ ⟨hb, one_cells b [u] off w⟩)
  have hr := run_store Tryz.prog w ⟨b, off, none⟩ u .plain h1
  rw [hcl] at hr
  simp only [hf] at hr
  cases hq : Tryz.prog.info? T with
  | none => simp [hq] at hi
  | some i =>
    have hs : i.size = 1 := by simp [hq] at hi; omega
    simp [execOp, ho, Instr.storeAt, Instr.sureAddr, hp, hx, storeVar, sizeOf, typeInfo, hq, hs, hc, storeCells, Addr.add, hr, Result.andThen]
theorem owp_append_at (s x : Operand) (t : TypeId) (ho : o.op = .call { callee := .builtin .append, args := #[s, x], argTypes := #[t, t] })
    (base : Nat) (e : TypeId) (i : TypeInfo) (z : Value) (size bytes : Nat) (ht : Tryz.prog.underlying t = some (.slice e)) (hi : Tryz.prog.info? e = some i) (hz : i.zero = some z)
    (hsize : i.size = size) (hby : i.bytes = bytes) (hzs : z.cells.size = size) (hsz : 0 < size)
    (v : Value) (n : Nat) (xs : List Value) (hs : a.eval s = v) (hown : w.ownsRow base e size v n xs)
    (ad : Addr) (m c : Nat) (news : List Value) (hx : a.eval x = .slice (some ad) m c) (hl : news.length = m * size) (hnews : ∀ j u, news[j]? = some u → w.cell? (ad.add j) = some u) (h1 : ∀ u ∈ news, u.oneCell' = true)
    (h63 : n + m ≤ maxLen) (hbytes : (n + m) * bytes ≤ 140737488355328) (hbase : base ≤ w.heap.size)
    (h : ∀ v' w', w'.ownsRow base e size v' (n + m) (xs ++ news) → w.grownBy w' v.ownBlock → (v'.ownBlock = v.ownBlock ∨ v'.ownBlock = some w.heap.size) → K (a.put o.dst v') w') : o.wp Tryz.prog a w K Q := by
  obtain ⟨v', w', hr, h2, h3, h4, h5⟩ := run_append_own_at (P := Tryz.prog) w base t o.type e i z size bytes ht hi hz hsize hby hzs hsz v n xs hown ad m c news hl hnews h1 h63 hbytes hbase
  unfold Oper.wp execOp
  simp only [ho, resolve, invoke, builtin, Sem.run_bind, Sem.run_pure, Result.andThen_ok, List.map_toArray, List.map_cons, List.map_nil, hs, hx, hr]
  exact h v' w' h2 h3 h5
end
end Go.Proofs.YthjgnfeadagmeaaGreat

/- The document's text of a request. -/
namespace Go.Proofs.YthjgnfeadagmeaaGreat
open Go.RowKit

theorem below_up {B C : Nat} {x y z : World} (h : Below B x y) (k : Below C y z) (hC : B ≤ C) (_hs : C ≤ y.heap.size) : Below B x z := h.trans (k.mono hC)
set_option maxRecDepth 100000 in
set_option maxHeartbeats 6400000 in
theorem qtext_any (r : Rq) (hb : r.b < 18446744073709551616) (w : World) : Calls Tryz.prog 126 #[.agg #[.int .i64 r.c, .int .i64 r.st, .int .i64 r.k, .string r.key, .float .f64 r.b, .int .i64 r.id]] w fun e w' => e = .returned (.tuple #[.string (rqT r), .int .i64 (rqE r)]) ∧ Below w.heap.size w w' := by
  have H0 : Hid (RqAt (w.alloc (.cells #[.int .i64 r.c, .int .i64 r.st, .int .i64 r.k, .string r.key, .float .f64 r.b, .int .i64 r.id] 41)) w.heap.size r ∧ Below w.heap.size w (w.alloc (.cells #[.int .i64 r.c, .int .i64 r.st, .int .i64 r.k, .string r.key, .float .f64 r.b, .int .i64 r.id] 41))) := hid ⟨heap_alloc_last w _, (Below.refl w.heap.size w).alloc (Nat.le_refl _) _⟩
  have HN : Hid (∀ X, nullB r = X → ∀ u, Calls Tryz.prog 48 #[.agg #[.int .i64 r.c, .int .i64 r.st, .int .i64 r.k, .string r.key, .float .f64 r.b, .int .i64 r.id]] u fun e w' => e = .returned (.bool X) ∧ Below u.heap.size u w') := hid (fun X hX u => by rw [← hX]; exact qnull_any r u)
  have HR : Hid (∀ X, rightB r = X → ∀ u, Calls Tryz.prog 46 #[.agg #[.int .i64 r.c, .int .i64 r.st, .int .i64 r.k, .string r.key, .float .f64 r.b, .int .i64 r.id]] u fun e w' => e = .returned (.bool X) ∧ Below u.heap.size u w') := hid (fun X hX u => by rw [← hX]; exact qright_any r u)
  cases hN : nullB r with
  | true =>
    rw [show rqT r = ⟨#[0]⟩ by rw [rqT, if_pos hN], show rqE r = 0 by rw [rqE, if_pos hN]]
    have HNb := hid (HN.out _ hN)
    clear hN hb
    go_enter Tryz.func126, Tryz.ntmps126
    go_wp2_with (go_at_call 48; refine (HNb.out _).mono ?_; rintro e w1 ⟨rfl, hb1⟩; have H1 := hid (And.intro (H0.out.1.keep hb1) (H0.out.2.trans (hb1.mono H0.out.2.size))); clear hb1; obtain ⟨⟨z0, z1⟩, z2, z3, z4, z5⟩ := H1.out.1.cells)
    go_ret2
    exact ⟨rfl, H1.out.2⟩
  | false =>
    have HNb := hid (HN.out _ hN)
    cases hR : rightB r with
    | false =>
      rw [show rqT r = ⟨#[]⟩ by rw [rqT, hN, hR]; rfl, show rqE r = 1 by rw [rqE, hN, hR]; rfl]
      have HRb := hid (HR.out _ hR)
      clear hN hR hb
      go_enter Tryz.func126, Tryz.ntmps126
      go_wp2_with (first
        | (go_at_call 48; refine (HNb.out _).mono ?_; rintro e w1 ⟨rfl, hb1⟩; have H1 := hid (And.intro (H0.out.1.keep hb1) (H0.out.2.trans (hb1.mono H0.out.2.size))); clear hb1; obtain ⟨⟨z0, z1⟩, z2, z3, z4, z5⟩ := H1.out.1.cells)
        | (go_at_call 46; refine (HRb.out _).mono ?_; rintro e w2 ⟨rfl, hb2⟩; have H2 := hid (And.intro (H1.out.1.keep hb2) (H1.out.2.trans (hb2.mono H1.out.2.size))); clear hb2 z0 z1 z2 z3 z4 z5; obtain ⟨⟨z0, z1⟩, z2, z3, z4, z5⟩ := H2.out.1.cells))
      go_ret2
      exact ⟨rfl, H2.out.2⟩
    | true =>
      rw [show rqT r = ⟨(rqL r).toArray⟩ by rw [rqT, hN, hR]; rfl, show rqE r = 0 by rw [rqE, hN, hR]; rfl]
      have HRb := hid (HR.out _ hR)
      obtain ⟨⟨c1, c2⟩, ⟨s1, s2⟩, ⟨k1, k2⟩, hk, i1, i2⟩ := right_fields hR
      have HZ := hid (And.intro hk (canW_lt hb))
      obtain ⟨C, eC⟩ : ∃ C : Nat, r.c = (C : Int) := ⟨r.c.toNat, by omega⟩
      obtain ⟨S, eS⟩ : ∃ S : Nat, r.st = (S : Int) := ⟨r.st.toNat, by omega⟩
      obtain ⟨N, eN⟩ : ∃ N : Nat, r.k = (N : Int) := ⟨r.k.toNat, by omega⟩
      obtain ⟨I, eI⟩ : ∃ I : Nat, r.id = (I : Int) := ⟨r.id.toNat, by omega⟩
      have HF : Hid ((C < 256 ∧ S < 4294967296 ∧ N < 256 ∧ I < 256) ∧ rqL r = be 1 1 ++ (be 1 C ++ (be 4 S ++ (be 1 N ++ (be 2 r.key.size ++ (r.key.data.toList ++ (be 8 (canW r.b) ++ be 1 I))))))) := hid ⟨by omega, by rw [rqL, eC, eS, eN, eI]; rfl⟩
      clear c1 c2 s1 s2 k1 k2 hk i1 i2 hN hR hb
      obtain ⟨c, st, k, key, b, id⟩ := r
      simp only at eC eS eN eI HF HZ H0 HN HR HNb HRb ⊢
      subst eC eS eN eI
      have HKB : Hid (∀ u, Calls Tryz.prog 89 #[.float .f64 b] u fun e w' => e = .returned (.int .u64 (canW b : Nat)) ∧ w' = u) := hid (fun u => kbits_any b u)
      generalize canW b = W8 at HF HZ HKB
      go_enter Tryz.func126, Tryz.ntmps126
      go_wp2_with (first
        | (go_at_call 48; refine (HNb.out _).mono ?_; rintro e w1 ⟨rfl, hb1⟩; have H1 := hid (And.intro (H0.out.1.keep hb1) (H0.out.2.trans (hb1.mono H0.out.2.size))); clear hb1; obtain ⟨⟨z0, z1⟩, z2, z3, z4, z5⟩ := H1.out.1.cells)
        | (go_at_call 46; refine (HRb.out _).mono ?_; rintro e w2 ⟨rfl, hb2⟩; have H2 := hid (And.intro (H1.out.1.keep hb2) (H1.out.2.trans (hb2.mono H1.out.2.size))); clear hb2 z0 z1 z2 z3 z4 z5; obtain ⟨⟨z0, z1⟩, z2, z3, z4, z5⟩ := H2.out.1.cells)
        | (go_at_call 72; refine (txnew 100 (by decide) _).mono ?_; rintro e w3 ⟨rfl, h3⟩; have T0 := hid h3; clear h3; have HQT0 : Hid (RqAt w3 w.heap.size ⟨C, S, N, key, b, I⟩) := hid (((T0.out.2).block _ (lt_of_blk H2.out.1)).trans H2.out.1); (try clear z0 z1 z2 z3 z4 z5); obtain ⟨⟨z0, z1⟩, z2, z3, z4, z5⟩ := HQT0.out.cells)
        | (go_at_call 73; have := T6; refine (txnum 100 (by decide) (by decide) _ _ _ ([] ++ be 1 1 ++ be 1 C ++ be 4 S ++ be 1 N ++ (be 2 key.size ++ key.data.toList) ++ be 8 W8) I 1 (by decide) (by have := HF.out.1.2.2.2; omega) (by have := HZ.out.1; simp only [List.length_append, List.length_nil, be_len]; (try rw [data_len]); omega) (by exact T6.out)).mono ?_; rintro e v6 ⟨rfl, h6⟩; have T7 := hid h6; clear h6; have HQT7 : Hid (RqAt v6 w.heap.size ⟨C, S, N, key, b, I⟩) := hid (((T7.out.2).block _ (lt_of_blk H2.out.1)).trans H2.out.1); (try clear z0 z1 z2 z3 z4 z5); obtain ⟨⟨z0, z1⟩, z2, z3, z4, z5⟩ := HQT7.out.cells)
        | (go_at_call 88; have := T5; refine (txbits 100 (by decide) (by decide) _ _ _ ([] ++ be 1 1 ++ be 1 C ++ be 4 S ++ be 1 N ++ (be 2 key.size ++ key.data.toList)) W8 HZ.out.2 (by have := HZ.out.1; simp only [List.length_append, List.length_nil, be_len]; (try rw [data_len]); omega) (by exact T5.out)).mono ?_; rintro e v5 ⟨rfl, h5⟩; have T6 := hid h5; clear h5; have HQT6 : Hid (RqAt v5 w.heap.size ⟨C, S, N, key, b, I⟩) := hid (((T6.out.2).block _ (lt_of_blk H2.out.1)).trans H2.out.1); (try clear z0 z1 z2 z3 z4 z5); obtain ⟨⟨z0, z1⟩, z2, z3, z4, z5⟩ := HQT6.out.cells)
        | (go_at_call 75; have := T4; refine (txtext 100 (by decide) (by decide) _ _ _ ([] ++ be 1 1 ++ be 1 C ++ be 4 S ++ be 1 N) key (by have := HZ.out.1; omega) (by have := HZ.out.1; simp only [List.length_append, List.length_nil, be_len]; (try rw [data_len]); omega) (by exact T4.out)).mono ?_; rintro e v4 ⟨rfl, h4⟩; have T5 := hid h4; clear h4; have HQT5 : Hid (RqAt v4 w.heap.size ⟨C, S, N, key, b, I⟩) := hid (((T5.out.2).block _ (lt_of_blk H2.out.1)).trans H2.out.1); (try clear z0 z1 z2 z3 z4 z5); obtain ⟨⟨z0, z1⟩, z2, z3, z4, z5⟩ := HQT5.out.cells)
        | (go_at_call 73; have := T3; refine (txnum 100 (by decide) (by decide) _ _ _ ([] ++ be 1 1 ++ be 1 C ++ be 4 S) N 1 (by decide) (by have := HF.out.1.2.2.1; omega) (by have := HZ.out.1; simp only [List.length_append, List.length_nil, be_len]; (try rw [data_len]); omega) (by exact T3.out)).mono ?_; rintro e v3 ⟨rfl, h3⟩; have T4 := hid h3; clear h3; have HQT4 : Hid (RqAt v3 w.heap.size ⟨C, S, N, key, b, I⟩) := hid (((T4.out.2).block _ (lt_of_blk H2.out.1)).trans H2.out.1); (try clear z0 z1 z2 z3 z4 z5); obtain ⟨⟨z0, z1⟩, z2, z3, z4, z5⟩ := HQT4.out.cells)
        | (go_at_call 73; have := T2; refine (txnum 100 (by decide) (by decide) _ _ _ ([] ++ be 1 1 ++ be 1 C) S 4 (by decide) (by have := HF.out.1.2.1; omega) (by have := HZ.out.1; simp only [List.length_append, List.length_nil, be_len]; (try rw [data_len]); omega) (by exact T2.out)).mono ?_; rintro e v2 ⟨rfl, h2⟩; have T3 := hid h2; clear h2; have HQT3 : Hid (RqAt v2 w.heap.size ⟨C, S, N, key, b, I⟩) := hid (((T3.out.2).block _ (lt_of_blk H2.out.1)).trans H2.out.1); (try clear z0 z1 z2 z3 z4 z5); obtain ⟨⟨z0, z1⟩, z2, z3, z4, z5⟩ := HQT3.out.cells)
        | (go_at_call 73; have := T1; refine (txnum 100 (by decide) (by decide) _ _ _ ([] ++ be 1 1) C 1 (by decide) (by have := HF.out.1.1; omega) (by have := HZ.out.1; simp only [List.length_append, List.length_nil, be_len]; (try rw [data_len]); omega) (by exact T1.out)).mono ?_; rintro e v1 ⟨rfl, h1⟩; have T2 := hid h1; clear h1; have HQT2 : Hid (RqAt v1 w.heap.size ⟨C, S, N, key, b, I⟩) := hid (((T2.out.2).block _ (lt_of_blk H2.out.1)).trans H2.out.1); (try clear z0 z1 z2 z3 z4 z5); obtain ⟨⟨z0, z1⟩, z2, z3, z4, z5⟩ := HQT2.out.cells)
        | (go_at_call 73; have := T0; refine (txnum 100 (by decide) (by decide) _ _ _ [] 1 1 (by decide) (by decide) (by decide) (by exact T0.out)).mono ?_; rintro e v0 ⟨rfl, h0⟩; have T1 := hid h0; clear h0; have HQT1 : Hid (RqAt v0 w.heap.size ⟨C, S, N, key, b, I⟩) := hid (((T1.out.2).block _ (lt_of_blk H2.out.1)).trans H2.out.1); (try clear z0 z1 z2 z3 z4 z5); obtain ⟨⟨z0, z1⟩, z2, z3, z4, z5⟩ := HQT1.out.cells)
        | (go_at_call 89; refine (HKB.out _).mono ?_; rintro e w9 ⟨rfl, rfl⟩)
        | (go_at_call 78; refine (txdone 100 _ _ _ _ (by exact T7.out)).mono ?_; rintro e wd ⟨rfl, hd⟩; have HDn := hid (H2.out.2.trans (hd.mono H2.out.2.size)); clear hd))
      go_ret2
      refine ⟨?_, HDn.out⟩
      rw [HF.out.2]
      rfl
end Go.Proofs.YthjgnfeadagmeaaGreat

/- What the document reads any bytes as: a request. -/
namespace Go.Proofs.YthjgnfeadagmeaaGreat
open Go.RowKit

theorem rq_st {w : World} {b : Nat} {r : Rq} (h : RqAt w b r) (v : Int) : RqAt (w.setCell ⟨b, 1, none⟩ (.int .i64 v)) b { r with st := v } := (blk_set h 1 _).trans (by simp)
theorem rq_k {w : World} {b : Nat} {r : Rq} (h : RqAt w b r) (v : Int) : RqAt (w.setCell ⟨b, 2, none⟩ (.int .i64 v)) b { r with k := v } := (blk_set h 2 _).trans (by simp)
theorem rq_key {w : World} {b : Nat} {r : Rq} (h : RqAt w b r) (v : ByteArray) : RqAt (w.setCell ⟨b, 3, none⟩ (.string v)) b { r with key := v } := (blk_set h 3 _).trans (by simp)
theorem rq_b {w : World} {b : Nat} {r : Rq} (h : RqAt w b r) (v : Nat) : RqAt (w.setCell ⟨b, 4, none⟩ (.float .f64 v)) b { r with b := v } := (blk_set h 4 _).trans (by simp)
theorem rq_id {w : World} {b : Nat} {r : Rq} (h : RqAt w b r) (v : Int) : RqAt (w.setCell ⟨b, 5, none⟩ (.int .i64 v)) b { r with id := v } := (blk_set h 5 _).trans (by simp)
theorem load_rq (w : World) (b : Nat) (r : Rq) (h : RqAt w b r) : (loadVar 41 ⟨b, 0, none⟩).run Tryz.prog w = .ok (.agg #[.int .i64 r.c, .int .i64 r.st, .int .i64 r.k, .string r.key, .float .f64 r.b, .int .i64 r.id]) w := by
  obtain ⟨⟨z0, z1⟩, z2, z3, z4, z5⟩ := h.cells
  clear h
  go_simp
theorem rd_sizes (s : ByteArray) (sh : Bool) (n : Nat) : (rS s sh n).size ≤ s.size := by
  rw [rS]
  split
  · rw [← data_len, ext_data, List.length_drop, List.length_take, data_len]
    omega
  · exact Nat.le_refl _
end Go.Proofs.YthjgnfeadagmeaaGreat

/- A message's cells, and what a test of one says. No walk here. -/
namespace Go.Proofs.YthjgnfeadagmeaaGreat
open Go.RowKit
/-- The cells of a message whose lists lie there. -/
def msA (m : Ms) (a13 a14 a15 a16 : Option Addr) (c13 c14 c15 c16 : Nat) : List Value := [.int .i64 m.k, .int .i64 m.ep, .int .i64 m.v, .int .i64 m.sl, .int .i64 m.rq.c, .int .i64 m.rq.st, .int .i64 m.rq.k, .string m.rq.key, .float .f64 m.rq.b, .int .i64 m.rq.id, .int .i64 m.rs.1, .float .f64 m.rs.2, .string m.tx, .slice a13 m.nx.length c13, .slice a14 m.sg.length c14, .slice a15 m.cg.length c15, .slice a16 m.ln.length c16]
theorem msA_at {w : World} {b : Nat} {T : TypeId} {m : Ms} {a13 a14 a15 a16 : Option Addr} {c13 c14 c15 c16 : Nat} (h : BxAt w b (msA m a13 a14 a15 a16 c13 c14 c15 c16) T) :
    w.cell? ⟨b, 0, none⟩ = some (.int .i64 m.k) ∧ w.cell? ⟨b, 1, none⟩ = some (.int .i64 m.ep) ∧ w.cell? ⟨b, 2, none⟩ = some (.int .i64 m.v) ∧ w.cell? ⟨b, 3, none⟩ = some (.int .i64 m.sl) ∧ w.cell? ⟨b, 4, none⟩ = some (.int .i64 m.rq.c) ∧ w.cell? ⟨b, 5, none⟩ = some (.int .i64 m.rq.st) ∧ w.cell? ⟨b, 6, none⟩ = some (.int .i64 m.rq.k) ∧ w.cell? ⟨b, 7, none⟩ = some (.string m.rq.key) ∧ w.cell? ⟨b, 8, none⟩ = some (.float .f64 m.rq.b) ∧ w.cell? ⟨b, 9, none⟩ = some (.int .i64 m.rq.id) ∧ w.cell? ⟨b, 10, none⟩ = some (.int .i64 m.rs.1) ∧ w.cell? ⟨b, 11, none⟩ = some (.float .f64 m.rs.2) ∧ w.cell? ⟨b, 12, none⟩ = some (.string m.tx) ∧ w.cell? ⟨b, 13, none⟩ = some (.slice a13 m.nx.length c13) ∧ w.cell? ⟨b, 14, none⟩ = some (.slice a14 m.sg.length c14) ∧ w.cell? ⟨b, 15, none⟩ = some (.slice a15 m.cg.length c15) ∧ w.cell? ⟨b, 16, none⟩ = some (.slice a16 m.ln.length c16) := ⟨h.cell 0 _ rfl, h.cell 1 _ rfl, h.cell 2 _ rfl, h.cell 3 _ rfl, h.cell 4 _ rfl, h.cell 5 _ rfl, h.cell 6 _ rfl, h.cell 7 _ rfl, h.cell 8 _ rfl, h.cell 9 _ rfl, h.cell 10 _ rfl, h.cell 11 _ rfl, h.cell 12 _ rfl, h.cell 13 _ rfl, h.cell 14 _ rfl, h.cell 15 _ rfl, h.cell 16 _ rfl⟩
theorem msA_all {W : World} {b : Nat} {T : TypeId} {m : Ms} {a13 a14 a15 a16 : Option Addr} {c13 c14 c15 c16 : Nat} (h : BxAt W b (msA m a13 a14 a15 a16 c13 c14 c15 c16) T) :
    (∀ x : Cls W, x.1.cell? ⟨b, 0, none⟩ = some (.int .i64 m.k)) ∧ (∀ x : Cls W, x.1.cell? ⟨b, 1, none⟩ = some (.int .i64 m.ep)) ∧ (∀ x : Cls W, x.1.cell? ⟨b, 2, none⟩ = some (.int .i64 m.v)) ∧ (∀ x : Cls W, x.1.cell? ⟨b, 3, none⟩ = some (.int .i64 m.sl)) ∧ (∀ x : Cls W, x.1.cell? ⟨b, 4, none⟩ = some (.int .i64 m.rq.c)) ∧ (∀ x : Cls W, x.1.cell? ⟨b, 5, none⟩ = some (.int .i64 m.rq.st)) ∧ (∀ x : Cls W, x.1.cell? ⟨b, 6, none⟩ = some (.int .i64 m.rq.k)) ∧ (∀ x : Cls W, x.1.cell? ⟨b, 7, none⟩ = some (.string m.rq.key)) ∧ (∀ x : Cls W, x.1.cell? ⟨b, 8, none⟩ = some (.float .f64 m.rq.b)) ∧ (∀ x : Cls W, x.1.cell? ⟨b, 9, none⟩ = some (.int .i64 m.rq.id)) ∧ (∀ x : Cls W, x.1.cell? ⟨b, 10, none⟩ = some (.int .i64 m.rs.1)) ∧ (∀ x : Cls W, x.1.cell? ⟨b, 11, none⟩ = some (.float .f64 m.rs.2)) ∧ (∀ x : Cls W, x.1.cell? ⟨b, 12, none⟩ = some (.string m.tx)) ∧ (∀ x : Cls W, x.1.cell? ⟨b, 13, none⟩ = some (.slice a13 m.nx.length c13)) ∧ (∀ x : Cls W, x.1.cell? ⟨b, 14, none⟩ = some (.slice a14 m.sg.length c14)) ∧ (∀ x : Cls W, x.1.cell? ⟨b, 15, none⟩ = some (.slice a15 m.cg.length c15)) ∧ (∀ x : Cls W, x.1.cell? ⟨b, 16, none⟩ = some (.slice a16 m.ln.length c16)) := ⟨fun x => (h.keep x.2).cell 0 _ rfl, fun x => (h.keep x.2).cell 1 _ rfl, fun x => (h.keep x.2).cell 2 _ rfl, fun x => (h.keep x.2).cell 3 _ rfl, fun x => (h.keep x.2).cell 4 _ rfl, fun x => (h.keep x.2).cell 5 _ rfl, fun x => (h.keep x.2).cell 6 _ rfl, fun x => (h.keep x.2).cell 7 _ rfl, fun x => (h.keep x.2).cell 8 _ rfl, fun x => (h.keep x.2).cell 9 _ rfl, fun x => (h.keep x.2).cell 10 _ rfl, fun x => (h.keep x.2).cell 11 _ rfl, fun x => (h.keep x.2).cell 12 _ rfl, fun x => (h.keep x.2).cell 13 _ rfl, fun x => (h.keep x.2).cell 14 _ rfl, fun x => (h.keep x.2).cell 15 _ rfl, fun x => (h.keep x.2).cell 16 _ rfl⟩
theorem msA_new (m : Ms) (a13 a14 a15 a16 : Option Addr) (c13 c14 c15 c16 : Nat) (T : TypeId) (w : World) :
    ∃ wa, w.alloc (.cells (msA m a13 a14 a15 a16 c13 c14 c15 c16).toArray T) = wa ∧ Below w.heap.size w wa ∧ BxAt wa w.heap.size (msA m a13 a14 a15 a16 c13 c14 c15 c16) T := ⟨_, rfl, (Below.refl w.heap.size w).alloc (Nat.le_refl _) _, heap_alloc_last w _⟩
theorem bx_next {wa u u2 : World} {b : Nat} {L : List Value} {T : TypeId} (h : BxAt u b L T ∧ Below wa.heap.size wa u) (hb : Below u.heap.size u u2) : BxAt u2 b L T ∧ Below wa.heap.size wa u2 := ⟨h.1.keep hb, h.2.trans (hb.mono h.2.size)⟩
/-- A call's answer behind W, whatever is laid meanwhile. -/
def Tst (W : World) (f : FuncId) (args : Array Value) (v : Value) : Prop := ∀ u : World, Below W.heap.size W u → Calls Tryz.prog f args u fun e w' => e = .returned v ∧ Below u.heap.size u w'
theorem Tst.up {W wa : World} {f : FuncId} {args : Array Value} {v : Value} (h : Tst W f args v) (hw : Below W.heap.size W wa) : Tst wa f args v := fun u hu => h u (hw.trans (hu.mono hw.size))
end Go.Proofs.YthjgnfeadagmeaaGreat

/- Texts laid together: BaO BaD BaE. -/
import Derived.Test.YtecidbdbdnnglaaGreatBaC
import Derived.OrdersHeld
/- What all families of texts share: all blocks but a few stay. -/
namespace Go.Proofs.YtecidbdbdnnglaaGreat
open Go.RowKit

/-- All blocks but those named stay. -/
structure Out (F : List Nat) (w w' : World) : Prop where
  os : w'.os = w.os
  tape : w'.tape = w.tape
  output : w'.output = w.output
  size : w.heap.size ≤ w'.heap.size
  block : ∀ k, k < w.heap.size → k ∉ F → w'.heap[k]? = w.heap[k]?
theorem Out.refl (F : List Nat) (w : World) : Out F w w := ⟨rfl, rfl, rfl, Nat.le_refl _, fun _ _ _ => rfl⟩
theorem Out.then {F : List Nat} {w w1 w2 : World} {m : Nat} (h : Out F w w1) (hg : w1.grownBy w2 (some m)) (hm : m ∈ F ∨ w.heap.size ≤ m) : Out F w w2 :=
  ⟨hg.os.trans h.os, hg.tape.trans h.tape, hg.output.trans h.output, Nat.le_trans h.size hg.size, fun k hk hF => (hg.block k (Nat.lt_of_lt_of_le hk h.size) (fun e => by
    cases e
    rcases hm with hm | hm
    · exact hF hm
    · omega)).trans (h.block k hk hF)⟩
theorem Out.alloc {F : List Nat} {w w1 : World} (h : Out F w w1) (o : Obj) : Out F w (w1.alloc o) :=
  ⟨h.os, h.tape, h.output, by have := h.size; simp; omega, fun k hk hF => (Below.heap_alloc _ _ _ (Nat.lt_of_lt_of_le hk h.size)).trans (h.block k hk hF)⟩
theorem Out.drew {F : List Nat} {w w1 : World} (h : Out F w w1) : Out F w w1.drew := ⟨h.os, h.tape, h.output, h.size, h.block⟩
theorem Out.setCell {F : List Nat} {w w1 : World} (h : Out F w w1) (g o : Nat) (v : Value) (hg : g ∈ F) : Out F w (w1.setCell ⟨g, o, none⟩ v) :=
  ⟨h.os, h.tape, h.output, by have := h.size; simpa using this, fun k hk hF => (Below.heap_setCell _ _ _ _ (show k ≠ g from fun e => hF (by rw [e]; exact hg))).trans (h.block k hk hF)⟩
theorem Out.below {F : List Nat} {w w' : World} {B : Nat} (h : Out F w w') (hB : B ≤ w.heap.size) (hF : ∀ b, b ∈ F → B ≤ b) : Below B w w' :=
  ⟨h.os, h.tape, h.output, h.size, fun k hk => h.block k (by omega) (fun hm => by have := hF k hm; omega)⟩
theorem Out.trans {F G : List Nat} {w w1 w2 : World} (h : Out F w w1) (k : Out G w1 w2) (hG : ∀ b, b ∈ G → b ∈ F ∨ w.heap.size ≤ b) : Out F w w2 :=
  ⟨k.os.trans h.os, k.tape.trans h.tape, k.output.trans h.output, Nat.le_trans h.size k.size, fun b hb hF => (k.block b (Nat.lt_of_lt_of_le hb h.size) (fun hm => by
    rcases hG b hm with h1 | h1
    · exact hF h1
    · omega)).trans (h.block b hb hF)⟩
theorem Out.of_below {F : List Nat} {w w' : World} (h : Below w.heap.size w w') : Out F w w' := ⟨h.os, h.tape, h.output, h.size, fun k hk _ => h.block k hk⟩
theorem Out.more {F : List Nat} {w w1 w2 : World} (h : Out F w w1) (k : Below w1.heap.size w1 w2) : Out F w w2 :=
  ⟨k.os.trans h.os, k.tape.trans h.tape, k.output.trans h.output, Nat.le_trans h.size k.size, fun b hb hF => (k.block b (Nat.lt_of_lt_of_le hb h.size)).trans (h.block b hb hF)⟩
theorem Out.low {F : List Nat} {B : Nat} {w0 w w' : World} (h : Below B w0 w) (k : Out F w w') (hB : B ≤ w0.heap.size) (hF : ∀ b, b ∈ F → B ≤ b) : Below B w0 w' :=
  h.trans (k.below (Nat.le_trans hB h.size) hF)
end Go.Proofs.YtecidbdbdnnglaaGreat

/- What all families of texts share: one operation that is ready in a region that draws. -/
namespace Go.Proofs.YtecidbdbdnnglaaGreat
open Go.RowKit

section
variable {P : Program} {ops : Array Oper} {o : Oper} {a : Act} {w : World} {K : Act → World → Prop} {Q : Exit → Act → World → Prop}
theorem wpOp_q {i : Nat} (hi : ops[i]? = some o) (hgd : o.guard = none) (h : ∀ K' : Act → World → Prop, (∀ a w, K a w → K' a w) → o.wp P a w K' Q) : wpOp P ops Q i K a w := by
  unfold Go.wpOp
  simp only [hi]
  have hw : Region.wanted o (yielded ops a.tmps) = true := by simp [Region.wanted, hgd]
  simp only [hw, if_true]
  exact .inl (h K (fun _ _ h => h))
end
end Go.Proofs.YtecidbdbdnnglaaGreat

/- What all families of texts share: results that live in a variable; rows of one's own beside a store elsewhere. -/
namespace Go.Proofs.YtecidbdbdnnglaaGreat
open Go.RowKit

theorem ret_pair {f : Func} {a : Act} {w : World} {Q : Ending → World → Prop} {s s2 : Nat} {t : TypeId} {ad : Addr} {v v2 : Value} (hr : f.results = #[.cell s t, .tmp s2]) (hs : a.tmps.getD s undef = .pointer (some ad)) (hl : (loadVar t ad).run Tryz.prog w = .ok v w) (h2 : a.tmps.getD s2 undef = v2) (hd : a.defers = [])
    (h : Q (.returned (.tuple #[v, v2])) w) : bodyPost Tryz.prog f Q .ret a w := by
  refine bodyPost_ret (v := .tuple #[v, v2]) ?_ hd h
  have h1 : a.tmps.getD s undef = .pointer (some ad) := hs
  simp [results, hr, -Array.getD_eq_getD_getElem?, h1, h2, asAddr, hl]
theorem ret_three {f : Func} {a : Act} {w : World} {Q : Ending → World → Prop} {s s2 s3 : Nat} {t : TypeId} {ad : Addr} {v v2 v3 : Value} (hr : f.results = #[.cell s t, .tmp s2, .tmp s3]) (hs : a.tmps.getD s undef = .pointer (some ad)) (hl : (loadVar t ad).run Tryz.prog w = .ok v w) (h2 : a.tmps.getD s2 undef = v2) (h3 : a.tmps.getD s3 undef = v3) (hd : a.defers = [])
    (h : Q (.returned (.tuple #[v, v2, v3])) w) : bodyPost Tryz.prog f Q .ret a w := by
  refine bodyPost_ret (v := .tuple #[v, v2, v3]) ?_ hd h
  have h1 : a.tmps.getD s undef = .pointer (some ad) := hs
  simp [results, hr, -Array.getD_eq_getD_getElem?, h1, h2, h3, asAddr, hl]
theorem ret_four {f : Func} {a : Act} {w : World} {Q : Ending → World → Prop} {s s2 s3 s4 : Nat} {t : TypeId} {ad : Addr} {v v2 v3 v4 : Value} (hr : f.results = #[.cell s t, .tmp s2, .tmp s3, .tmp s4]) (hs : a.tmps.getD s undef = .pointer (some ad)) (hl : (loadVar t ad).run Tryz.prog w = .ok v w) (h2 : a.tmps.getD s2 undef = v2) (h3 : a.tmps.getD s3 undef = v3) (h4 : a.tmps.getD s4 undef = v4) (hd : a.defers = [])
    (h : Q (.returned (.tuple #[v, v2, v3, v4])) w) : bodyPost Tryz.prog f Q .ret a w := by
  refine bodyPost_ret (v := .tuple #[v, v2, v3, v4]) ?_ hd h
  have h1 : a.tmps.getD s undef = .pointer (some ad) := hs
  simp [results, hr, -Array.getD_eq_getD_getElem?, h1, h2, h3, h4, asAddr, hl]
theorem res_put {w : World} {b : Nat} {p q x y : Value} {T : TypeId} (h : w.heap[b]? = some (.cells #[p, q] T (0, 0))) : ((w.setCell ⟨b, 0, none⟩ x).setCell ⟨b, 1, none⟩ y).heap[b]? = some (.cells #[x, y] T (0, 0)) := by
  have h1 : (w.setCell ⟨b, 0, none⟩ x).heap[b]? = some (.cells #[x, q] T (0, 0)) := (blk_set h 0 x).trans (by simp)
  exact (blk_set h1 1 y).trans (by simp)
theorem own_put {w : World} {B z : Nat} {v : Value} {n : Nat} {xs : List Value} {e : TypeId} (h : w.ownsRow B e z v n xs) (r o : Nat) (x : Value) (hr : r < B) : (w.setCell ⟨r, o, none⟩ x).ownsRow B e z v n xs := by
  refine ⟨h.1, ?_⟩
  rcases h.2 with hn | ⟨g, cap, cur, hv, hB, hh, hx⟩
  · exact .inl hn
  · exact .inr ⟨g, cap, cur, hv, hB, (Below.heap_setCell _ _ _ _ (by show ¬ g = r; omega)).trans hh, hx⟩
theorem cell_two {w : World} {b : Nat} {x y : Value} {T : TypeId} {fr : Nat × Nat} (h : w.heap[b]? = some (.cells #[x, y] T fr)) : w.cell? ⟨b, 0, none⟩ = some x ∧ w.cell? ⟨b, 1, none⟩ = some y :=
  ⟨cell_at (L := [x, y]) h 0 _ rfl, cell_at (L := [x, y]) h 1 _ rfl⟩
end Go.Proofs.YtecidbdbdnnglaaGreat

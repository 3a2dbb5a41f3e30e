/- A message's signatures in their order: what is made, how many they are. No walk here. -/
import Derived.Test.YtfjcpghepkmbfaaWtAM
import Derived.Test.YtfjcpghepkmbfaaGb4
import Derived.Test.YtfjcpghepkmbfaaApAM
namespace Go.Proofs.Ytfjcpghepkmbfaa
open Go.RowKit

/-- New memory that holds these signatures, and may be written. -/
def NwG (B : Nat) (w : World) (a : Option Addr) (l : List Sg) : Prop := PairsIn w a l ∧ (l = [] ∨ ∃ g cs T, a = some ⟨g, 0, none⟩ ∧ B ≤ g ∧ w.heap[g]? = some (.cells cs T (0, 0)) ∧ 2 * l.length ≤ cs.size)
def TmPost (w : World) (m : Ms) (e : Ending) (w' : World) : Prop := ∃ a cap, e = .returned (.slice a (tmG m).length cap) ∧ NwG w.heap.size w' a (tmG m) ∧ Below w.heap.size w w'
theorem OwnedG.post {w wa wr : World} {v : Value} {m : Ms} {l : List Sg} (h : OwnedG wa.heap.size wa wr v l) (hw : Below w.heap.size w wa) (e : l = tmG m) : TmPost w m (.returned v) wr := by
  subst e
  obtain ⟨a, cap, hv, hp⟩ := own_pairsG h.own
  refine ⟨a, cap, by rw [hv], ⟨hp, ?_⟩, hw.trans (h.bel.mono hw.size)⟩
  rcases h.own.2 with ⟨_, h0⟩ | ⟨g, cp, cur, hv2, hB, hh, hnc, hcp, hcs, _⟩
  · exact .inl (List.eq_nil_of_length_eq_zero h0)
  · rw [hv] at hv2
    simp only [Value.slice.injEq] at hv2
    exact .inr ⟨g, _, _, hv2.1, Nat.le_trans hw.size hB, hh, by have := hcs; omega⟩
theorem own_rowK {w w' : World} {B : Nat} {T : TypeId} {sz n : Nat} {v : Value} {xs : List Value} (h : w.ownsRow B T sz v n xs) (hk : ∀ g, v.ownBlock = some g → w'.heap[g]? = w.heap[g]?) : w'.ownsRow B T sz v n xs := by
  obtain ⟨h1, h2⟩ := h
  refine ⟨h1, ?_⟩
  rcases h2 with h2 | ⟨g, cap, cur, hv, hB, hh, hr⟩
  · exact .inl h2
  · exact .inr ⟨g, cap, cur, hv, hB, (hk g (by rw [hv]; rfl)).trans hh, hr⟩
/-- Behind a store into a variable made last. -/
theorem own_store {w0 w w4 : World} {v : Value} {l : List Sg} {o : Obj} (h : OwnedG w0.heap.size w0 w v l) (ho : One w.heap.size (w.alloc o) w4) : OwnedG w0.heap.size w0 w4 v l := by
  have hb := ho.below (h.bel.alloc h.le o) h.le
  refine ⟨own_rowK h.own (fun g hg => ?_), hb, hb.size⟩
  have hlt := (h.own.lt g hg).2
  rw [ho.block g (by omega)]
  exact ((Below.refl w.heap.size w).alloc (Nat.le_refl _) o).block g hlt
theorem store_keeps {w w4 : World} {o : Obj} {g : Nat} (ho : One w.heap.size (w.alloc o) w4) (hlt : g < w.heap.size) : w4.heap[g]? = w.heap[g]? := by
  rw [ho.block g (by omega)]
  exact ((Below.refl w.heap.size w).alloc (Nat.le_refl _) o).block g hlt
theorem own_apart {w0 w : World} {v : Value} {l : List Sg} (h : OwnedG w0.heap.size w0 w v l) : v.ownBlock ≠ some w.heap.size := fun e => by have := (h.own.lt _ e).2; omega
section
variable {o : Oper} {a : Act} {w : World} {Q : Exit → Act → World → Prop} {K : Act → World → Prop} {ops : Array Oper} {rest : List Oper}
/-- More behind one's own; a block beside it stays. -/
theorem wl_sigsK (hgd : o.guard = none) (x y : Operand) (ho : o.op = .call { callee := .builtin .append, args := #[x, y], argTypes := #[30, 30] }) (B : Nat) (w0 : World) (v : Value) (l : List Sg)
    (hx : a.eval x = v) (hO : OwnedG B w0 w v l) (ad : Option Addr) (n cap : Nat) (ps : List Sg) (hy : a.eval y = .slice ad n cap) (hn : ps.length = n) (hS : PairsIn w ad ps) (hl : (l.length + n) * 24 ≤ 140737488355328)
    (b : Nat) (ob : Obj) (hb : w.heap[b]? = some ob ∧ v.ownBlock ≠ some b)
    (h : ∀ v' w', Hid (OwnedG B w0 w' v' (l ++ ps) ∧ w'.heap[b]? = some ob ∧ v'.ownBlock ≠ some b) → wpList Try.prog ops Q rest (a.put o.dst v') w') : wpList Try.prog ops Q (o :: rest) a w := by
  refine wpList_plain hgd fun K hK => ?_
  obtain ⟨i0, hi0, hz0, hz1, hz2⟩ := info_parts infoSg
  cases ad with
  | none =>
    obtain rfl : ps = [] := by rcases hS with h | ⟨g, off, ha, _⟩; exact h; cases ha
    obtain rfl : 0 = n := hn
    have hk := hK _ _ (h v w (by rw [List.append_nil]; exact ⟨hO, hb⟩))
    rcases hO.own.2 with ⟨hv, h0⟩ | ⟨g, c, cur, hv, hB, hh, hnc, hcp, hcs, htake⟩
    · subst hv
      refine owp_value (v := .slice none 0 0) (w' := w) ?_ hk
      simp [execOp, ho, resolve, invoke, builtin, hx, hy, Builtin.append_, run_underlying Try.underlying30, sizeOf, typeInfo, hi0, Builtin.lenOf, Builtin.firstCells, Result.andThen]
    · subst hv
      refine owp_value (v := .slice (some ⟨g, 0, none⟩) l.length c) (w' := w) ?_ hk
      simp [hnc, storeCells, execOp, ho, resolve, invoke, builtin, hx, hy, Builtin.append_, run_underlying Try.underlying30, sizeOf, typeInfo, hi0, Builtin.lenOf, Builtin.firstCells, Result.andThen]
  | some ad =>
    refine owp_append_at x y 30 ho B 48 i0 (.agg #[.int .i64 0, .string ⟨#[]⟩]) 2 24 Try.underlying30 hi0 hz0 hz1 hz2 rfl (by decide) v l.length (pC l) hx hO.own ad n cap (pC ps) hy (by rw [pC_len, hn]) (fun j v hv => pairs_cellsG hS j v hv) (pC_cellG ps) (by unfold maxLen; omega) (by omega) hO.le (fun v' w' hown hgrow hown2 => ?_)
    refine hK _ _ (h v' w' ⟨hO.grow hn hown hgrow, (hgrow.block b (lt_of_blk hb.1) hb.2.symm).trans hb.1, fun e => ?_⟩)
    have := lt_of_blk hb.1
    rcases hown2 with h2 | h2
    · exact hb.2 (h2 ▸ e)
    · rw [h2] at e; cases e; omega
end
theorem flat_take {α β : Type} {f : α → List β} {l : List α} {d : α} (j : Nat) (hj : j < l.length) : (l.take j).flatMap f ++ f (l.getD j d) = (l.take (j + 1)).flatMap f := by
  rw [List.take_succ_eq_append_getElem hj, List.flatMap_append]
  simp [hj]
theorem flat_take_le {α β : Type} (f : α → List β) (l : List α) (j : Nat) : ((l.take j).flatMap f).length ≤ (l.flatMap f).length := by
  have : l.flatMap f = (l.take j).flatMap f ++ (l.drop j).flatMap f := by rw [← List.flatMap_append, List.take_append_drop]
  rw [this, List.length_append]; omega
theorem tm_sg (m : Ms) : m.sg.length ≤ (tmG m).length := by rw [tmG, List.length_append]; omega
/-- Within a change: what there is so far, and the next certificate's. -/
theorem tm_ct {m : Ms} {j k : Nat} (hj : j < m.cg.length) (hk : k < (m.cg.getD j cg0).2.2.1.length) : (m.sg ++ (m.cg.take j).flatMap cgG ++ ((m.cg.getD j cg0).2.2.1.take k).flatMap (fun x => x.2.2.2)).length + ((m.cg.getD j cg0).2.2.1.getD k ct0).2.2.2.length ≤ (tmG m).length := by
  have h1 := flat_take_le cgG m.cg (j + 1)
  rw [← flat_take (d := cg0) j hj, List.length_append] at h1
  have h2 := flat_take_le (fun x : Ct => x.2.2.2) (m.cg.getD j cg0).2.2.1 (k + 1)
  rw [← flat_take (d := ct0) k hk, List.length_append] at h2
  have h3 : (cgG (m.cg.getD j cg0)).length = ((m.cg.getD j cg0).2.2.1.flatMap (fun x : Ct => x.2.2.2)).length + 1 := by rw [cgG, List.length_append]; rfl
  simp only [tmG, List.length_append] at *
  omega
theorem tm_cg {m : Ms} {j : Nat} (hj : j < m.cg.length) : (m.sg ++ (m.cg.take j).flatMap cgG ++ (m.cg.getD j cg0).2.2.1.flatMap (fun x => x.2.2.2)).length + 1 ≤ (tmG m).length := by
  have h1 := flat_take_le cgG m.cg (j + 1)
  rw [← flat_take (d := cg0) j hj, List.length_append] at h1
  have h3 : (cgG (m.cg.getD j cg0)).length = ((m.cg.getD j cg0).2.2.1.flatMap (fun x : Ct => x.2.2.2)).length + 1 := by rw [cgG, List.length_append]; rfl
  simp only [tmG, List.length_append] at *
  omega
theorem tm_ln {m : Ms} {j : Nat} (hj : j < m.ln.length) : (m.sg ++ m.cg.flatMap cgG ++ (m.ln.take j).flatMap (fun k => k.2)).length + (m.ln.getD j ln0).2.length ≤ (tmG m).length := by
  have h1 := flat_take_le (fun k : Ln => k.2) m.ln (j + 1)
  rw [← flat_take (d := ln0) j hj, List.length_append] at h1
  simp only [tmG, List.length_append] at *
  omega
theorem tm_24 {a n : Nat} (h : n * 24 ≤ 140737488355328) (ha : a ≤ n) : a * 24 ≤ 140737488355328 := by omega
theorem one_pair {w : World} (p : Sg) (T : TypeId) : PairsIn (w.alloc (.cells #[.int .i64 p.1, .string p.2] T)) (some ⟨w.heap.size, 0, none⟩) [p] := by
  refine .inr ⟨w.heap.size, 0, rfl, by simp, fun j q hq => ?_⟩
  match j, hq with
  | 0, hq => cases hq; exact ⟨cell_at (L := [.int .i64 p.1, .string p.2]) (heap_alloc_last w _) 0 _ rfl, cell_at (L := [.int .i64 p.1, .string p.2]) (heap_alloc_last w _) 1 _ rfl⟩
  | j + 1, hq => cases hq
end Go.Proofs.Ytfjcpghepkmbfaa

/- A list of signatures of one's own, and more of them behind it. -/
import Derived.Test.YtfjcpghepkmbfaaGa3
import Derived.Test.YtfjcpghepkmbfaaGa4
import Derived.Deep.RegionHeld3
import Derived.Lib.RowBridge
namespace Go.Proofs.Ytfjcpghepkmbfaa
open Go.RowKit
theorem infoSg : (Try.prog.info? 48).map (fun i => (i.zero, i.size, i.bytes)) = some (some (.agg #[.int .i64 0, .string ⟨#[]⟩]), 2, 24) := by kernel_rfl

theorem own_pairsG {w : World} {B : Nat} {v : Value} {ps : List (Int × ByteArray)} {T : TypeId} (h : w.ownsRow B T 2 v ps.length (pC ps)) : ∃ ad cap, v = .slice ad ps.length cap ∧ PairsIn w ad ps := by
  rcases h.2 with ⟨hv, h0⟩ | ⟨g, cap, cur, hv, hB, hh, hx⟩
  · exact ⟨none, 0, by rw [hv, h0], .inl (List.eq_nil_of_length_eq_zero h0)⟩
  · refine ⟨_, cap, hv, .inr ⟨g, 0, rfl, lt_of_blk hh, fun j p hj => ?_⟩⟩
    subst hv
    have h1 := h.cells (g := g) rfl _ _ (pC_get ps j p hj).1
    have h2 := h.cells (g := g) rfl _ _ (pC_get ps j p hj).2
    rw [Addr.add_lit] at h1 h2
    exact ⟨h1, by rw [Nat.add_assoc]; exact h2⟩
/-! Sorting in place: all but the k-th of the first i + 1 rise. -/
theorem pC_twoG : ∀ (ps : List (Int × ByteArray)) (j : Nat) (u : Value), (pC ps)[j]? = some u → ∃ p, ps[j / 2]? = some p ∧ ((j % 2 = 0 ∧ u = .int .i64 p.1) ∨ (j % 2 = 1 ∧ u = .string p.2))
  | [], j, u, h => by simp [pC] at h
  | p :: ps, 0, u, h => by
    rw [pC_cons] at h
    simp at h
    exact ⟨p, by simp, .inl ⟨rfl, h.symm⟩⟩
  | p :: ps, 1, u, h => by
    rw [pC_cons] at h
    simp at h
    exact ⟨p, by simp, .inr ⟨rfl, h.symm⟩⟩
  | p :: ps, j + 2, u, h => by
    rw [pC_cons] at h
    simp at h
    obtain ⟨q, hq, hu⟩ := pC_twoG ps j u h
    refine ⟨q, ?_, ?_⟩
    · rw [show (j + 2) / 2 = j / 2 + 1 by omega]
      simpa using hq
    · rw [show (j + 2) % 2 = j % 2 by omega]
      exact hu
theorem pC_cellG (ps : List (Int × ByteArray)) : ∀ v ∈ pC ps, v.oneCell' = true := by
  intro v hv
  obtain ⟨j, hj, rfl⟩ := List.getElem_of_mem hv
  obtain ⟨p, _, h | h⟩ := pC_twoG ps j _ (List.getElem?_eq_getElem hj)
  · rw [h.2]; rfl
  · rw [h.2]; rfl
theorem pairs_cellsG {w : World} {ad : Addr} {ps : List (Int × ByteArray)} (h : PairsIn w (some ad) ps) (j : Nat) (u : Value) (hu : (pC ps)[j]? = some u) : w.cell? (ad.add j) = some u := by
  obtain ⟨p, hp, hu⟩ := pC_twoG ps j u hu
  obtain ⟨g, off, ha, hg, h0, h1⟩ := h.at (j / 2) p hp
  cases ha
  rw [Addr.add_lit]
  rcases hu with ⟨hj, rfl⟩ | ⟨hj, rfl⟩
  · rw [show off + j = off + j / 2 * 2 by omega]; exact h0
  · rw [show off + j = off + j / 2 * 2 + 1 by omega]; exact h1
/-- The slice v holds the signatures ps, in a row of its own; nothing below B has turned since w0. -/
structure OwnedG (B : Nat) (w0 w : World) (v : Value) (ps : List (Int × ByteArray)) : Prop where
  own : w.ownsRow B 48 2 v ps.length (pC ps)
  bel : Below B w0 w
  le : B ≤ w.heap.size
theorem OwnedG.nil {B : Nat} {w0 w : World} (h : Below B w0 w) (hB : B ≤ w.heap.size) : OwnedG B w0 w (.slice none 0 0) [] := ⟨⟨rfl, .inl ⟨rfl, rfl⟩⟩, h, hB⟩
theorem OwnedG.alloc {B : Nat} {w0 w : World} {v : Value} {l : List (Int × ByteArray)} (h : OwnedG B w0 w v l) (o : Obj) : OwnedG B w0 (w.alloc o) v l :=
  ⟨h.own.alloc o, h.bel.alloc h.le o, by have := h.le; simp; omega⟩
theorem OwnedG.grow {B : Nat} {w0 w w2 : World} {v v2 : Value} {l xs : List (Int × ByteArray)} {m : Nat} (h : OwnedG B w0 w v l) (hm : xs.length = m) (h2 : w2.ownsRow B 48 2 v2 (l.length + m) (pC l ++ pC xs)) (hg : w.grownBy w2 v.ownBlock) : OwnedG B w0 w2 v2 (l ++ xs) :=
  ⟨by rw [List.length_append, pC_app, hm]; exact h2, h.bel.grown hg h.le (fun k hk => (h.own.lt k hk).1), Nat.le_trans h.le hg.size⟩
theorem OwnedG.form {B : Nat} {w0 w : World} {v : Value} {l : List (Int × ByteArray)} (h : OwnedG B w0 w v l) (hl : 0 < l.length) : ∃ g cap, v = .slice (some ⟨g, 0, none⟩) l.length cap ∧ l.length ≤ cap ∧ cap ≤ maxLen ∧ g < w.heap.size ∧ B ≤ g ∧ PairsIn w (some ⟨g, 0, none⟩) l := by
  rcases h.own.2 with ⟨_, h0⟩ | ⟨g, cap, cur, hv, hb, hh, hnc, hcp, hcs, htake⟩
  · omega
  · obtain ⟨ad, c2, hv2, hp⟩ := own_pairsG h.own
    rw [hv] at hv2
    cases hv2
    exact ⟨g, cap, hv, hnc, hcp, lt_of_blk hh, hb, hp⟩
section
variable {o : Oper} {a : Act} {w : World} {Q : Exit → Act → World → Prop} {K : Act → World → Prop}
/-- More behind one's own. -/
theorem owp_sigs (x y : Operand) (ho : o.op = .call { callee := .builtin .append, args := #[x, y], argTypes := #[30, 30] }) (B : Nat) (w0 : World) (v : Value) (l : List (Int × ByteArray))
    (hx : a.eval x = v) (hO : OwnedG B w0 w v l) (ad : Option Addr) (n cap : Nat) (ps : List (Int × ByteArray)) (hy : a.eval y = .slice ad n cap) (hn : ps.length = n) (hS : PairsIn w ad ps) (hl : (l.length + n) * 24 ≤ 140737488355328)
    (h : ∀ v' w', Hid (OwnedG B w0 w' v' (l ++ ps)) → K (a.put o.dst v') w') : o.wp Try.prog a w K Q := by
  obtain ⟨i0, hi0, hz0, hz1, hz2⟩ := info_parts infoSg
  cases ad with
  | none =>
    obtain rfl : ps = [] := by rcases hS with h | ⟨g, off, ha, _⟩; exact h; cases ha
    obtain rfl : 0 = n := hn
    have hk := h v w (by rw [List.append_nil]; exact hO)
    rcases hO.own.2 with ⟨hv, h0⟩ | ⟨g, c, cur, hv, hB, hh, hnc, hcp, hcs, htake⟩
    · subst hv
      refine owp_value (v := .slice none 0 0) (w' := w) ?_ hk
      simp [execOp, ho, resolve, invoke, builtin, hx, hy, Builtin.append_, run_underlying Try.underlying30, sizeOf, typeInfo, hi0, Builtin.lenOf, Builtin.firstCells, Result.andThen]
    · subst hv
      refine owp_value (v := .slice (some ⟨g, 0, none⟩) l.length c) (w' := w) ?_ hk
      simp [hnc, storeCells, execOp, ho, resolve, invoke, builtin, hx, hy, Builtin.append_, run_underlying Try.underlying30, sizeOf, typeInfo, hi0, Builtin.lenOf, Builtin.firstCells, Result.andThen]
  | some ad =>
    refine wp_append_own w x y 30 ho B 48 i0 (.agg #[.int .i64 0, .string ⟨#[]⟩]) 2 24 Try.underlying30 hi0 hz0 hz1 hz2 rfl (by decide) v l.length (pC l) hx hO.own ad n cap (pC ps) hy (by rw [pC_len, hn]) (fun j v hv => pairs_cellsG hS j v hv) (pC_cellG ps) (by unfold maxLen; omega) (by omega) hO.le (fun v' w' hown hgrow _ => ?_)
    exact h _ _ (hO.grow hn hown hgrow)
theorem wl_sigs {ops : Array Oper} {rest : List Oper} {Q : Exit → Act → World → Prop} (hgd : o.guard = none) (x y : Operand) (ho : o.op = .call { callee := .builtin .append, args := #[x, y], argTypes := #[30, 30] }) (B : Nat) (w0 : World) (v : Value) (l : List (Int × ByteArray))
    (hx : a.eval x = v) (hO : OwnedG B w0 w v l) (ad : Option Addr) (n cap : Nat) (ps : List (Int × ByteArray)) (hy : a.eval y = .slice ad n cap) (hn : ps.length = n) (hS : PairsIn w ad ps) (hl : (l.length + n) * 24 ≤ 140737488355328)
    (h : ∀ v' w', Hid (OwnedG B w0 w' v' (l ++ ps)) → wpList Try.prog ops Q rest (a.put o.dst v') w') : wpList Try.prog ops Q (o :: rest) a w :=
  wpList_plain hgd fun _ hK => owp_sigs x y ho B w0 v l hx hO ad n cap ps hy hn hS hl fun v' w' h' => hK _ _ (h v' w' h')
end

/-- All signatures of a change, of a message. -/
def cgG (c : Cg) : List Sg := c.2.2.1.flatMap (fun x => x.2.2.2) ++ [c.2.2.2]
def tmG (m : Ms) : List Sg := m.sg ++ (m.cg.flatMap cgG ++ m.ln.flatMap (fun k => k.2))
theorem OwnedG.pairs {B : Nat} {w0 w : World} {v : Value} {l : List (Int × ByteArray)} (h : OwnedG B w0 w v l) : ∃ a cap, v = .slice a l.length cap ∧ PairsIn w a l ∧ ∀ x, a = some x → B ≤ x.block := by
  by_cases hl : 0 < l.length
  · obtain ⟨g, cap, hv, _, _, _, hB, hp⟩ := h.form hl
    exact ⟨_, cap, hv, hp, fun x hx => by cases hx; exact hB⟩
  · have h0 : l = [] := List.eq_nil_of_length_eq_zero (by omega)
    subst h0
    rcases h.own.2 with ⟨hv, _⟩ | ⟨g, cap, cur, hv, hB, _⟩
    · exact ⟨none, 0, hv, .inl rfl, fun x hx => by cases hx⟩
    · exact ⟨_, cap, hv, .inl rfl, fun x hx => by cases hx; exact hB⟩
end Go.Proofs.Ytfjcpghepkmbfaa

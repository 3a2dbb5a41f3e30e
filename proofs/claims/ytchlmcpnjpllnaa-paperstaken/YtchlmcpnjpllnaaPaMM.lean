/- Seats copied into a row of one's own; rows of seats that may be written on. -/
import Derived.Test.YtchlmcpnjpllnaaX11
namespace Go.Proofs.Ytchlmcpnjpllnaa
open Go.RowKit

/-- One goal for several ways that end alike: the first of them says what it is. -/
theorem by_key {T G : Prop} (k : T) (m : Hid T → G) : G := m k
theorem pC_back : ∀ (ps : List (Int × ByteArray)) (j : Nat) (u : Value), (pC ps)[j]? = some u → ∃ p, ps[j / 2]? = some p ∧ ((j % 2 = 0 ∧ u = .int .i64 p.1) ∨ (j % 2 = 1 ∧ u = .string p.2))
  | [], j, u, h => by simp [pC] at h
  | p :: ps, 0, u, h => by
    rw [pC_cons] at h
    simp at h
    exact ⟨p, by simp, .inl ⟨rfl, h.symm⟩⟩
  | p :: ps, 1, u, h => by
    rw [pC_cons] at h
    simp at h
    exact ⟨p, by simp, .inr ⟨rfl, h.symm⟩⟩
  | p :: ps, j + 2, u, h => by
    rw [pC_cons] at h
    simp at h
    obtain ⟨q, hq, hu⟩ := pC_back ps j u h
    refine ⟨q, ?_, ?_⟩
    · rw [show (j + 2) / 2 = j / 2 + 1 by omega]
      simpa using hq
    · rw [show (j + 2) % 2 = j % 2 by omega]
      exact hu
theorem pC_one (ps : List (Int × ByteArray)) : ∀ v ∈ pC ps, v.oneCell' = true := by
  intro v hv
  obtain ⟨j, hj, rfl⟩ := List.getElem_of_mem hv
  obtain ⟨p, _, h | h⟩ := pC_back ps j _ (List.getElem?_eq_getElem hj)
  · rw [h.2]; rfl
  · rw [h.2]; rfl
theorem PairsIn.cells {w : World} {ad : Addr} {ps : List (Int × ByteArray)} (h : PairsIn w (some ad) ps) (j : Nat) (u : Value) (hu : (pC ps)[j]? = some u) : w.cell? (ad.add j) = some u := by
  obtain ⟨p, hp, hu⟩ := pC_back ps j u hu
  obtain ⟨g, off, ha, hg, h0, h1⟩ := h.at (j / 2) p hp
  cases ha
  rw [Addr.add_lit]
  rcases hu with ⟨hj, rfl⟩ | ⟨hj, rfl⟩
  · rw [show off + j = off + j / 2 * 2 by omega]; exact h0
  · rw [show off + j = off + j / 2 * 2 + 1 by omega]; exact h1
section
variable {o : Oper} {a : Act} {w : World} {K : Act → World → Prop} {Q : Exit → Act → World → Prop}
/-- A copy of one's own. -/
theorem owp_ownP (x y : Operand) (ho : o.op = .call { callee := .builtin .append, args := #[x, y], argTypes := #[22, 22] })
    (hx : a.eval x = .slice none 0 0) (ad : Option Addr) (n cap : Nat) (ps : List (Int × ByteArray)) (hy : a.eval y = .slice ad n cap) (hn : ps.length = n) (hS : PairsIn w ad ps) (hl : n * 24 ≤ 140737488355328)
    (h : ∀ ad' cap' w', Hid ((PairsIn w' ad' ps ∧ Below w.heap.size w w') ∧ ∀ x, ad' = some x → w.heap.size ≤ x.block) → K (a.put o.dst (.slice ad' n cap')) w') : o.wp Try.prog a w K Q := by
  obtain ⟨i0, hi0, hz0, hz1, hz2⟩ := info_parts Try.info44
  cases ad with
  | none =>
    obtain rfl : ps = [] := by rcases hS with h | ⟨g, off, ha, _⟩; exact h; cases ha
    obtain rfl : 0 = n := hn
    refine owp_value (v := .slice none 0 0) (w' := w) ?_ (h _ _ _ ⟨⟨.inl rfl, Below.refl _ _⟩, fun x hx => by cases hx⟩)
    simp [execOp, ho, resolve, invoke, builtin, hx, hy, Builtin.append_, run_underlying Try.underlying22, sizeOf, typeInfo, hi0, Builtin.lenOf, Builtin.firstCells, Result.andThen]
  | some ad =>
    refine wp_append_own w x y 22 ho w.heap.size 44 i0 (.agg #[.int .i64 0, .string ⟨#[]⟩]) 2 24 Try.underlying22 hi0 hz0 hz1 hz2 rfl (by decide) (.slice none 0 0) 0 [] hx ⟨rfl, .inl ⟨rfl, rfl⟩⟩ ad n cap (pC ps) hy (by rw [pC_len, hn]) (fun j v hv => hS.cells j v hv) (pC_one ps) (by unfold maxLen; omega) (by omega) (Nat.le_refl _) (fun v' w' hown hgrow _ => ?_)
    rw [Nat.zero_add, List.nil_append, ← hn] at hown
    obtain ⟨ad', cap', hv, hi⟩ := own_pairs hown
    rw [hv] at hown
    rw [hv, hn]
    exact h _ _ _ ⟨⟨hi, (Below.refl _ _).grown hgrow (Nat.le_refl _) (fun k hk => by cases hk)⟩, far_of_own hown⟩
end
/-- A row of seats that may be written on. -/
def RowP (w : World) (B : Nat) (ad : Option Addr) (m : Nat) : Prop := m = 0 ∨ ∃ g cs, ad = some ⟨g, 0, none⟩ ∧ B ≤ g ∧ w.heap[g]? = some (.cells cs 44 (0, 0)) ∧ m * 2 ≤ cs.size
theorem RowP.keep {w w' : World} {B : Nat} {ad : Option Addr} {m : Nat} (h : RowP w B ad m) (hb : Below w.heap.size w w') : RowP w' B ad m := by
  rcases h with h | ⟨g, cs, h1, h2, h3, h4⟩
  · exact .inl h
  · exact .inr ⟨g, cs, h1, h2, (hb.block _ (lt_of_blk h3)).trans h3, h4⟩
theorem RowP.put {w : World} {B : Nat} {ad : Option Addr} {m : Nat} (h : RowP w B ad m) (g j : Nat) (v : Value) : RowP (w.setCell ⟨g, j, none⟩ v) B ad m := by
  rcases h with h | ⟨g', cs, h1, h2, h3, h4⟩
  · exact .inl h
  · by_cases hg : g' = g
    · subst hg
      exact .inr ⟨g', cs.setIfInBounds j v, h1, h2, blk_set h3 j v, by rw [Array.size_setIfInBounds]; exact h4⟩
    · exact .inr ⟨g', cs, h1, h2, (Below.heap_setCell _ _ _ _ hg).trans h3, h4⟩
theorem RowP.at {w : World} {B : Nat} {ad : Option Addr} {m : Nat} (h : RowP w B ad m) (j : Nat) (hj : j < m) : ∃ g v, ad = some ⟨g, 0, none⟩ ∧ B ≤ g ∧ w.cell? ⟨g, j * 2, none⟩ = some v ∧ w.frozen? ⟨g, j * 2, none⟩ = false := by
  rcases h with h | ⟨g, cs, h1, h2, h3, h4⟩
  · omega
  · exact ⟨g, cs[j * 2]'(by omega), h1, h2, by simp [World.cell?, h3, show j * 2 < cs.size by omega], by simp [World.frozen?, h3]⟩
theorem own_rowP {w : World} {B : Nat} {v : Value} {ps : List (Int × ByteArray)} (h : w.ownsRow B 44 2 v ps.length (pC ps)) : ∃ ad cap, v = .slice ad ps.length cap ∧ PairsIn w ad ps ∧ RowP w B ad ps.length := by
  obtain ⟨ad, cap, hv, hi⟩ := own_pairs h
  refine ⟨ad, cap, hv, hi, ?_⟩
  rcases h.2 with ⟨_, h0⟩ | ⟨g, cap', cur, hv', hB, hh, hnc, _, hcs, _⟩
  · exact .inl h0
  · rw [hv] at hv'
    cases hv'
    exact .inr ⟨g, cur, rfl, hB, hh, by omega⟩
end Go.Proofs.Ytchlmcpnjpllnaa

/- The document's lineage: a link copied into memory of its own. -/
import Derived.Test.YtclfphffbfdimaaKc1
import Derived.Test.YtclfphffbfdimaaLiAM
import Derived.Test.YtclfphffbfdimaaDeBM
import Derived.Test.YtclfphffbfdimaaKg1
import Derived.Deep.RegionLaw
namespace Go.Proofs.Ytclfphffbfdimaa
open Go.RowKit

section
variable {P : Program} {ops : Array Oper} {o : Oper} {a : Act} {w : World} {Q : Exit → Act → World → Prop} {K : Act → World → Prop}
theorem wpOp_k {i : Nat} (hi : ops[i]? = some o) (hw : Region.wanted o (yielded ops a.tmps) = true) (h : ∀ K' : Act → World → Prop, (∀ a w, K a w → K' a w) → o.wp P a w K' Q) : wpOp P ops Q i K a w := by
  unfold Go.wpOp
  simp only [hi, hw, if_true]
  exact .inl (h _ (fun _ _ h => h))
end
section
variable {o : Oper} {a : Act} {w : World} {Q : Exit → Act → World → Prop} {K : Act → World → Prop}
/-- A copy of one's own. -/
theorem owp_ownI (x y : Operand) (ho : o.op = .call { callee := .builtin .append, args := #[x, y], argTypes := #[22, 22] })
    (hx : a.eval x = .slice none 0 0) (ad : Option Addr) (n cap : Nat) (zs : List Int) (hy : a.eval y = .slice ad n cap) (hn : zs.length = n) (hS : IntsIn w ad zs) (hl : n ≤ 17592186043904)
    (h : ∀ v' w', Hid (OwnedI w.heap.size w w' v' zs) → K (a.put o.dst v') w') : o.wp Try.prog a w K Q := by
  obtain ⟨i0, hi0, hz0, hz1, hz2⟩ := info_parts Try.info3
  cases ad with
  | none =>
    obtain rfl : zs = [] := by rcases hS with h | ⟨g, off, ha, _⟩; exact h; cases ha
    obtain rfl : 0 = n := hn
    refine owp_value (v := .slice none 0 0) (w' := w) ?_ (h _ _ (OwnedI.nil (Below.refl _ _) (Nat.le_refl _)))
    simp [execOp, ho, resolve, invoke, builtin, hx, hy, Builtin.append_, run_underlying Try.underlying22, sizeOf, typeInfo, hi0, Builtin.lenOf, Builtin.firstCells, Result.andThen]
  | some ad =>
    refine wp_append_own w x y 22 ho w.heap.size 3 i0 (.int .i64 0) 1 8 Try.underlying22 hi0 hz0 hz1 hz2 rfl (by decide) (.slice none 0 0) 0 [] hx ⟨rfl, .inl ⟨rfl, rfl⟩⟩ ad n cap (iC zs) hy (by rw [iC_len, hn, Nat.mul_one]) (fun j v hv => ?_) (iC_one _) (by unfold maxLen; omega) (by omega) (Nat.le_refl _) (fun v' w' hown hgrow _ => ?_)
    · obtain ⟨s, hs, rfl⟩ := iC_back zs j v hv
      rcases hS with h | ⟨g, off, ha, hg, hc⟩
      · rw [h] at hs; simp at hs
      · cases ha
        rw [Addr.add_lit]
        exact hc j s hs
    · exact h v' w' ((OwnedI.nil (Below.refl w.heap.size w) (Nat.le_refl _)).grow (xs := zs) hn hown hgrow)
end
theorem OwnedT.slice {B : Nat} {w0 w : World} {v : Value} {ps : List (Int × ByteArray)} (h : OwnedT B w0 w v ps) : ∃ ad cap, v = .slice ad ps.length cap ∧ PairsIn w ad ps ∧ ∀ x, ad = some x → B ≤ x.block ∧ x.block < w.heap.size := by
  obtain ⟨ad, cap, hv, hp⟩ := own_pairsT h.own
  refine ⟨ad, cap, hv, hp, fun x hx => ?_⟩
  rcases h.own.2 with ⟨hv2, _⟩ | ⟨g, c, cur, hv2, hb, hh, _⟩
  · rw [hv, hx] at hv2; cases hv2
  · rw [hv, hx] at hv2; cases hv2; exact ⟨hb, lt_of_blk hh⟩
theorem ints_far {w w' : World} {ad : Option Addr} {l : List Int} (h : IntsIn w ad l) (hs : w.heap.size ≤ w'.heap.size) (hb : ∀ x, ad = some x → w'.heap[x.block]? = w.heap[x.block]?) : IntsIn w' ad l := by
  rcases h with h | ⟨g, off, rfl, hg, hc⟩
  · exact .inl h
  · exact .inr ⟨g, off, rfl, Nat.lt_of_lt_of_le hg hs, fun j z hz => (World.cell?_of_block (a := ⟨g, off + j, none⟩) (hb ⟨g, off, none⟩ rfl)).trans (hc j z hz)⟩
theorem pairs_far {w w' : World} {ad : Option Addr} {ps : List (Int × ByteArray)} (h : PairsIn w ad ps) (hs : w.heap.size ≤ w'.heap.size) (hb : ∀ x, ad = some x → w'.heap[x.block]? = w.heap[x.block]?) : PairsIn w' ad ps := by
  rcases h with h | ⟨g, off, rfl, hg, hc⟩
  · exact .inl h
  · exact .inr ⟨g, off, rfl, Nat.lt_of_lt_of_le hg hs, fun j p hp => ⟨(World.cell?_of_block (a := ⟨g, off + j * 2, none⟩) (hb ⟨g, off, none⟩ rfl)).trans (hc j p hp).1, (World.cell?_of_block (a := ⟨g, off + j * 2 + 1, none⟩) (hb ⟨g, off, none⟩ rfl)).trans (hc j p hp).2⟩⟩
/-- While a link is copied: the link's block, the result's block. -/
structure CpSt (w0 w : World) (e : Int) (vm vs : Value) : Prop where
  ln : LnAt w w0.heap.size e vm vs
  res : w.heap[w0.heap.size + 1]? = some (.cells #[.int .i64 0, .slice none 0 0, .slice none 0 0] 49 (0, 0))
  bel : Below w0.heap.size w0 w
theorem CpSt.keep {w0 w w' : World} {e : Int} {vm vs : Value} (h : CpSt w0 w e vm vs) (hb : Below w.heap.size w w') : CpSt w0 w' e vm vs :=
  ⟨h.ln.keep hb, (hb.block _ (lt_of_blk h.res)).trans h.res, h.bel.trans (hb.mono h.bel.size)⟩
theorem cell_three {w : World} {b : Nat} {x0 x1 x2 : Value} {T : TypeId} {fr : Nat × Nat} (h : w.heap[b]? = some (.cells #[x0, x1, x2] T fr)) : w.cell? ⟨b, 0, none⟩ = some x0 ∧ w.cell? ⟨b, 1, none⟩ = some x1 ∧ w.cell? ⟨b, 2, none⟩ = some x2 :=
  ⟨cell_at (L := [x0, x1, x2]) h 0 _ rfl, cell_at (L := [x0, x1, x2]) h 1 _ rfl, cell_at (L := [x0, x1, x2]) h 2 _ rfl⟩
theorem res_put3 {w : World} {b : Nat} {p q r x0 x1 x2 : Value} {T : TypeId} (h : w.heap[b]? = some (.cells #[p, q, r] T (0, 0))) : (((w.setCell ⟨b, 0, none⟩ x0).setCell ⟨b, 1, none⟩ x1).setCell ⟨b, 2, none⟩ x2).heap[b]? = some (.cells #[x0, x1, x2] T (0, 0)) := by
  have h1 : (w.setCell ⟨b, 0, none⟩ x0).heap[b]? = some (.cells #[x0, q, r] T (0, 0)) := (blk_set h 0 x0).trans (by simp)
  have h2 : ((w.setCell ⟨b, 0, none⟩ x0).setCell ⟨b, 1, none⟩ x1).heap[b]? = some (.cells #[x0, x1, r] T (0, 0)) := (blk_set h1 1 x1).trans (by simp)
  exact (blk_set h2 2 x2).trans (by simp)
theorem load_link (w : World) (b : Nat) (x0 x1 x2 : Value) (c0 : w.cell? ⟨b, 0, none⟩ = some x0) (c1 : w.cell? ⟨b, 1, none⟩ = some x1) (c2 : w.cell? ⟨b, 2, none⟩ = some x2) : (loadVar 49 ⟨b, 0, none⟩).run Try.prog w = .ok (.agg #[x0, x1, x2]) w := by
  go_simp
theorem ret_one {f : Func} {a : Act} {w : World} {Q : Ending → World → Prop} {s : Nat} {t : TypeId} {ad : Addr} {v : Value} (hr : f.results = #[.cell s t]) (hs : a.tmps.getD s undef = .pointer (some ad)) (hl : (loadVar t ad).run Try.prog w = .ok v w) (hd : a.defers = [])
    (h : Q (.returned v) w) : bodyPost Try.prog f Q .ret a w := by
  refine bodyPost_ret (v := v) ?_ hd h
  have h1 : a.tmps.getD s undef = .pointer (some ad) := hs
  simp [results, hr, -Array.getD_eq_getD_getElem?, h1, asAddr, hl]
end Go.Proofs.Ytclfphffbfdimaa

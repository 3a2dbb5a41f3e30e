/- The rest of a list of signatures; more behind one's own. -/
import Derived.Test.YtgnapfgiefdlaaaTeQ
namespace Go.Proofs.Ytgnapfgiefdlaaa
open Go.RowKit

/-- Where the rest of a list of pairs lies. -/
def restP (ad : Option Addr) (cc k : Nat) : Option Addr := if cc = k then ad else ad.map (·.add (k * 2))
theorem PairsIn.rest {w : World} {a : Option Addr} {ss : List (Int × ByteArray)} (h : PairsIn w a ss) (cc k : Nat) (hk : cc = k → ss.length ≤ k) : PairsIn w (restP a cc k) (ss.drop k) := by
  unfold restP
  split
  · next e => exact .inl (List.drop_eq_nil_of_le (hk e))
  · rcases h with h | ⟨g, off, ha, hg, hc⟩
    · exact .inl (by rw [h]; simp)
    · subst ha
      refine .inr ⟨g, off + k * 2, by simp [Addr.add], hg, fun j p hj => ?_⟩
      have := hc (k + j) p (by rwa [List.getElem?_drop] at hj)
      rw [show off + k * 2 + j * 2 = off + (k + j) * 2 by omega]
      exact this
theorem cut_n (cut : Int) (m : Nat) (hm : m ≤ 4000000000000000000) : ∃ k : Nat, k ≤ m ∧ wrap64 ((IntKind.u64.wrap cut).tmod ((m : Int) + 1)) = (k : Int) := by
  have h0 : 0 ≤ IntKind.u64.wrap cut := by
    simp [IntKind.wrap, IntKind.bits, IntKind.signed]
    omega
  generalize IntKind.u64.wrap cut = x at h0
  rw [Int.tmod_eq_emod_of_nonneg h0]
  have h1 := Int.emod_nonneg x (show (m : Int) + 1 ≠ 0 by omega)
  have h2 := Int.emod_lt_of_pos x (show (0 : Int) < (m : Int) + 1 by omega)
  refine ⟨(x % ((m : Int) + 1)).toNat, by omega, ?_⟩
  unfold wrap64
  omega
section
variable {o : Oper} {a : Act} {w : World} {Q : Exit → Act → World → Prop} {K : Act → World → Prop}
/-- More behind one's own. -/
theorem owp_moreT (x y : Operand) (ho : o.op = .call { callee := .builtin .append, args := #[x, y], argTypes := #[25, 25] }) (B : Nat) (w0 : World) (v : Value) (l : List (Int × ByteArray))
    (hx : a.eval x = v) (hO : OwnedT B w0 w v l) (ad : Option Addr) (n cap : Nat) (ps : List (Int × ByteArray)) (hy : a.eval y = .slice ad n cap) (hn : ps.length = n) (hS : PairsIn w ad ps) (hl : (l.length + n) * 24 ≤ 140737488355328)
    (h : ∀ v' w', Hid (OwnedT B w0 w' v' (l ++ ps)) → K (a.put o.dst v') w') : o.wp Try.prog a w K Q := by
  obtain ⟨i0, hi0, hz0, hz1, hz2⟩ := info_parts Try.info34
  cases ad with
  | none =>
    obtain rfl : ps = [] := by rcases hS with h | ⟨g, off, ha, _⟩; exact h; cases ha
    obtain rfl : 0 = n := hn
    have hk := h v w (by rw [List.append_nil]; exact hO)
    rcases hO.own.2 with ⟨hv, h0⟩ | ⟨g, c, cur, hv, hB, hh, hnc, hcp, hcs, htake⟩
    · subst hv
      refine owp_value (v := .slice none 0 0) (w' := w) ?_ hk
      simp [execOp, ho, resolve, invoke, builtin, hx, hy, Builtin.append_, run_underlying Try.underlying25, sizeOf, typeInfo, hi0, Builtin.lenOf, Builtin.firstCells, Result.andThen]
    · subst hv
      refine owp_value (v := .slice (some ⟨g, 0, none⟩) l.length c) (w' := w) ?_ hk
      simp [hnc, storeCells, execOp, ho, resolve, invoke, builtin, hx, hy, Builtin.append_, run_underlying Try.underlying25, sizeOf, typeInfo, hi0, Builtin.lenOf, Builtin.firstCells, Result.andThen]
  | some ad =>
    refine wp_append_own w x y 25 ho B 34 i0 (.agg #[.int .i64 0, .string ⟨#[]⟩]) 2 24 Try.underlying25 hi0 hz0 hz1 hz2 rfl (by decide) v l.length (pC l) hx hO.own ad n cap (pC ps) hy (by rw [pC_len, hn]) (fun j v hv => pairs_cells hS j v hv) (pC_cell1 ps) (by unfold maxLen; omega) (by omega) hO.le (fun v' w' hown hgrow _ => ?_)
    exact h _ _ (hO.grow hn hown hgrow)
end
end Go.Proofs.Ytgnapfgiefdlaaa

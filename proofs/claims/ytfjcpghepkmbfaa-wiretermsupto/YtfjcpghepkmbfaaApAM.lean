/- One thing more in a row of one's own, by an append in a region; a store of a slice. -/
import Derived.Test.YtfjcpghepkmbfaaGa4
import Derived.Test.YtfjcpghepkmbfaaGa5
import Derived.Maps.AppendAt
namespace Go.Proofs.Ytfjcpghepkmbfaa
open Go.RowKit

section
variable {o : Oper} {a : Act} {w : World} {K : Act → World → Prop} {Q : Exit → Act → World → Prop} {ops : Array Oper} {rest : List Oper}
theorem owp_storeV (T : TypeId) (p x : Operand) (ho : o.op = .store T p x) (b off : Nat) (hp : a.eval p = .pointer (some ⟨b, off, none⟩)) (u : Value) (hx : a.eval x = u) (hc : u.cells = #[u]) (h1 : u.oneCell' = true) (L : List Value) (TB : TypeId) (hL : w.heap[b]? = some (.cells L.toArray TB (0, 0))) (hn : off < L.length)
    (hi : (Try.prog.info? T).map (·.size) = some 1) (h : ∀ w', Hid (w'.heap[b]? = some (.cells (L.set off u).toArray TB (0, 0)) ∧ One b w w') → K (a.put o.dst undef) w') : o.wp Try.prog a w K Q := by
  have hcl : w.cell? ⟨b, off, none⟩ = some L[off] := cell_at hL off _ (List.getElem?_eq_getElem hn)
  have hf : w.frozen? ⟨b, off, none⟩ = false := free_at hL _
  have hb : (w.setCell ⟨b, off, none⟩ u).heap[b]? = some (.cells (L.set off u).toArray TB (0, 0)) := by have := blk_set hL off u; simpa using this
  refine owp_skip (w' := w.setCell ⟨b, off, none⟩ u) ?_ (h _ ⟨hb, one_cells b [u] off w⟩)
  have hr := run_store Try.prog w ⟨b, off, none⟩ u .plain h1
  rw [hcl] at hr
  simp only [hf] at hr
  cases hq : Try.prog.info? T with
  | none => simp [hq] at hi
  | some i =>
    have hs : i.size = 1 := by simp [hq] at hi; omega
    simp [execOp, ho, Instr.storeAt, Instr.sureAddr, hp, hx, storeVar, sizeOf, typeInfo, hq, hs, hc, storeCells, Addr.add, hr, Result.andThen]
theorem owp_append_at (s x : Operand) (t : TypeId) (ho : o.op = .call { callee := .builtin .append, args := #[s, x], argTypes := #[t, t] })
    (base : Nat) (e : TypeId) (i : TypeInfo) (z : Value) (size bytes : Nat) (ht : Try.prog.underlying t = some (.slice e)) (hi : Try.prog.info? e = some i) (hz : i.zero = some z)
    (hsize : i.size = size) (hby : i.bytes = bytes) (hzs : z.cells.size = size) (hsz : 0 < size)
    (v : Value) (n : Nat) (xs : List Value) (hs : a.eval s = v) (hown : w.ownsRow base e size v n xs)
    (ad : Addr) (m c : Nat) (news : List Value) (hx : a.eval x = .slice (some ad) m c) (hl : news.length = m * size) (hnews : ∀ j u, news[j]? = some u → w.cell? (ad.add j) = some u) (h1 : ∀ u ∈ news, u.oneCell' = true)
    (h63 : n + m ≤ maxLen) (hbytes : (n + m) * bytes ≤ 140737488355328) (hbase : base ≤ w.heap.size)
    (h : ∀ v' w', w'.ownsRow base e size v' (n + m) (xs ++ news) → w.grownBy w' v.ownBlock → (v'.ownBlock = v.ownBlock ∨ v'.ownBlock = some w.heap.size) → K (a.put o.dst v') w') : o.wp Try.prog a w K Q := by
  obtain ⟨v', w', hr, h2, h3, h4, h5⟩ := run_append_own_at (P := Try.prog) w base t o.type e i z size bytes ht hi hz hsize hby hzs hsz v n xs hown ad m c news hl hnews h1 h63 hbytes hbase
  unfold Oper.wp execOp
  simp only [ho, resolve, invoke, builtin, Sem.run_bind, Sem.run_pure, Result.andThen_ok, List.map_toArray, List.map_cons, List.map_nil, hs, hx, hr]
  exact h v' w' h2 h3 h5
end
end Go.Proofs.Ytfjcpghepkmbfaa

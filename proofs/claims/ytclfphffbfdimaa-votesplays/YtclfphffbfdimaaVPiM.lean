/- What the document's Settled builds: a box with two rows of signatures. No walk here. -/
import Derived.Test.YtclfphffbfdimaaVPgM
import Derived.Test.YtclfphffbfdimaaKh1
import Derived.Test.YtclfphffbfdimaaApAM
namespace Go.Proofs.Ytclfphffbfdimaa
open Go.RowKit

/-- The box at p: t, the first row, e1, the next members, the second row; all at B or later. -/
structure SbA (B : Nat) (w0 w : World) (p : Nat) (t : ByteArray) (e1 : Int) (a2 : Option Addr) (c2 : Nat) (nx : List Int) (v1 v2 : Value) (l1 l2 : List (Int × ByteArray)) : Prop where
  blk : w.heap[p]? = some (.cells #[.string t, v1, .int .i64 e1, .slice a2 nx.length c2, v2] 54 (0, 0))
  r1 : w.ownsRow B 47 2 v1 l1.length (pC l1)
  r2 : w.ownsRow B 47 2 v2 l2.length (pC l2)
  ne : ∀ k, v1.ownBlock = some k → v2.ownBlock ≠ some k
  n1 : v1.ownBlock ≠ some p
  n2 : v2.ownBlock ≠ some p
  pB : B ≤ p
  vi : IntsIn w a2 nx
  vf : ∀ x, a2 = some x → B ≤ x.block ∧ x.block < w.heap.size ∧ x.block ≠ p ∧ v1.ownBlock ≠ some x.block ∧ v2.ownBlock ≠ some x.block
  bel : Below B w0 w
  le : B ≤ w.heap.size
section
variable {B : Nat} {w0 w w' w6 w7 w8 : World} {p : Nat} {t : ByteArray} {e1 : Int} {a2 : Option Addr} {c2 : Nat} {nx : List Int} {v1 v2 v7 : Value} {l1 l2 : List (Int × ByteArray)} {x : Int × ByteArray}
theorem row_stay {e : TypeId} {z : Nat} {v : Value} {n : Nat} {cs : List Value} (h : w.ownsRow B e z v n cs) (hb : ∀ k, v.ownBlock = some k → w'.heap[k]? = w.heap[k]?) : w'.ownsRow B e z v n cs := by
  refine ⟨h.1, ?_⟩
  rcases h.2 with e | ⟨k, cap, cur, hv, hB2, hh, hr⟩
  · exact .inl e
  · exact .inr ⟨k, cap, cur, hv, hB2, (hb k (by rw [hv]; rfl)).trans hh, hr⟩
theorem SbA.keep (h : SbA B w0 w p t e1 a2 c2 nx v1 v2 l1 l2) (hb : Below w.heap.size w w') : SbA B w0 w' p t e1 a2 c2 nx v1 v2 l1 l2 :=
  ⟨(hb.block _ (lt_of_blk h.blk)).trans h.blk, ownsRow_keep h.r1 hb, ownsRow_keep h.r2 hb, h.ne, h.n1, h.n2, h.pB, h.vi.keep hb (Nat.le_refl _), fun x hx => ⟨(h.vf x hx).1, Nat.lt_of_lt_of_le (h.vf x hx).2.1 hb.size, (h.vf x hx).2.2⟩, h.bel.trans (hb.mono h.le), Nat.le_trans h.le hb.size⟩
theorem SbA.step1 (h : SbA B w0 w p t e1 a2 c2 nx v1 v2 l1 l2) (hb6 : Below w.heap.size w w6) (hg : w6.grownBy w7 v1.ownBlock) (ho : w7.ownsRow B 47 2 v7 (l1.length + 1) (pC l1 ++ pC [x])) (hob : v7.ownBlock = v1.ownBlock ∨ v7.ownBlock = some w6.heap.size) (h1 : One p w7 w8) (hk : w8.heap[p]? = some (.cells #[.string t, v7, .int .i64 e1, .slice a2 nx.length c2, v2] 54 (0, 0))) :
    SbA B w0 w8 p t e1 a2 c2 nx v7 v2 (l1 ++ [x]) l2 := by
  have h6 := h.keep hb6
  have hp6 := lt_of_blk h6.blk
  have hst : ∀ k, k < w6.heap.size → v1.ownBlock ≠ some k → k ≠ p → w8.heap[k]? = w6.heap[k]? := fun k hl hn hne => (h1.block k hne).trans (hg.block k hl (fun e => hn e.symm))
  have n7 : v7.ownBlock ≠ some p := by
    rcases hob with e | e <;> rw [e]
    · exact h.n1
    · intro e2; cases e2; exact Nat.lt_irrefl _ hp6
  have hs8 : w6.heap.size ≤ w8.heap.size := by rw [h1.size]; exact hg.size
  refine ⟨hk, ?_, row_stay h6.r2 (fun k e => hst k (h6.r2.lt k e).2 (fun e2 => h.ne k e2 e) (fun e2 => h.n2 (e2 ▸ e))), fun k e e2 => ?_, n7, h.n2, h.pB, ints_stayV h6.vi hs8 (fun x hx => by have := h6.vf x hx; exact hst _ this.2.1 this.2.2.2.1 this.2.2.1), fun x hx => ?_, ?_, Nat.le_trans h6.le hs8⟩
  · rw [List.length_append, pC_app]
    exact row_stay ho (fun k e => h1.block k (fun e2 => n7 (e2 ▸ e)))
  · rcases hob with e3 | e3
    · exact h.ne k (e3 ▸ e) e2
    · rw [e3] at e; cases e; exact Nat.lt_irrefl _ (h6.r2.lt _ e2).2
  · have := h6.vf x hx
    refine ⟨this.1, by omega, this.2.2.1, fun e => ?_, this.2.2.2.2⟩
    rcases hob with e3 | e3
    · exact this.2.2.2.1 (e3 ▸ e)
    · rw [e3] at e; have := Option.some.inj e; omega
  · have hbl := h6.bel
    exact ⟨h1.os.trans (hg.os.trans hbl.os), h1.tape.trans (hg.tape.trans hbl.tape), h1.output.trans (hg.output.trans hbl.output), Nat.le_trans hbl.size hs8, fun k hk => (hst k (Nat.lt_of_lt_of_le hk h6.le) (fun e => by have := (h6.r1.lt k e).1; omega) (fun e => by have := h.pB; omega)).trans (hbl.block k hk)⟩
theorem SbA.step2 (h : SbA B w0 w p t e1 a2 c2 nx v1 v2 l1 l2) (hb6 : Below w.heap.size w w6) (hg : w6.grownBy w7 v2.ownBlock) (ho : w7.ownsRow B 47 2 v7 (l2.length + 1) (pC l2 ++ pC [x])) (hob : v7.ownBlock = v2.ownBlock ∨ v7.ownBlock = some w6.heap.size) (h1 : One p w7 w8) (hk : w8.heap[p]? = some (.cells #[.string t, v1, .int .i64 e1, .slice a2 nx.length c2, v7] 54 (0, 0))) :
    SbA B w0 w8 p t e1 a2 c2 nx v1 v7 l1 (l2 ++ [x]) := by
  have h6 := h.keep hb6
  have hp6 := lt_of_blk h6.blk
  have hst : ∀ k, k < w6.heap.size → v2.ownBlock ≠ some k → k ≠ p → w8.heap[k]? = w6.heap[k]? := fun k hl hn hne => (h1.block k hne).trans (hg.block k hl (fun e => hn e.symm))
  have n7 : v7.ownBlock ≠ some p := by
    rcases hob with e | e <;> rw [e]
    · exact h.n2
    · intro e2; cases e2; exact Nat.lt_irrefl _ hp6
  have hs8 : w6.heap.size ≤ w8.heap.size := by rw [h1.size]; exact hg.size
  refine ⟨hk, row_stay h6.r1 (fun k e => hst k (h6.r1.lt k e).2 (fun e2 => h.ne k e e2) (fun e2 => h.n1 (e2 ▸ e))), ?_, fun k e e2 => ?_, h.n1, n7, h.pB, ints_stayV h6.vi hs8 (fun x hx => by have := h6.vf x hx; exact hst _ this.2.1 this.2.2.2.2 this.2.2.1), fun x hx => ?_, ?_, Nat.le_trans h6.le hs8⟩
  · rw [List.length_append, pC_app]
    exact row_stay ho (fun k e => h1.block k (fun e2 => n7 (e2 ▸ e)))
  · rcases hob with e3 | e3
    · exact h.ne k e (e3 ▸ e2)
    · rw [e3] at e2; cases e2; exact Nat.lt_irrefl _ (h6.r1.lt _ e).2
  · have := h6.vf x hx
    refine ⟨this.1, by omega, this.2.2.1, this.2.2.2.1, fun e => ?_⟩
    rcases hob with e3 | e3
    · exact this.2.2.2.2 (e3 ▸ e)
    · rw [e3] at e; have := Option.some.inj e; omega
  · have hbl := h6.bel
    exact ⟨h1.os.trans (hg.os.trans hbl.os), h1.tape.trans (hg.tape.trans hbl.tape), h1.output.trans (hg.output.trans hbl.output), Nat.le_trans hbl.size hs8, fun k hk => (hst k (Nat.lt_of_lt_of_le hk h6.le) (fun e => by have := (h6.r2.lt k e).1; omega) (fun e => by have := h.pB; omega)).trans (hbl.block k hk)⟩
theorem SbA.sl1 (h : SbA B w0 w p t e1 a2 c2 nx v1 v2 l1 l2) : ∃ a c, v1 = .slice a l1.length c := by
  rcases h.r1.2 with ⟨hv, h0⟩ | ⟨g, cap, cur, hv, _⟩
  · exact ⟨none, 0, by rw [hv, h0]⟩
  · exact ⟨_, _, hv⟩
theorem SbA.sl2 (h : SbA B w0 w p t e1 a2 c2 nx v1 v2 l1 l2) : ∃ a c, v2 = .slice a l2.length c := by
  rcases h.r2.2 with ⟨hv, h0⟩ | ⟨g, cap, cur, hv, _⟩
  · exact ⟨none, 0, by rw [hv, h0]⟩
  · exact ⟨_, _, hv⟩
end
end Go.Proofs.Ytclfphffbfdimaa

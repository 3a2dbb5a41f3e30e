/- Lists of texts: where they lie, a copy of one's own, all of them joined. -/
import Derived.Test.YtcofadhflbiahabShQ
import Derived.Test.YtcofadhflbiahabShP
import Derived.Lib.AppendStr
namespace Go.Proofs.Ytcofadhflbiahab
open Go.RowKit

theorem Try.info9 : (Try.prog.info? 9).map (fun i => (i.zero, i.size, i.bytes)) = some (some (.string ⟨#[]⟩), 1, 16) := by kernel_rfl

/-- The texts ss lie at a. -/
def StrsIn (w : World) (a : Option Addr) (ss : List ByteArray) : Prop :=
  ss = [] ∨ ∃ g off, a = some ⟨g, off, none⟩ ∧ g < w.heap.size ∧ ∀ j s, ss[j]? = some s → w.cell? ⟨g, off + j, none⟩ = some (.string s)
theorem StrsIn.keep {w w' : World} {a : Option Addr} {ss : List ByteArray} {B : Nat} (h : StrsIn w a ss) (hb : Below B w w') (hB : w.heap.size ≤ B) : StrsIn w' a ss := by
  rcases h with h | ⟨g, off, ha, hg, hc⟩
  · exact .inl h
  · exact .inr ⟨g, off, ha, Nat.lt_of_lt_of_le hg hb.size, fun j s hs => (hb.cell (p := ⟨g, off + j, none⟩) (Nat.lt_of_lt_of_le hg hB)).trans (hc j s hs)⟩
def sC (ss : List ByteArray) : List Value := ss.map Value.string
theorem sC_len (ss : List ByteArray) : (sC ss).length = ss.length := by simp [sC]
theorem sC_app (a b : List ByteArray) : sC (a ++ b) = sC a ++ sC b := by simp [sC]
theorem sC_one (ss : List ByteArray) : ∀ v ∈ sC ss, v.oneCell' = true := by
  intro v hv
  obtain ⟨x, _, rfl⟩ := List.mem_map.1 hv
  rfl
theorem sC_get (ss : List ByteArray) (j : Nat) (s : ByteArray) (h : ss[j]? = some s) : (sC ss)[j]? = some (.string s) := by simp [sC, h]
theorem sC_back (ss : List ByteArray) (j : Nat) (v : Value) (h : (sC ss)[j]? = some v) : ∃ s, ss[j]? = some s ∧ v = .string s := by
  simp [sC] at h
  obtain ⟨s, hs, rfl⟩ := h
  exact ⟨s, hs, rfl⟩

/-- The slice v holds the texts ss, in a row of its own; nothing below B has turned since w0. -/
structure OwnedS (B : Nat) (w0 w : World) (v : Value) (ss : List ByteArray) : Prop where
  own : w.ownsRow B 9 1 v ss.length (sC ss)
  bel : Below B w0 w
  le : B ≤ w.heap.size
theorem OwnedS.nil {B : Nat} {w0 w : World} (h : Below B w0 w) (hB : B ≤ w.heap.size) : OwnedS B w0 w (.slice none 0 0) [] := ⟨⟨rfl, .inl ⟨rfl, rfl⟩⟩, h, hB⟩
theorem OwnedS.alloc {B : Nat} {w0 w : World} {v : Value} {l : List ByteArray} (h : OwnedS B w0 w v l) (o : Obj) : OwnedS B w0 (w.alloc o) v l :=
  ⟨h.own.alloc o, h.bel.alloc h.le o, by have := h.le; simp; omega⟩
theorem OwnedS.grow {B : Nat} {w0 w w2 : World} {v v2 : Value} {l xs : List ByteArray} {m : Nat} (h : OwnedS B w0 w v l) (hm : xs.length = m) (h2 : w2.ownsRow B 9 1 v2 (l.length + m) (sC l ++ sC xs)) (hg : w.grownBy w2 v.ownBlock) : OwnedS B w0 w2 v2 (l ++ xs) :=
  ⟨by rw [List.length_append, sC_app, hm]; exact h2, h.bel.grown hg h.le (fun k hk => (h.own.lt k hk).1), Nat.le_trans h.le hg.size⟩
theorem OwnedS.form {B : Nat} {w0 w : World} {v : Value} {l : List ByteArray} (h : OwnedS B w0 w v l) (hl : 0 < l.length) : ∃ g cap, v = .slice (some ⟨g, 0, none⟩) l.length cap ∧ l.length ≤ cap ∧ g < w.heap.size ∧ B ≤ g ∧ ∀ j s, l[j]? = some s → w.cell? ⟨g, j, none⟩ = some (.string s) := by
  rcases h.own.2 with ⟨_, h0⟩ | ⟨g, cap, cur, hv, hb, hh, hnc, hcp, hcs, htake⟩
  · omega
  · refine ⟨g, cap, hv, hnc, lt_of_blk hh, hb, fun j s hj => ?_⟩
    subst hv
    have := h.own.cells (g := g) rfl j _ (sC_get l j s hj)
    rwa [Addr.add_lit, Nat.zero_add] at this

section
variable {o : Oper} {a : Act} {w : World} {Q : Exit → Act → World → Prop} {ops : Array Oper} {rest : List Oper}
/-- A copy of one's own. -/
theorem wl_own (hgd : o.guard = none) (x y : Operand) (ho : o.op = .call { callee := .builtin .append, args := #[x, y], argTypes := #[38, 38] })
    (hx : a.eval x = .slice none 0 0) (ad : Option Addr) (n cap : Nat) (ss : List ByteArray) (hy : a.eval y = .slice ad n cap) (hn : ss.length = n) (hS : StrsIn w ad ss) (hl : n ≤ 1000)
    (h : ∀ v' w', Hid (OwnedS w.heap.size w w' v' ss) → wpList Try.prog ops Q rest (a.put o.dst v') w') : wpList Try.prog ops Q (o :: rest) a w := by
  obtain ⟨i0, hi0, hz0, hz1, hz2⟩ := info_parts Try.info9
  cases ad with
  | none =>
    obtain rfl : ss = [] := by rcases hS with h | ⟨g, off, ha, _⟩; exact h; cases ha
    obtain rfl : 0 = n := hn
    refine wpList_plain hgd fun K hK => owp_value (v := .slice none 0 0) (w' := w) ?_ (hK _ _ (h _ _ (OwnedS.nil (Below.refl _ _) (Nat.le_refl _))))
    simp [execOp, ho, resolve, invoke, builtin, hx, hy, Builtin.append_, run_underlying Try.underlying38, sizeOf, typeInfo, hi0, Builtin.lenOf, Builtin.firstCells, Result.andThen]
  | some ad =>
    refine wpList_append_own w hgd x y 38 ho w.heap.size 9 i0 (.string ⟨#[]⟩) 1 16 Try.underlying38 hi0 hz0 hz1 hz2 rfl (by decide) (.slice none 0 0) 0 [] hx ⟨rfl, .inl ⟨rfl, rfl⟩⟩ ad n cap (sC ss) hy (by rw [sC_len, hn, Nat.mul_one]) (fun j v hv => ?_) (sC_one _) (by unfold maxLen; omega) (by omega) (Nat.le_refl _) (fun v' w' hown hgrow _ => h v' w' ?_)
    · obtain ⟨s, hs, rfl⟩ := sC_back ss j v hv
      rcases hS with h | ⟨g, off, ha, hg, hc⟩
      · rw [h] at hs; simp at hs
      · cases ha
        rw [Addr.add_lit]
        exact hc j s hs
    · have := (OwnedS.nil (Below.refl w.heap.size w) (Nat.le_refl _)).grow (xs := ss) hn hown hgrow
      exact this
end

end Go.Proofs.Ytcofadhflbiahab

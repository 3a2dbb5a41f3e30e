/- What all families of texts share: lists of texts and of numbers. -/
import Derived.Test.YtoepmpjncddnlaaBaB
namespace Go.Proofs.Ytoepmpjncddnlaa
open Go.RowKit

theorem Try.info9 : (Try.prog.info? 9).map (fun i => (i.zero, i.size, i.bytes)) = some (some (.string ⟨#[]⟩), 1, 16) := by kernel_rfl
/-- The texts ss lie at a. -/
def StrsIn (w : World) (a : Option Addr) (ss : List ByteArray) : Prop :=
  ss = [] ∨ ∃ g off, a = some ⟨g, off, none⟩ ∧ g < w.heap.size ∧ ∀ j s, ss[j]? = some s → w.cell? ⟨g, off + j, none⟩ = some (.string s)
theorem StrsIn.keep {w w' : World} {a : Option Addr} {ss : List ByteArray} {B : Nat} (h : StrsIn w a ss) (hb : Below B w w') (hB : w.heap.size ≤ B) : StrsIn w' a ss := by
  rcases h with h | ⟨g, off, ha, hg, hc⟩
  · exact .inl h
  · exact .inr ⟨g, off, ha, Nat.lt_of_lt_of_le hg hb.size, fun j s hs => (hb.cell (p := ⟨g, off + j, none⟩) (Nat.lt_of_lt_of_le hg hB)).trans (hc j s hs)⟩
def sC (ss : List ByteArray) : List Value := ss.map Value.string
theorem sC_len (ss : List ByteArray) : (sC ss).length = ss.length := by simp [sC]
theorem sC_app (a b : List ByteArray) : sC (a ++ b) = sC a ++ sC b := by simp [sC]
theorem sC_one (ss : List ByteArray) : ∀ v ∈ sC ss, v.oneCell' = true := by
  intro v hv
  obtain ⟨x, _, rfl⟩ := List.mem_map.1 hv
  rfl
theorem sC_get (ss : List ByteArray) (j : Nat) (s : ByteArray) (h : ss[j]? = some s) : (sC ss)[j]? = some (.string s) := by simp [sC, h]
theorem sC_back (ss : List ByteArray) (j : Nat) (v : Value) (h : (sC ss)[j]? = some v) : ∃ s, ss[j]? = some s ∧ v = .string s := by
  simp [sC] at h
  obtain ⟨s, hs, rfl⟩ := h
  exact ⟨s, hs, rfl⟩
/-- The slice v holds the texts ss, in a row of its own; nothing below B has turned since w0. -/
structure OwnedS (B : Nat) (w0 w : World) (v : Value) (ss : List ByteArray) : Prop where
  own : w.ownsRow B 9 1 v ss.length (sC ss)
  bel : Below B w0 w
  le : B ≤ w.heap.size
theorem OwnedS.nil {B : Nat} {w0 w : World} (h : Below B w0 w) (hB : B ≤ w.heap.size) : OwnedS B w0 w (.slice none 0 0) [] := ⟨⟨rfl, .inl ⟨rfl, rfl⟩⟩, h, hB⟩
theorem OwnedS.alloc {B : Nat} {w0 w : World} {v : Value} {l : List ByteArray} (h : OwnedS B w0 w v l) (o : Obj) : OwnedS B w0 (w.alloc o) v l :=
  ⟨h.own.alloc o, h.bel.alloc h.le o, by have := h.le; simp; omega⟩
theorem OwnedS.grow {B : Nat} {w0 w w2 : World} {v v2 : Value} {l xs : List ByteArray} {m : Nat} (h : OwnedS B w0 w v l) (hm : xs.length = m) (h2 : w2.ownsRow B 9 1 v2 (l.length + m) (sC l ++ sC xs)) (hg : w.grownBy w2 v.ownBlock) : OwnedS B w0 w2 v2 (l ++ xs) :=
  ⟨by rw [List.length_append, sC_app, hm]; exact h2, h.bel.grown hg h.le (fun k hk => (h.own.lt k hk).1), Nat.le_trans h.le hg.size⟩
theorem OwnedS.form {B : Nat} {w0 w : World} {v : Value} {l : List ByteArray} (h : OwnedS B w0 w v l) (hl : 0 < l.length) : ∃ g cap, v = .slice (some ⟨g, 0, none⟩) l.length cap ∧ l.length ≤ cap ∧ g < w.heap.size ∧ B ≤ g ∧ ∀ j s, l[j]? = some s → w.cell? ⟨g, j, none⟩ = some (.string s) := by
  rcases h.own.2 with ⟨_, h0⟩ | ⟨g, cap, cur, hv, hb, hh, hnc, hcp, hcs, htake⟩
  · omega
  · refine ⟨g, cap, hv, hnc, lt_of_blk hh, hb, fun j s hj => ?_⟩
    subst hv
    have := h.own.cells (g := g) rfl j _ (sC_get l j s hj)
    rwa [Addr.add_lit, Nat.zero_add] at this
section
variable {o : Oper} {a : Act} {w : World} {Q : Exit → Act → World → Prop} {ops : Array Oper} {rest : List Oper}
end
/-- The numbers zs lie at a. -/
def IntsIn (w : World) (a : Option Addr) (zs : List Int) : Prop :=
  zs = [] ∨ ∃ g off, a = some ⟨g, off, none⟩ ∧ g < w.heap.size ∧ ∀ j z, zs[j]? = some z → w.cell? ⟨g, off + j, none⟩ = some (.int .i64 z)
theorem IntsIn.keep {w w' : World} {a : Option Addr} {zs : List Int} {B : Nat} (h : IntsIn w a zs) (hb : Below B w w') (hB : w.heap.size ≤ B) : IntsIn w' a zs := by
  rcases h with h | ⟨g, off, ha, hg, hc⟩
  · exact .inl h
  · exact .inr ⟨g, off, ha, Nat.lt_of_lt_of_le hg hb.size, fun j s hs => (hb.cell (p := ⟨g, off + j, none⟩) (Nat.lt_of_lt_of_le hg hB)).trans (hc j s hs)⟩
theorem IntsIn.at {w : World} {a : Option Addr} {zs : List Int} (h : IntsIn w a zs) (j : Nat) (z : Int) (hj : zs[j]? = some z) : ∃ g off, a = some ⟨g, off, none⟩ ∧ g < w.heap.size ∧ w.cell? ⟨g, off + j, none⟩ = some (.int .i64 z) := by
  rcases h with h | ⟨g, off, ha, hg, hc⟩
  · rw [h] at hj; simp at hj
  · exact ⟨g, off, ha, hg, hc j z hj⟩
theorem StrsIn.at {w : World} {a : Option Addr} {ss : List ByteArray} (h : StrsIn w a ss) (j : Nat) (s : ByteArray) (hj : ss[j]? = some s) : ∃ g off, a = some ⟨g, off, none⟩ ∧ g < w.heap.size ∧ w.cell? ⟨g, off + j, none⟩ = some (.string s) := by
  rcases h with h | ⟨g, off, ha, hg, hc⟩
  · rw [h] at hj; simp at hj
  · exact ⟨g, off, ha, hg, hc j s hj⟩
theorem sC_set (l : List ByteArray) (j : Nat) (v : Value) (x : ByteArray) (hv : v = .string x) : (sC l).toArray.setIfInBounds j v = (sC (l.set j x)).toArray := by
  subst hv
  simp [sC, List.map_set]
theorem OwnedS.keep {B : Nat} {w0 w w' : World} {v : Value} {l : List ByteArray} (h : OwnedS B w0 w v l) (hb : Below w.heap.size w w') : OwnedS B w0 w' v l := by
  refine ⟨⟨h.own.1, ?_⟩, h.bel.trans (hb.mono h.le), Nat.le_trans h.le hb.size⟩
  rcases h.own.2 with hn | ⟨g, cap, cur, hv, hB, hh, hr⟩
  · exact .inl hn
  · exact .inr ⟨g, cap, cur, hv, hB, (hb.block g (lt_of_blk hh)).trans hh, hr⟩
theorem OwnedS.strs {B : Nat} {w0 w : World} {v : Value} {l : List ByteArray} (h : OwnedS B w0 w v l) : ∃ a cap, v = .slice a l.length cap ∧ StrsIn w a l := by
  by_cases h0 : 0 < l.length
  · obtain ⟨g, cap, hv, _, hg, _, hc⟩ := h.form h0
    exact ⟨_, cap, hv, .inr ⟨g, 0, rfl, hg, fun j s hj => by rw [Nat.zero_add]; exact hc j s hj⟩⟩
  · obtain rfl : l = [] := List.eq_nil_of_length_eq_zero (by omega)
    rcases h.own.2 with ⟨hv, _⟩ | ⟨g, cap, cur, hv, _⟩
    · exact ⟨none, 0, hv, .inl rfl⟩
    · exact ⟨_, cap, hv, .inl rfl⟩
theorem Try.info3 : (Try.prog.info? 3).map (fun i => (i.zero, i.size, i.bytes)) = some (some (.int .i64 0), 1, 8) := by kernel_rfl
def iC (zs : List Int) : List Value := zs.map (Value.int .i64)
theorem iC_len (zs : List Int) : (iC zs).length = zs.length := by simp [iC]
theorem iC_app (a b : List Int) : iC (a ++ b) = iC a ++ iC b := by simp [iC]
theorem iC_one (zs : List Int) : ∀ v ∈ iC zs, v.oneCell' = true := by
  intro v hv
  obtain ⟨x, _, rfl⟩ := List.mem_map.1 hv
  rfl
theorem iC_get (zs : List Int) (j : Nat) (s : Int) (h : zs[j]? = some s) : (iC zs)[j]? = some (.int .i64 s) := by simp [iC, h]
theorem iC_back (zs : List Int) (j : Nat) (v : Value) (h : (iC zs)[j]? = some v) : ∃ s, zs[j]? = some s ∧ v = .int .i64 s := by
  simp [iC] at h
  obtain ⟨s, hs, rfl⟩ := h
  exact ⟨s, hs, rfl⟩
/-- The slice v holds the numbers zs, in a row of its own; nothing below B has turned since w0. -/
structure OwnedI (B : Nat) (w0 w : World) (v : Value) (zs : List Int) : Prop where
  own : w.ownsRow B 3 1 v zs.length (iC zs)
  bel : Below B w0 w
  le : B ≤ w.heap.size
theorem OwnedI.nil {B : Nat} {w0 w : World} (h : Below B w0 w) (hB : B ≤ w.heap.size) : OwnedI B w0 w (.slice none 0 0) [] := ⟨⟨rfl, .inl ⟨rfl, rfl⟩⟩, h, hB⟩
theorem OwnedI.alloc {B : Nat} {w0 w : World} {v : Value} {l : List Int} (h : OwnedI B w0 w v l) (o : Obj) : OwnedI B w0 (w.alloc o) v l :=
  ⟨h.own.alloc o, h.bel.alloc h.le o, by have := h.le; simp; omega⟩
theorem OwnedI.grow {B : Nat} {w0 w w2 : World} {v v2 : Value} {l xs : List Int} {m : Nat} (h : OwnedI B w0 w v l) (hm : xs.length = m) (h2 : w2.ownsRow B 3 1 v2 (l.length + m) (iC l ++ iC xs)) (hg : w.grownBy w2 v.ownBlock) : OwnedI B w0 w2 v2 (l ++ xs) :=
  ⟨by rw [List.length_append, iC_app, hm]; exact h2, h.bel.grown hg h.le (fun k hk => (h.own.lt k hk).1), Nat.le_trans h.le hg.size⟩
theorem OwnedI.form {B : Nat} {w0 w : World} {v : Value} {l : List Int} (h : OwnedI B w0 w v l) (hl : 0 < l.length) : ∃ g cap, v = .slice (some ⟨g, 0, none⟩) l.length cap ∧ l.length ≤ cap ∧ cap ≤ maxLen ∧ g < w.heap.size ∧ B ≤ g ∧ ∀ j s, l[j]? = some s → w.cell? ⟨g, j, none⟩ = some (.int .i64 s) := by
  rcases h.own.2 with ⟨_, h0⟩ | ⟨g, cap, cur, hv, hb, hh, hnc, hcp, hcs, htake⟩
  · omega
  · refine ⟨g, cap, hv, hnc, hcp, lt_of_blk hh, hb, fun j s hj => ?_⟩
    subst hv
    have := h.own.cells (g := g) rfl j _ (iC_get l j s hj)
    rwa [Addr.add_lit, Nat.zero_add] at this
theorem OwnedI.same {B : Nat} {w0 w w1 : World} {v : Value} {l : List Int} (h : OwnedI B w0 w v l) (h1 : w1.os = w.os) (h2 : w1.tape = w.tape) (h3 : w1.output = w.output) (h4 : w1.heap = w.heap) : OwnedI B w0 w1 v l :=
  ⟨ownsRow_heap h4 h.own, ⟨h1.trans h.bel.os, h2.trans h.bel.tape, h3.trans h.bel.output, by rw [h4]; exact h.bel.size, fun k hk => by rw [h4]; exact h.bel.block k hk⟩, by rw [h4]; exact h.le⟩
section
variable {o : Oper} {a : Act} {w : World} {Q : Exit → Act → World → Prop} {ops : Array Oper} {rest : List Oper}
end
end Go.Proofs.Ytoepmpjncddnlaa

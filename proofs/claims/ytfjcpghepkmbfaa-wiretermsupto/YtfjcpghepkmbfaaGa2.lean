/- Texts laid together: BaC CoA CoB CoC CoD CoE MwA MwB PkB MwC CoG MrR GnI CoH CoJ. -/
import Derived.Test.YtfjcpghepkmbfaaGa1
import Derived.Deep.QuietTactic
import Derived.Laws.MakeOwn
import Derived.Maps.AppendAt
import Derived.Lib.AppendStr
import Derived.Deep.AppendSrc
import Derived.BigQuiet
import Derived.Deep.RegionLaw
/- What all families of texts share: lists of texts and of numbers. -/
namespace Go.Proofs.Ytfjcpghepkmbfaa
open Go.RowKit

theorem Try.info9 : (Try.prog.info? 9).map (fun i => (i.zero, i.size, i.bytes)) = some (some (.string ⟨#[]⟩), 1, 16) := by kernel_rfl
/-- The texts ss lie at a. -/
def StrsIn (w : World) (a : Option Addr) (ss : List ByteArray) : Prop :=
  ss = [] ∨ ∃ g off, a = some ⟨g, off, none⟩ ∧ g < w.heap.size ∧ ∀ j s, ss[j]? = some s → w.cell? ⟨g, off + j, none⟩ = some (.string s)
theorem StrsIn.keep {w w' : World} {a : Option Addr} {ss : List ByteArray} {B : Nat} (h : StrsIn w a ss) (hb : Below B w w') (hB : w.heap.size ≤ B) : StrsIn w' a ss := by
  rcases h with h | ⟨g, off, ha, hg, hc⟩
  · exact .inl h
  · exact .inr ⟨g, off, ha, Nat.lt_of_lt_of_le hg hb.size, fun j s hs => (hb.cell (p := ⟨g, off + j, none⟩) (Nat.lt_of_lt_of_le hg hB)).trans (hc j s hs)⟩
def sC (ss : List ByteArray) : List Value := ss.map Value.string
theorem sC_len (ss : List ByteArray) : (sC ss).length = ss.length := by simp [sC]
theorem sC_app (a b : List ByteArray) : sC (a ++ b) = sC a ++ sC b := by simp [sC]
theorem sC_one (ss : List ByteArray) : ∀ v ∈ sC ss, v.oneCell' = true := by
  intro v hv
  obtain ⟨x, _, rfl⟩ := List.mem_map.1 hv
  rfl
theorem sC_get (ss : List ByteArray) (j : Nat) (s : ByteArray) (h : ss[j]? = some s) : (sC ss)[j]? = some (.string s) := by simp [sC, h]
theorem sC_back (ss : List ByteArray) (j : Nat) (v : Value) (h : (sC ss)[j]? = some v) : ∃ s, ss[j]? = some s ∧ v = .string s := by
  simp [sC] at h
  obtain ⟨s, hs, rfl⟩ := h
  exact ⟨s, hs, rfl⟩
/-- The slice v holds the texts ss, in a row of its own; nothing below B has turned since w0. -/
structure OwnedS (B : Nat) (w0 w : World) (v : Value) (ss : List ByteArray) : Prop where
  own : w.ownsRow B 9 1 v ss.length (sC ss)
  bel : Below B w0 w
  le : B ≤ w.heap.size
theorem OwnedS.nil {B : Nat} {w0 w : World} (h : Below B w0 w) (hB : B ≤ w.heap.size) : OwnedS B w0 w (.slice none 0 0) [] := ⟨⟨rfl, .inl ⟨rfl, rfl⟩⟩, h, hB⟩
theorem OwnedS.alloc {B : Nat} {w0 w : World} {v : Value} {l : List ByteArray} (h : OwnedS B w0 w v l) (o : Obj) : OwnedS B w0 (w.alloc o) v l :=
  ⟨h.own.alloc o, h.bel.alloc h.le o, by have := h.le; simp; omega⟩
theorem OwnedS.grow {B : Nat} {w0 w w2 : World} {v v2 : Value} {l xs : List ByteArray} {m : Nat} (h : OwnedS B w0 w v l) (hm : xs.length = m) (h2 : w2.ownsRow B 9 1 v2 (l.length + m) (sC l ++ sC xs)) (hg : w.grownBy w2 v.ownBlock) : OwnedS B w0 w2 v2 (l ++ xs) :=
  ⟨by rw [List.length_append, sC_app, hm]; exact h2, h.bel.grown hg h.le (fun k hk => (h.own.lt k hk).1), Nat.le_trans h.le hg.size⟩
theorem OwnedS.form {B : Nat} {w0 w : World} {v : Value} {l : List ByteArray} (h : OwnedS B w0 w v l) (hl : 0 < l.length) : ∃ g cap, v = .slice (some ⟨g, 0, none⟩) l.length cap ∧ l.length ≤ cap ∧ g < w.heap.size ∧ B ≤ g ∧ ∀ j s, l[j]? = some s → w.cell? ⟨g, j, none⟩ = some (.string s) := by
  rcases h.own.2 with ⟨_, h0⟩ | ⟨g, cap, cur, hv, hb, hh, hnc, hcp, hcs, htake⟩
  · omega
  · refine ⟨g, cap, hv, hnc, lt_of_blk hh, hb, fun j s hj => ?_⟩
    subst hv
    have := h.own.cells (g := g) rfl j _ (sC_get l j s hj)
    rwa [Addr.add_lit, Nat.zero_add] at this
section
variable {o : Oper} {a : Act} {w : World} {Q : Exit → Act → World → Prop} {ops : Array Oper} {rest : List Oper}
end
/-- The numbers zs lie at a. -/
def IntsIn (w : World) (a : Option Addr) (zs : List Int) : Prop :=
  zs = [] ∨ ∃ g off, a = some ⟨g, off, none⟩ ∧ g < w.heap.size ∧ ∀ j z, zs[j]? = some z → w.cell? ⟨g, off + j, none⟩ = some (.int .i64 z)
theorem IntsIn.keep {w w' : World} {a : Option Addr} {zs : List Int} {B : Nat} (h : IntsIn w a zs) (hb : Below B w w') (hB : w.heap.size ≤ B) : IntsIn w' a zs := by
  rcases h with h | ⟨g, off, ha, hg, hc⟩
  · exact .inl h
  · exact .inr ⟨g, off, ha, Nat.lt_of_lt_of_le hg hb.size, fun j s hs => (hb.cell (p := ⟨g, off + j, none⟩) (Nat.lt_of_lt_of_le hg hB)).trans (hc j s hs)⟩
theorem IntsIn.at {w : World} {a : Option Addr} {zs : List Int} (h : IntsIn w a zs) (j : Nat) (z : Int) (hj : zs[j]? = some z) : ∃ g off, a = some ⟨g, off, none⟩ ∧ g < w.heap.size ∧ w.cell? ⟨g, off + j, none⟩ = some (.int .i64 z) := by
  rcases h with h | ⟨g, off, ha, hg, hc⟩
  · rw [h] at hj; simp at hj
  · exact ⟨g, off, ha, hg, hc j z hj⟩
theorem StrsIn.at {w : World} {a : Option Addr} {ss : List ByteArray} (h : StrsIn w a ss) (j : Nat) (s : ByteArray) (hj : ss[j]? = some s) : ∃ g off, a = some ⟨g, off, none⟩ ∧ g < w.heap.size ∧ w.cell? ⟨g, off + j, none⟩ = some (.string s) := by
  rcases h with h | ⟨g, off, ha, hg, hc⟩
  · rw [h] at hj; simp at hj
  · exact ⟨g, off, ha, hg, hc j s hj⟩
theorem sC_set (l : List ByteArray) (j : Nat) (v : Value) (x : ByteArray) (hv : v = .string x) : (sC l).toArray.setIfInBounds j v = (sC (l.set j x)).toArray := by
  subst hv
  simp [sC, List.map_set]
theorem OwnedS.keep {B : Nat} {w0 w w' : World} {v : Value} {l : List ByteArray} (h : OwnedS B w0 w v l) (hb : Below w.heap.size w w') : OwnedS B w0 w' v l := by
  refine ⟨⟨h.own.1, ?_⟩, h.bel.trans (hb.mono h.le), Nat.le_trans h.le hb.size⟩
  rcases h.own.2 with hn | ⟨g, cap, cur, hv, hB, hh, hr⟩
  · exact .inl hn
  · exact .inr ⟨g, cap, cur, hv, hB, (hb.block g (lt_of_blk hh)).trans hh, hr⟩
theorem OwnedS.strs {B : Nat} {w0 w : World} {v : Value} {l : List ByteArray} (h : OwnedS B w0 w v l) : ∃ a cap, v = .slice a l.length cap ∧ StrsIn w a l := by
  by_cases h0 : 0 < l.length
  · obtain ⟨g, cap, hv, _, hg, _, hc⟩ := h.form h0
    exact ⟨_, cap, hv, .inr ⟨g, 0, rfl, hg, fun j s hj => by rw [Nat.zero_add]; exact hc j s hj⟩⟩
  · obtain rfl : l = [] := List.eq_nil_of_length_eq_zero (by omega)
    rcases h.own.2 with ⟨hv, _⟩ | ⟨g, cap, cur, hv, _⟩
    · exact ⟨none, 0, hv, .inl rfl⟩
    · exact ⟨_, cap, hv, .inl rfl⟩
theorem Try.info3 : (Try.prog.info? 3).map (fun i => (i.zero, i.size, i.bytes)) = some (some (.int .i64 0), 1, 8) := by kernel_rfl
def iC (zs : List Int) : List Value := zs.map (Value.int .i64)
theorem iC_len (zs : List Int) : (iC zs).length = zs.length := by simp [iC]
theorem iC_app (a b : List Int) : iC (a ++ b) = iC a ++ iC b := by simp [iC]
theorem iC_one (zs : List Int) : ∀ v ∈ iC zs, v.oneCell' = true := by
  intro v hv
  obtain ⟨x, _, rfl⟩ := List.mem_map.1 hv
  rfl
theorem iC_get (zs : List Int) (j : Nat) (s : Int) (h : zs[j]? = some s) : (iC zs)[j]? = some (.int .i64 s) := by simp [iC, h]
theorem iC_back (zs : List Int) (j : Nat) (v : Value) (h : (iC zs)[j]? = some v) : ∃ s, zs[j]? = some s ∧ v = .int .i64 s := by
  simp [iC] at h
  obtain ⟨s, hs, rfl⟩ := h
  exact ⟨s, hs, rfl⟩
/-- The slice v holds the numbers zs, in a row of its own; nothing below B has turned since w0. -/
structure OwnedI (B : Nat) (w0 w : World) (v : Value) (zs : List Int) : Prop where
  own : w.ownsRow B 3 1 v zs.length (iC zs)
  bel : Below B w0 w
  le : B ≤ w.heap.size
theorem OwnedI.nil {B : Nat} {w0 w : World} (h : Below B w0 w) (hB : B ≤ w.heap.size) : OwnedI B w0 w (.slice none 0 0) [] := ⟨⟨rfl, .inl ⟨rfl, rfl⟩⟩, h, hB⟩
theorem OwnedI.alloc {B : Nat} {w0 w : World} {v : Value} {l : List Int} (h : OwnedI B w0 w v l) (o : Obj) : OwnedI B w0 (w.alloc o) v l :=
  ⟨h.own.alloc o, h.bel.alloc h.le o, by have := h.le; simp; omega⟩
theorem OwnedI.grow {B : Nat} {w0 w w2 : World} {v v2 : Value} {l xs : List Int} {m : Nat} (h : OwnedI B w0 w v l) (hm : xs.length = m) (h2 : w2.ownsRow B 3 1 v2 (l.length + m) (iC l ++ iC xs)) (hg : w.grownBy w2 v.ownBlock) : OwnedI B w0 w2 v2 (l ++ xs) :=
  ⟨by rw [List.length_append, iC_app, hm]; exact h2, h.bel.grown hg h.le (fun k hk => (h.own.lt k hk).1), Nat.le_trans h.le hg.size⟩
theorem OwnedI.form {B : Nat} {w0 w : World} {v : Value} {l : List Int} (h : OwnedI B w0 w v l) (hl : 0 < l.length) : ∃ g cap, v = .slice (some ⟨g, 0, none⟩) l.length cap ∧ l.length ≤ cap ∧ cap ≤ maxLen ∧ g < w.heap.size ∧ B ≤ g ∧ ∀ j s, l[j]? = some s → w.cell? ⟨g, j, none⟩ = some (.int .i64 s) := by
  rcases h.own.2 with ⟨_, h0⟩ | ⟨g, cap, cur, hv, hb, hh, hnc, hcp, hcs, htake⟩
  · omega
  · refine ⟨g, cap, hv, hnc, hcp, lt_of_blk hh, hb, fun j s hj => ?_⟩
    subst hv
    have := h.own.cells (g := g) rfl j _ (iC_get l j s hj)
    rwa [Addr.add_lit, Nat.zero_add] at this
theorem OwnedI.same {B : Nat} {w0 w w1 : World} {v : Value} {l : List Int} (h : OwnedI B w0 w v l) (h1 : w1.os = w.os) (h2 : w1.tape = w.tape) (h3 : w1.output = w.output) (h4 : w1.heap = w.heap) : OwnedI B w0 w1 v l :=
  ⟨ownsRow_heap h4 h.own, ⟨h1.trans h.bel.os, h2.trans h.bel.tape, h3.trans h.bel.output, by rw [h4]; exact h.bel.size, fun k hk => by rw [h4]; exact h.bel.block k hk⟩, by rw [h4]; exact h.le⟩
section
variable {o : Oper} {a : Act} {w : World} {Q : Exit → Act → World → Prop} {ops : Array Oper} {rest : List Oper}
/-- A copy of one's own. -/
theorem wl_ownI (hgd : o.guard = none) (x y : Operand) (ho : o.op = .call { callee := .builtin .append, args := #[x, y], argTypes := #[29, 29] })
    (hx : a.eval x = .slice none 0 0) (ad : Option Addr) (n cap : Nat) (zs : List Int) (hy : a.eval y = .slice ad n cap) (hn : zs.length = n) (hS : IntsIn w ad zs) (hl : n ≤ 17592186043904)
    (h : ∀ v' w', Hid (OwnedI w.heap.size w w' v' zs) → wpList Try.prog ops Q rest (a.put o.dst v') w') : wpList Try.prog ops Q (o :: rest) a w := by
  obtain ⟨i0, hi0, hz0, hz1, hz2⟩ := info_parts Try.info3
  cases ad with
  | none =>
    obtain rfl : zs = [] := by rcases hS with h | ⟨g, off, ha, _⟩; exact h; cases ha
    obtain rfl : 0 = n := hn
    refine wpList_plain hgd fun K hK => owp_value (v := .slice none 0 0) (w' := w) ?_ (hK _ _ (h _ _ (OwnedI.nil (Below.refl _ _) (Nat.le_refl _))))
    simp [execOp, ho, resolve, invoke, builtin, hx, hy, Builtin.append_, run_underlying Try.underlying29, sizeOf, typeInfo, hi0, Builtin.lenOf, Builtin.firstCells, Result.andThen]
  | some ad =>
    refine wpList_append_own w hgd x y 29 ho w.heap.size 3 i0 (.int .i64 0) 1 8 Try.underlying29 hi0 hz0 hz1 hz2 rfl (by decide) (.slice none 0 0) 0 [] hx ⟨rfl, .inl ⟨rfl, rfl⟩⟩ ad n cap (iC zs) hy (by rw [iC_len, hn, Nat.mul_one]) (fun j v hv => ?_) (iC_one _) (by unfold maxLen; omega) (by omega) (Nat.le_refl _) (fun v' w' hown hgrow _ => h v' w' ?_)
    · obtain ⟨s, hs, rfl⟩ := iC_back zs j v hv
      rcases hS with h | ⟨g, off, ha, hg, hc⟩
      · rw [h] at hs; simp at hs
      · cases ha
        rw [Addr.add_lit]
        exact hc j s hs
    · have := (OwnedI.nil (Below.refl w.heap.size w) (Nat.le_refl _)).grow (xs := zs) hn hown hgrow
      exact this
end
end Go.Proofs.Ytfjcpghepkmbfaa

/- Members, quorums, configurations, as functions. No walk here. -/
namespace Go.Proofs.Ytfjcpghepkmbfaa
open Go.RowKit

def fltZ (n : Int) : Int := if n < 1 then 0 else (n - 1) / 3
def quoZ (n : Int) : Int := if n < 1 then 0 else (n + fltZ n) / 2 + 1
def wekZ (n : Int) : Int := if n < 1 then 0 else fltZ n + 1
theorem fltZ_lo {n : Int} (h : n < 1) : fltZ n = 0 := if_pos h
theorem quoZ_lo {n : Int} (h : n < 1) : quoZ n = 0 := if_pos h
theorem wekZ_lo {n : Int} (h : n < 1) : wekZ n = 0 := if_pos h
theorem fltZ_hi {n : Int} (h : ¬ n < 1) : fltZ n = (n - 1) / 3 := if_neg h
theorem quoZ_hi {n : Int} (h : ¬ n < 1) : quoZ n = (n + fltZ n) / 2 + 1 := if_neg h
theorem wekZ_hi {n : Int} (h : ¬ n < 1) : wekZ n = fltZ n + 1 := if_neg h
theorem fltZ_le {n : Int} (h : ¬ n < 1) : 0 ≤ fltZ n ∧ 3 * fltZ n ≤ n - 1 := by rw [fltZ_hi h]; omega
/-- The i-th of the members is one, and stands behind the one ahead of it. -/
def okAt (l : List Int) (i : Nat) : Bool := decide (0 ≤ l.getD i 0 ∧ l.getD i 0 < 16) && (decide (i = 0) || decide (l.getD (i - 1) 0 < l.getD i 0))
def okTo (l : List Int) : Nat → Bool
  | 0 => true
  | j + 1 => okTo l j && okAt l j
theorem okTo_succ (l : List Int) (j : Nat) : okTo l (j + 1) = (okTo l j && okAt l j) := rfl
theorem okTo_false (l : List Int) (j n : Nat) (h : okTo l j = false) (hn : j ≤ n) : okTo l n = false := by
  induction n with
  | zero =>
    obtain rfl : j = 0 := by omega
    exact h
  | succ n ih =>
    by_cases e : j = n + 1
    · rw [← e]; exact h
    · rw [okTo_succ, ih (by omega)]; rfl
theorem okAt_no1 (l : List Int) (i : Nat) (h : ¬ (0 ≤ l.getD i 0 ∧ l.getD i 0 < 16)) : okAt l i = false := by rw [okAt, decide_eq_false h]; rfl
theorem okAt_no2 (l : List Int) (i : Nat) (h0 : i ≠ 0) (h : ¬ (l.getD (i - 1) 0 < l.getD i 0)) : okAt l i = false := by rw [okAt, decide_eq_false h, decide_eq_false h0]; simp
theorem okAt_yes0 (l : List Int) (h : 0 ≤ l.getD 0 0 ∧ l.getD 0 0 < 16) : okAt l 0 = true := by rw [okAt, decide_eq_true h]; rfl
theorem okAt_yes (l : List Int) (i : Nat) (h : 0 ≤ l.getD i 0 ∧ l.getD i 0 < 16) (h1 : l.getD (i - 1) 0 < l.getD i 0) : okAt l i = true := by rw [okAt, decide_eq_true h, decide_eq_true h1]; simp
/-- Are the members right? -/
def memB (l : List Int) : Bool := okTo l l.length && decide (4 ≤ l.length ∧ l.length ≤ 10)
/-- Is the configuration right? -/
def rightC (ep : Int) (l : List Int) : Bool := decide (0 ≤ ep ∧ ep ≤ 60) && memB l
def hasM (l : List Int) (id : Int) : Bool := decide (id ∈ l)
theorem okTo_at (l : List Int) : ∀ n, okTo l n = true → ∀ i, i < n → okAt l i = true
  | 0, _, i, hi => by omega
  | n + 1, h, i, hi => by
    rw [okTo_succ, Bool.and_eq_true_iff] at h
    by_cases e : i = n
    · rw [e]; exact h.2
    · exact okTo_at l n h.1 i (by omega)
theorem mem_len {l : List Int} (h : memB l = true) : 4 ≤ l.length ∧ l.length ≤ 10 := of_decide_eq_true (Bool.and_eq_true_iff.1 h).2
theorem mem_at {l : List Int} (h : memB l = true) (i : Nat) (hi : i < l.length) : okAt l i = true := okTo_at l _ (Bool.and_eq_true_iff.1 h).1 i hi
theorem mem_range {l : List Int} (h : memB l = true) (i : Nat) (hi : i < l.length) : 0 ≤ l.getD i 0 ∧ l.getD i 0 < 16 := of_decide_eq_true (Bool.and_eq_true_iff.1 (mem_at h i hi)).1
theorem mem_rise {l : List Int} (h : memB l = true) (i : Nat) (hi : i + 1 < l.length) : l.getD i 0 < l.getD (i + 1) 0 := by
  have := (Bool.and_eq_true_iff.1 (mem_at h (i + 1) hi)).2
  simpa using this
/-- Who leads. -/
def leadN (l : List Int) (view : Int) : Nat := (view % (l.length : Int)).toNat
def leads (ep : Int) (l : List Int) (view : Int) : Bool := rightC ep l && decide (0 ≤ view)
def leadZ (ep : Int) (l : List Int) (view : Int) : Int := if leads ep l view then l.getD (leadN l view) 0 else 0
end Go.Proofs.Ytfjcpghepkmbfaa

/- The document's counts, members and leaders. -/
namespace Go.Proofs.Ytfjcpghepkmbfaa
open Go.RowKit

end Go.Proofs.Ytfjcpghepkmbfaa

/- The document's members. -/
namespace Go.Proofs.Ytfjcpghepkmbfaa
open Go.RowKit

end Go.Proofs.Ytfjcpghepkmbfaa

/- The document's: who is a member, which configuration is right, who leads. -/
namespace Go.Proofs.Ytfjcpghepkmbfaa
open Go.RowKit

theorem not_mem_snoc {l : List Int} {id : Int} {j : Nat} (h : id ∉ l.take j) (hx : l.getD j 0 ≠ id) (hj : j < l.length) : id ∉ l.take (j + 1) := by
  rw [List.take_add_one, List.getElem?_eq_getElem hj]
  rw [List.getD_eq_getElem?_getD, List.getElem?_eq_getElem hj] at hx
  intro hm
  rcases List.mem_append.1 hm with h1 | h1
  · exact h h1
  · simp at h1 hx
    exact hx h1.symm
theorem mem_of_get {l : List Int} {id : Int} {j : Nat} (hx : l.getD j 0 = id) (hj : j < l.length) : id ∈ l := by
  rw [List.getD_eq_getElem?_getD, List.getElem?_eq_getElem hj] at hx
  rw [← hx]
  exact List.getElem_mem hj
theorem getD_some {l : List Int} {j : Nat} (hj : j < l.length) : l[j]? = some (l.getD j 0) := by rw [List.getD_eq_getElem?_getD, List.getElem?_eq_getElem hj]; rfl
theorem IntsIn.alloc {w : World} {a : Option Addr} {l : List Int} (h : IntsIn w a l) (o : Obj) : IntsIn (w.alloc o) a l := h.keep ((Below.refl w.heap.size w).alloc (Nat.le_refl _) o) (Nat.le_refl _)
end Go.Proofs.Ytfjcpghepkmbfaa

/- The document's leaders. -/
namespace Go.Proofs.Ytfjcpghepkmbfaa
open Go.RowKit

theorem right_mem {ep : Int} {l : List Int} (h : rightC ep l = true) : (0 ≤ ep ∧ ep ≤ 60) ∧ memB l = true := by
  obtain ⟨h1, h2⟩ := Bool.and_eq_true_iff.1 h
  exact ⟨of_decide_eq_true h1, h2⟩
theorem leadN_lt (l : List Int) (view : Int) (hl : 0 < l.length) : leadN l view < l.length ∧ view % (l.length : Int) = (leadN l view : Int) := by
  unfold leadN
  have h1 := Int.emod_nonneg view (show (l.length : Int) ≠ 0 by omega)
  have h2 := Int.emod_lt_of_pos view (show (0 : Int) < (l.length : Int) by omega)
  omega
/-- A struct of two cells, as laid. -/
theorem conf_cells (w : World) (ep s : Value) : (w.alloc (.cells #[ep, s] 61)).heap[w.heap.size]? = some (.cells [ep, s].toArray 61 (0, 0)) := heap_alloc_last w _
end Go.Proofs.Ytfjcpghepkmbfaa

/- The document's writer (layer 1's reference): a number as bytes. -/
namespace Go.Proofs.Ytfjcpghepkmbfaa
open Go.RowKit

theorem made_zero (n : Nat) : madeCells #[Value.int .u8 0] n = (List.replicate n (Value.int .u8 0)).toArray := by
  apply Array.ext'
  simp [madeCells]
  apply List.ext_getElem?
  intro i
  by_cases h : i < n
  · simp [h, Nat.mod_one]
  · simp [h]

/-- The cells of a number that is being written from its end. -/
def bigCells (k : Nat) (T : List UInt8) : Array Value := (List.replicate k (Value.int .u8 0) ++ bC T).toArray
theorem bigCells_set (j : Nat) (T : List UInt8) (c : UInt8) : (bigCells (j + 1) T).setIfInBounds j (.int .u8 (c.toNat : Int)) = bigCells j (c :: T) := by
  apply Array.ext'
  simp only [bigCells, Array.toList_setIfInBounds]
  rw [List.replicate_succ', List.append_assoc, List.set_append_right _ _ (by simp)]
  simp [bC]

end Go.Proofs.Ytfjcpghepkmbfaa

/- The contracts of the document's writer (layer 1's reference). -/
namespace Go.Proofs.Ytfjcpghepkmbfaa
open Go.RowKit

section
variable {w : World} {c : Nat} {v : Value} {lim : Int} {l : List UInt8} {er : Int}
end

end Go.Proofs.Ytfjcpghepkmbfaa

/- The contracts of package pack's writers of eight bytes and of texts. -/
namespace Go.Proofs.Ytfjcpghepkmbfaa
open Go.RowKit

/-- 'append(b, s...)' of a string onto a slice of bytes that the call owns: where the new slice lies. -/
theorem append_str (w : World) (base : Nat) (ty : TypeId) (i : TypeInfo) (hi : Try.prog.info? 5 = some i) (hz : i.zero = some (.int .u8 0)) (hsize : i.size = 1) (hby : i.bytes = 1)
    (v : Value) (n : Nat) (xs : List Value) (hown : w.ownsRow base 5 1 v n xs) (s : ByteArray) (hbytes : n + s.size ≤ 140737488355328) (hbase : base ≤ w.heap.size) :
    ∃ v' w', (Builtin.append_ #[84, 9] ty #[v, .string s]).run Try.prog w = .ok v' w' ∧ w'.ownsRow base 5 1 v' (n + s.size) (xs ++ bC s.data.toList) ∧ w.grownBy w' v.ownBlock ∧ (v'.ownBlock = v.ownBlock ∨ v'.ownBlock = some w.heap.size) := by
  obtain ⟨v', w', hr, h2, h3, h4⟩ := Lib.run_append_own_string (P := Try.prog) w base 84 9 ty 5 i Try.underlying84 Try.underlying9 hi hz hsize hby v n xs hown s (by unfold maxLen; omega) hbytes hbase
  refine ⟨v', w', hr, h2, h3, ?_⟩
  have hsrc := Src.ofString (P := Try.prog) w (tx := 9) Try.underlying9 s
  rcases hown.2 with ⟨rfl, rfl⟩ | ⟨g, cap, cur, rfl, hbg, hg, hnc, hcm, hcs, htake⟩
  · by_cases h0 : s.size = 0
    · have := h4.2 ⟨rfl, h0⟩
      subst this
      exact .inl rfl
    · have hgr := run_append_grow_src (P := Try.prog) w 84 9 ty 5 i (.int .u8 0) Try.underlying84 hi hz none 0 0 [] (by simpa using run_firstCells_none w.drew i.size 0 0 0) (.string s) s.size (byteCells s) (by rw [hsize]; exact hsrc) (by omega) (by omega) (by
        rw [hby, Nat.zero_add, nextslicecap_zero (by omega)]; omega)
      rw [hr] at hgr
      cases hgr
      exact .inr rfl
  · by_cases hroom : n + s.size ≤ cap
    · have hcz : cur.size = cap := by simpa using hcs
      have hrm := run_append_room_src (P := Try.prog) w 84 9 ty 5 i Try.underlying84 hi g 0 n cap (.string s) s.size (byteCells s) (by rw [hsize]; exact hsrc) hroom
        (fun j hj => by rw [byteCells_length] at hj; rw [hsize]; simp [World.cell?, hg]; omega) (fun j hj => by simp [World.frozen?, hg])
      rw [hr] at hrm
      cases hrm
      exact .inl rfl
    · have hgr := run_append_grow_src (P := Try.prog) w 84 9 ty 5 i (.int .u8 0) Try.underlying84 hi hz (some ⟨g, 0, none⟩) n cap xs
        (by rw [hsize]; exact run_firstCells_some w.drew 1 n ⟨g, 0, none⟩ n cap xs hown.1 (fun j u hj => hown.cells (g := g) rfl j u hj)) (.string s) s.size (byteCells s) (by rw [hsize]; exact hsrc) (by omega) (by omega) (by
        rw [hby]
        have := nextslicecap_le (need := n + s.size) (old := cap) (by omega)
        omega)
      rw [hr] at hgr
      cases hgr
      exact .inr rfl

theorem wpList_append_str (w : World) {ops : Array Oper} {rest : List Oper} {o : Oper} {a : Act} {Q : Exit → Act → World → Prop} (hgd : o.guard = none) (sl x : Operand)
    (ho : o.op = .call { callee := .builtin .append, args := #[sl, x], argTypes := #[84, 9] })
    (base : Nat) (i : TypeInfo) (hi : Try.prog.info? 5 = some i) (hz : i.zero = some (.int .u8 0)) (hsize : i.size = 1) (hby : i.bytes = 1)
    (v : Value) (n : Nat) (xs : List Value) (hs : a.eval sl = v) (hown : w.ownsRow base 5 1 v n xs) (s : ByteArray) (hx : a.eval x = .string s)
    (hbytes : n + s.size ≤ 140737488355328) (hbase : base ≤ w.heap.size)
    (h : ∀ v' w', w'.ownsRow base 5 1 v' (n + s.size) (xs ++ bC s.data.toList) → w.grownBy w' v.ownBlock → (v'.ownBlock = v.ownBlock ∨ v'.ownBlock = some w.heap.size) → wpList Try.prog ops Q rest (a.put o.dst v') w') : wpList Try.prog ops Q (o :: rest) a w := by
  refine wpList_plain hgd fun K hK => ?_
  obtain ⟨v', w', hr, h2, h3, h4⟩ := append_str w base o.type i hi hz hsize hby v n xs hown s hbytes hbase
  unfold Oper.wp execOp
  simp only [ho, resolve, invoke, builtin, Sem.run_bind, Sem.run_pure, Result.andThen_ok, List.map_toArray, List.map_cons, List.map_nil, hs, hx, hr]
  exact hK _ _ (h v' w' h2 h3 h4)

/-- The error behind eight bytes; the bytes. -/
def bE (lim : Int) (l : List UInt8) (er : Int) : Int := adm lim l.length er true 8
def bL (lim : Int) (l : List UInt8) (er : Int) (n : Nat) : List UInt8 := if bE lim l er = 0 then l ++ be 8 n else l

set_option maxRecDepth 100000 in
set_option maxHeartbeats 800000 in
theorem wbits_yes (b : Nat) (v : Value) (lim : Int) (l : List UInt8) (er : Int) (m : Nat) (w : World) (h : WrAt w b v lim l er)
    (h0 : 0 ≤ lim) (h1 : lim ≤ 9223372036854775807) (hl : l.length + 8 ≤ 140737488355328) (n1 : m < 18446744073709551616) (hd : adm lim l.length er true 8 = 0) :
    Calls Try.prog 63 #[.pointer (some ⟨b, 0, none⟩), .int .u64 m] w fun e w' => e = .returned (.tuple #[]) ∧ ∃ v', WrAt w' b v' lim (l ++ be 8 m) 0 ∧ Kept b v.ownBlock w w' ∧ Moved w v v' := by
  have ha := admits_any b v lim l er true 8 w h h0 h1 (by omega)
  have hdd : decide (adm lim l.length er true 8 = 0) = true := by simpa using hd
  rw [hdd, hd] at ha
  have HA := hid ha
  have HL := hid hl
  have HM := hid n1
  clear ha h hd hdd hl n1 h0 h1
  go_enter Try.func63, Try.ntmps63
  go_wp2_with fail
  refine HA.out.mono ?_
  rintro e w1 ⟨rfl, hr, hk⟩
  have HR := hid hr
  have HK := hid hk
  clear hr hk
  go_wp2_with fail
  refine (put_any b v lim l 0 m 8 w1 HR.out (by omega) HM.out HL.out).mono ?_
  rintro e w2 ⟨rfl, v', hv, hk2, hm⟩
  have HV := hid hv
  have HK2 := hid (And.intro hk2 hm)
  clear hv hk2 hm
  go_wp2
  go_end0
  exact ⟨rfl, v', HV.out, (kept_none HK.out).trans HK2.out.1 (.inl rfl), (Moved.refl w v).trans HK2.out.2 HK.out.size⟩

set_option maxHeartbeats 800000 in
theorem wbits_no (b : Nat) (v : Value) (lim : Int) (l : List UInt8) (er : Int) (m : Nat) (w : World) (h : WrAt w b v lim l er)
    (h0 : 0 ≤ lim) (h1 : lim ≤ 9223372036854775807) (hl : l.length + 8 ≤ 140737488355328) (E : Int) (hE : adm lim l.length er true 8 = E) (hd : E ≠ 0) :
    Calls Try.prog 63 #[.pointer (some ⟨b, 0, none⟩), .int .u64 m] w fun e w' => e = .returned (.tuple #[]) ∧ ∃ v', WrAt w' b v' lim l E ∧ Kept b v.ownBlock w w' ∧ Moved w v v' := by
  have ha := admits_any b v lim l er true 8 w h h0 h1 (by omega)
  have hdd : decide (E = 0) = false := by simpa using hd
  rw [hE, hdd] at ha
  have HA := hid ha
  clear ha h hE hd hdd hl h0 h1
  go_enter Try.func63, Try.ntmps63
  go_wp2_with fail
  refine HA.out.mono ?_
  rintro e w1 ⟨rfl, hr, hk⟩
  have HR := hid hr
  have HK := hid hk
  clear hr hk
  go_wp2
  go_end0
  exact ⟨rfl, v, HR.out, kept_none HK.out, Moved.refl _ _⟩

theorem wbits_any (b : Nat) (v : Value) (lim : Int) (l : List UInt8) (er : Int) (m : Nat) (w : World) (h : WrAt w b v lim l er)
    (h0 : 0 ≤ lim) (h1 : lim ≤ 9223372036854775807) (hl : l.length + 8 ≤ 140737488355328) (n1 : m < 18446744073709551616) :
    Calls Try.prog 63 #[.pointer (some ⟨b, 0, none⟩), .int .u64 m] w fun e w' => e = .returned (.tuple #[]) ∧ ∃ v', WrAt w' b v' lim (bL lim l er m) (bE lim l er) ∧ Kept b v.ownBlock w w' ∧ Moved w v v' := by
  unfold bL bE
  by_cases hd : adm lim l.length er true 8 = 0
  · simpa [hd] using wbits_yes b v lim l er m w h h0 h1 hl n1 hd
  · simpa [hd] using wbits_no b v lim l er m w h h0 h1 hl _ rfl hd

/-- The error behind a text; the bytes. -/
def xE (lim : Int) (l : List UInt8) (er : Int) (s : ByteArray) : Int := adm lim l.length er (decide (s.size ≤ 65535)) (2 + s.size)
def xL (lim : Int) (l : List UInt8) (er : Int) (s : ByteArray) : List UInt8 := if xE lim l er s = 0 then l ++ (be 2 s.size ++ s.data.toList) else l

theorem put_text {w1 w2 : World} {b : Nat} {v v' : Value} {lim : Int} {L : List UInt8} {er : Int} {s : ByteArray} (hR : WrAt w1 b v lim L er)
    (hown : w2.ownsRow (b + 1) 5 1 v' (L.length + s.size) (bC L ++ bC s.data.toList)) (hgrow : w1.grownBy w2 v.ownBlock) (hat : v'.ownBlock = v.ownBlock ∨ v'.ownBlock = some w1.heap.size) :
    WrAt (w2.setCell ⟨b, 1, none⟩ v') b v' lim (L ++ s.data.toList) er ∧ Kept b v.ownBlock w1 (w2.setCell ⟨b, 1, none⟩ v') ∧ Moved w1 v v' := by
  have hbv : some b ≠ v.ownBlock := fun e => by have := (hR.own.lt b e.symm).1; omega
  have hb1 : w2.heap[b]? = some (.cells #[.int .i64 lim, v, .int .i64 er] 86 (0, 0)) := by
    rw [hgrow.block b hR.lt hbv]
    exact hR.blk
  refine ⟨WrAt.bytes hb1 ?_, ?_, ?_⟩
  · rw [bC_app, List.length_append, Array.length_toList]; exact hown
  · exact ((Kept.refl b v.ownBlock w1).grown hgrow (.inl rfl)).setCell _ _
  · rcases hat with h | h
    · exact .inl h
    · exact .inr ⟨_, h, Nat.le_refl _⟩

set_option maxRecDepth 100000 in
set_option maxHeartbeats 1600000 in
theorem wtext_yes (b : Nat) (v : Value) (lim : Int) (l : List UInt8) (er : Int) (s : ByteArray) (w : World) (h : WrAt w b v lim l er)
    (h0 : 0 ≤ lim) (h1 : lim ≤ 9223372036854775807) (hs : s.size ≤ 65535) (hl : l.length + 8 ≤ 140737488355328) (hl2 : l.length + (2 + s.size) ≤ 140737488355328) (hd : adm lim l.length er true (2 + s.size) = 0) :
    Calls Try.prog 43 #[.pointer (some ⟨b, 0, none⟩), .string s] w fun e w' => e = .returned (.tuple #[]) ∧ ∃ v', WrAt w' b v' lim (l ++ (be 2 s.size ++ s.data.toList)) 0 ∧ Kept b v.ownBlock w w' ∧ Moved w v v' := by
  obtain ⟨i0, hi0, hz0, hz1, hz2⟩ := info_parts Try.info5
  have ha := admits_any b v lim l er true (2 + s.size) w h h0 h1 (by omega)
  have hdd : decide (adm lim l.length er true (2 + s.size) = 0) = true := by simpa using hd
  rw [hdd, hd] at ha
  have HA := hid ha
  have HL := hid hl
  have HL2 := hid hl2
  have hsi : (s.size : Int) ≤ 65535 := by omega
  clear ha h hd hdd hl hl2 h0 h1 hs
  go_enter Try.func43, Try.ntmps43
  go_wp2_with fail
  refine HA.out.mono ?_
  rintro e w1 ⟨rfl, hr, hk⟩
  have HR := hid hr
  have HK := hid hk
  clear hr hk
  go_wp2_with fail
  refine (put_any b v lim l 0 s.size 2 w1 HR.out (by omega) (by omega) HL.out).mono ?_
  rintro e w2 ⟨rfl, v2, hv, hk2, hm⟩
  have HV := hid hv
  have HK2 := hid (And.intro ((kept_none HK.out).trans hk2 (.inl rfl)) ((Moved.refl w v).trans hm HK.out.size))
  have c1 := hv.c1
  have f1 := hv.fr 1
  have hlt := hv.lt
  have hbv : some b ≠ v2.ownBlock := fun e => by have := (hv.own.lt b e.symm).1; omega
  have ho := hv.own
  have hb2 : (l ++ be 2 s.size).length + s.size ≤ 140737488355328 := by rw [List.length_append, be_len]; have := HL2.out; omega
  clear hv hk2 hm
  go_wp2_with (at_builtin; refine wpList_append_str _ rfl _ _ rfl (b + 1) i0 hi0 hz0 hz1 hz2 v2 (l ++ be 2 s.size).length (bC (l ++ be 2 s.size)) rfl ho s rfl hb2 (by omega) ?_)
  intro v3 w3 hown3 hgrow hat
  rw [← List.length_append] at hown3
  have HS := hid (put_text HV.out hown3 hgrow hat)
  have cz : w3.cell? ⟨b, 1, none⟩ = some v2 := (hgrow.cell_far ⟨b, 1, none⟩ hlt hbv).trans c1
  have fz : w3.frozen? ⟨b, 1, none⟩ = false := (hgrow.frozen_far ⟨b, 1, none⟩ hlt hbv).trans f1
  obtain ⟨av, nv, capv, hv3⟩ : ∃ av nv capv, v3 = .slice av nv capv := by
    rcases hown3.2 with ⟨hv, _⟩ | ⟨g, cap, cur, hv, _⟩
    · exact ⟨_, _, _, hv⟩
    · exact ⟨_, _, _, hv⟩
  rw [hv3] at HS ⊢
  clear hown3 hgrow hat ho hv3
  go_wp2
  go_end0
  refine ⟨rfl, _, ?_, HK2.out.1.trans HS.out.2.1 HK2.out.2, HK2.out.2.trans HS.out.2.2 HK2.out.1.size⟩
  rw [← List.append_assoc]
  exact HS.out.1

set_option maxHeartbeats 800000 in
theorem wtext_no (b : Nat) (v : Value) (lim : Int) (l : List UInt8) (er : Int) (s : ByteArray) (w : World) (h : WrAt w b v lim l er)
    (h0 : 0 ≤ lim) (h1 : lim ≤ 9223372036854775807) (hs : s.size ≤ 9223372036854775805) (hl : l.length + 8 ≤ 140737488355328) (E : Int) (r : Bool) (hr : decide ((s.size : Int) ≤ 65535) = r) (hE : adm lim l.length er r (2 + s.size) = E) (hd : E ≠ 0) :
    Calls Try.prog 43 #[.pointer (some ⟨b, 0, none⟩), .string s] w fun e w' => e = .returned (.tuple #[]) ∧ ∃ v', WrAt w' b v' lim l E ∧ Kept b v.ownBlock w w' ∧ Moved w v v' := by
  have ha := admits_any b v lim l er r (2 + s.size) w h h0 h1 (by omega)
  have hdd : decide (E = 0) = false := by simpa using hd
  rw [hE, hdd] at ha
  have HA := hid ha
  clear ha h hE hd hdd hl h0 h1
  go_enter Try.func43, Try.ntmps43
  go_wp2_with fail
  refine HA.out.mono ?_
  rintro e w1 ⟨rfl, hr, hk⟩
  have HR := hid hr
  have HK := hid hk
  clear hr hk
  go_wp2
  go_end0
  exact ⟨rfl, v, HR.out, kept_none HK.out, Moved.refl _ _⟩

theorem wtext_any (b : Nat) (v : Value) (lim : Int) (l : List UInt8) (er : Int) (s : ByteArray) (w : World) (h : WrAt w b v lim l er)
    (h0 : 0 ≤ lim) (h1 : lim ≤ 9223372036854775807) (hs : s.size ≤ 9223372036854775805) (hl : l.length + 8 ≤ 140737488355328) (hl2 : xE lim l er s = 0 → l.length + (2 + s.size) ≤ 140737488355328) :
    Calls Try.prog 43 #[.pointer (some ⟨b, 0, none⟩), .string s] w fun e w' => e = .returned (.tuple #[]) ∧ ∃ v', WrAt w' b v' lim (xL lim l er s) (xE lim l er s) ∧ Kept b v.ownBlock w w' ∧ Moved w v v' := by
  unfold xL
  by_cases hd : xE lim l er s = 0
  · have hs2 : s.size ≤ 65535 := by
      by_cases h2 : s.size ≤ 65535
      · exact h2
      · exfalso
        unfold xE adm at hd
        simp [h2] at hd
        split at hd <;> simp_all
    have hd2 : adm lim l.length er true (2 + s.size) = 0 := by
      unfold xE at hd
      simpa [hs2] using hd
    rw [if_pos hd, hd]
    exact wtext_yes b v lim l er s w h h0 h1 hs2 hl (hl2 hd) hd2
  · rw [if_neg hd]
    exact wtext_no b v lim l er s w h h0 h1 hs hl _ (decide (s.size ≤ 65535)) (by simp; omega) rfl hd

end Go.Proofs.Ytfjcpghepkmbfaa

/- The contracts of the document's writer: numbers, bits, texts, items. -/
namespace Go.Proofs.Ytfjcpghepkmbfaa
open Go.RowKit

theorem cells_of_row {w : World} {g : Nat} {xs : List UInt8} (h : w.heap[g]? = some (.cells (bC xs).toArray 5 (0, 0))) : ∀ j u, (bC xs)[j]? = some u → w.cell? ⟨g, j, none⟩ = some u := by
  intro j u hj
  have hjl := (List.getElem?_eq_some_iff.1 hj).1
  rw [cell_of_blk h j (by simpa using hjl)]
  rw [← hj]
  simp [hjl]


end Go.Proofs.Ytfjcpghepkmbfaa

/- The document's bytes of a configuration. -/
namespace Go.Proofs.Ytfjcpghepkmbfaa
open Go.RowKit

theorem inR_yes (s n : Nat) (hn : n < 256 ^ s) : inR s (n : Int) = true := by
  unfold inR
  exact decide_eq_true ⟨Int.natCast_nonneg _, by exact_mod_cast hn⟩
theorem wL_ok (l : List UInt8) (s n : Nat) (hn : n < 256 ^ s) (hl : l.length + s ≤ 100) : wL 100 l 0 s (n : Int) = l ++ be s n ∧ wE 100 l 0 s (n : Int) = 0 := by
  have h : adm 100 l.length 0 (inR s (n : Int)) s = 0 := by
    have hi : inR s (n : Int) = true := inR_yes s n hn
    rw [hi]
    unfold adm
    simp
    omega
  exact ⟨by rw [wL, if_pos h, Int.toNat_natCast], by rw [wE, h]⟩
def memBytes (l : List Int) : List UInt8 := l.flatMap fun x => be 1 x.toNat
/-- The bytes of a right configuration. -/
def confB (ep : Int) (l : List Int) : List UInt8 := be 1 67 ++ be 2 ep.toNat ++ be 1 l.length ++ memBytes l
theorem memBytes_len (l : List Int) : (memBytes l).length = l.length := by
  induction l with
  | nil => rfl
  | cons x l ih =>
    show (be 1 x.toNat ++ memBytes l).length = _
    rw [List.length_append, be_len, ih, List.length_cons]
    omega
theorem memBytes_snoc (l : List Int) (j : Nat) (hj : j < l.length) : memBytes (l.take (j + 1)) = memBytes (l.take j) ++ be 1 (l.getD j 0).toNat := by
  rw [List.take_add_one, getD_some hj, memBytes, List.flatMap_append]
  simp [memBytes]
def textC (ep : Int) (l : List Int) : ByteArray := if rightC ep l then ⟨(confB ep l).toArray⟩ else ⟨#[]⟩
def textE (ep : Int) (l : List Int) : Int := if rightC ep l then 0 else 1
end Go.Proofs.Ytfjcpghepkmbfaa

/- The contracts of the document's reader (layer 1's reference). -/
namespace Go.Proofs.Ytfjcpghepkmbfaa
open Go.RowKit

theorem add_val (a : Nat) (c : UInt8) (ha : a < 72057594037927936) :
    IntKind.u64.wrap (IntKind.u64.wrap ((a : Int) * 256) + IntKind.u64.wrap (c.toNat : Int)) = ((a * 256 + c.toNat : Nat) : Int) := by
  have hc := c.toNat_lt
  simp only [IntKind.wrap_u64]; omega

theorem run_at (s : ByteArray) (k : Nat) (hk : k < s.size) (w : World) : (Instr.index 9 (.string s) (.int .i64 (k : Int))).run Try.prog w = .ok (.int .u8 (s[k].toNat : Int)) w := by
  have h0 : (0 : Int) ≤ (k : Int) := Int.natCast_nonneg _
  go_simp

theorem val_two (s : ByteArray) (h : 2 ≤ s.size) : val (s.data.toList.take 2) = s[0].toNat * 256 + s[1].toNat := by
  rw [take_snoc s 1 (by omega), val_snoc, take_snoc s 0 (by omega), val_snoc]
  simp [val]

theorem World.drewN_heap (w : World) (n : Nat) : (w.drewN n).heap = w.heap := by
  induction n with
  | zero => rfl
  | succ n ih => exact ih
theorem Kept.drewN {b : Nat} {r : Option Nat} {x y : World} (h : Kept b r x y) (n : Nat) : Kept b r x (y.drewN n) := by
  induction n with
  | zero => exact h
  | succ n ih => exact ih.drew
end Go.Proofs.Ytfjcpghepkmbfaa

/- Lists of numbers held against each other. -/
namespace Go.Proofs.Ytfjcpghepkmbfaa
open Go.RowKit

set_option maxRecDepth 100000 in
set_option maxHeartbeats 1600000 in
theorem sameInts_any (a1 a2 : Option Addr) (n c1 c2 : Nat) (ss : List Int) (hn : ss.length = n) (hm : n ≤ maxLen) (w : World) (h1 : IntsIn w a1 ss) (h2 : IntsIn w a2 ss) :
    Calls Try.prog 24 #[.slice a1 n c1, .slice a2 n c2] w fun e w' => e = .returned (.bool true) ∧ Below w.heap.size w w' := by
  have hm2 : (n : Int) ≤ 9223372036854775807 := by unfold maxLen at hm; omega
  have HZ := hid (And.intro h1 (And.intro h2 hn))
  clear h1 h2 hn hm
  go_enter Try.func24, Try.ntmps24
  go_wp2
  go_loopw [5] (fun i wr => ∃ j : Nat, j ≤ n ∧ i = .int .i64 (j : Int) ∧ Below w.heap.size w wr)
    (fun i _ => ((n : Int) - intOf i).toNat)
  case atStart => exact ⟨0, by omega, rfl, Below.refl _ _⟩
  case round =>
    obtain ⟨j, hj, rfl, hbel⟩ := hrel
    have HB := hid hbel
    clear hbel
    by_cases hjn : j = n
    · have hj1 : ¬ ((j : Int) < (n : Int)) := by omega
      clear hj hjn
      go_wp2
      go_ret
      exact ⟨rfl, HB.out⟩
    · have hj1 : (j : Int) < (n : Int) := by omega
      have hj0 : (0 : Int) ≤ (j : Int) := Int.natCast_nonneg _
      obtain ⟨s, es⟩ : ∃ s, ss[j]? = some s := ⟨_, List.getElem?_eq_getElem (by rw [HZ.out.2.2]; omega)⟩
      obtain ⟨g1, off1, rfl, hg1, hcell1⟩ := HZ.out.1.at j s es
      obtain ⟨g2, off2, rfl, hg2, hcell2⟩ := HZ.out.2.1.at j s es
      have cz1 : wr.cell? ⟨g1, off1 + j, none⟩ = some (.int .i64 s) := (HB.out.cell (p := ⟨g1, off1 + j, none⟩) hg1).trans hcell1
      have cz2 : wr.cell? ⟨g2, off2 + j, none⟩ = some (.int .i64 s) := (HB.out.cell (p := ⟨g2, off2 + j, none⟩) hg2).trans hcell2
      clear es hg1 hg2 hcell1 hcell2
      go_wp2
      go_quiet (fail)
      go_wp2
      go_roundw
      case rel => exact ⟨j + 1, by omega, rfl, ⟨HB.out.os, HB.out.tape, HB.out.output, HB.out.size, HB.out.block⟩⟩
      case measure => simp [intOf]; omega
end Go.Proofs.Ytfjcpghepkmbfaa

/- What the document reads as a configuration. -/
namespace Go.Proofs.Ytfjcpghepkmbfaa
open Go.RowKit

/-- A reader behind so many bytes read one by one; the numbers read. -/
def rdS (s : ByteArray) (sh : Bool) : Nat → ByteArray × Bool
  | 0 => (s, sh)
  | k + 1 => (rS (rdS s sh k).1 (rdS s sh k).2 1, rB (rdS s sh k).1 (rdS s sh k).2 1)
def rdL (s : ByteArray) (sh : Bool) : Nat → List Int
  | 0 => []
  | k + 1 => rdL s sh k ++ [(rN (rdS s sh k).1 (rdS s sh k).2 1 : Int)]
theorem rdL_len (s : ByteArray) (sh : Bool) : ∀ k, (rdL s sh k).length = k
  | 0 => rfl
  | k + 1 => by rw [rdL, List.length_append, rdL_len s sh k]; rfl
/-- What is read: the head, the epoch, how many, and each. -/
def cH (t : ByteArray) : Nat := rN t false 1
def cS1 (t : ByteArray) : ByteArray × Bool := (rS t false 1, rB t false 1)
def cE (t : ByteArray) : Nat := rN (cS1 t).1 (cS1 t).2 2
def cS2 (t : ByteArray) : ByteArray × Bool := (rS (cS1 t).1 (cS1 t).2 2, rB (cS1 t).1 (cS1 t).2 2)
def cN (t : ByteArray) : Nat := rN (cS2 t).1 (cS2 t).2 1
def cS3 (t : ByteArray) : ByteArray × Bool := (rS (cS2 t).1 (cS2 t).2 1, rB (cS2 t).1 (cS2 t).2 1)
def cM (t : ByteArray) : List Int := rdL (cS3 t).1 (cS3 t).2 (cN t)
def cF (t : ByteArray) : ByteArray × Bool := rdS (cS3 t).1 (cS3 t).2 (cN t)
def readB (t : ByteArray) : Bool := decide (cH t = 67) && (decide (endOf (cF t).1 (cF t).2 = 0) && rightC (cE t : Int) (cM t))
section
variable {o : Oper} {a : Act} {w : World} {K : Act → World → Prop} {Q : Exit → Act → World → Prop}
/-- A number behind one's own numbers. -/
theorem owp_app_I (sl x : Operand) (ho : o.op = .call { callee := .builtin .append, args := #[sl, x], argTypes := #[29, 29] }) (B : Nat) (v : Value) (n : Nat) (l : List Int)
    (hs : a.eval sl = v) (hO : w.ownsRow B 3 1 v n (iC l)) (g : Nat) (y : Int) (hx : a.eval x = .slice (some ⟨g, 0, none⟩) 1 1) (hc : w.cell? ⟨g, 0, none⟩ = some (.int .i64 y)) (hB : B ≤ w.heap.size) (hlen : n + 1 ≤ 17592186044416)
    (h : ∀ v' w', Hid (w'.ownsRow B 3 1 v' (n + 1) (iC (l ++ [y]))) → Hid (w.grownBy w' v.ownBlock) → K (a.put o.dst v') w') : o.wp Try.prog a w K Q := by
  obtain ⟨i0, hi0, hz0, hz1, hz2⟩ := info_parts Try.info3
  obtain ⟨v', w', hr, h2, h3, h4⟩ := run_append_own (P := Try.prog) w B 29 o.type 3 i0 (.int .i64 0) 1 8 Try.underlying29 hi0 hz0 hz1 hz2 rfl (by decide) v n (iC l) hO ⟨g, 0, none⟩ 1 1 [.int .i64 y] rfl (fun j u hj => by
    match j, hj with
    | 0, hj => simp at hj; subst hj; simpa [Addr.add] using hc) (by simp [Value.oneCell']) (by unfold maxLen; omega) (by omega) hB
  refine owp_value (v := v') (w' := w') ?_ (h v' w' (by rw [iC_app]; exact h2) h3)
  simp [execOp, ho, resolve, invoke, builtin, hs, hx, hr, Result.andThen]
end
def readZ (t : ByteArray) : Int := if readB t then (cE t : Int) else 0
def readM (t : ByteArray) : List Int := if readB t then cM t else []
def readE (t : ByteArray) : Int := if readB t then 0 else 5
theorem own_kept {w w' : World} {B r : Nat} {v : Value} {n : Nat} {xs : List Value} {e : TypeId} (h : w.ownsRow B e 1 v n xs) (k : Kept r none w w') (hr : r < B) : w'.ownsRow B e 1 v n xs := by
  refine ⟨h.1, ?_⟩
  rcases h.2 with hn | ⟨g, cap, cur, hv, hB, hh, hx⟩
  · exact .inl hn
  · exact .inr ⟨g, cap, cur, hv, hB, (k.block g (lt_of_blk hh) (by omega) (by simp)).trans hh, hx⟩
theorem own_low {w : World} {B B' : Nat} {e : TypeId} {z : Nat} {v : Value} {n : Nat} {xs : List Value} (h : w.ownsRow B e z v n xs) (hB : B' ≤ B) : w.ownsRow B' e z v n xs := by
  refine ⟨h.1, ?_⟩
  rcases h.2 with hn | ⟨g, cap, cur, hv, hb, hx⟩
  · exact .inl hn
  · exact .inr ⟨g, cap, cur, hv, Nat.le_trans hB hb, hx⟩
theorem ret_cell2 {f : Func} {a : Act} {w : World} {Q : Ending → World → Prop} {s s2 : Nat} {t : TypeId} {ad : Addr} {v v2 : Value} (hr : f.results = #[.cell s t, .tmp s2]) (hs : a.tmps.getD s undef = .pointer (some ad)) (hl : (loadVar t ad).run Try.prog w = .ok v w) (h2 : a.tmps.getD s2 undef = v2) (hd : a.defers = [])
    (h : Q (.returned (.tuple #[v, v2])) w) : bodyPost Try.prog f Q .ret a w := by
  refine bodyPost_ret (v := .tuple #[v, v2]) ?_ hd h
  have h1 : a.tmps.getD s undef = .pointer (some ad) := hs
  simp [results, hr, -Array.getD_eq_getD_getElem?, h1, h2, asAddr, hl]
theorem load_conf (w : World) (b : Nat) (x y : Value) (c0 : w.cell? ⟨b, 0, none⟩ = some x) (c1 : w.cell? ⟨b, 1, none⟩ = some y) : (loadVar 61 ⟨b, 0, none⟩).run Try.prog w = .ok (.agg #[x, y]) w := by
  go_simp
theorem res_set {w : World} {b : Nat} {p q x y : Value} {T : TypeId} (h : w.heap[b]? = some (.cells #[p, q] T (0, 0))) : ((w.setCell ⟨b, 0, none⟩ x).setCell ⟨b, 1, none⟩ y).heap[b]? = some (.cells #[x, y] T (0, 0)) := by
  have h1 : (w.setCell ⟨b, 0, none⟩ x).heap[b]? = some (.cells #[x, q] T (0, 0)) := (blk_set h 0 x).trans (by simp)
  exact (blk_set h1 1 y).trans (by simp)
theorem own_setCell {w : World} {B : Nat} {v : Value} {n : Nat} {xs : List Value} {e : TypeId} (h : w.ownsRow B e 1 v n xs) (r o : Nat) (x : Value) (hr : r < B) : (w.setCell ⟨r, o, none⟩ x).ownsRow B e 1 v n xs := by
  refine ⟨h.1, ?_⟩
  rcases h.2 with hn | ⟨g, cap, cur, hv, hB, hh, hx⟩
  · exact .inl hn
  · exact .inr ⟨g, cap, cur, hv, hB, (Below.heap_setCell _ _ _ _ (by show ¬ g = r; omega)).trans hh, hx⟩
theorem own_ints {w : World} {B : Nat} {v : Value} {l : List Int} (h : w.ownsRow B 3 1 v l.length (iC l)) : ∃ ad cap, v = .slice ad l.length cap ∧ IntsIn w ad l := by
  rcases h.2 with ⟨hv, h0⟩ | ⟨g, cap, cur, hv, hB, hh, hx⟩
  · exact ⟨none, 0, by rw [hv, h0], .inl (List.eq_nil_of_length_eq_zero h0)⟩
  · refine ⟨_, cap, hv, .inr ⟨g, 0, rfl, lt_of_blk hh, fun j z hj => ?_⟩⟩
    subst hv
    have := h.cells (g := g) rfl j _ (iC_get l j z hj)
    rwa [Addr.add_lit] at this
set_option maxRecDepth 100000 in
set_option maxHeartbeats 1600000 in
/-- The same configurations are the same. -/
theorem vsame_yes (ep : Int) (a1 a2 : Option Addr) (n c1 c2 : Nat) (l : List Int) (hn : l.length = n) (hm : n ≤ maxLen) (w : World) (h1 : IntsIn w a1 l) (h2 : IntsIn w a2 l) :
    Calls Try.prog 21 #[.agg #[.int .i64 ep, .slice a1 n c1], .agg #[.int .i64 ep, .slice a2 n c2]] w fun e w' => e = .returned (.bool true) ∧ Below w.heap.size w w' := by
  have HC : Hid (∀ u : World, IntsIn u a1 l → IntsIn u a2 l → Calls Try.prog 24 #[.slice a1 n c1, .slice a2 n c2] u fun e w' => e = .returned (.bool true) ∧ Below u.heap.size u w') := hid (fun u k1 k2 => sameInts_any a1 a2 n c1 c2 l hn hm u k1 k2)
  have HI := hid (And.intro h1 h2)
  clear h1 h2 hn hm
  go_enter Try.func21, Try.ntmps21
  go_wp2_with (go_at_call 24; refine (HC.out _ (by exact (HI.out.1.alloc _).alloc _) (by exact (HI.out.2.alloc _).alloc _)).mono ?_; rintro e w1 ⟨rfl, hb1⟩; have H1 := hid ((((Below.refl w.heap.size w).alloc (Nat.le_refl _) _).alloc (by simp) _).trans (hb1.mono (by simp; omega))); clear hb1)
  go_ret
  exact ⟨rfl, H1.out⟩
end Go.Proofs.Ytfjcpghepkmbfaa

/- Configurations there and back by bytes. No walk here. -/
namespace Go.Proofs.Ytfjcpghepkmbfaa
open Go.RowKit

theorem memBytes_cons (x : Int) (l : List Int) : memBytes (x :: l) = be 1 x.toNat ++ memBytes l := rfl
theorem memBytes_app (a b : List Int) : memBytes (a ++ b) = memBytes a ++ memBytes b := by rw [memBytes, List.flatMap_append]; rfl
theorem rdS_good (s : ByteArray) (l : List Int) (rest : List UInt8) (h : s.data.toList = memBytes l ++ rest) (hl : ∀ x, x ∈ l → 0 ≤ x ∧ x < 256) :
    ∀ k, k ≤ l.length → (rdS s false k).1.data.toList = memBytes (l.drop k) ++ rest ∧ (rdS s false k).2 = false ∧ rdL s false k = l.take k
  | 0, _ => ⟨h, rfl, rfl⟩
  | k + 1, hk => by
    obtain ⟨h1, h2, h3⟩ := rdS_good s l rest h hl k (by omega)
    have hd : l.drop k = l[k] :: l.drop (k + 1) := (List.drop_eq_getElem_cons (by omega))
    have hr := hl _ (List.getElem_mem (show k < l.length by omega))
    rw [hd, memBytes_cons, List.append_assoc] at h1
    obtain ⟨g1, g2, g3⟩ := rd_good (rdS s false k).1 1 (l[k]).toNat _ h1 (by omega)
    refine ⟨?_, ?_, ?_⟩
    · rw [rdS, h2]; exact g2
    · rw [rdS, h2]; exact g3
    · rw [rdL, h2, h3, g1, List.take_add_one, List.getElem?_eq_getElem (by omega), Int.toNat_of_nonneg hr.1]
      rfl
theorem rdS_back (s : ByteArray) (sh : Bool) : ∀ k, (rdS s sh k).2 = false → sh = false ∧ s.data.toList = memBytes (rdL s sh k) ++ (rdS s sh k).1.data.toList
  | 0, h => ⟨h, rfl⟩
  | k + 1, h => by
    obtain ⟨h1, h2⟩ := rd_back _ _ 1 (show rB (rdS s sh k).1 (rdS s sh k).2 1 = false from h)
    obtain ⟨h3, h4⟩ := rdS_back s sh k h1
    refine ⟨h3, ?_⟩
    rw [h4, h2, rdL, memBytes_app, List.append_assoc]
    rw [memBytes_cons, List.append_assoc, Int.toNat_natCast]
    rfl
theorem rightC_ep {ep : Int} {l : List Int} (h : rightC ep l = true) : (0 ≤ ep ∧ ep ≤ 60) ∧ memB l = true := by
  rw [rightC, Bool.and_eq_true_iff] at h
  exact ⟨of_decide_eq_true h.1, h.2⟩
/-- What is told is read. -/
theorem read_text (ep : Int) (l : List Int) (h : rightC ep l = true) : readB (textC ep l) = true ∧ readZ (textC ep l) = ep ∧ readM (textC ep l) = l := by
  obtain ⟨he, hm⟩ := rightC_ep h
  obtain ⟨t, et⟩ : ∃ t, t = textC ep l := ⟨_, rfl⟩
  have hlen := mem_len hm
  have hx : ∀ x, x ∈ l → 0 ≤ x ∧ x < 256 := fun x hx => by
    obtain ⟨i, hi, rfl⟩ := List.getElem_of_mem hx
    have := mem_range hm i hi
    rw [List.getD_eq_getElem?_getD, List.getElem?_eq_getElem hi] at this
    have h2 : 0 ≤ l[i] ∧ l[i] < 16 := this
    omega
  have ht : t.data.toList = be 1 67 ++ (be 2 ep.toNat ++ (be 1 l.length ++ (memBytes l ++ []))) := by
    rw [et, textC, if_pos h, mk_data, confB, List.append_nil, List.append_assoc, List.append_assoc]
  obtain ⟨a1, a2, a3⟩ := rd_good t 1 67 _ ht (by decide)
  have e1 : cS1 t = (rS t false 1, false) := by rw [cS1, a3]
  obtain ⟨b1, b2, b3⟩ := rd_good (cS1 t).1 2 ep.toNat _ (by rw [e1]; exact a2) (by omega)
  have e2 : cS2 t = (rS (cS1 t).1 false 2, false) := by rw [cS2, show (cS1 t).2 = false by rw [e1], b3]
  obtain ⟨c1, c2, c3⟩ := rd_good (cS2 t).1 1 l.length _ (by rw [e2]; exact b2) (by omega)
  have e3 : cS3 t = (rS (cS2 t).1 false 1, false) := by rw [cS3, show (cS2 t).2 = false by rw [e2], c3]
  have hN : cN t = l.length := by rw [cN, show (cS2 t).2 = false by rw [e2], c1]
  have hE : cE t = ep.toNat := by rw [cE, show (cS1 t).2 = false by rw [e1], b1]
  obtain ⟨d1, d2, d3⟩ := rdS_good (cS3 t).1 l [] (by rw [e3]; exact c2) hx l.length (Nat.le_refl _)
  have hM : cM t = l := by rw [cM, hN, show (cS3 t).2 = false by rw [e3], d3, List.take_length]
  have hF : endOf (cF t).1 (cF t).2 = 0 := by
    rw [cF, hN, show (cS3 t).2 = false by rw [e3], d2]
    refine end_of ?_
    rw [d1, List.drop_length]
    rfl
  have hZ : ((cE t : Nat) : Int) = ep := by rw [hE]; omega
  have hB : readB t = true := by
    rw [readB, hZ, hM, h, decide_eq_true hF, show cH t = 67 from a1]
    rfl
  rw [← et]
  exact ⟨hB, by rw [readZ, if_pos hB, hZ], by rw [readM, if_pos hB, hM]⟩
/-- What is read is told as just these bytes. -/
theorem text_read (t : ByteArray) (h : readB t = true) : rightC (readZ t) (readM t) = true ∧ textC (readZ t) (readM t) = t := by
  have hb := h
  rw [readB, Bool.and_eq_true_iff, Bool.and_eq_true_iff] at h
  obtain ⟨h1, h2, h3⟩ := h
  have h1 := of_decide_eq_true h1
  obtain ⟨f1, f2⟩ := end_ok (of_decide_eq_true h2)
  obtain ⟨g1, g2⟩ := rdS_back (cS3 t).1 (cS3 t).2 (cN t) f1
  obtain ⟨k1, k2⟩ := rd_back (cS2 t).1 (cS2 t).2 1 g1
  obtain ⟨l1, l2⟩ := rd_back (cS1 t).1 (cS1 t).2 2 k1
  obtain ⟨_, m2⟩ := rd_back t false 1 l1
  have hN : (cM t).length = cN t := rdL_len _ _ _
  rw [readZ, if_pos hb, readM, if_pos hb]
  refine ⟨h3, ?_⟩
  rw [textC, if_pos h3]
  apply ByteArray.ext
  apply Array.ext'
  rw [mk_data, confB, hN, Int.toNat_natCast]
  have m3 : t.data.toList = be 1 (cH t) ++ (cS1 t).1.data.toList := m2
  have l3 : (cS1 t).1.data.toList = be 2 (cE t) ++ (cS2 t).1.data.toList := l2
  have k3 : (cS2 t).1.data.toList = be 1 (cN t) ++ (cS3 t).1.data.toList := k2
  have g3 : (cS3 t).1.data.toList = memBytes (cM t) ++ (cF t).1.data.toList := g2
  rw [m3, l3, k3, g3, f2, h1, List.append_nil, List.append_assoc, List.append_assoc]
theorem text_inj (ep ep' : Int) (l l' : List Int) (h : rightC ep l = true) (h' : rightC ep' l' = true) (he : textC ep l = textC ep' l') : ep = ep' ∧ l = l' := by
  have h1 := read_text ep l h
  have h2 := read_text ep' l' h'
  rw [he] at h1
  exact ⟨h1.2.1.symm.trans h2.2.1, h1.2.2.symm.trans h2.2.2⟩
end Go.Proofs.Ytfjcpghepkmbfaa

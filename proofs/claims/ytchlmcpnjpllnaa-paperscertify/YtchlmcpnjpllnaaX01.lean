/- Texts laid together: BaA BaB BaC PaA PaB PkA PkM PkW PkP. -/
import Derived.Test.YtchlmcpnjpllnaaProg
import Derived.WalkKit
import Derived.WalkSpells
import Derived.WalkLawsBesides
import Derived.Laws.MakeOwn
import Derived.Laws.IdiomStrings
import Derived.Laws.OwnMore
import Derived.Laws.CopyOwn
import Derived.Maps.AppendAt
import Derived.Deep.AppendLies
import Derived.Deep.RegionHeld3
import Derived.Deep.DrawnRows
import Derived.Deep.RegionLaw
import Derived.Lib.AppendStr
import Derived.Deep.WholeRow
import Derived.BigQuiet
import Derived.Deep.QuietTactic
import Derived.Laws.BitsAllLaws
/- What all families of texts share. -/
namespace Go.Proofs.Ytchlmcpnjpllnaa
open Go.RowKit

theorem hid {p : Prop} (h : p) : Hid p := h
/-- Bytes as cells. -/
def bC (l : List UInt8) : List Value := l.map fun c => .int .u8 (c.toNat : Int)
theorem bC_len (l : List UInt8) : (bC l).length = l.length := by simp [bC]
theorem bC_app (a b : List UInt8) : bC (a ++ b) = bC a ++ bC b := by simp [bC]
/-- The bytes of a number, the greatest first. -/
def be : Nat → Nat → List UInt8
  | 0, _ => []
  | s + 1, n => UInt8.ofNat (n / 256 ^ s) :: be s n
theorem be_len (s n : Nat) : (be s n).length = s := by induction s with | zero => rfl | succ s ih => simp [be, ih]
theorem lt_of_blk {w : World} {b : Nat} {o : Obj} (h : w.heap[b]? = some o) : b < w.heap.size := (Array.getElem?_eq_some_iff.1 h).1
theorem data_len (s : ByteArray) : s.data.toList.length = s.size := rfl
theorem Try.info5 : (Try.prog.info? 5).map (fun i => (i.zero, i.size, i.bytes)) = some (some (.int .u8 0), 1, 1) := by kernel_rfl
end Go.Proofs.Ytchlmcpnjpllnaa

/- What all families of texts share: operations, blocks, bytes of one's own, regions that draw walked once. -/
namespace Go.Proofs.Ytchlmcpnjpllnaa
open Go.RowKit

section
variable {P : Program} {o : Oper} {a : Act} {w : World} {K : Act → World → Prop} {Q : Exit → Act → World → Prop}
theorem owp_value {v : Value} {w' : World} (hrun : (execOp a.eval o).run P w = .ok (.value v) w') (h : K (a.put o.dst v) w') : o.wp P a w K Q := by
  unfold Oper.wp; rw [hrun]; exact h
theorem owp_skip {w' : World} (hrun : (execOp a.eval o).run P w = .ok .skip w') (h : K (a.put o.dst undef) w') : o.wp P a w K Q := by
  unfold Oper.wp; rw [hrun]; exact h
end
section
variable {P : Program} {o : Oper} {a : Act} {w : World} {K : Act → World → Prop} {Q : Exit → Act → World → Prop} {ops : Array Oper} {E : Prop}
theorem step_of (hgd : o.guard = none) (h : o.wp P a w K Q) : if Region.wanted o (yielded ops a.tmps) = true then Oper.wp P o a w K Q else E := by
  have hw : Region.wanted o (yielded ops a.tmps) = true := by simp [Region.wanted, hgd]
  rw [if_pos hw]
  exact h
end
theorem heap_cells {w : World} {g : Nat} {L : List Value} {t : TypeId} {fr : Nat × Nat} (h : w.heap[g]? = some (.cells L.toArray t fr)) (j : Nat) (v : Value) (hv : L[j]? = some v) : w.cell? ⟨g, 0 + j, none⟩ = some v := by
  simp [World.cell?, h, hv]
theorem Below.setRow {B g : Nat} {w0 w : World} (hb : Below B w0 w) (h : B ≤ g) (cs : Array Value) : Below B w0 (w.setRow g cs) := below_setRow hb h cs
theorem Below.same {B : Nat} {w x y : World} (h : Below B w x) (h1 : y.os = x.os) (h2 : y.tape = x.tape) (h3 : y.output = x.output) (h4 : y.heap = x.heap) : Below B w y :=
  ⟨h1.trans h.os, h2.trans h.tape, h3.trans h.output, by rw [h4]; exact h.size, fun k hk => by rw [h4]; exact h.block k hk⟩
theorem cell_at {w : World} {g : Nat} {L : List Value} {t : TypeId} {fr : Nat × Nat} (h : w.heap[g]? = some (.cells L.toArray t fr)) (j : Nat) (v : Value) (hv : L[j]? = some v) : w.cell? ⟨g, j, none⟩ = some v := by
  simp [World.cell?, h, hv]
theorem free_at {w : World} {g : Nat} {L : Array Value} {t : TypeId} (h : w.heap[g]? = some (.cells L t (0, 0))) (j : Nat) : w.frozen? ⟨g, j, none⟩ = false := by
  simp [World.frozen?, h]
theorem blk_set {w : World} {g : Nat} {c : Array Value} {t : TypeId} (h : w.heap[g]? = some (.cells c t (0, 0))) (j : Nat) (v : Value) : (w.setCell ⟨g, j, none⟩ v).heap[g]? = some (.cells (c.setIfInBounds j v) t (0, 0)) := by
  simp [World.setCell, Array.getElem?_modify, h]
theorem snd_alloc (w : World) (A B : Obj) : ((w.alloc A).alloc B).heap[w.heap.size + 1]? = some B := by
  have := heap_alloc_last (w.alloc A) B
  simpa using this
theorem setRow_heap_ne (w : World) (g k : Nat) (c : Array Value) (h : k ≠ g) : (w.setRow g c).heap[k]? = w.heap[k]? := by
  simp [World.setRow, Array.getElem?_modify, Ne.symm h]
theorem bC_one (l : List UInt8) : ∀ v ∈ bC l, v.oneCell' = true := by
  intro v hv
  obtain ⟨_, _, rfl⟩ := List.mem_map.1 hv
  rfl
theorem bC_get (l : List UInt8) (i : Nat) (h : i < l.length) : (bC l)[i]? = some (.int .u8 ((l.getD i 0).toNat : Int)) := by
  simp [bC, List.getD, h]
theorem getD_app_right {α : Type} (a b : List α) (i : Nat) (d : α) (h : a.length ≤ i) : (a ++ b).getD i d = b.getD (i - a.length) d := by
  simp [List.getD, List.getElem?_append_right h]
theorem getD_app_left {α : Type} (a b : List α) (i : Nat) (d : α) (h : i < a.length) : (a ++ b).getD i d = a.getD i d := by
  simp [List.getD, List.getElem?_append_left h]
theorem ext_take (l : List UInt8) (n : Nat) : (⟨l.toArray⟩ : ByteArray).extract 0 n = ⟨(l.take n).toArray⟩ := by
  apply ByteArray.ext
  rw [ByteArray.data_extract]
  simp
theorem ext_data (s : ByteArray) (i j : Nat) : (s.extract i j).data.toList = (s.data.toList.take j).drop i := by
  rw [ByteArray.data_extract, Array.toList_extract]
  simp [List.drop_take]
theorem mk_data (l : List UInt8) : (⟨l.toArray⟩ : ByteArray).data.toList = l := rfl
theorem mk_size (l : List UInt8) : (⟨l.toArray⟩ : ByteArray).size = l.length := by rw [← data_len]
theorem wrap_small (x : Int) (h0 : 0 ≤ x) (h1 : x < 1000) : IntKind.i64.wrap x = x := by
  simp [IntKind.wrap, IntKind.bits, IntKind.signed]
  omega
theorem of_same {P : Program} {f : FuncId} {args : Array Value} {v : Value} (h : ∀ w : World, Calls P f args w fun e w' => e = .returned v ∧ w' = w) (u : World) :
    Calls P f args u fun e w' => e = .returned v ∧ Below u.heap.size u w' :=
  (h u).mono fun _ _ ⟨he, hw⟩ => ⟨he, hw ▸ Below.refl _ _⟩
theorem Try.size5 : (Try.prog.info? 5).map (·.size) = some 1 := by kernel_rfl
/-- The slice v holds the bytes l; nothing below B has turned since w0. -/
structure Owned (B : Nat) (w0 w : World) (v : Value) (l : List UInt8) : Prop where
  own : w.ownsRow B 5 1 v l.length (bC l)
  bel : Below B w0 w
  le : B ≤ w.heap.size
theorem Owned.nil {B : Nat} {w0 w : World} (h : Below B w0 w) (hB : B ≤ w.heap.size) : Owned B w0 w (.slice none 0 0) [] := ⟨⟨rfl, .inl ⟨rfl, rfl⟩⟩, h, hB⟩
theorem Owned.alloc {B : Nat} {w0 w : World} {v : Value} {l : List UInt8} (h : Owned B w0 w v l) (o : Obj) : Owned B w0 (w.alloc o) v l :=
  ⟨h.own.alloc o, h.bel.alloc h.le o, by have := h.le; simp; omega⟩
theorem ownsRow_heap {w w1 : World} {B : Nat} {e : TypeId} {z : Nat} {v : Value} {n : Nat} {xs : List Value} (h4 : w1.heap = w.heap) (h : w.ownsRow B e z v n xs) : w1.ownsRow B e z v n xs := by
  unfold World.ownsRow at h ⊢
  rw [h4]; exact h
theorem ownsRow_keep {B : Nat} {w w' : World} {e : TypeId} {z : Nat} {v : Value} {n : Nat} {xs : List Value} (h : w.ownsRow B e z v n xs) (hb : Below w.heap.size w w') : w'.ownsRow B e z v n xs := by
  refine ⟨h.1, ?_⟩
  rcases h.2 with hn | ⟨g, cap, cur, hv, hB, hh, hr⟩
  · exact .inl hn
  · exact .inr ⟨g, cap, cur, hv, hB, (hb.block g (lt_of_blk hh)).trans hh, hr⟩
theorem Owned.same {B : Nat} {w0 w w1 : World} {v : Value} {l : List UInt8} (h : Owned B w0 w v l) (h1 : w1.os = w.os) (h2 : w1.tape = w.tape) (h3 : w1.output = w.output) (h4 : w1.heap = w.heap) : Owned B w0 w1 v l :=
  ⟨ownsRow_heap h4 h.own, Below.same h.bel h1 h2 h3 h4, by rw [h4]; exact h.le⟩
theorem Owned.grow {B : Nat} {w0 w w2 : World} {v v2 : Value} {l xs : List UInt8} {m : Nat} (h : Owned B w0 w v l) (hm : xs.length = m) (h2 : w2.ownsRow B 5 1 v2 (l.length + m) (bC l ++ bC xs)) (hg : w.grownBy w2 v.ownBlock) : Owned B w0 w2 v2 (l ++ xs) :=
  ⟨by rw [List.length_append, bC_app, hm]; exact h2, h.bel.grown hg h.le (fun k hk => (h.own.lt k hk).1), Nat.le_trans h.le hg.size⟩
theorem Owned.form {B : Nat} {w0 w : World} {v : Value} {l : List UInt8} (h : Owned B w0 w v l) : ∃ a cap, v = .slice a l.length cap := by
  rcases h.own.2 with ⟨hv, h0⟩ | ⟨g, cap, cur, hv, _⟩
  · exact ⟨none, 0, by rw [hv, h0]⟩
  · exact ⟨_, _, hv⟩
theorem Owned.text {B : Nat} {w0 w : World} {v : Value} {l : List UInt8} (h : Owned B w0 w v l) : (convert 57 9 v).run Try.prog w = .ok (.string ⟨l.toArray⟩) w := by
  rcases h.own.2 with ⟨rfl, h0⟩ | ⟨g, cap, cur, rfl, hg, hh, hnc, hcp, hcs, htake⟩
  · obtain rfl := List.eq_nil_of_length_eq_zero h0
    rw [run_convert_bytes_string w 57 9 5 none 0 0 Try.underlying57 Try.underlying5 Try.underlying9]; rfl
  · exact run_convert_bytes_back (P := Try.prog) w 57 9 5 ⟨g, 0, none⟩ cap l Try.underlying57 Try.underlying5 Try.underlying9 (fun j hj => h.own.cells (g := g) rfl j _ (by simp [bC, hj]))
theorem Owned.drew {B : Nat} {w0 w : World} {v : Value} {l : List UInt8} (h : Owned B w0 w v l) : Owned B w0 w.drew v l := h.same rfl rfl rfl rfl
theorem Owned.keep {B : Nat} {w0 w w' : World} {v : Value} {l : List UInt8} (h : Owned B w0 w v l) (hb : Below w.heap.size w w') : Owned B w0 w' v l := by
  refine ⟨⟨h.own.1, ?_⟩, h.bel.trans (hb.mono h.le), Nat.le_trans h.le hb.size⟩
  rcases h.own.2 with hn | ⟨g, cap, cur, hv, hB, hh, hr⟩
  · exact .inl hn
  · exact .inr ⟨g, cap, cur, hv, hB, (hb.block g (lt_of_blk hh)).trans hh, hr⟩
/-- Two rows of one's own, apart. -/
structure Own2 (B : Nat) (w0 w : World) (v1 v2 : Value) (l1 l2 : List UInt8) : Prop where
  one : Owned B w0 w v1 l1
  two : Owned B w0 w v2 l2
  ne : v1.ownBlock = none ∨ v1.ownBlock ≠ v2.ownBlock
theorem Own2.symm {B : Nat} {w0 w : World} {v1 v2 : Value} {l1 l2 : List UInt8} (h : Own2 B w0 w v1 v2 l1 l2) : Own2 B w0 w v2 v1 l2 l1 :=
  ⟨h.two, h.one, by
    cases h2 : v2.ownBlock with
    | none => exact .inl rfl
    | some k =>
      right
      intro e
      rcases h.ne with h1 | h1
      · rw [h1] at e; cases e
      · exact h1 (by rw [← e, h2])⟩
theorem Own2.grow {B : Nat} {w0 w w3 : World} {v1 v2 v3 : Value} {l1 l2 xs : List UInt8} {m : Nat} (o : Obj) (h : Own2 B w0 w v1 v2 l1 l2) (hm : xs.length = m)
    (hown : w3.ownsRow B 5 1 v3 (l1.length + m) (bC l1 ++ bC xs)) (hg : (w.alloc o).grownBy w3 v1.ownBlock) (hb : v3.ownBlock = v1.ownBlock ∨ v3.ownBlock = some (w.alloc o).heap.size) : Own2 B w0 w3 v3 v2 (l1 ++ xs) l2 := by
  have g1 := (h.one.alloc o).grow hm hown hg
  refine ⟨g1, ⟨(h.two.alloc o).own.kept hg ?_, g1.bel, g1.le⟩, ?_⟩
  · cases h2 : v2.ownBlock with
    | none => exact .inl rfl
    | some k =>
      right
      intro e
      rcases h.ne with h1 | h1
      · rw [h1] at e; cases e
      · exact h1 (by rw [← e, h2])
  · rcases hb with hb | hb
    · rw [hb]
      exact h.ne
    · right
      rw [hb]
      intro e
      have := ((h.two.alloc o).own.lt _ e.symm).2
      omega
theorem row_text (w : World) (g cap : Nat) (l : List UInt8) (hc : ∀ j v, (bC l)[j]? = some v → w.cell? ⟨g, j, none⟩ = some v) (n : Nat) (hn : l.length = n) :
    (convert 57 9 (.slice (some ⟨g, 0, none⟩) n cap)).run Try.prog w = .ok (.string ⟨l.toArray⟩) w := by
  subst hn
  exact run_convert_bytes_back (P := Try.prog) w 57 9 5 ⟨g, 0, none⟩ cap l Try.underlying57 Try.underlying5 Try.underlying9 (fun j hj => by
    rw [Addr.add_lit, Nat.zero_add]
    exact hc j _ (by simp [bC, hj]))
/-- The worlds that are as W was in all that W has. -/
def Cls (W : World) : Type := { u : World // Below W.heap.size W u }
theorem Cls.ne (W : World) : Nonempty (Cls W) := ⟨⟨W, Below.refl _ _⟩⟩
theorem Cls.of {W : World} {f : FuncId} {args : Array Value} {v : Value} (x : Cls W)
    (h : ∀ u : World, Below W.heap.size W u → Calls Try.prog f args u fun e w' => e = .returned v ∧ Below u.heap.size u w') :
    Calls Try.prog f args x.1 fun e w'' => e = .returned v ∧ ∃ y : Cls W, w'' = y.1 :=
  (h x.1 x.2).mono fun _ w' ⟨he, hb⟩ => ⟨he, ⟨w', x.2.trans (hb.mono x.2.size)⟩, rfl⟩
theorem wp_region_cls {id : Nat} {Q : Exit → Act → World → Prop} {a : Act} (W : World) {l : List Oper} (hm : Try.prog.follows .mixedOrders = true) (hB : Region.lexB .any l.toArray = true)
    (h : wpQuiet Try.prog l.toArray (fun w' => ∃ x : Cls W, w' = x.1) (fun a' => ∀ w', (∃ x : Cls W, w' = x.1) → Q .normal a' w') l a) : (Code.region id l.toArray true).wp Try.prog Q a W :=
  wp_region_quiet (C := fun w' => ∃ x : Cls W, w' = x.1) hm hB ⟨⟨{ W with drawn := W.drawn + 1 }, ⟨rfl, rfl, rfl, Nat.le_refl _, fun _ _ => rfl⟩⟩, rfl⟩ (by simpa using h)
section
variable {o : Oper} {a : Act} {w : World} {K : Act → World → Prop} {Q : Exit → Act → World → Prop} {ops : Array Oper} {rest : List Oper} {QQ : Exit → Act → World → Prop}
/-- A text behind one's own bytes. -/
theorem owp_app_str (sl x : Operand) (ho : o.op = .call { callee := .builtin .append, args := #[sl, x], argTypes := #[57, 9] }) (B : Nat) (w0 : World) (v : Value) (l : List UInt8)
    (hs : a.eval sl = v) (hO : Owned B w0 w v l) (s : ByteArray) (hx : a.eval x = .string s) (hlen : l.length + s.size ≤ 140737488355328)
    (h : ∀ v' w', Hid (Owned B w0 w' v' (l ++ s.data.toList)) → K (a.put o.dst v') w') : o.wp Try.prog a w K Q := by
  obtain ⟨i0, hi0, hz0, hz1, hz2⟩ := info_parts Try.info5
  obtain ⟨v', w', hr, h2, h3, h4⟩ := Lib.run_append_own_string (P := Try.prog) w B 57 9 o.type 5 i0 Try.underlying57 Try.underlying9 hi0 hz0 hz1 hz2 v l.length (bC l) hO.own s (by unfold maxLen; omega) hlen hO.le
  refine owp_value (v := v') (w' := w') ?_ (h v' w' (hO.grow (data_len s) h2 h3))
  simp [execOp, ho, resolve, invoke, builtin, hs, hx, hr, Result.andThen]
theorem wl_app_str (hgd : o.guard = none) (sl x : Operand) (ho : o.op = .call { callee := .builtin .append, args := #[sl, x], argTypes := #[57, 9] }) (B : Nat) (w0 : World) (v : Value) (l : List UInt8)
    (hs : a.eval sl = v) (hO : Owned B w0 w v l) (s : ByteArray) (hx : a.eval x = .string s) (hlen : l.length + s.size ≤ 140737488355328)
    (h : ∀ v' w', Hid (Owned B w0 w' v' (l ++ s.data.toList)) → wpList Try.prog ops QQ rest (a.put o.dst v') w') : wpList Try.prog ops QQ (o :: rest) a w :=
  wpList_plain hgd fun _ hK => owp_app_str sl x ho B w0 v l hs hO s hx hlen fun v' w' h' => hK _ _ (h v' w' h')
end
end Go.Proofs.Ytchlmcpnjpllnaa

/- What all families of texts share: lists of texts and of numbers. -/
namespace Go.Proofs.Ytchlmcpnjpllnaa
open Go.RowKit

theorem Try.info9 : (Try.prog.info? 9).map (fun i => (i.zero, i.size, i.bytes)) = some (some (.string ⟨#[]⟩), 1, 16) := by kernel_rfl
/-- The texts ss lie at a. -/
def StrsIn (w : World) (a : Option Addr) (ss : List ByteArray) : Prop :=
  ss = [] ∨ ∃ g off, a = some ⟨g, off, none⟩ ∧ g < w.heap.size ∧ ∀ j s, ss[j]? = some s → w.cell? ⟨g, off + j, none⟩ = some (.string s)
theorem StrsIn.keep {w w' : World} {a : Option Addr} {ss : List ByteArray} {B : Nat} (h : StrsIn w a ss) (hb : Below B w w') (hB : w.heap.size ≤ B) : StrsIn w' a ss := by
  rcases h with h | ⟨g, off, ha, hg, hc⟩
  · exact .inl h
  · exact .inr ⟨g, off, ha, Nat.lt_of_lt_of_le hg hb.size, fun j s hs => (hb.cell (p := ⟨g, off + j, none⟩) (Nat.lt_of_lt_of_le hg hB)).trans (hc j s hs)⟩
def sC (ss : List ByteArray) : List Value := ss.map Value.string
theorem sC_len (ss : List ByteArray) : (sC ss).length = ss.length := by simp [sC]
theorem sC_app (a b : List ByteArray) : sC (a ++ b) = sC a ++ sC b := by simp [sC]
theorem sC_one (ss : List ByteArray) : ∀ v ∈ sC ss, v.oneCell' = true := by
  intro v hv
  obtain ⟨x, _, rfl⟩ := List.mem_map.1 hv
  rfl
theorem sC_get (ss : List ByteArray) (j : Nat) (s : ByteArray) (h : ss[j]? = some s) : (sC ss)[j]? = some (.string s) := by simp [sC, h]
theorem sC_back (ss : List ByteArray) (j : Nat) (v : Value) (h : (sC ss)[j]? = some v) : ∃ s, ss[j]? = some s ∧ v = .string s := by
  simp [sC] at h
  obtain ⟨s, hs, rfl⟩ := h
  exact ⟨s, hs, rfl⟩
/-- The slice v holds the texts ss, in a row of its own; nothing below B has turned since w0. -/
structure OwnedS (B : Nat) (w0 w : World) (v : Value) (ss : List ByteArray) : Prop where
  own : w.ownsRow B 9 1 v ss.length (sC ss)
  bel : Below B w0 w
  le : B ≤ w.heap.size
theorem OwnedS.nil {B : Nat} {w0 w : World} (h : Below B w0 w) (hB : B ≤ w.heap.size) : OwnedS B w0 w (.slice none 0 0) [] := ⟨⟨rfl, .inl ⟨rfl, rfl⟩⟩, h, hB⟩
theorem OwnedS.alloc {B : Nat} {w0 w : World} {v : Value} {l : List ByteArray} (h : OwnedS B w0 w v l) (o : Obj) : OwnedS B w0 (w.alloc o) v l :=
  ⟨h.own.alloc o, h.bel.alloc h.le o, by have := h.le; simp; omega⟩
theorem OwnedS.grow {B : Nat} {w0 w w2 : World} {v v2 : Value} {l xs : List ByteArray} {m : Nat} (h : OwnedS B w0 w v l) (hm : xs.length = m) (h2 : w2.ownsRow B 9 1 v2 (l.length + m) (sC l ++ sC xs)) (hg : w.grownBy w2 v.ownBlock) : OwnedS B w0 w2 v2 (l ++ xs) :=
  ⟨by rw [List.length_append, sC_app, hm]; exact h2, h.bel.grown hg h.le (fun k hk => (h.own.lt k hk).1), Nat.le_trans h.le hg.size⟩
theorem OwnedS.form {B : Nat} {w0 w : World} {v : Value} {l : List ByteArray} (h : OwnedS B w0 w v l) (hl : 0 < l.length) : ∃ g cap, v = .slice (some ⟨g, 0, none⟩) l.length cap ∧ l.length ≤ cap ∧ g < w.heap.size ∧ B ≤ g ∧ ∀ j s, l[j]? = some s → w.cell? ⟨g, j, none⟩ = some (.string s) := by
  rcases h.own.2 with ⟨_, h0⟩ | ⟨g, cap, cur, hv, hb, hh, hnc, hcp, hcs, htake⟩
  · omega
  · refine ⟨g, cap, hv, hnc, lt_of_blk hh, hb, fun j s hj => ?_⟩
    subst hv
    have := h.own.cells (g := g) rfl j _ (sC_get l j s hj)
    rwa [Addr.add_lit, Nat.zero_add] at this
section
variable {o : Oper} {a : Act} {w : World} {Q : Exit → Act → World → Prop} {ops : Array Oper} {rest : List Oper}
/-- A copy of one's own. -/
theorem wl_own (hgd : o.guard = none) (x y : Operand) (ho : o.op = .call { callee := .builtin .append, args := #[x, y], argTypes := #[40, 40] })
    (hx : a.eval x = .slice none 0 0) (ad : Option Addr) (n cap : Nat) (ss : List ByteArray) (hy : a.eval y = .slice ad n cap) (hn : ss.length = n) (hS : StrsIn w ad ss) (hl : n ≤ 1000)
    (h : ∀ v' w', Hid (OwnedS w.heap.size w w' v' ss) → wpList Try.prog ops Q rest (a.put o.dst v') w') : wpList Try.prog ops Q (o :: rest) a w := by
  obtain ⟨i0, hi0, hz0, hz1, hz2⟩ := info_parts Try.info9
  cases ad with
  | none =>
    obtain rfl : ss = [] := by rcases hS with h | ⟨g, off, ha, _⟩; exact h; cases ha
    obtain rfl : 0 = n := hn
    refine wpList_plain hgd fun K hK => owp_value (v := .slice none 0 0) (w' := w) ?_ (hK _ _ (h _ _ (OwnedS.nil (Below.refl _ _) (Nat.le_refl _))))
    simp [execOp, ho, resolve, invoke, builtin, hx, hy, Builtin.append_, run_underlying Try.underlying40, sizeOf, typeInfo, hi0, Builtin.lenOf, Builtin.firstCells, Result.andThen]
  | some ad =>
    refine wpList_append_own w hgd x y 40 ho w.heap.size 9 i0 (.string ⟨#[]⟩) 1 16 Try.underlying40 hi0 hz0 hz1 hz2 rfl (by decide) (.slice none 0 0) 0 [] hx ⟨rfl, .inl ⟨rfl, rfl⟩⟩ ad n cap (sC ss) hy (by rw [sC_len, hn, Nat.mul_one]) (fun j v hv => ?_) (sC_one _) (by unfold maxLen; omega) (by omega) (Nat.le_refl _) (fun v' w' hown hgrow _ => h v' w' ?_)
    · obtain ⟨s, hs, rfl⟩ := sC_back ss j v hv
      rcases hS with h | ⟨g, off, ha, hg, hc⟩
      · rw [h] at hs; simp at hs
      · cases ha
        rw [Addr.add_lit]
        exact hc j s hs
    · have := (OwnedS.nil (Below.refl w.heap.size w) (Nat.le_refl _)).grow (xs := ss) hn hown hgrow
      exact this
end
/-- The numbers zs lie at a. -/
def IntsIn (w : World) (a : Option Addr) (zs : List Int) : Prop :=
  zs = [] ∨ ∃ g off, a = some ⟨g, off, none⟩ ∧ g < w.heap.size ∧ ∀ j z, zs[j]? = some z → w.cell? ⟨g, off + j, none⟩ = some (.int .i64 z)
theorem IntsIn.keep {w w' : World} {a : Option Addr} {zs : List Int} {B : Nat} (h : IntsIn w a zs) (hb : Below B w w') (hB : w.heap.size ≤ B) : IntsIn w' a zs := by
  rcases h with h | ⟨g, off, ha, hg, hc⟩
  · exact .inl h
  · exact .inr ⟨g, off, ha, Nat.lt_of_lt_of_le hg hb.size, fun j s hs => (hb.cell (p := ⟨g, off + j, none⟩) (Nat.lt_of_lt_of_le hg hB)).trans (hc j s hs)⟩
theorem IntsIn.at {w : World} {a : Option Addr} {zs : List Int} (h : IntsIn w a zs) (j : Nat) (z : Int) (hj : zs[j]? = some z) : ∃ g off, a = some ⟨g, off, none⟩ ∧ g < w.heap.size ∧ w.cell? ⟨g, off + j, none⟩ = some (.int .i64 z) := by
  rcases h with h | ⟨g, off, ha, hg, hc⟩
  · rw [h] at hj; simp at hj
  · exact ⟨g, off, ha, hg, hc j z hj⟩
theorem StrsIn.at {w : World} {a : Option Addr} {ss : List ByteArray} (h : StrsIn w a ss) (j : Nat) (s : ByteArray) (hj : ss[j]? = some s) : ∃ g off, a = some ⟨g, off, none⟩ ∧ g < w.heap.size ∧ w.cell? ⟨g, off + j, none⟩ = some (.string s) := by
  rcases h with h | ⟨g, off, ha, hg, hc⟩
  · rw [h] at hj; simp at hj
  · exact ⟨g, off, ha, hg, hc j s hj⟩
theorem sC_set (l : List ByteArray) (j : Nat) (v : Value) (x : ByteArray) (hv : v = .string x) : (sC l).toArray.setIfInBounds j v = (sC (l.set j x)).toArray := by
  subst hv
  simp [sC, List.map_set]
theorem OwnedS.keep {B : Nat} {w0 w w' : World} {v : Value} {l : List ByteArray} (h : OwnedS B w0 w v l) (hb : Below w.heap.size w w') : OwnedS B w0 w' v l := by
  refine ⟨⟨h.own.1, ?_⟩, h.bel.trans (hb.mono h.le), Nat.le_trans h.le hb.size⟩
  rcases h.own.2 with hn | ⟨g, cap, cur, hv, hB, hh, hr⟩
  · exact .inl hn
  · exact .inr ⟨g, cap, cur, hv, hB, (hb.block g (lt_of_blk hh)).trans hh, hr⟩
theorem OwnedS.strs {B : Nat} {w0 w : World} {v : Value} {l : List ByteArray} (h : OwnedS B w0 w v l) : ∃ a cap, v = .slice a l.length cap ∧ StrsIn w a l := by
  by_cases h0 : 0 < l.length
  · obtain ⟨g, cap, hv, _, hg, _, hc⟩ := h.form h0
    exact ⟨_, cap, hv, .inr ⟨g, 0, rfl, hg, fun j s hj => by rw [Nat.zero_add]; exact hc j s hj⟩⟩
  · obtain rfl : l = [] := List.eq_nil_of_length_eq_zero (by omega)
    rcases h.own.2 with ⟨hv, _⟩ | ⟨g, cap, cur, hv, _⟩
    · exact ⟨none, 0, hv, .inl rfl⟩
    · exact ⟨_, cap, hv, .inl rfl⟩
theorem Try.info3 : (Try.prog.info? 3).map (fun i => (i.zero, i.size, i.bytes)) = some (some (.int .i64 0), 1, 8) := by kernel_rfl
def iC (zs : List Int) : List Value := zs.map (Value.int .i64)
theorem iC_len (zs : List Int) : (iC zs).length = zs.length := by simp [iC]
theorem iC_app (a b : List Int) : iC (a ++ b) = iC a ++ iC b := by simp [iC]
theorem iC_one (zs : List Int) : ∀ v ∈ iC zs, v.oneCell' = true := by
  intro v hv
  obtain ⟨x, _, rfl⟩ := List.mem_map.1 hv
  rfl
theorem iC_get (zs : List Int) (j : Nat) (s : Int) (h : zs[j]? = some s) : (iC zs)[j]? = some (.int .i64 s) := by simp [iC, h]
theorem iC_back (zs : List Int) (j : Nat) (v : Value) (h : (iC zs)[j]? = some v) : ∃ s, zs[j]? = some s ∧ v = .int .i64 s := by
  simp [iC] at h
  obtain ⟨s, hs, rfl⟩ := h
  exact ⟨s, hs, rfl⟩
/-- The slice v holds the numbers zs, in a row of its own; nothing below B has turned since w0. -/
structure OwnedI (B : Nat) (w0 w : World) (v : Value) (zs : List Int) : Prop where
  own : w.ownsRow B 3 1 v zs.length (iC zs)
  bel : Below B w0 w
  le : B ≤ w.heap.size
theorem OwnedI.nil {B : Nat} {w0 w : World} (h : Below B w0 w) (hB : B ≤ w.heap.size) : OwnedI B w0 w (.slice none 0 0) [] := ⟨⟨rfl, .inl ⟨rfl, rfl⟩⟩, h, hB⟩
theorem OwnedI.alloc {B : Nat} {w0 w : World} {v : Value} {l : List Int} (h : OwnedI B w0 w v l) (o : Obj) : OwnedI B w0 (w.alloc o) v l :=
  ⟨h.own.alloc o, h.bel.alloc h.le o, by have := h.le; simp; omega⟩
theorem OwnedI.grow {B : Nat} {w0 w w2 : World} {v v2 : Value} {l xs : List Int} {m : Nat} (h : OwnedI B w0 w v l) (hm : xs.length = m) (h2 : w2.ownsRow B 3 1 v2 (l.length + m) (iC l ++ iC xs)) (hg : w.grownBy w2 v.ownBlock) : OwnedI B w0 w2 v2 (l ++ xs) :=
  ⟨by rw [List.length_append, iC_app, hm]; exact h2, h.bel.grown hg h.le (fun k hk => (h.own.lt k hk).1), Nat.le_trans h.le hg.size⟩
theorem OwnedI.form {B : Nat} {w0 w : World} {v : Value} {l : List Int} (h : OwnedI B w0 w v l) (hl : 0 < l.length) : ∃ g cap, v = .slice (some ⟨g, 0, none⟩) l.length cap ∧ l.length ≤ cap ∧ cap ≤ maxLen ∧ g < w.heap.size ∧ B ≤ g ∧ ∀ j s, l[j]? = some s → w.cell? ⟨g, j, none⟩ = some (.int .i64 s) := by
  rcases h.own.2 with ⟨_, h0⟩ | ⟨g, cap, cur, hv, hb, hh, hnc, hcp, hcs, htake⟩
  · omega
  · refine ⟨g, cap, hv, hnc, hcp, lt_of_blk hh, hb, fun j s hj => ?_⟩
    subst hv
    have := h.own.cells (g := g) rfl j _ (iC_get l j s hj)
    rwa [Addr.add_lit, Nat.zero_add] at this
theorem OwnedI.same {B : Nat} {w0 w w1 : World} {v : Value} {l : List Int} (h : OwnedI B w0 w v l) (h1 : w1.os = w.os) (h2 : w1.tape = w.tape) (h3 : w1.output = w.output) (h4 : w1.heap = w.heap) : OwnedI B w0 w1 v l :=
  ⟨ownsRow_heap h4 h.own, ⟨h1.trans h.bel.os, h2.trans h.bel.tape, h3.trans h.bel.output, by rw [h4]; exact h.bel.size, fun k hk => by rw [h4]; exact h.bel.block k hk⟩, by rw [h4]; exact h.le⟩
section
variable {o : Oper} {a : Act} {w : World} {Q : Exit → Act → World → Prop} {ops : Array Oper} {rest : List Oper}
/-- A copy of one's own. -/
theorem wl_ownI (hgd : o.guard = none) (x y : Operand) (ho : o.op = .call { callee := .builtin .append, args := #[x, y], argTypes := #[114, 114] })
    (hx : a.eval x = .slice none 0 0) (ad : Option Addr) (n cap : Nat) (zs : List Int) (hy : a.eval y = .slice ad n cap) (hn : zs.length = n) (hS : IntsIn w ad zs) (hl : n ≤ 17592186043904)
    (h : ∀ v' w', Hid (OwnedI w.heap.size w w' v' zs) → wpList Try.prog ops Q rest (a.put o.dst v') w') : wpList Try.prog ops Q (o :: rest) a w := by
  obtain ⟨i0, hi0, hz0, hz1, hz2⟩ := info_parts Try.info3
  cases ad with
  | none =>
    obtain rfl : zs = [] := by rcases hS with h | ⟨g, off, ha, _⟩; exact h; cases ha
    obtain rfl : 0 = n := hn
    refine wpList_plain hgd fun K hK => owp_value (v := .slice none 0 0) (w' := w) ?_ (hK _ _ (h _ _ (OwnedI.nil (Below.refl _ _) (Nat.le_refl _))))
    simp [execOp, ho, resolve, invoke, builtin, hx, hy, Builtin.append_, run_underlying Try.underlying114, sizeOf, typeInfo, hi0, Builtin.lenOf, Builtin.firstCells, Result.andThen]
  | some ad =>
    refine wpList_append_own w hgd x y 114 ho w.heap.size 3 i0 (.int .i64 0) 1 8 Try.underlying114 hi0 hz0 hz1 hz2 rfl (by decide) (.slice none 0 0) 0 [] hx ⟨rfl, .inl ⟨rfl, rfl⟩⟩ ad n cap (iC zs) hy (by rw [iC_len, hn, Nat.mul_one]) (fun j v hv => ?_) (iC_one _) (by unfold maxLen; omega) (by omega) (Nat.le_refl _) (fun v' w' hown hgrow _ => h v' w' ?_)
    · obtain ⟨s, hs, rfl⟩ := iC_back zs j v hv
      rcases hS with h | ⟨g, off, ha, hg, hc⟩
      · rw [h] at hs; simp at hs
      · cases ha
        rw [Addr.add_lit]
        exact hc j s hs
    · have := (OwnedI.nil (Below.refl w.heap.size w) (Nat.le_refl _)).grow (xs := zs) hn hown hgrow
      exact this
end
end Go.Proofs.Ytchlmcpnjpllnaa

/- Papers: pairs of a number and a text in memory; which papers are right. No walk here. -/
namespace Go.Proofs.Ytchlmcpnjpllnaa
open Go.RowKit

/-- The pairs ps lie at a: a number and a text each. -/
def PairsIn (w : World) (a : Option Addr) (ps : List (Int × ByteArray)) : Prop :=
  ps = [] ∨ ∃ g off, a = some ⟨g, off, none⟩ ∧ g < w.heap.size ∧ ∀ j p, ps[j]? = some p → w.cell? ⟨g, off + j * 2, none⟩ = some (.int .i64 p.1) ∧ w.cell? ⟨g, off + j * 2 + 1, none⟩ = some (.string p.2)
theorem PairsIn.keep {w w' : World} {a : Option Addr} {ps : List (Int × ByteArray)} {B : Nat} (h : PairsIn w a ps) (hb : Below B w w') (hB : w.heap.size ≤ B) : PairsIn w' a ps := by
  rcases h with h | ⟨g, off, ha, hg, hc⟩
  · exact .inl h
  · exact .inr ⟨g, off, ha, Nat.lt_of_lt_of_le hg hb.size, fun j p hp => ⟨(hb.cell (p := ⟨g, _, none⟩) (Nat.lt_of_lt_of_le hg hB)).trans (hc j p hp).1, (hb.cell (p := ⟨g, _, none⟩) (Nat.lt_of_lt_of_le hg hB)).trans (hc j p hp).2⟩⟩
theorem PairsIn.at {w : World} {a : Option Addr} {ps : List (Int × ByteArray)} (h : PairsIn w a ps) (j : Nat) (p : Int × ByteArray) (hj : ps[j]? = some p) :
    ∃ g off, a = some ⟨g, off, none⟩ ∧ g < w.heap.size ∧ w.cell? ⟨g, off + j * 2, none⟩ = some (.int .i64 p.1) ∧ w.cell? ⟨g, off + j * 2 + 1, none⟩ = some (.string p.2) := by
  rcases h with h | ⟨g, off, ha, hg, hc⟩
  · rw [h] at hj; simp at hj
  · exact ⟨g, off, ha, hg, hc j p hj⟩
def pC (ps : List (Int × ByteArray)) : List Value := ps.flatMap fun p => [.int .i64 p.1, .string p.2]
theorem pC_cons (p : Int × ByteArray) (ps : List (Int × ByteArray)) : pC (p :: ps) = .int .i64 p.1 :: .string p.2 :: pC ps := rfl
theorem pC_len (ps : List (Int × ByteArray)) : (pC ps).length = ps.length * 2 := by
  induction ps with
  | nil => rfl
  | cons p ps ih => rw [pC_cons, List.length_cons, List.length_cons, ih, List.length_cons]; omega
theorem pC_app (a b : List (Int × ByteArray)) : pC (a ++ b) = pC a ++ pC b := by simp [pC]
theorem pC_get (ps : List (Int × ByteArray)) : ∀ (j : Nat) (p : Int × ByteArray), ps[j]? = some p → (pC ps)[j * 2]? = some (.int .i64 p.1) ∧ (pC ps)[j * 2 + 1]? = some (.string p.2) := by
  induction ps with
  | nil => intro j p h; simp at h
  | cons q ps ih =>
    intro j p h
    rw [pC_cons]
    cases j with
    | zero =>
      simp at h
      subst h
      exact ⟨rfl, rfl⟩
    | succ j =>
      have e1 : (j + 1) * 2 = j * 2 + 1 + 1 := by omega
      rw [e1]
      simp at h
      have := ih j p h
      exact ⟨by simpa using this.1, by simpa using this.2⟩
/-- The i-th number, the i-th text. -/
def idOf (ps : List (Int × ByteArray)) (i : Nat) : Int := (ps.getD i (0, ⟨#[]⟩)).1
def rtOf (ps : List (Int × ByteArray)) (i : Nat) : ByteArray := (ps.getD i (0, ⟨#[]⟩)).2
theorem getP_some {ps : List (Int × ByteArray)} {j : Nat} (hj : j < ps.length) : ps[j]? = some (idOf ps j, rtOf ps j) := by
  rw [List.getElem?_eq_getElem hj, idOf, rtOf, List.getD_eq_getElem?_getD, List.getElem?_eq_getElem hj]
  rfl
/-- The i-th seat is one, and stands behind the one ahead of it. -/
def okPAt (ps : List (Int × ByteArray)) (i : Nat) : Bool := decide (0 ≤ idOf ps i ∧ idOf ps i < 16) && (decide ((rtOf ps i).size = 32) && (decide (i = 0) || decide (idOf ps (i - 1) < idOf ps i)))
def okPTo (ps : List (Int × ByteArray)) : Nat → Bool
  | 0 => true
  | j + 1 => okPTo ps j && okPAt ps j
theorem okPTo_succ (ps : List (Int × ByteArray)) (j : Nat) : okPTo ps (j + 1) = (okPTo ps j && okPAt ps j) := rfl
theorem okPTo_false (ps : List (Int × ByteArray)) (j n : Nat) (h : okPTo ps j = false) (hn : j ≤ n) : okPTo ps n = false := by
  induction n with
  | zero =>
    obtain rfl : j = 0 := by omega
    exact h
  | succ n ih =>
    by_cases e : j = n + 1
    · rw [← e]; exact h
    · rw [okPTo_succ, ih (by omega)]; rfl
theorem okPAt_no1 (ps : List (Int × ByteArray)) (i : Nat) (h : ¬ (0 ≤ idOf ps i ∧ idOf ps i < 16)) : okPAt ps i = false := by rw [okPAt, decide_eq_false h]; rfl
theorem okPAt_no2 (ps : List (Int × ByteArray)) (i : Nat) (h : ¬ (rtOf ps i).size = 32) : okPAt ps i = false := by rw [okPAt, decide_eq_false h]; simp
theorem okPAt_no3 (ps : List (Int × ByteArray)) (i : Nat) (h0 : i ≠ 0) (h : ¬ (idOf ps (i - 1) < idOf ps i)) : okPAt ps i = false := by rw [okPAt, decide_eq_false h, decide_eq_false h0]; simp
theorem okPAt_yes0 (ps : List (Int × ByteArray)) (h : 0 ≤ idOf ps 0 ∧ idOf ps 0 < 16) (hs : (rtOf ps 0).size = 32) : okPAt ps 0 = true := by rw [okPAt, decide_eq_true h, decide_eq_true hs]; rfl
theorem okPAt_yes (ps : List (Int × ByteArray)) (i : Nat) (h : 0 ≤ idOf ps i ∧ idOf ps i < 16) (hs : (rtOf ps i).size = 32) (h1 : idOf ps (i - 1) < idOf ps i) : okPAt ps i = true := by rw [okPAt, decide_eq_true h, decide_eq_true hs, decide_eq_true h1]; simp
/-- Is the paper right? -/
def rightP (ep : Int) (ps : List (Int × ByteArray)) : Bool := okPTo ps ps.length && (decide (0 ≤ ep ∧ ep ≤ 65535) && decide (4 ≤ ps.length ∧ ps.length ≤ 10))
theorem okPTo_at (ps : List (Int × ByteArray)) : ∀ n, okPTo ps n = true → ∀ i, i < n → okPAt ps i = true
  | 0, _, i, hi => by omega
  | n + 1, h, i, hi => by
    rw [okPTo_succ, Bool.and_eq_true_iff] at h
    by_cases e : i = n
    · rw [e]; exact h.2
    · exact okPTo_at ps n h.1 i (by omega)
theorem rightP_parts {ep : Int} {ps : List (Int × ByteArray)} (h : rightP ep ps = true) : (0 ≤ ep ∧ ep ≤ 65535) ∧ (4 ≤ ps.length ∧ ps.length ≤ 10) ∧ ∀ i, i < ps.length → (0 ≤ idOf ps i ∧ idOf ps i < 16) ∧ (rtOf ps i).size = 32 ∧ (i = 0 ∨ idOf ps (i - 1) < idOf ps i) := by
  rw [rightP, Bool.and_eq_true_iff, Bool.and_eq_true_iff] at h
  refine ⟨of_decide_eq_true h.2.1, of_decide_eq_true h.2.2, fun i hi => ?_⟩
  have := okPTo_at ps _ h.1 i hi
  rw [okPAt, Bool.and_eq_true_iff, Bool.and_eq_true_iff, Bool.or_eq_true_iff] at this
  exact ⟨of_decide_eq_true this.1, of_decide_eq_true this.2.1, this.2.2.imp of_decide_eq_true of_decide_eq_true⟩
/-- A paper (or a configuration) in block b. -/
def PpAt (w : World) (b : Nat) (ep : Int) (v : Value) (t : TypeId) : Prop := w.heap[b]? = some (.cells #[.int .i64 ep, v] t (0, 0))
theorem PpAt.lt {w : World} {b : Nat} {ep : Int} {v : Value} {t : TypeId} (h : PpAt w b ep v t) : b < w.heap.size := lt_of_blk h
theorem PpAt.keep {w w' : World} {b : Nat} {ep : Int} {v : Value} {t : TypeId} (h : PpAt w b ep v t) (hb : Below w.heap.size w w') : PpAt w' b ep v t := (hb.block b h.lt).trans h
theorem PpAt.c0 {w : World} {b : Nat} {ep : Int} {v : Value} {t : TypeId} (h : PpAt w b ep v t) : w.cell? ⟨b, 0, none⟩ = some (.int .i64 ep) := cell_at (L := [.int .i64 ep, v]) h 0 _ rfl
theorem PpAt.c1 {w : World} {b : Nat} {ep : Int} {v : Value} {t : TypeId} (h : PpAt w b ep v t) : w.cell? ⟨b, 1, none⟩ = some v := cell_at (L := [.int .i64 ep, v]) h 1 _ rfl
theorem PpAt.new (w : World) (ep : Int) (v : Value) (t : TypeId) : PpAt (w.alloc (.cells #[.int .i64 ep, v] t)) w.heap.size ep v t := heap_alloc_last w _
end Go.Proofs.Ytchlmcpnjpllnaa

/- The document's papers: which are right. -/
namespace Go.Proofs.Ytchlmcpnjpllnaa
open Go.RowKit

set_option maxRecDepth 100000 in
set_option maxHeartbeats 3200000 in
theorem xright_any (ep : Int) (a : Option Addr) (n cap : Nat) (ps : List (Int × ByteArray)) (hn : ps.length = n) (hm : n ≤ maxLen) (w : World) (hP : PairsIn w a ps) :
    Calls Try.prog 31 #[.agg #[.int .i64 ep, .slice a n cap]] w fun e w' => e = .returned (.bool (rightP ep ps)) ∧ Below w.heap.size w w' := by
  have hm2 : (n : Int) ≤ 9223372036854775807 := by unfold maxLen at hm; omega
  have HP := hid hP
  have HN := hid hn
  clear hP hm hn
  go_enter Try.func31, Try.ntmps31
  go_wp2
  go_loopw [3] (fun i wr => ∃ j : Nat, j ≤ n ∧ i = .int .i64 (j : Int) ∧ okPTo ps j = true ∧ PpAt wr w.heap.size ep (.slice a n cap) 24 ∧ Below w.heap.size w wr)
    (fun i _ => ((n : Int) - intOf i).toNat)
  case atStart => exact ⟨0, by omega, rfl, rfl, PpAt.new w ep _ _, (Below.refl _ _).alloc (Nat.le_refl _) _⟩
  case round =>
    obtain ⟨j, hj, rfl, hok, hpp, hbel⟩ := hrel
    have HB := hid (And.intro hpp hbel)
    have c0 := hpp.c0
    have c1 := hpp.c1
    clear hbel hpp
    by_cases hjn : j = n
    · skip
      have hj1 : ¬ ((j : Int) < (n : Int)) := by omega
      rw [hjn] at hok
      by_cases e0 : 0 ≤ ep
      · by_cases e1 : ep ≤ 65535
        · by_cases h4 : 4 ≤ n
          · by_cases h10 : n ≤ 10
            · have k4 : (4 : Int) ≤ (n : Int) := by omega
              have k10 : (n : Int) ≤ 10 := by omega
              have HF : Hid (rightP ep ps = true) := hid (by rw [rightP, HN.out, hok, decide_eq_true (And.intro e0 e1), decide_eq_true (And.intro h4 h10)]; rfl)
              clear hok hj hjn
              go_wp2
              go_ret
              exact ⟨by rw [HF.out]; rfl, HB.out.2⟩
            · have k4 : (4 : Int) ≤ (n : Int) := by omega
              have k10 : ¬ ((n : Int) ≤ 10) := by omega
              have HF : Hid (rightP ep ps = false) := hid (by rw [rightP, HN.out, hok, decide_eq_false (fun h : 4 ≤ n ∧ n ≤ 10 => h10 h.2)]; simp)
              clear hok hj hjn
              go_wp2
              go_ret
              exact ⟨by rw [HF.out]; rfl, HB.out.2⟩
          · have k4 : ¬ ((4 : Int) ≤ (n : Int)) := by omega
            have HF : Hid (rightP ep ps = false) := hid (by rw [rightP, HN.out, hok, decide_eq_false (fun h : 4 ≤ n ∧ n ≤ 10 => h4 h.1)]; simp)
            clear hok hj hjn
            go_wp2
            go_ret
            exact ⟨by rw [HF.out]; rfl, HB.out.2⟩
        · have k1 : ¬ (ep ≤ 65535) := e1
          have HF : Hid (rightP ep ps = false) := hid (by rw [rightP, HN.out, hok, decide_eq_false (fun h : 0 ≤ ep ∧ ep ≤ 65535 => e1 h.2)]; simp)
          clear hok hj hjn
          go_wp2
          go_ret
          exact ⟨by rw [HF.out]; rfl, HB.out.2⟩
      · have k0 : ¬ (0 ≤ ep) := e0
        have HF : Hid (rightP ep ps = false) := hid (by rw [rightP, HN.out, hok, decide_eq_false (fun h : 0 ≤ ep ∧ ep ≤ 65535 => e0 h.1)]; simp)
        clear hok hj hjn
        go_wp2
        go_ret
        exact ⟨by rw [HF.out]; rfl, HB.out.2⟩
    · have hj1 : (j : Int) < (n : Int) := by omega
      have hj0 : (0 : Int) ≤ (j : Int) := Int.natCast_nonneg _
      obtain ⟨g, off, rfl, hg, hc1, hc2⟩ := HP.out.at j _ (getP_some (by rw [HN.out]; omega))
      obtain ⟨x, ex⟩ : ∃ x, x = idOf ps j := ⟨_, rfl⟩
      obtain ⟨r, er⟩ : ∃ r, r = rtOf ps j := ⟨_, rfl⟩
      rw [← ex] at hc1
      rw [← er] at hc2
      have k1 : wr.cell? ⟨g, off + j * 2, none⟩ = some (.int .i64 x) := (HB.out.2.cell (p := ⟨g, _, none⟩) hg).trans hc1
      have k2 : wr.cell? ⟨g, off + j * 2 + 1, none⟩ = some (.string r) := (HB.out.2.cell (p := ⟨g, _, none⟩) hg).trans hc2
      clear hc1 hc2 hg
      by_cases hx0 : x < 0
      · have d1 : decide (x < 0) = true := decide_eq_true hx0
        have HF : Hid (okPTo ps n = false) := hid (okPTo_false ps (j + 1) n (by rw [okPTo_succ, okPAt_no1 ps j (by rw [← ex]; omega)]; simp) (by omega))
        clear hok hj hjn ex er
        go_wp2
        have HW := hid (And.intro (HB.out.1.keep ((Below.refl _ _).alloc (Nat.le_refl _) (.cells #[.int .i64 x, .string r] 44))) (And.intro (HB.out.2.trans ((Below.refl _ _).alloc (Nat.le_refl _) (.cells #[.int .i64 x, .string r] 44) |>.mono HB.out.2.size)) (show (wr.alloc (.cells #[.int .i64 x, .string r] 44)).heap[wr.heap.size]? = some (.cells #[.int .i64 x, .string r] 44 (0, 0)) from heap_alloc_last wr _)))
        obtain ⟨b, eb⟩ : ∃ b, b = wr.heap.size := ⟨_, rfl⟩
        rw [← eb] at HW ⊢
        obtain ⟨wz, ez⟩ : ∃ wz, wz = wr.alloc (.cells #[.int .i64 x, .string r] 44) := ⟨_, rfl⟩
        rw [← ez] at HW ⊢
        have z0 : ∀ q : Cls wz, q.1.cell? ⟨b, 0, none⟩ = some (.int .i64 x) := fun q => cell_at (L := [.int .i64 x, .string r]) ((q.2.block b (lt_of_blk HW.out.2.2)).trans HW.out.2.2) 0 _ rfl
        have z1 : ∀ q : Cls wz, q.1.cell? ⟨b, 1, none⟩ = some (.string r) := fun q => cell_at (L := [.int .i64 x, .string r]) ((q.2.block b (lt_of_blk HW.out.2.2)).trans HW.out.2.2) 1 _ rfl
        have z2 : ∀ q : Cls wz, q.1.cell? ⟨w.heap.size, 1, none⟩ = some (.slice (some ⟨g, off, none⟩) n cap) := fun q => (HW.out.1.keep q.2).c1
        clear c0 c1 k1 k2 eb ez
        haveI := Cls.ne wz
        refine wp_region_cls wz (by kernel_rfl) (by kernel_rfl) ?_
        repeat (go_big_quiet_step ((fail)))
        refine wpQuiet_nil ?_
        rintro _ ⟨q, rfl⟩
        go_wp2
        go_ret
        exact ⟨by rw [rightP, HN.out, HF.out]; rfl, HW.out.2.1.trans (q.2.mono HW.out.2.1.size)⟩
      by_cases hx16 : 16 ≤ x
      · have d1 : decide (x < 0) = false := decide_eq_false hx0
        have d2 : decide ((16 : Int) ≤ x) = true := decide_eq_true hx16
        have HF : Hid (okPTo ps n = false) := hid (okPTo_false ps (j + 1) n (by rw [okPTo_succ, okPAt_no1 ps j (by rw [← ex]; omega)]; simp) (by omega))
        clear hok hj hjn ex er
        go_wp2
        have HW := hid (And.intro (HB.out.1.keep ((Below.refl _ _).alloc (Nat.le_refl _) (.cells #[.int .i64 x, .string r] 44))) (And.intro (HB.out.2.trans ((Below.refl _ _).alloc (Nat.le_refl _) (.cells #[.int .i64 x, .string r] 44) |>.mono HB.out.2.size)) (show (wr.alloc (.cells #[.int .i64 x, .string r] 44)).heap[wr.heap.size]? = some (.cells #[.int .i64 x, .string r] 44 (0, 0)) from heap_alloc_last wr _)))
        obtain ⟨b, eb⟩ : ∃ b, b = wr.heap.size := ⟨_, rfl⟩
        rw [← eb] at HW ⊢
        obtain ⟨wz, ez⟩ : ∃ wz, wz = wr.alloc (.cells #[.int .i64 x, .string r] 44) := ⟨_, rfl⟩
        rw [← ez] at HW ⊢
        have z0 : ∀ q : Cls wz, q.1.cell? ⟨b, 0, none⟩ = some (.int .i64 x) := fun q => cell_at (L := [.int .i64 x, .string r]) ((q.2.block b (lt_of_blk HW.out.2.2)).trans HW.out.2.2) 0 _ rfl
        have z1 : ∀ q : Cls wz, q.1.cell? ⟨b, 1, none⟩ = some (.string r) := fun q => cell_at (L := [.int .i64 x, .string r]) ((q.2.block b (lt_of_blk HW.out.2.2)).trans HW.out.2.2) 1 _ rfl
        have z2 : ∀ q : Cls wz, q.1.cell? ⟨w.heap.size, 1, none⟩ = some (.slice (some ⟨g, off, none⟩) n cap) := fun q => (HW.out.1.keep q.2).c1
        clear c0 c1 k1 k2 eb ez
        haveI := Cls.ne wz
        refine wp_region_cls wz (by kernel_rfl) (by kernel_rfl) ?_
        repeat (go_big_quiet_step ((fail)))
        refine wpQuiet_nil ?_
        rintro _ ⟨q, rfl⟩
        go_wp2
        go_ret
        exact ⟨by rw [rightP, HN.out, HF.out]; rfl, HW.out.2.1.trans (q.2.mono HW.out.2.1.size)⟩
      have d1 : decide (x < 0) = false := decide_eq_false hx0
      have d2 : decide ((16 : Int) ≤ x) = false := decide_eq_false hx16
      by_cases hr : r.size = 32
      · have d3 : ((r.size : Int) != 32) = false := by
          have : (r.size : Int) = 32 := by omega
          simp [this]
        by_cases hz : j = 0
        · have d4 : decide (0 < j) = false := decide_eq_false (by omega)
          have HF : Hid (okPTo ps (j + 1) = true) := hid (by
            have h1 : idOf ps 0 = x := by rw [ex, hz]
            have h2 : rtOf ps 0 = r := by rw [er, hz]
            rw [okPTo_succ, hok, hz, okPAt_yes0 ps (by rw [h1]; omega) (by rw [h2]; exact hr)]
            rfl)
          have HJ := hid (And.intro hj hjn)
          clear hok hj hjn ex er hz hr
          go_wp2
          have HW := hid (And.intro (HB.out.1.keep ((Below.refl _ _).alloc (Nat.le_refl _) (.cells #[.int .i64 x, .string r] 44))) (And.intro (HB.out.2.trans ((Below.refl _ _).alloc (Nat.le_refl _) (.cells #[.int .i64 x, .string r] 44) |>.mono HB.out.2.size)) (show (wr.alloc (.cells #[.int .i64 x, .string r] 44)).heap[wr.heap.size]? = some (.cells #[.int .i64 x, .string r] 44 (0, 0)) from heap_alloc_last wr _)))
          obtain ⟨b, eb⟩ : ∃ b, b = wr.heap.size := ⟨_, rfl⟩
          rw [← eb] at HW ⊢
          obtain ⟨wz, ez⟩ : ∃ wz, wz = wr.alloc (.cells #[.int .i64 x, .string r] 44) := ⟨_, rfl⟩
          rw [← ez] at HW ⊢
          have z0 : ∀ q : Cls wz, q.1.cell? ⟨b, 0, none⟩ = some (.int .i64 x) := fun q => cell_at (L := [.int .i64 x, .string r]) ((q.2.block b (lt_of_blk HW.out.2.2)).trans HW.out.2.2) 0 _ rfl
          have z1 : ∀ q : Cls wz, q.1.cell? ⟨b, 1, none⟩ = some (.string r) := fun q => cell_at (L := [.int .i64 x, .string r]) ((q.2.block b (lt_of_blk HW.out.2.2)).trans HW.out.2.2) 1 _ rfl
          have z2 : ∀ q : Cls wz, q.1.cell? ⟨w.heap.size, 1, none⟩ = some (.slice (some ⟨g, off, none⟩) n cap) := fun q => (HW.out.1.keep q.2).c1
          clear c0 c1 k1 k2 eb ez
          haveI := Cls.ne wz
          refine wp_region_cls wz (by kernel_rfl) (by kernel_rfl) ?_
          repeat (go_big_quiet_step ((fail)))
          refine wpQuiet_nil ?_
          rintro _ ⟨q, rfl⟩
          go_wp2
          go_roundw
          case rel => exact ⟨j + 1, by have := HJ.out; omega, by go_num, HF.out, HW.out.1.keep q.2, HW.out.2.1.trans (q.2.mono HW.out.2.1.size)⟩
          case measure => simp [intOf]; omega
        · obtain ⟨i, rfl⟩ : ∃ i, j = i + 1 := ⟨j - 1, by omega⟩
          obtain ⟨g', off', eg, hg', hcellp, _⟩ := HP.out.at i _ (getP_some (by rw [HN.out]; omega))
          obtain ⟨rfl, rfl⟩ : g = g' ∧ off = off' := by simp at eg; exact eg
          obtain ⟨y, ey⟩ : ∃ y, y = idOf ps i := ⟨_, rfl⟩
          rw [← ey] at hcellp
          have hi1 : (i : Int) < (n : Int) := by omega
          have hi2 : (0 : Int) ≤ (i : Int) := by omega
          have d4 : decide ((0 : Int) < (i : Int) + 1) = true := decide_eq_true (by omega)
          clear eg hz
          by_cases hxy : x ≤ y
          · have d5 : decide (x ≤ y) = true := decide_eq_true hxy
            have HF : Hid (okPTo ps n = false) := hid (okPTo_false ps (i + 1 + 1) n (by rw [okPTo_succ, okPAt_no3 ps (i + 1) (by omega) (by rw [← ex, show i + 1 - 1 = i from rfl, ← ey]; omega)]; simp) (by omega))
            clear hok hj hjn ex ey er hr
            go_wp2
            have HW := hid (And.intro (HB.out.1.keep ((Below.refl _ _).alloc (Nat.le_refl _) (.cells #[.int .i64 x, .string r] 44))) (And.intro (HB.out.2.trans ((Below.refl _ _).alloc (Nat.le_refl _) (.cells #[.int .i64 x, .string r] 44) |>.mono HB.out.2.size)) (show (wr.alloc (.cells #[.int .i64 x, .string r] 44)).heap[wr.heap.size]? = some (.cells #[.int .i64 x, .string r] 44 (0, 0)) from heap_alloc_last wr _)))
            obtain ⟨b, eb⟩ : ∃ b, b = wr.heap.size := ⟨_, rfl⟩
            rw [← eb] at HW ⊢
            obtain ⟨wz, ez⟩ : ∃ wz, wz = wr.alloc (.cells #[.int .i64 x, .string r] 44) := ⟨_, rfl⟩
            rw [← ez] at HW ⊢
            have z0 : ∀ q : Cls wz, q.1.cell? ⟨b, 0, none⟩ = some (.int .i64 x) := fun q => cell_at (L := [.int .i64 x, .string r]) ((q.2.block b (lt_of_blk HW.out.2.2)).trans HW.out.2.2) 0 _ rfl
            have z1 : ∀ q : Cls wz, q.1.cell? ⟨b, 1, none⟩ = some (.string r) := fun q => cell_at (L := [.int .i64 x, .string r]) ((q.2.block b (lt_of_blk HW.out.2.2)).trans HW.out.2.2) 1 _ rfl
            have z2 : ∀ q : Cls wz, q.1.cell? ⟨w.heap.size, 1, none⟩ = some (.slice (some ⟨g, off, none⟩) n cap) := fun q => (HW.out.1.keep q.2).c1
            have z3 : ∀ q : Cls wz, q.1.cell? ⟨g, off + i * 2, none⟩ = some (.int .i64 y) := fun q => ((HW.out.2.1.trans (q.2.mono HW.out.2.1.size)).cell (p := ⟨g, _, none⟩) hg').trans hcellp
            clear c0 c1 k1 k2 eb ez
            haveI := Cls.ne wz
            refine wp_region_cls wz (by kernel_rfl) (by kernel_rfl) ?_
            repeat (go_big_quiet_step ((fail)))
            refine wpQuiet_nil ?_
            rintro _ ⟨q, rfl⟩
            go_wp2
            go_ret
            exact ⟨by rw [rightP, HN.out, HF.out]; rfl, HW.out.2.1.trans (q.2.mono HW.out.2.1.size)⟩
          · have d5 : decide (x ≤ y) = false := decide_eq_false hxy
            have HF : Hid (okPTo ps (i + 1 + 1) = true) := hid (by rw [okPTo_succ, hok, okPAt_yes ps (i + 1) (by rw [← ex]; omega) (by rw [← er]; exact hr) (by rw [← ex, show i + 1 - 1 = i from rfl, ← ey]; omega)]; rfl)
            have HJ := hid (And.intro hj hjn)
            clear hok hj hjn ex ey er hr
            go_wp2
            have HW := hid (And.intro (HB.out.1.keep ((Below.refl _ _).alloc (Nat.le_refl _) (.cells #[.int .i64 x, .string r] 44))) (And.intro (HB.out.2.trans ((Below.refl _ _).alloc (Nat.le_refl _) (.cells #[.int .i64 x, .string r] 44) |>.mono HB.out.2.size)) (show (wr.alloc (.cells #[.int .i64 x, .string r] 44)).heap[wr.heap.size]? = some (.cells #[.int .i64 x, .string r] 44 (0, 0)) from heap_alloc_last wr _)))
            obtain ⟨b, eb⟩ : ∃ b, b = wr.heap.size := ⟨_, rfl⟩
            rw [← eb] at HW ⊢
            obtain ⟨wz, ez⟩ : ∃ wz, wz = wr.alloc (.cells #[.int .i64 x, .string r] 44) := ⟨_, rfl⟩
            rw [← ez] at HW ⊢
            have z0 : ∀ q : Cls wz, q.1.cell? ⟨b, 0, none⟩ = some (.int .i64 x) := fun q => cell_at (L := [.int .i64 x, .string r]) ((q.2.block b (lt_of_blk HW.out.2.2)).trans HW.out.2.2) 0 _ rfl
            have z1 : ∀ q : Cls wz, q.1.cell? ⟨b, 1, none⟩ = some (.string r) := fun q => cell_at (L := [.int .i64 x, .string r]) ((q.2.block b (lt_of_blk HW.out.2.2)).trans HW.out.2.2) 1 _ rfl
            have z2 : ∀ q : Cls wz, q.1.cell? ⟨w.heap.size, 1, none⟩ = some (.slice (some ⟨g, off, none⟩) n cap) := fun q => (HW.out.1.keep q.2).c1
            have z3 : ∀ q : Cls wz, q.1.cell? ⟨g, off + i * 2, none⟩ = some (.int .i64 y) := fun q => ((HW.out.2.1.trans (q.2.mono HW.out.2.1.size)).cell (p := ⟨g, _, none⟩) hg').trans hcellp
            clear c0 c1 k1 k2 eb ez
            haveI := Cls.ne wz
            refine wp_region_cls wz (by kernel_rfl) (by kernel_rfl) ?_
            repeat (go_big_quiet_step ((fail)))
            refine wpQuiet_nil ?_
            rintro _ ⟨q, rfl⟩
            go_wp2
            go_roundw
            case rel => exact ⟨i + 1 + 1, by have := HJ.out; omega, by go_num, HF.out, HW.out.1.keep q.2, HW.out.2.1.trans (q.2.mono HW.out.2.1.size)⟩
            case measure => simp [intOf]; omega
      · have d3 : ((r.size : Int) != 32) = true := by
          have : ¬ ((r.size : Int) = 32) := by omega
          simpa using this
        have HF : Hid (okPTo ps n = false) := hid (okPTo_false ps (j + 1) n (by rw [okPTo_succ, okPAt_no2 ps j (by rw [← er]; exact hr)]; simp) (by omega))
        clear hok hj hjn ex er hr
        go_wp2
        have HW := hid (And.intro (HB.out.1.keep ((Below.refl _ _).alloc (Nat.le_refl _) (.cells #[.int .i64 x, .string r] 44))) (And.intro (HB.out.2.trans ((Below.refl _ _).alloc (Nat.le_refl _) (.cells #[.int .i64 x, .string r] 44) |>.mono HB.out.2.size)) (show (wr.alloc (.cells #[.int .i64 x, .string r] 44)).heap[wr.heap.size]? = some (.cells #[.int .i64 x, .string r] 44 (0, 0)) from heap_alloc_last wr _)))
        obtain ⟨b, eb⟩ : ∃ b, b = wr.heap.size := ⟨_, rfl⟩
        rw [← eb] at HW ⊢
        obtain ⟨wz, ez⟩ : ∃ wz, wz = wr.alloc (.cells #[.int .i64 x, .string r] 44) := ⟨_, rfl⟩
        rw [← ez] at HW ⊢
        have z0 : ∀ q : Cls wz, q.1.cell? ⟨b, 0, none⟩ = some (.int .i64 x) := fun q => cell_at (L := [.int .i64 x, .string r]) ((q.2.block b (lt_of_blk HW.out.2.2)).trans HW.out.2.2) 0 _ rfl
        have z1 : ∀ q : Cls wz, q.1.cell? ⟨b, 1, none⟩ = some (.string r) := fun q => cell_at (L := [.int .i64 x, .string r]) ((q.2.block b (lt_of_blk HW.out.2.2)).trans HW.out.2.2) 1 _ rfl
        have z2 : ∀ q : Cls wz, q.1.cell? ⟨w.heap.size, 1, none⟩ = some (.slice (some ⟨g, off, none⟩) n cap) := fun q => (HW.out.1.keep q.2).c1
        clear c0 c1 k1 k2 eb ez
        haveI := Cls.ne wz
        refine wp_region_cls wz (by kernel_rfl) (by kernel_rfl) ?_
        repeat (go_big_quiet_step ((fail)))
        refine wpQuiet_nil ?_
        rintro _ ⟨q, rfl⟩
        go_wp2
        go_ret
        exact ⟨by rw [rightP, HN.out, HF.out]; rfl, HW.out.2.1.trans (q.2.mono HW.out.2.1.size)⟩
end Go.Proofs.Ytchlmcpnjpllnaa

/- Words for the contracts of package pack: what a writer and a reader look like in memory, and what a call keeps. No walk here. -/
namespace Go.Proofs.Ytchlmcpnjpllnaa
open Go.RowKit

/-- All blocks but b and row r are as they were; the streams too. -/
structure Kept (b : Nat) (r : Option Nat) (w w' : World) : Prop where
  os : w'.os = w.os
  tape : w'.tape = w.tape
  output : w'.output = w.output
  size : w.heap.size ≤ w'.heap.size
  block : ∀ k, k < w.heap.size → k ≠ b → some k ≠ r → w'.heap[k]? = w.heap[k]?

theorem Kept.refl (b : Nat) (r : Option Nat) (w : World) : Kept b r w w := ⟨rfl, rfl, rfl, Nat.le_refl _, fun _ _ _ _ => rfl⟩
/-- Where the row has moved to a new block. -/
theorem Kept.trans {b : Nat} {r r' : Option Nat} {x y z : World} (h : Kept b r x y) (k : Kept b r' y z) (hr : r' = r ∨ ∃ g, r' = some g ∧ x.heap.size ≤ g) : Kept b r x z :=
  ⟨k.os.trans h.os, k.tape.trans h.tape, k.output.trans h.output, Nat.le_trans h.size k.size, fun i hi hb hne => by
    rw [k.block i (Nat.lt_of_lt_of_le hi h.size) hb (by rcases hr with rfl | ⟨g, rfl, hg⟩ <;> first | exact hne | (intro e; cases e; omega)), h.block i hi hb hne]⟩
theorem Kept.alloc {b : Nat} {r : Option Nat} {x y : World} (h : Kept b r x y) (o : Obj) : Kept b r x (y.alloc o) :=
  ⟨h.os, h.tape, h.output, by have := h.size; simp; omega, fun i hi hb hne => by rw [Below.heap_alloc _ _ _ (Nat.lt_of_lt_of_le hi h.size), h.block i hi hb hne]⟩
theorem Kept.drew {b : Nat} {r : Option Nat} {x y : World} (h : Kept b r x y) : Kept b r x y.drew := ⟨h.os, h.tape, h.output, h.size, h.block⟩
theorem Kept.setCell {b : Nat} {r : Option Nat} {x y : World} (h : Kept b r x y) (o : Nat) (u : Value) : Kept b r x (y.setCell ⟨b, o, none⟩ u) :=
  ⟨h.os, h.tape, h.output, by have := h.size; simpa [World.setCell] using this, fun i hi hb hne => by rw [Below.heap_setCell _ _ _ _ hb, h.block i hi hb hne]⟩
theorem Kept.grown {b : Nat} {r r' : Option Nat} {x y z : World} (h : Kept b r x y) (hg : y.grownBy z r') (hr : r' = r ∨ ∃ g, r' = some g ∧ x.heap.size ≤ g) : Kept b r x z :=
  h.trans ⟨hg.os, hg.tape, hg.output, hg.size, fun k hk _ hne => hg.block k hk hne⟩ hr
theorem Kept.below {b : Nat} {r : Option Nat} {x y : World} {B : Nat} (h : Kept b r x y) (hB : B ≤ x.heap.size) (hb : B ≤ b) (hr : ∀ g, r = some g → B ≤ g) : Below B x y :=
  ⟨h.os, h.tape, h.output, h.size, fun k hk => h.block k (by omega) (by omega) (fun e => by have := hr k e.symm; omega)⟩

/-- A writer at block b: its limit, its bytes l (in the slice v), its error. -/
structure WrAt (w : World) (b : Nat) (v : Value) (lim : Int) (l : List UInt8) (er : Int) : Prop where
  blk : w.heap[b]? = some (.cells #[.int .i64 lim, v, .int .i64 er] 97 (0, 0))
  own : w.ownsRow (b + 1) 5 1 v l.length (bC l)

theorem cell_of_blk {w : World} {b : Nat} {cs : Array Value} {t : TypeId} {fr : Nat × Nat} (h : w.heap[b]? = some (.cells cs t fr)) (j : Nat) (hj : j < cs.size) : w.cell? ⟨b, j, none⟩ = some cs[j] := by
  simp [World.cell?, h, hj]
theorem free_of_blk {w : World} {b : Nat} {cs : Array Value} {t : TypeId} (h : w.heap[b]? = some (.cells cs t (0, 0))) (j : Nat) : w.frozen? ⟨b, j, none⟩ = false := by
  simp [World.frozen?, h]

theorem WrAt.lt {w : World} {b : Nat} {v : Value} {lim : Int} {l : List UInt8} {er : Int} (h : WrAt w b v lim l er) : b < w.heap.size := lt_of_blk h.blk
theorem WrAt.c0 {w : World} {b : Nat} {v : Value} {lim : Int} {l : List UInt8} {er : Int} (h : WrAt w b v lim l er) : w.cell? ⟨b, 0, none⟩ = some (.int .i64 lim) := cell_of_blk h.blk 0 (by simp)
theorem WrAt.c1 {w : World} {b : Nat} {v : Value} {lim : Int} {l : List UInt8} {er : Int} (h : WrAt w b v lim l er) : w.cell? ⟨b, 1, none⟩ = some v := cell_of_blk h.blk 1 (by simp)
theorem WrAt.c2 {w : World} {b : Nat} {v : Value} {lim : Int} {l : List UInt8} {er : Int} (h : WrAt w b v lim l er) : w.cell? ⟨b, 2, none⟩ = some (.int .i64 er) := cell_of_blk h.blk 2 (by simp)
theorem WrAt.fr {w : World} {b : Nat} {v : Value} {lim : Int} {l : List UInt8} {er : Int} (h : WrAt w b v lim l er) (j : Nat) : w.frozen? ⟨b, j, none⟩ = false := free_of_blk h.blk j

/-- A reader at block b: what is left, whether it fell short. -/
def RdAt (w : World) (b : Nat) (s : ByteArray) (sh : Bool) : Prop := w.heap[b]? = some (.cells #[.string s, .bool sh] 102 (0, 0))

end Go.Proofs.Ytchlmcpnjpllnaa

/- Plain facts on numbers and bytes. -/
namespace Go.Proofs.Ytchlmcpnjpllnaa
open Go.RowKit

/-- The number that bytes make, the greatest first. -/
def val (l : List UInt8) : Nat := l.foldl (fun n c => n * 256 + c.toNat) 0
theorem val_snoc (l : List UInt8) (c : UInt8) : val (l ++ [c]) = val l * 256 + c.toNat := by simp [val, List.foldl_append]
theorem val_lt (l : List UInt8) : val l < 256 ^ l.length := by
  rw [← List.reverse_reverse l]
  generalize l.reverse = r
  induction r with
  | nil => simp [val]
  | cons c r ih =>
    rw [List.reverse_cons, val_snoc, List.length_append, List.length_singleton, Nat.pow_succ]
    have := c.toNat_lt
    omega
theorem take_snoc (s : ByteArray) (k : Nat) (h : k < s.size) : s.data.toList.take (k + 1) = s.data.toList.take k ++ [s[k]] := by
  rw [List.take_succ_eq_append_getElem (by simpa using h)]; rfl
theorem or_add (a c : Nat) (hc : c < 256) : a * 256 ||| c = a * 256 + c := by
  have := Nat.two_pow_add_eq_or_of_lt (i := 8) hc a
  rw [Nat.mul_comm] at this
  simpa using this.symm
theorem or_val (a : Nat) (c : UInt8) (ha : a < 72057594037927936) :
    bits BinOp.or IntKind.u64 (IntKind.u64.wrap ((a : Int) * 256)) (IntKind.u64.wrap (c.toNat : Int)) = ((a * 256 + c.toNat : Nat) : Int) := by
  have hc := c.toNat_lt
  have e1 : IntKind.u64.wrap ((a : Int) * 256) = ((a * 256 : Nat) : Int) := by simp only [IntKind.wrap_u64]; omega
  have e2 : IntKind.u64.wrap (c.toNat : Int) = ((c.toNat : Nat) : Int) := by simp only [IntKind.wrap_u64]; omega
  rw [e1, e2, u64_or_nat _ _ (by omega) (by omega), or_add _ _ (by omega)]

theorem extract_list (s : ByteArray) (a b : Nat) : (s.extract a b).data.toList = (s.data.toList.take b).drop a := by
  simp [ByteArray.data_extract, List.drop_take]

theorem be_snoc (s n : Nat) : be (s + 1) n = be s (n / 256) ++ [UInt8.ofNat n] := by
  induction s with
  | zero => simp [be]
  | succ s ih =>
    rw [be, ih, be, List.cons_append, Nat.div_div_eq_div_mul, Nat.pow_succ, Nat.mul_comm (256 ^ s) 256]
/-- Bytes of a number read again make the number. -/
theorem val_be (s n : Nat) : val (be s n) = n % 256 ^ s := by
  induction s generalizing n with
  | zero => simp [be, val, Nat.mod_one]
  | succ s ih =>
    have e : (UInt8.ofNat n).toNat = n % 256 := by simp
    rw [be_snoc, val_snoc, ih, e, Nat.pow_succ, Nat.mul_comm (256 ^ s) 256, Nat.mod_mul]
    omega
/-- A number's bytes are those that made it. -/
theorem be_val (l : List UInt8) : be l.length (val l) = l := by
  rw [← List.reverse_reverse l]
  generalize l.reverse = r
  induction r with
  | nil => rfl
  | cons c r ih =>
    have hc := c.toNat_lt
    rw [List.reverse_cons, val_snoc, List.length_append, List.length_singleton, be_snoc]
    have e1 : (val r.reverse * 256 + c.toNat) / 256 = val r.reverse := by omega
    have e2 : UInt8.ofNat (val r.reverse * 256 + c.toNat) = c := by
      apply UInt8.toNat_inj.1
      have e : ∀ n, (UInt8.ofNat n).toNat = n % 256 := fun n => by simp
      rw [e]
      omega
    rw [e1, e2, ih]

end Go.Proofs.Ytchlmcpnjpllnaa

/- The contracts of package pack's writers. -/
namespace Go.Proofs.Ytchlmcpnjpllnaa
open Go.RowKit

/-- Nothing but draws. -/
structure Still (w w' : World) : Prop where
  os : w'.os = w.os
  tape : w'.tape = w.tape
  output : w'.output = w.output
  heap : w'.heap = w.heap
theorem Still.refl (w : World) : Still w w := ⟨rfl, rfl, rfl, rfl⟩
theorem Still.drew (w : World) : Still w w.drew := ⟨rfl, rfl, rfl, rfl⟩
theorem Still.kept {w w' : World} (h : Still w w') (b : Nat) (r : Option Nat) : Kept b r w w' := ⟨h.os, h.tape, h.output, by rw [h.heap]; exact Nat.le_refl _, fun k _ _ _ => by rw [h.heap]⟩
theorem ownsRow_of_heap {w w' : World} (e : w'.heap = w.heap) {base : Nat} {t : TypeId} {size : Nat} {v : Value} {n : Nat} {xs : List Value} (h : w.ownsRow base t size v n xs) : w'.ownsRow base t size v n xs := by
  unfold World.ownsRow at h ⊢
  rw [e]
  exact h
theorem Still.wr {w w' : World} (e : Still w w') {b : Nat} {v : Value} {lim : Int} {l : List UInt8} {er : Int} (h : WrAt w b v lim l er) : WrAt w' b v lim l er :=
  ⟨by rw [e.heap]; exact h.blk, ownsRow_of_heap e.heap h.own⟩

set_option maxHeartbeats 400000 in
theorem new_any (n : Int) (w : World) :
    Calls Try.prog 26 #[.int .i64 n] w fun e w' => e = .returned (.pointer (some ⟨w.heap.size, 0, none⟩)) ∧ w' = w.alloc (.cells #[.int .i64 (max n 0), .slice none 0 0, .int .i64 0] 97) := by
  by_cases hn : n < 0
  · have e : max n 0 = 0 := by omega
    rw [e]
    clear e
    go_enter Try.func26, Try.ntmps26
    go_wp2
    go_ret
    exact ⟨rfl, rfl⟩
  · have e : max n 0 = n := by omega
    rw [e]
    clear e
    go_enter Try.func26, Try.ntmps26
    go_wp2
    go_ret
    exact ⟨rfl, rfl⟩
theorem new_wr (n : Int) (w : World) : WrAt (w.alloc (.cells #[.int .i64 (max n 0), .slice none 0 0, .int .i64 0] 97)) w.heap.size (.slice none 0 0) (max n 0) [] 0 :=
  ⟨heap_alloc_new w _, World.ownsRow_nil _ _ _ _⟩

theorem done_nil (w : World) : Calls Try.prog 30 #[.pointer none] w fun e w' => e = .returned (.tuple #[.string ⟨#[]⟩, .int .i64 1]) ∧ w' = w := by
  go_enter Try.func30, Try.ntmps30
  go_wp2
  go_ret2
  exact ⟨rfl, rfl⟩

theorem done_ok (b : Nat) (v : Value) (lim : Int) (l : List UInt8) (w : World) (h : WrAt w b v lim l 0) :
    Calls Try.prog 30 #[.pointer (some ⟨b, 0, none⟩)] w fun e w' => e = .returned (.tuple #[.string ⟨l.toArray⟩, .int .i64 0]) ∧ w' = w := by
  have c1 := h.c1
  have c2 := h.c2
  rcases h.own.2 with ⟨rfl, h0⟩ | ⟨g, cap, cur, rfl, hg, hh, hnc, hcp, hcs, htake⟩
  · obtain rfl := List.eq_nil_of_length_eq_zero h0
    have hcv : ∀ w, (convert 57 9 (.slice none 0 0)).run Try.prog w = .ok (.string ⟨#[]⟩) w := fun w => by
      rw [run_convert_bytes_string w 57 9 5 none 0 0 Try.underlying57 Try.underlying5 Try.underlying9]; rfl
    go_enter Try.func30, Try.ntmps30
    go_wp2
    go_ret2
    exact ⟨rfl, rfl⟩
  · have hcv := run_convert_bytes_back (P := Try.prog) w 57 9 5 ⟨g, 0, none⟩ cap l Try.underlying57 Try.underlying5 Try.underlying9 (fun j hj => h.own.cells (g := g) rfl j _ (by simp [bC, hj]))
    go_enter Try.func30, Try.ntmps30
    go_wp2
    go_ret2
    exact ⟨rfl, rfl⟩

theorem done_err (b : Nat) (v : Value) (lim : Int) (l : List UInt8) (er : Int) (w : World) (h : WrAt w b v lim l er) (he : (er != 0) = true) :
    Calls Try.prog 30 #[.pointer (some ⟨b, 0, none⟩)] w fun e w' => e = .returned (.tuple #[.string ⟨#[]⟩, .int .i64 er]) ∧ w' = w.drew := by
  have c1 := h.c1
  have c2 := h.c2
  go_enter Try.func30, Try.ntmps30
  go_wp2
  go_region
  all_goals (try go_wp2)
  all_goals go_ret2
  exact ⟨rfl, rfl⟩

theorem done_any (b : Nat) (v : Value) (lim : Int) (l : List UInt8) (er : Int) (w : World) (h : WrAt w b v lim l er) :
    Calls Try.prog 30 #[.pointer (some ⟨b, 0, none⟩)] w fun e w' => e = .returned (.tuple #[.string (if er = 0 then ⟨l.toArray⟩ else ⟨#[]⟩), .int .i64 er]) ∧ Still w w' := by
  by_cases he : er = 0
  · subst he
    exact (done_ok b v lim l w h).mono fun e w' ⟨h1, h2⟩ => ⟨by simpa using h1, by rw [h2]; exact Still.refl _⟩
  · exact (done_err b v lim l er w h (by simpa using he)).mono fun e w' ⟨h1, h2⟩ => ⟨by simpa [he] using h1, by rw [h2]; exact Still.drew _⟩

theorem WrAt.err {w : World} {b : Nat} {v : Value} {lim : Int} {l : List UInt8} {er : Int} (h : WrAt w b v lim l er) (u : Int) : WrAt (w.setCell ⟨b, 2, none⟩ (.int .i64 u)) b v lim l u :=
  ⟨by have := h.blk; simp [World.setCell, Array.getElem?_modify, this], ownsRow_setCell_below h.own (by show b < b + 1; omega) _⟩

/-- The error behind a thing of that size: the first one stays. -/
def adm (lim : Int) (n : Nat) (er : Int) (inR : Bool) (size : Int) : Int := if er = 0 then (if inR then (if lim - n < size then 3 else 0) else 4) else er

theorem adm_bad (lim : Int) (n : Nat) (size : Int) : adm lim n 0 false size = 4 := by simp [adm]
theorem adm_er (lim : Int) (n : Nat) (er : Int) (inR : Bool) (size : Int) (he : er ≠ 0) : adm lim n er inR size = er := by simp [adm, he]
theorem adm_long (lim : Int) (n : Nat) (size : Int) (h : lim - n < size) : adm lim n 0 true size = 3 := by simp [adm, h]
theorem adm_ok (lim : Int) (n : Nat) (size : Int) (h : ¬ lim - n < size) : adm lim n 0 true size = 0 := by simp [adm, h]

set_option maxHeartbeats 400000 in
theorem admits_er (b : Nat) (v : Value) (lim : Int) (l : List UInt8) (er : Int) (inR : Bool) (size : Int) (w : World) (h : WrAt w b v lim l er) (he : (er != 0) = true) :
    Calls Try.prog 62 #[.pointer (some ⟨b, 0, none⟩), .bool inR, .int .i64 size] w fun e w' => e = .returned (.bool false) ∧ w' = w := by
  have c2 := h.c2
  clear h
  go_enter Try.func62, Try.ntmps62
  go_wp2
  go_ret
  exact ⟨rfl, rfl⟩

set_option maxHeartbeats 400000 in
theorem admits_bad (b : Nat) (v : Value) (lim : Int) (l : List UInt8) (size : Int) (w : World) (h : WrAt w b v lim l 0) :
    Calls Try.prog 62 #[.pointer (some ⟨b, 0, none⟩), .bool false, .int .i64 size] w fun e w' => e = .returned (.bool false) ∧ w' = w.setCell ⟨b, 2, none⟩ (.int .i64 4) := by
  have c2 := h.c2
  have f2 := h.fr 2
  clear h
  go_enter Try.func62, Try.ntmps62
  go_wp2
  go_ret
  exact ⟨rfl, rfl⟩

set_option maxHeartbeats 400000 in
theorem admits_long (b : Nat) (a : Option Addr) (n cap : Nat) (lim : Int) (size : Int) (w : World) (c0 : w.cell? ⟨b, 0, none⟩ = some (.int .i64 lim)) (c1 : w.cell? ⟨b, 1, none⟩ = some (.slice a n cap)) (c2 : w.cell? ⟨b, 2, none⟩ = some (.int .i64 0)) (f2 : w.frozen? ⟨b, 2, none⟩ = false)
    (h0 : 0 ≤ lim) (h1 : lim ≤ 9223372036854775807) (hl : n ≤ 140737488355328) (hs : lim - n < size) :
    Calls Try.prog 62 #[.pointer (some ⟨b, 0, none⟩), .bool true, .int .i64 size] w fun e w' => e = .returned (.bool false) ∧ w' = (w.setCell ⟨b, 2, none⟩ (.int .i64 3)).drew := by
  go_enter Try.func62, Try.ntmps62
  go_wp2
  go_region
  all_goals (try go_wp2)
  all_goals go_ret
  exact ⟨rfl, rfl⟩

set_option maxHeartbeats 400000 in
theorem admits_ok (b : Nat) (a : Option Addr) (n cap : Nat) (lim : Int) (size : Int) (w : World) (c0 : w.cell? ⟨b, 0, none⟩ = some (.int .i64 lim)) (c1 : w.cell? ⟨b, 1, none⟩ = some (.slice a n cap)) (c2 : w.cell? ⟨b, 2, none⟩ = some (.int .i64 0))
    (h0 : 0 ≤ lim) (h1 : lim ≤ 9223372036854775807) (hl : n ≤ 140737488355328) (hs : size ≤ lim - n) :
    Calls Try.prog 62 #[.pointer (some ⟨b, 0, none⟩), .bool true, .int .i64 size] w fun e w' => e = .returned (.bool true) ∧ w' = w.drew := by
  go_enter Try.func62, Try.ntmps62
  go_wp2
  go_region
  all_goals (try go_wp2)
  all_goals go_ret
  exact ⟨rfl, rfl⟩

theorem admits_any (b : Nat) (v : Value) (lim : Int) (l : List UInt8) (er : Int) (inR : Bool) (size : Int) (w : World) (h : WrAt w b v lim l er)
    (h0 : 0 ≤ lim) (h1 : lim ≤ 9223372036854775807) (hl : l.length ≤ 140737488355328) :
    Calls Try.prog 62 #[.pointer (some ⟨b, 0, none⟩), .bool inR, .int .i64 size] w fun e w' => e = .returned (.bool (decide (adm lim l.length er inR size = 0))) ∧ WrAt w' b v lim l (adm lim l.length er inR size) ∧ Kept b none w w' := by
  by_cases he : er = 0
  · subst he
    cases inR with
    | false =>
      rw [adm_bad]
      exact (admits_bad b v lim l size w h).mono fun e w' ⟨h1, h2⟩ => ⟨by simpa using h1, by rw [h2]; exact h.err 4, by rw [h2]; exact (Kept.refl _ _ _).setCell _ _⟩
    | true =>
      obtain ⟨a, cap, rfl⟩ : ∃ a cap, v = .slice a l.length cap := by
        rcases h.own.2 with ⟨hv, h0⟩ | ⟨g, cap, cur, hv, _⟩
        · exact ⟨none, 0, by rw [hv, h0]⟩
        · exact ⟨_, _, hv⟩
      by_cases hs : lim - l.length < size
      · rw [adm_long _ _ _ hs]
        exact (admits_long b a l.length cap lim size w h.c0 h.c1 h.c2 (h.fr 2) h0 h1 hl hs).mono fun e w' ⟨h1, h2⟩ => ⟨by simpa using h1, by rw [h2]; exact (Still.drew _).wr (h.err 3), by rw [h2]; exact ((Kept.refl _ _ _).setCell _ _).drew⟩
      · rw [adm_ok _ _ _ hs]
        exact (admits_ok b a l.length cap lim size w h.c0 h.c1 h.c2 h0 h1 hl (by omega)).mono fun e w' ⟨h1, h2⟩ => ⟨by simpa using h1, by rw [h2]; exact (Still.drew _).wr h, by rw [h2]; exact (Kept.refl _ _ _).drew⟩
  · rw [adm_er _ _ _ _ _ he]
    exact (admits_er b v lim l er inR size w h (by simpa using he)).mono fun e w' ⟨h1, h2⟩ => ⟨by simpa [he] using h1, by rw [h2]; exact h, by rw [h2]; exact Kept.refl _ _ _⟩

theorem admits_nil (inR : Bool) (size : Int) (w : World) : Calls Try.prog 62 #[.pointer none, .bool inR, .int .i64 size] w fun e w' => e = .returned (.bool false) ∧ w' = w := by
  go_enter Try.func62, Try.ntmps62
  go_wp2
  go_ret
  exact ⟨rfl, rfl⟩

end Go.Proofs.Ytchlmcpnjpllnaa

/- The contract of package pack's writer of bytes ('put'). -/
namespace Go.Proofs.Ytchlmcpnjpllnaa
open Go.RowKit
attribute [local go_sem ↓] Go.wp_at_zero Go.wp_at_succ

/-- A slice of the writer's own lies where it lay, or in a block that is new. -/
def Moved (w : World) (v v' : Value) : Prop := v'.ownBlock = v.ownBlock ∨ ∃ g, v'.ownBlock = some g ∧ w.heap.size ≤ g
theorem Moved.refl (w : World) (v : Value) : Moved w v v := .inl rfl
theorem Moved.trans {w w' : World} {a b c : Value} (h : Moved w a b) (k : Moved w' b c) (hs : w.heap.size ≤ w'.heap.size) : Moved w a c := by
  rcases k with k | ⟨g, k, hg⟩
  · rcases h with h | ⟨g, h, hg⟩
    · exact .inl (k.trans h)
    · exact .inr ⟨g, k.trans h, hg⟩
  · exact .inr ⟨g, k, by omega⟩

theorem WrAt.bytes {w : World} {b : Nat} {v : Value} {lim : Int} {er : Int} (h : w.heap[b]? = some (.cells #[.int .i64 lim, v, .int .i64 er] 97 (0, 0))) {v' : Value} {l' : List UInt8} (ho : w.ownsRow (b + 1) 5 1 v' l'.length (bC l')) :
    WrAt (w.setCell ⟨b, 1, none⟩ v') b v' lim l' er :=
  ⟨by simp [World.setCell, Array.getElem?_modify, h], ownsRow_setCell_below ho (by show b < b + 1; omega) _⟩

/-- What an append to the writer's bytes, and the store behind it, leave. -/
theorem put_step {wr w1 : World} {b : Nat} {v : Value} {lim : Int} {L C : List UInt8} {er : Int} {o : Obj} {gg cap N : Nat} {news : List Value} (hR : WrAt wr b v lim L er)
    (hn : news = bC C) (hN : N = L.length + C.length)
    (hown1 : w1.ownsRow (b + 1) 5 1 (.slice (some ⟨gg, 0, none⟩) N cap) N (bC L ++ news)) (hgrow : (wr.alloc o).drew.grownBy w1 v.ownBlock) (hat : v.ownBlock = some gg ∨ gg = wr.heap.size + 1) :
    WrAt (w1.setCell ⟨b, 1, none⟩ (.slice (some ⟨gg, 0, none⟩) N cap)) b (.slice (some ⟨gg, 0, none⟩) N cap) lim (L ++ C) er ∧ Kept b v.ownBlock wr (w1.setCell ⟨b, 1, none⟩ (.slice (some ⟨gg, 0, none⟩) N cap)) ∧ Moved wr v (.slice (some ⟨gg, 0, none⟩) N cap) := by
  have hlt := hR.lt
  have hbv : some b ≠ v.ownBlock := fun e => by have := (hR.own.lt b e.symm).1; omega
  subst hn
  have hb1 : w1.heap[b]? = some (.cells #[.int .i64 lim, v, .int .i64 er] 97 (0, 0)) := by
    rw [hgrow.block b (by simp; omega) hbv]
    exact (Below.heap_alloc wr _ b hlt).trans hR.blk
  refine ⟨WrAt.bytes hb1 ?_, ?_, ?_⟩
  · rw [bC_app, List.length_append, ← hN]; exact hown1
  · exact ((((Kept.refl b v.ownBlock wr).alloc _).drew).grown hgrow (.inl rfl)).setCell _ _
  · rcases hat with h | h
    · exact .inl h.symm
    · exact .inr ⟨gg, rfl, by omega⟩

/-- The byte of place j, with all that lies ahead of it. -/
def upto (n j : Nat) : Nat := n / 256 ^ j
theorem upto_byte (n j : Nat) : IntKind.u8.wrap (upto n j : Int) = ((UInt8.ofNat (n / 256 ^ j)).toNat : Int) := by
  have e : (UInt8.ofNat (n / 256 ^ j)).toNat = n / 256 ^ j % 256 := by simp
  rw [e, IntKind.wrap_u8', upto]
  omega
theorem shr_run (n j : Nat) (hj : j ≤ 7) (w : World) : Sem.run Try.prog (Op.shift BinOp.shr IntKind.u64 (n : Int) IntKind.i64 (IntKind.i64.wrap (8 * (j : Int)))) w = .ok (.int .u64 (upto n j : Int)) w := by
  have e : IntKind.i64.wrap (8 * (j : Int)) = ((8 * j : Nat) : Int) := by rw [IntKind.wrap_i64]; omega
  rw [e, shift_shr_any _ _ _ _ (Int.natCast_nonneg _)]
  have e2 : min ((8 * j : Nat) : Int).toNat IntKind.u64.bits = 8 * j := by simp [IntKind.bits]; omega
  have e3 : ((2 : Int) ^ (8 * j)) = ((256 ^ j : Nat) : Int) := by rw [show (256 : Nat) = 2 ^ 8 from rfl, ← Nat.pow_mul]; simp
  rw [e2, upto, e3]
  simp

set_option maxRecDepth 100000 in
set_option maxHeartbeats 1600000 in
theorem put_any (b : Nat) (v0 : Value) (lim : Int) (l : List UInt8) (er : Int) (n size : Nat) (w : World) (h : WrAt w b v0 lim l er) (hs : size ≤ 8) (hn : n < 18446744073709551616) (hl : l.length + 8 ≤ 140737488355328) :
    Calls Try.prog 63 #[.pointer (some ⟨b, 0, none⟩), .int .u64 n, .int .i64 size] w fun e w' => e = .returned (.tuple #[]) ∧ ∃ v', WrAt w' b v' lim (l ++ be size n) er ∧ Kept b v0.ownBlock w w' ∧ Moved w v0 v' := by
  obtain ⟨i0, hi0, hz0, hz1, hz2⟩ := info_parts Try.info5
  have HN : Hid (n < 18446744073709551616) := hn
  have HW : Hid (WrAt w b v0 lim l er) := h
  clear hn h
  go_enter Try.func63, Try.ntmps63
  go_wp2
  go_loopw [6] (fun i wr => ∃ (k : Nat) (P : List UInt8) (v : Value), k ≤ size ∧ i = .int .i64 ((k : Int) - 1) ∧ P ++ be k n = be size n ∧ WrAt wr b v lim (l ++ P) er ∧ Kept b v0.ownBlock w wr ∧ Moved w v0 v)
    (fun i _ => (intOf i + 1).toNat)
  case atStart => exact ⟨size, [], v0, Nat.le_refl _, rfl, rfl, by simpa using HW.out, Kept.refl _ _ _, Moved.refl _ _⟩
  case round =>
    obtain ⟨k, P, v, hk, rfl, hP, hwr, hkept, hmov⟩ := hrel
    have hlt := hwr.lt
    have HP : Hid (P ++ be k n = be size n) := hP
    have HR : Hid (WrAt wr b v lim (l ++ P) er) := hwr
    have HK : Hid (Kept b v0.ownBlock w wr ∧ Moved w v0 v) := ⟨hkept, hmov⟩
    have hPl : P.length + k = size := by have := congrArg List.length hP; simpa [be_len] using this
    have c1 := hwr.c1
    have f1 := hwr.fr 1
    clear hP hwr hkept hmov
    cases k with
    | zero =>
      go_wp2
      go_end0
      refine ⟨rfl, v, ?_, HK.out⟩
      have e : P = be size n := by simpa [be] using HP.out
      rw [← e]; exact HR.out
    | succ j =>
      have ej : (((j + 1 : Nat) : Int) - 1) = (j : Int) := by omega
      rw [ej]
      clear ej
      have hj0 : (0 : Int) ≤ (j : Int) := Int.natCast_nonneg _
      have hj7 : (j : Int) ≤ 7 := by omega
      have hsh := shr_run n j (by omega)
      have ho := HR.out.own
      have hbv : some b ≠ v.ownBlock := fun e => by have := (ho.lt b e.symm).1; omega
      have hlen : (l ++ P).length + 1 ≤ 140737488355328 := by simp; omega
      go_wp2_with fail
      go_region_law
        ((refine step_append_lies _ (by rfl) _ _ _ (by rfl) (b + 1) 5 i0 _ 1 1 Try.underlying57 hi0 hz0 hz1 hz2 rfl (by omega) v (l ++ P).length (bC (l ++ P)) (by rfl) ((ho.alloc _).drew)
            ⟨wr.heap.size, 0, none⟩ 1 1 [.int .u8 (IntKind.u8.wrap (upto n j : Int))] (by rfl) (by rfl) (World.news_of_block (cs := #[.int .u8 (IntKind.u8.wrap (upto n j : Int))]) (t := 5) (fr := (0, 0)) (heap_alloc_new wr _)) (by simp [Value.oneCell'])
            (by omega) (by unfold maxLen; omega) (by omega) (by simp; omega) (wr.heap.size + 1) (by simp) ?_; intro gg cap w1 hown1 hgrow hat hlt1; have fz : w1.frozen? ⟨b, 1, none⟩ = false := (hgrow.frozen_far _ (by simp; omega) hbv).trans ((World.frozen?_of_block (Below.heap_alloc wr _ b hlt)).trans f1); have cz : w1.cell? ⟨b, 1, none⟩ = some v := (hgrow.cell_far _ (by simp; omega) hbv).trans ((World.cell?_of_block (Below.heap_alloc wr _ b hlt)).trans c1)))
      all_goals go_wp2
      all_goals
        go_roundw
        case rel =>
          have st := put_step (C := [UInt8.ofNat (n / 256 ^ j)]) HR.out (by simp [bC, upto_byte]) (by simp) hown1 hgrow hat
          rw [List.length_append] at st
          have hk2 := HK.out
          exact ⟨j, P ++ [UInt8.ofNat (n / 256 ^ j)], _, by omega, by go_num, by rw [List.append_assoc]; exact HP.out, by rw [← List.append_assoc]; exact st.1, hk2.1.trans st.2.1 hk2.2, hk2.2.trans st.2.2 hk2.1.size⟩
        case measure => simp [intOf]

end Go.Proofs.Ytchlmcpnjpllnaa

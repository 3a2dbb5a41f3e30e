/- What all families of texts share: operations, blocks, bytes of one's own, regions that draw walked once. -/
import Derived.Test.YtoepmpjncddnlaaBaA
import Derived.Laws.MakeOwn
import Derived.Laws.IdiomStrings
import Derived.Laws.OwnMore
import Derived.Laws.CopyOwn
import Derived.Maps.AppendAt
import Derived.Deep.AppendLies
import Derived.Deep.RegionHeld3
import Derived.Deep.DrawnRows
import Derived.Deep.RegionLaw
import Derived.Lib.AppendStr
import Derived.Deep.WholeRow
import Derived.BigQuiet
namespace Go.Proofs.Ytoepmpjncddnlaa
open Go.RowKit

section
variable {P : Program} {o : Oper} {a : Act} {w : World} {K : Act → World → Prop} {Q : Exit → Act → World → Prop}
theorem owp_value {v : Value} {w' : World} (hrun : (execOp a.eval o).run P w = .ok (.value v) w') (h : K (a.put o.dst v) w') : o.wp P a w K Q := by
  unfold Oper.wp; rw [hrun]; exact h
theorem owp_skip {w' : World} (hrun : (execOp a.eval o).run P w = .ok .skip w') (h : K (a.put o.dst undef) w') : o.wp P a w K Q := by
  unfold Oper.wp; rw [hrun]; exact h
end
section
variable {P : Program} {o : Oper} {a : Act} {w : World} {K : Act → World → Prop} {Q : Exit → Act → World → Prop} {ops : Array Oper} {E : Prop}
theorem step_of (hgd : o.guard = none) (h : o.wp P a w K Q) : if Region.wanted o (yielded ops a.tmps) = true then Oper.wp P o a w K Q else E := by
  have hw : Region.wanted o (yielded ops a.tmps) = true := by simp [Region.wanted, hgd]
  rw [if_pos hw]
  exact h
end
theorem heap_cells {w : World} {g : Nat} {L : List Value} {t : TypeId} {fr : Nat × Nat} (h : w.heap[g]? = some (.cells L.toArray t fr)) (j : Nat) (v : Value) (hv : L[j]? = some v) : w.cell? ⟨g, 0 + j, none⟩ = some v := by
  simp [World.cell?, h, hv]
theorem Below.setRow {B g : Nat} {w0 w : World} (hb : Below B w0 w) (h : B ≤ g) (cs : Array Value) : Below B w0 (w.setRow g cs) := below_setRow hb h cs
theorem Below.same {B : Nat} {w x y : World} (h : Below B w x) (h1 : y.os = x.os) (h2 : y.tape = x.tape) (h3 : y.output = x.output) (h4 : y.heap = x.heap) : Below B w y :=
  ⟨h1.trans h.os, h2.trans h.tape, h3.trans h.output, by rw [h4]; exact h.size, fun k hk => by rw [h4]; exact h.block k hk⟩
theorem cell_at {w : World} {g : Nat} {L : List Value} {t : TypeId} {fr : Nat × Nat} (h : w.heap[g]? = some (.cells L.toArray t fr)) (j : Nat) (v : Value) (hv : L[j]? = some v) : w.cell? ⟨g, j, none⟩ = some v := by
  simp [World.cell?, h, hv]
theorem free_at {w : World} {g : Nat} {L : Array Value} {t : TypeId} (h : w.heap[g]? = some (.cells L t (0, 0))) (j : Nat) : w.frozen? ⟨g, j, none⟩ = false := by
  simp [World.frozen?, h]
theorem blk_set {w : World} {g : Nat} {c : Array Value} {t : TypeId} (h : w.heap[g]? = some (.cells c t (0, 0))) (j : Nat) (v : Value) : (w.setCell ⟨g, j, none⟩ v).heap[g]? = some (.cells (c.setIfInBounds j v) t (0, 0)) := by
  simp [World.setCell, Array.getElem?_modify, h]
theorem snd_alloc (w : World) (A B : Obj) : ((w.alloc A).alloc B).heap[w.heap.size + 1]? = some B := by
  have := heap_alloc_last (w.alloc A) B
  simpa using this
theorem setRow_heap_ne (w : World) (g k : Nat) (c : Array Value) (h : k ≠ g) : (w.setRow g c).heap[k]? = w.heap[k]? := by
  simp [World.setRow, Array.getElem?_modify, Ne.symm h]
theorem bC_one (l : List UInt8) : ∀ v ∈ bC l, v.oneCell' = true := by
  intro v hv
  obtain ⟨_, _, rfl⟩ := List.mem_map.1 hv
  rfl
theorem bC_get (l : List UInt8) (i : Nat) (h : i < l.length) : (bC l)[i]? = some (.int .u8 ((l.getD i 0).toNat : Int)) := by
  simp [bC, List.getD, h]
theorem getD_app_right {α : Type} (a b : List α) (i : Nat) (d : α) (h : a.length ≤ i) : (a ++ b).getD i d = b.getD (i - a.length) d := by
  simp [List.getD, List.getElem?_append_right h]
theorem getD_app_left {α : Type} (a b : List α) (i : Nat) (d : α) (h : i < a.length) : (a ++ b).getD i d = a.getD i d := by
  simp [List.getD, List.getElem?_append_left h]
theorem ext_take (l : List UInt8) (n : Nat) : (⟨l.toArray⟩ : ByteArray).extract 0 n = ⟨(l.take n).toArray⟩ := by
  apply ByteArray.ext
  rw [ByteArray.data_extract]
  simp
theorem ext_data (s : ByteArray) (i j : Nat) : (s.extract i j).data.toList = (s.data.toList.take j).drop i := by
  rw [ByteArray.data_extract, Array.toList_extract]
  simp [List.drop_take]
theorem mk_data (l : List UInt8) : (⟨l.toArray⟩ : ByteArray).data.toList = l := rfl
theorem mk_size (l : List UInt8) : (⟨l.toArray⟩ : ByteArray).size = l.length := by rw [← data_len]
theorem wrap_small (x : Int) (h0 : 0 ≤ x) (h1 : x < 1000) : IntKind.i64.wrap x = x := by
  simp [IntKind.wrap, IntKind.bits, IntKind.signed]
  omega
theorem of_same {P : Program} {f : FuncId} {args : Array Value} {v : Value} (h : ∀ w : World, Calls P f args w fun e w' => e = .returned v ∧ w' = w) (u : World) :
    Calls P f args u fun e w' => e = .returned v ∧ Below u.heap.size u w' :=
  (h u).mono fun _ _ ⟨he, hw⟩ => ⟨he, hw ▸ Below.refl _ _⟩
theorem Try.size5 : (Try.prog.info? 5).map (·.size) = some 1 := by kernel_rfl
/-- The slice v holds the bytes l; nothing below B has turned since w0. -/
structure Owned (B : Nat) (w0 w : World) (v : Value) (l : List UInt8) : Prop where
  own : w.ownsRow B 5 1 v l.length (bC l)
  bel : Below B w0 w
  le : B ≤ w.heap.size
theorem Owned.nil {B : Nat} {w0 w : World} (h : Below B w0 w) (hB : B ≤ w.heap.size) : Owned B w0 w (.slice none 0 0) [] := ⟨⟨rfl, .inl ⟨rfl, rfl⟩⟩, h, hB⟩
theorem Owned.alloc {B : Nat} {w0 w : World} {v : Value} {l : List UInt8} (h : Owned B w0 w v l) (o : Obj) : Owned B w0 (w.alloc o) v l :=
  ⟨h.own.alloc o, h.bel.alloc h.le o, by have := h.le; simp; omega⟩
theorem ownsRow_heap {w w1 : World} {B : Nat} {e : TypeId} {z : Nat} {v : Value} {n : Nat} {xs : List Value} (h4 : w1.heap = w.heap) (h : w.ownsRow B e z v n xs) : w1.ownsRow B e z v n xs := by
  unfold World.ownsRow at h ⊢
  rw [h4]; exact h
theorem ownsRow_keep {B : Nat} {w w' : World} {e : TypeId} {z : Nat} {v : Value} {n : Nat} {xs : List Value} (h : w.ownsRow B e z v n xs) (hb : Below w.heap.size w w') : w'.ownsRow B e z v n xs := by
  refine ⟨h.1, ?_⟩
  rcases h.2 with hn | ⟨g, cap, cur, hv, hB, hh, hr⟩
  · exact .inl hn
  · exact .inr ⟨g, cap, cur, hv, hB, (hb.block g (lt_of_blk hh)).trans hh, hr⟩
theorem Owned.same {B : Nat} {w0 w w1 : World} {v : Value} {l : List UInt8} (h : Owned B w0 w v l) (h1 : w1.os = w.os) (h2 : w1.tape = w.tape) (h3 : w1.output = w.output) (h4 : w1.heap = w.heap) : Owned B w0 w1 v l :=
  ⟨ownsRow_heap h4 h.own, Below.same h.bel h1 h2 h3 h4, by rw [h4]; exact h.le⟩
theorem Owned.grow {B : Nat} {w0 w w2 : World} {v v2 : Value} {l xs : List UInt8} {m : Nat} (h : Owned B w0 w v l) (hm : xs.length = m) (h2 : w2.ownsRow B 5 1 v2 (l.length + m) (bC l ++ bC xs)) (hg : w.grownBy w2 v.ownBlock) : Owned B w0 w2 v2 (l ++ xs) :=
  ⟨by rw [List.length_append, bC_app, hm]; exact h2, h.bel.grown hg h.le (fun k hk => (h.own.lt k hk).1), Nat.le_trans h.le hg.size⟩
theorem Owned.form {B : Nat} {w0 w : World} {v : Value} {l : List UInt8} (h : Owned B w0 w v l) : ∃ a cap, v = .slice a l.length cap := by
  rcases h.own.2 with ⟨hv, h0⟩ | ⟨g, cap, cur, hv, _⟩
  · exact ⟨none, 0, by rw [hv, h0]⟩
  · exact ⟨_, _, hv⟩
theorem Owned.drew {B : Nat} {w0 w : World} {v : Value} {l : List UInt8} (h : Owned B w0 w v l) : Owned B w0 w.drew v l := h.same rfl rfl rfl rfl
theorem Owned.keep {B : Nat} {w0 w w' : World} {v : Value} {l : List UInt8} (h : Owned B w0 w v l) (hb : Below w.heap.size w w') : Owned B w0 w' v l := by
  refine ⟨⟨h.own.1, ?_⟩, h.bel.trans (hb.mono h.le), Nat.le_trans h.le hb.size⟩
  rcases h.own.2 with hn | ⟨g, cap, cur, hv, hB, hh, hr⟩
  · exact .inl hn
  · exact .inr ⟨g, cap, cur, hv, hB, (hb.block g (lt_of_blk hh)).trans hh, hr⟩
/-- Two rows of one's own, apart. -/
structure Own2 (B : Nat) (w0 w : World) (v1 v2 : Value) (l1 l2 : List UInt8) : Prop where
  one : Owned B w0 w v1 l1
  two : Owned B w0 w v2 l2
  ne : v1.ownBlock = none ∨ v1.ownBlock ≠ v2.ownBlock
theorem Own2.symm {B : Nat} {w0 w : World} {v1 v2 : Value} {l1 l2 : List UInt8} (h : Own2 B w0 w v1 v2 l1 l2) : Own2 B w0 w v2 v1 l2 l1 :=
  ⟨h.two, h.one, by
    cases h2 : v2.ownBlock with
    | none => exact .inl rfl
    | some k =>
      right
      intro e
      rcases h.ne with h1 | h1
      · rw [h1] at e; cases e
      · exact h1 (by rw [← e, h2])⟩
theorem Own2.grow {B : Nat} {w0 w w3 : World} {v1 v2 v3 : Value} {l1 l2 xs : List UInt8} {m : Nat} (o : Obj) (h : Own2 B w0 w v1 v2 l1 l2) (hm : xs.length = m)
    (hown : w3.ownsRow B 5 1 v3 (l1.length + m) (bC l1 ++ bC xs)) (hg : (w.alloc o).grownBy w3 v1.ownBlock) (hb : v3.ownBlock = v1.ownBlock ∨ v3.ownBlock = some (w.alloc o).heap.size) : Own2 B w0 w3 v3 v2 (l1 ++ xs) l2 := by
  have g1 := (h.one.alloc o).grow hm hown hg
  refine ⟨g1, ⟨(h.two.alloc o).own.kept hg ?_, g1.bel, g1.le⟩, ?_⟩
  · cases h2 : v2.ownBlock with
    | none => exact .inl rfl
    | some k =>
      right
      intro e
      rcases h.ne with h1 | h1
      · rw [h1] at e; cases e
      · exact h1 (by rw [← e, h2])
  · rcases hb with hb | hb
    · rw [hb]
      exact h.ne
    · right
      rw [hb]
      intro e
      have := ((h.two.alloc o).own.lt _ e.symm).2
      omega
/-- The worlds that are as W was in all that W has. -/
def Cls (W : World) : Type := { u : World // Below W.heap.size W u }
theorem Cls.ne (W : World) : Nonempty (Cls W) := ⟨⟨W, Below.refl _ _⟩⟩
theorem Cls.of {W : World} {f : FuncId} {args : Array Value} {v : Value} (x : Cls W)
    (h : ∀ u : World, Below W.heap.size W u → Calls Try.prog f args u fun e w' => e = .returned v ∧ Below u.heap.size u w') :
    Calls Try.prog f args x.1 fun e w'' => e = .returned v ∧ ∃ y : Cls W, w'' = y.1 :=
  (h x.1 x.2).mono fun _ w' ⟨he, hb⟩ => ⟨he, ⟨w', x.2.trans (hb.mono x.2.size)⟩, rfl⟩
theorem wp_region_cls {id : Nat} {Q : Exit → Act → World → Prop} {a : Act} (W : World) {l : List Oper} (hm : Try.prog.follows .mixedOrders = true) (hB : Region.lexB .any l.toArray = true)
    (h : wpQuiet Try.prog l.toArray (fun w' => ∃ x : Cls W, w' = x.1) (fun a' => ∀ w', (∃ x : Cls W, w' = x.1) → Q .normal a' w') l a) : (Code.region id l.toArray true).wp Try.prog Q a W :=
  wp_region_quiet (C := fun w' => ∃ x : Cls W, w' = x.1) hm hB ⟨⟨{ W with drawn := W.drawn + 1 }, ⟨rfl, rfl, rfl, Nat.le_refl _, fun _ _ => rfl⟩⟩, rfl⟩ (by simpa using h)
section
variable {o : Oper} {a : Act} {w : World} {K : Act → World → Prop} {Q : Exit → Act → World → Prop} {ops : Array Oper} {rest : List Oper} {QQ : Exit → Act → World → Prop}
end
end Go.Proofs.Ytoepmpjncddnlaa

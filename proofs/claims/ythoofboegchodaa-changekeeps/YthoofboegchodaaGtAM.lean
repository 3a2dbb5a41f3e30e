/- An array of four certificates, a row of requests: as cells, one read, one put; whole arrays as one step of a walk. -/
import Derived.Test.YthoofboegchodaaCgAM
import Derived.Test.YthoofboegchodaaChAM
import Derived.OwnWalk
namespace Go.Proofs.Ythoofboegchodaa
open Go.RowKit

theorem setAt_mid : ∀ (vs A B C : List Value), B.length = vs.length → setAt (A ++ (B ++ C)) A.length vs = A ++ (vs ++ C)
  | [], A, B, C, h => by
    obtain rfl := List.eq_nil_of_length_eq_zero h
    rfl
  | v :: vs, A, [], C, h => by cases h
  | v :: vs, A, b :: B, C, h => by
    have h1 : (A ++ (b :: B ++ C)).set A.length v = (A ++ [v]) ++ (B ++ C) := by simp
    rw [setAt, h1]
    have h2 := setAt_mid vs (A ++ [v]) B C (by simpa using h)
    rw [List.length_append] at h2
    rw [show A.length + 1 = A.length + [v].length from rfl, h2]
    simp
/-- A row of things, each of k cells. -/
theorem row_len {α : Type} {f : α → List Value} {k : Nat} (hf : ∀ x, (f x).length = k) : ∀ G : List α, (G.flatMap f).length = G.length * k
  | [] => by simp
  | x :: G => by rw [List.flatMap_cons, List.length_append, hf, row_len hf G, List.length_cons, Nat.succ_mul]; omega
theorem row_split {α : Type} {f : α → List Value} {G : List α} {i : Nat} {x : α} (h : G[i]? = some x) : G.flatMap f = (G.take i).flatMap f ++ (f x ++ (G.drop (i + 1)).flatMap f) := by
  obtain ⟨hl, he⟩ := List.getElem?_eq_some_iff.1 h
  conv => lhs; rw [← List.take_append_drop i G, List.drop_eq_getElem_cons hl, he]
  rw [List.flatMap_append, List.flatMap_cons]
theorem row_at {α : Type} {f : α → List Value} {k : Nat} (hf : ∀ x, (f x).length = k) {G : List α} {i : Nat} {x : α} (h : G[i]? = some x) (q : Nat) (hq : q < k) : (G.flatMap f)[i * k + q]? = (f x)[q]? := by
  obtain ⟨hl, _⟩ := List.getElem?_eq_some_iff.1 h
  have h1 : ((G.take i).flatMap f).length = i * k := by rw [row_len hf, List.length_take, Nat.min_eq_left (Nat.le_of_lt hl)]
  rw [row_split h, List.getElem?_append_right (by omega), h1, Nat.add_sub_cancel_left, List.getElem?_append_left (by rw [hf]; exact hq)]
theorem row_set {α : Type} {f : α → List Value} {k : Nat} (hf : ∀ x, (f x).length = k) {G : List α} {i : Nat} (hi : i < G.length) (y : α) : setAt (G.flatMap f) (i * k) (f y) = (G.set i y).flatMap f := by
  have h : G[i]? = some G[i] := List.getElem?_eq_getElem hi
  have h1 : ((G.take i).flatMap f).length = i * k := by rw [row_len hf, List.length_take, Nat.min_eq_left (Nat.le_of_lt hi)]
  have h2 : (G.set i y)[i]? = some y := by simp [hi]
  rw [row_split h, ← h1, setAt_mid _ _ _ _ (by rw [hf, hf]), row_split h2, List.take_set, List.drop_set, List.set_eq_of_length_le (l := G.take i) (by rw [List.length_take]; omega)]
  simp
theorem row_ext {α : Type} {f : α → List Value} {k : Nat} (hf : ∀ x, (f x).length = k) {G : List α} {i : Nat} {x : α} (h : G[i]? = some x) : (G.flatMap f).toArray.extract (i * k) (i * k + k) = (f x).toArray := by
  obtain ⟨hl, _⟩ := List.getElem?_eq_some_iff.1 h
  have h1 : ((G.take i).flatMap f).length = i * k := by rw [row_len hf, List.length_take, Nat.min_eq_left (Nat.le_of_lt hl)]
  apply Array.ext'
  rw [List.extract_toArray, List.extract_eq_take_drop, row_split h, Nat.add_sub_cancel_left, ← h1, List.drop_left]
  have h3 := hf x
  rw [← h3, List.take_left]
/-- Four certificates, each with where its signatures lie. -/
def gcF (p : Ct × Value) : List Value := ctC p.1 p.2
def gC (G : List (Ct × Value)) : List Value := G.flatMap gcF
theorem gcF_len (p : Ct × Value) : (gcF p).length = 9 := rfl
def rqC (r : Rq) : List Value := [.int .i64 r.c, .int .i64 r.st, .int .i64 r.k, .string r.key, .float .f64 r.b, .int .i64 r.id]
def rC (l : List Rq) : List Value := l.flatMap rqC
theorem rqC_len (r : Rq) : (rqC r).length = 6 := rfl
def nilV : Value := .slice none 0 0
def z4 : List (Ct × Value) := [(ct0, nilV), (ct0, nilV), (ct0, nilV), (ct0, nilV)]
/-- The greatest certificates out of cs, slot by slot. -/
structure GOk (ep : Int) (cs : List Ct) (G : List (Ct × Value)) : Prop where
  len : G.length = 4
  all : ∀ i : Nat, i < 4 → ∃ a k, G[i]? = some ((bstOf (4 * ep + 1 + (i : Int)) cs).getD ct0, .slice a ((bstOf (4 * ep + 1 + (i : Int)) cs).getD ct0).2.2.2.length k)
theorem GOk.new (ep : Int) : GOk ep [] z4 := ⟨rfl, fun i hi => by
  match i, hi with
  | 0, _ => exact ⟨none, 0, rfl⟩
  | 1, _ => exact ⟨none, 0, rfl⟩
  | 2, _ => exact ⟨none, 0, rfl⟩
  | 3, _ => exact ⟨none, 0, rfl⟩⟩
theorem slot_ne {ep : Int} {y : Ct} {ix i : Nat} (hs : y.2.1 = 4 * ep + 1 + (ix : Int)) (h : i ≠ ix) : ¬ y.2.1 = 4 * ep + 1 + (i : Int) := by omega
theorem GOk.put {ep : Int} {cs : List Ct} {G : List (Ct × Value)} (h : GOk ep cs G) (y : Ct) (ix : Nat) (hx : ix < 4) (hs : y.2.1 = 4 * ep + 1 + (ix : Int)) (a : Option Addr) (k : Nat) (hnew : bstOf (4 * ep + 1 + (ix : Int)) (cs ++ [y]) = some y) : GOk ep (cs ++ [y]) (G.set ix (y, .slice a y.2.2.2.length k)) := by
  refine ⟨by rw [List.length_set]; exact h.len, fun i hi => ?_⟩
  by_cases e : i = ix
  · subst e
    rw [hnew]
    exact ⟨a, k, by simp [h.len, hx]⟩
  · rw [bstOf_snoc, if_neg (slot_ne hs e)]
    obtain ⟨a2, k2, h2⟩ := h.all i hi
    exact ⟨a2, k2, by rw [List.getElem?_set_ne (fun e2 => e e2.symm)]; exact h2⟩
theorem GOk.stay {ep : Int} {cs : List Ct} {G : List (Ct × Value)} (h : GOk ep cs G) (y : Ct) (ix : Nat) (hs : y.2.1 = 4 * ep + 1 + (ix : Int)) (hold : bstOf (4 * ep + 1 + (ix : Int)) (cs ++ [y]) = bstOf (4 * ep + 1 + (ix : Int)) cs) : GOk ep (cs ++ [y]) G := by
  refine ⟨h.len, fun i hi => ?_⟩
  by_cases e : i = ix
  · subst e
    rw [hold]
    exact h.all i hi
  · rw [bstOf_snoc, if_neg (slot_ne hs e)]
    exact h.all i hi
/-- How far requests go, of the first j. -/
def cntTo (G : List (Ct × Value)) : Nat → Nat
  | 0 => 0
  | j + 1 => if (G.getD j (ct0, nilV)).1.2.2.2.length = 0 then cntTo G j else j + 1
theorem cntTo_le (G : List (Ct × Value)) : ∀ j, cntTo G j ≤ j
  | 0 => Nat.le_refl _
  | j + 1 => by
    rw [cntTo]
    have := cntTo_le G j
    split <;> omega
theorem GOk.none {ep : Int} {cs : List Ct} {G : List (Ct × Value)} (h : GOk ep cs G) (hne : ∀ y ∈ cs, y.2.2.2.length ≠ 0) (i : Nat) (hi : i < 4) : (G.getD i (ct0, nilV)).1.2.2.2.length = 0 ↔ (bstOf (4 * ep + 1 + (i : Int)) cs).isSome = false := by
  obtain ⟨a, k, hg⟩ := h.all i hi
  rw [List.getD_eq_getElem?_getD, hg]
  cases hb : bstOf (4 * ep + 1 + (i : Int)) cs with
  | none => simp [ct0]
  | some y =>
    have := hne y (bstOf_mem hb).1
    simp [this]
theorem GOk.last {ep : Int} {cs : List Ct} {G : List (Ct × Value)} (h : GOk ep cs G) (hne : ∀ y ∈ cs, y.2.2.2.length ≠ 0) : cntTo G 4 = lstOf ep cs := by
  have h0 := h.none hne 0 (by omega)
  have h1 := h.none hne 1 (by omega)
  have h2 := h.none hne 2 (by omega)
  have h3 := h.none hne 3 (by omega)
  rw [show 4 * ep + 1 + ((0 : Nat) : Int) = 4 * ep + 1 by omega] at h0
  rw [show 4 * ep + 1 + ((1 : Nat) : Int) = 4 * ep + 2 by omega] at h1
  rw [show 4 * ep + 1 + ((2 : Nat) : Int) = 4 * ep + 3 by omega] at h2
  rw [show 4 * ep + 1 + ((3 : Nat) : Int) = 4 * ep + 4 by omega] at h3
  simp only [cntTo, lstOf, h0, h1, h2, h3]
  cases (bstOf (4 * ep + 4) cs).isSome <;> cases (bstOf (4 * ep + 3) cs).isSome <;> cases (bstOf (4 * ep + 2) cs).isSome <;> cases (bstOf (4 * ep + 1) cs).isSome <;> simp
theorem GOk.req {ep : Int} {cs : List Ct} {G : List (Ct × Value)} (h : GOk ep cs G) (i : Nat) (hi : i < 4) : (G.getD i (ct0, nilV)).1.2.2.1 = rqOf (bstOf (4 * ep + 1 + (i : Int)) cs) := by
  obtain ⟨a, k, hg⟩ := h.all i hi
  rw [List.getD_eq_getElem?_getD, hg]
  cases hb : bstOf (4 * ep + 1 + (i : Int)) cs with
  | none => rfl
  | some y => rfl
section
variable {o : Oper} {a : Act} {w : World} {K : Act → World → Prop} {Q : Exit → Act → World → Prop} {ops : Array Oper} {rest : List Oper}
/-- Part of an array of structs. -/
theorem wl_index_agg (hgd : o.guard = none) (t : TypeId) (x ix : Operand) (ho : o.op = .index t x ix) (cs : Array Value) (hx : a.eval x = .agg cs) (k : IntKind) (i : Int) (hix : a.eval ix = .int k i) (n : Nat) (e : TypeId) (hu : Try.prog.underlying t = some (.array n e))
    (de : TypeDesc) (hue : Try.prog.underlying e = some de) (hd : (match de with | .struct _ | .array _ _ => true | _ => false) = true) (sz : Nat) (hs : (Try.prog.info? e).map (·.size) = some sz) (h0 : 0 ≤ i) (h1 : i < n) (v : Array Value) (hv : cs.extract (i.toNat * sz) (i.toNat * sz + sz) = v)
    (h : wpList Try.prog ops Q rest (a.put o.dst (.agg v)) w) : wpList Try.prog ops Q (o :: rest) a w := by
  refine wpList_plain hgd fun _ hK => ?_
  refine owp_value (v := .agg v) (w' := w) ?_ (hK _ _ h)
  cases hq : Try.prog.info? e with
  | none => simp [hq] at hs
  | some i' =>
    simp [hq] at hs
    have ha : (isAgg e).run Try.prog w = .ok true w := by
      simp only [isAgg, Sem.run_bind, run_underlying hue, Result.andThen]
      cases de <;> simp_all
    simp [execOp, ho, Instr.index, hx, hix, asIntOf, run_underlying hu, h0, h1, sizeOf, typeInfo, hq, hs, part, ha, hv, Result.andThen]
theorem wl_load_arr (hgd : o.guard = none) (T : TypeId) (p : Operand) (ho : o.op = .load T p) (b off : Nat) (hp : a.eval p = .pointer (some ⟨b, off, none⟩)) (L : List Value) (TB : TypeId) (hL : w.heap[b]? = some (.cells L.toArray TB (0, 0))) (d : TypeDesc) (hu : Try.prog.underlying T = some d) (hd : d.isRow = true) (hi : (Try.prog.info? T).map (·.size) = some L.length)
    (h0 : off = 0) (h : wpList Try.prog ops Q rest (a.put o.dst (.agg L.toArray)) w) : wpList Try.prog ops Q (o :: rest) a w := by
  subst h0
  refine wpList_plain hgd fun K hK => ?_
  exact wp_load_mid T p ho b 0 hp L d (fun j v hv => by rw [Nat.zero_add]; exact cell_at hL j v hv) hu hd hi (hK _ _ h)
theorem wl_alloc_arr (hgd : o.guard = none) (t : TypeId) (ho : o.op = .alloc t) (z : Array Value) (n : Nat) (hz : (Try.prog.info? t).map (fun i => (i.zero, i.size)) = some (some (.agg z), n))
    (h : wpList Try.prog ops Q rest (a.put o.dst (.pointer (some ⟨w.heap.size, 0, none⟩))) (w.alloc (.cells z t))) : wpList Try.prog ops Q (o :: rest) a w := by
  refine wpList_plain hgd fun _ hK => ?_
  refine owp_value (v := .pointer (some ⟨w.heap.size, 0, none⟩)) (w' := w.alloc (.cells z t)) ?_ (hK _ _ h)
  have := (zero_of_info hz).1 w
  simp [execOp, ho, Instr.alloc, this, newVar, newRow, newObj, Value.cells, Result.andThen]
  rfl
theorem wl_box_arr (hgd : o.guard = none) (t : TypeId) (x : Operand) (ho : o.op = .box t x) (c : Array Value) (hx : a.eval x = .agg c)
    (h : wpList Try.prog ops Q rest (a.put o.dst (.pointer (some ⟨w.heap.size, 0, none⟩))) (w.alloc (.cells c t))) : wpList Try.prog ops Q (o :: rest) a w := by
  refine wpList_plain hgd fun _ hK => ?_
  refine owp_value (v := .pointer (some ⟨w.heap.size, 0, none⟩)) (w' := w.alloc (.cells c t)) ?_ (hK _ _ h)
  simp [execOp, ho, Instr.box, hx, newVar, newRow, newObj, Value.cells, Result.andThen]
  rfl
end
end Go.Proofs.Ythoofboegchodaa

/- Whole arrays by value as one step of a walk: made, boxed, loaded, stored, built, indexed; a string copied into a row. -/
import Derived.Test.YtebhkifjommpjaaShB
import Derived.Laws.CopyOwn
namespace Go.Proofs.Ytebhkifjommpjaa
open Go.RowKit

section
variable {P : Program} {o : Oper} {a : Act} {w : World} {K : Act → World → Prop} {Q : Exit → Act → World → Prop}

theorem owp_alloc_row (t : TypeId) (ho : o.op = .alloc t) (z : Array Value) (n : Nat) (hz : (P.info? t).map (fun i => (i.zero, i.size)) = some (some (.agg z), n))
    (h : K (a.put o.dst (.pointer (some ⟨w.heap.size, 0, none⟩))) (w.alloc (.cells z t))) : o.wp P a w K Q := by
  refine owp_value (v := .pointer (some ⟨w.heap.size, 0, none⟩)) (w' := w.alloc (.cells z t)) ?_ h
  have := (zero_of_info hz).1 w
  simp [execOp, ho, Instr.alloc, this, newVar, newRow, newObj, Value.cells, Result.andThen]
  rfl
theorem owp_box_row (t : TypeId) (x : Operand) (ho : o.op = .box t x) (c : Array Value) (hx : a.eval x = .agg c)
    (h : K (a.put o.dst (.pointer (some ⟨w.heap.size, 0, none⟩))) (w.alloc (.cells c t))) : o.wp P a w K Q := by
  refine owp_value (v := .pointer (some ⟨w.heap.size, 0, none⟩)) (w' := w.alloc (.cells c t)) ?_ h
  simp [execOp, ho, Instr.box, hx, newVar, newRow, newObj, Value.cells, Result.andThen]
  rfl
theorem run_load_row (t : TypeId) (g off : Nat) (cs : List Value) (d : TypeDesc) (hu : P.underlying t = some d) (hd : (match d with | .struct _ | .array _ _ => true | _ => false) = true)
    (n : Nat) (hn : cs.length = n) (hi : (P.info? t).map (·.size) = some n) (hc : ∀ j v, cs[j]? = some v → w.cell? ⟨g, off + j, none⟩ = some v) :
    (loadVar t ⟨g, off, none⟩).run P w = .ok (.agg cs.toArray) w := by
  subst hn
  have hl : (loadCells ⟨g, off, none⟩ cs.length).run P w = .ok cs.toArray w :=
    run_loadCells_list (P := P) w ⟨g, off, none⟩ cs (fun j v hv => by
      rw [show (⟨g, off, none⟩ : Addr).add j = ⟨g, off + j, none⟩ by unfold Addr.add; split <;> simp_all]
      exact hc j v hv)
  cases hq : P.info? t with
  | none => simp [hq] at hi
  | some i =>
    simp [hq] at hi
    have ha : (isAgg t).run P w = .ok true w := by
      simp only [isAgg, Sem.run_bind, run_underlying hu, Result.andThen]
      cases d <;> simp_all
    simp [loadVar, ha, sizeOf, typeInfo, hq, hi, hl, Result.andThen]
theorem owp_load_row (t : TypeId) (p : Operand) (ho : o.op = .load t p) (g off : Nat) (hp : a.eval p = .pointer (some ⟨g, off, none⟩)) (cs : List Value) (d : TypeDesc) (hu : P.underlying t = some d) (hd : (match d with | .struct _ | .array _ _ => true | _ => false) = true)
    (n : Nat) (hn : cs.length = n) (hi : (P.info? t).map (·.size) = some n) (hc : ∀ j v, cs[j]? = some v → w.cell? ⟨g, off + j, none⟩ = some v)
    (h : K (a.put o.dst (.agg cs.toArray)) w) : o.wp P a w K Q := by
  refine owp_value (v := .agg cs.toArray) (w' := w) ?_ h
  have := run_load_row (P := P) (w := w) t g off cs d hu hd n hn hi hc
  simp [execOp, ho, Instr.loadAt, Instr.sureAddr, hp, this, Result.andThen]
theorem run_store_row (t t' : TypeId) (g off : Nat) (cur cs : List Value) (hg : w.heap[g]? = some (.cells cur.toArray t' (0, 0)))
    (n : Nat) (hn : cs.length = n) (hi : (P.info? t).map (·.size) = some n) (hf : off + n ≤ cur.length) (h1 : ∀ v ∈ cs, v.oneCell' = true) :
    (storeVar t ⟨g, off, none⟩ (.agg cs.toArray)).run P w = .ok () (w.setRow g (splice cur off cs).toArray) := by
  subst hn
  have hst := run_storeCells_at P g off t' cs 0 cur.toArray w hg (by simpa using hf) h1
  cases hq : P.info? t with
  | none => simp [hq] at hi
  | some i =>
    simp [hq] at hi
    simp only [Nat.add_zero] at hst
    simp [storeVar, Value.cells, sizeOf, typeInfo, hq, hi, hst, splice, Result.andThen]
theorem owp_store_row (t : TypeId) (p x : Operand) (ho : o.op = .store t p x) (g off : Nat) (hp : a.eval p = .pointer (some ⟨g, off, none⟩)) (t' : TypeId) (cur cs : List Value) (hx : a.eval x = .agg cs.toArray)
    (hg : w.heap[g]? = some (.cells cur.toArray t' (0, 0)))
    (n : Nat) (hn : cs.length = n) (hi : (P.info? t).map (·.size) = some n) (hf : off + n ≤ cur.length) (h1 : ∀ v ∈ cs, v.oneCell' = true)
    (h : ∀ w', Hid (w'.heap[g]? = some (.cells (splice cur off cs).toArray t' (0, 0))) → Hid (w' = w.setRow g (splice cur off cs).toArray) → K (a.put o.dst undef) w') : o.wp P a w K Q := by
  refine owp_skip (w' := w.setRow g (splice cur off cs).toArray) ?_ (h _ ?_ ?_)
  · have := run_store_row (P := P) (w := w) t t' g off cur cs hg n hn hi hf h1
    simp [execOp, ho, Instr.storeAt, Instr.sureAddr, hp, hx, this, Result.andThen]
  · exact setRow_heap w g _ _ t' _ hg
  · exact (rfl : w.setRow g (splice cur off cs).toArray = w.setRow g (splice cur off cs).toArray)
theorem owp_index_row (t : TypeId) (x ix : Operand) (ho : o.op = .index t x ix) (cs : Array Value) (hx : a.eval x = .agg cs) (k : IntKind) (i : Int) (hix : a.eval ix = .int k i) (n : Nat) (e : TypeId) (hu : P.underlying t = some (.array n e))
    (de : TypeDesc) (hue : P.underlying e = some de) (hd : (match de with | .struct _ | .array _ _ => true | _ => false) = false) (hs : (P.info? e).map (·.size) = some 1) (h0 : 0 ≤ i) (h1 : i < n) (v : Value) (hv : cs[i.toNat]? = some v)
    (h : K (a.put o.dst v) w) : o.wp P a w K Q := by
  refine owp_value (v := v) (w' := w) ?_ h
  cases hq : P.info? e with
  | none => simp [hq] at hs
  | some i' =>
    simp [hq] at hs
    have ha : (isAgg e).run P w = .ok false w := by
      simp only [isAgg, Sem.run_bind, run_underlying hue, Result.andThen]
      cases de <;> simp_all
    simp [execOp, ho, Instr.index, hx, hix, asIntOf, run_underlying hu, h0, h1, sizeOf, typeInfo, hq, hs, part, ha, hv, Result.andThen]

/-- A string's beginning copied into a row. -/
theorem run_copy_prefix (dT sT ty elem : TypeId) (g off dLen dCap : Nat) (s : ByteArray) (cur cs : List Value) (t : TypeId)
    (hu : P.underlying dT = some (.slice elem)) (hs : (P.info? elem).map (·.size) = some 1) (hg : w.heap[g]? = some (.cells cur.toArray t (0, 0)))
    (hcs : cs = (s.data.toList.take dLen).map fun b : UInt8 => Value.int .u8 (b.toNat : Int)) (hfit : off + cs.length ≤ cur.length) :
    (Builtin.copy_ #[dT, sT] ty #[.slice (some ⟨g, off, none⟩) dLen dCap, .string s]).run P w =
      .ok (goInt cs.length) (w.setRow g (splice cur off cs).toArray) := by
  have h1 : ∀ v ∈ cs, v.oneCell' = true := by
    intro v hv
    rw [hcs] at hv
    obtain ⟨x, _, rfl⟩ := List.mem_map.1 hv
    rfl
  have hst := run_storeCells_at P g off t cs 0 cur.toArray w hg (by simpa using hfit) h1
  have hlen : cs.length = Nat.min s.size dLen := by
    rw [hcs, List.length_map, List.length_take, Nat.min_comm]
    rfl
  have htk : List.take (Nat.min s.size dLen) (List.map (fun b : UInt8 => Value.int IntKind.u8 (b.toNat : Int)) s.data.toList) = cs := by
    rw [hcs, List.map_take]
    have e : (List.map (fun b : UInt8 => Value.int IntKind.u8 (b.toNat : Int)) s.data.toList).length = s.size := by rw [List.length_map]; rfl
    rw [show Nat.min s.size dLen = min s.size dLen from rfl, ← e]
    by_cases h : (List.map (fun b : UInt8 => Value.int IntKind.u8 (b.toNat : Int)) s.data.toList).length ≤ dLen
    · rw [Nat.min_eq_left h, List.take_of_length_le h, List.take_of_length_le (Nat.le_refl _)]
    · rw [Nat.min_eq_right (by omega)]
  cases hq : P.info? elem with
  | none => simp [hq] at hs
  | some i =>
    simp only [Nat.add_zero] at hst
    simp only [hlen] at hst ⊢
    simp [Builtin.copy_, run_underlying hu, Builtin.lenOf, Builtin.firstCells, sizeOf, typeInfo, hq]
    rw [htk, hst]
    simp [Result.andThen, splice, hlen]
theorem owp_copy_prefix (d x : Operand) (dT sT : TypeId) (ho : o.op = .call { callee := .builtin .copy, args := #[d, x], argTypes := #[dT, sT] })
    (g off dLen dCap : Nat) (hd : a.eval d = .slice (some ⟨g, off, none⟩) dLen dCap) (s : ByteArray) (hx : a.eval x = .string s) (elem : TypeId) (cur cs : List Value) (t : TypeId)
    (hu : P.underlying dT = some (.slice elem)) (hs : (P.info? elem).map (·.size) = some 1) (hg : w.heap[g]? = some (.cells cur.toArray t (0, 0)))
    (hcs : cs = (s.data.toList.take dLen).map fun b : UInt8 => Value.int .u8 (b.toNat : Int)) (hfit : off + cs.length ≤ cur.length)
    (h : ∀ w', Hid (w'.heap[g]? = some (.cells (splice cur off cs).toArray t (0, 0))) → Hid (w' = w.setRow g (splice cur off cs).toArray) → K (a.put o.dst (.int .i64 cs.length)) w') : o.wp P a w K Q := by
  refine owp_value (v := .int .i64 cs.length) (w' := w.setRow g (splice cur off cs).toArray) ?_ (h _ ?_ ?_)
  · have hrun := run_copy_prefix (P := P) (w := w) dT sT o.type elem g off dLen dCap s cur cs t hu hs hg hcs hfit
    simp [execOp, ho, resolve, invoke, builtin, hd, hx, hrun, goInt, Result.andThen]
  · exact setRow_heap w g _ _ t _ hg
  · exact (rfl : w.setRow g (splice cur off cs).toArray = w.setRow g (splice cur off cs).toArray)
/-- A row built out of parts. -/
theorem owp_build_row (t : TypeId) (parts : Array (Nat × Operand)) (ho : o.op = .build t parts) (v : Value) (hrun : (Instr.build t (parts.map fun (i, x) => (i, a.eval x))).run P w = .ok v w)
    (h : K (a.put o.dst v) w) : o.wp P a w K Q := by
  refine owp_value (v := v) (w' := w) ?_ h
  simp [execOp, ho, hrun, Result.andThen]
variable {ops : Array Oper} {rest : List Oper}
theorem wl_alloc_row (hgd : o.guard = none) (t : TypeId) (ho : o.op = .alloc t) (z : Array Value) (n : Nat) (hz : (P.info? t).map (fun i => (i.zero, i.size)) = some (some (.agg z), n))
    (h : wpList P ops Q rest (a.put o.dst (.pointer (some ⟨w.heap.size, 0, none⟩))) (w.alloc (.cells z t))) : wpList P ops Q (o :: rest) a w :=
  wpList_plain hgd fun _ hK => owp_alloc_row t ho z n hz (hK _ _ h)
theorem wl_box_row (hgd : o.guard = none) (t : TypeId) (x : Operand) (ho : o.op = .box t x) (c : Array Value) (hx : a.eval x = .agg c)
    (h : wpList P ops Q rest (a.put o.dst (.pointer (some ⟨w.heap.size, 0, none⟩))) (w.alloc (.cells c t))) : wpList P ops Q (o :: rest) a w :=
  wpList_plain hgd fun _ hK => owp_box_row t x ho c hx (hK _ _ h)
theorem wl_load_row (hgd : o.guard = none) (t : TypeId) (p : Operand) (ho : o.op = .load t p) (g off : Nat) (hp : a.eval p = .pointer (some ⟨g, off, none⟩)) (cs : List Value) (d : TypeDesc) (hu : P.underlying t = some d) (hd : (match d with | .struct _ | .array _ _ => true | _ => false) = true)
    (n : Nat) (hn : cs.length = n) (hi : (P.info? t).map (·.size) = some n) (hc : ∀ j v, cs[j]? = some v → w.cell? ⟨g, off + j, none⟩ = some v)
    (h : wpList P ops Q rest (a.put o.dst (.agg cs.toArray)) w) : wpList P ops Q (o :: rest) a w :=
  wpList_plain hgd fun _ hK => owp_load_row t p ho g off hp cs d hu hd n hn hi hc (hK _ _ h)
theorem wl_store_row (hgd : o.guard = none) (t : TypeId) (p x : Operand) (ho : o.op = .store t p x) (g off : Nat) (hp : a.eval p = .pointer (some ⟨g, off, none⟩)) (t' : TypeId) (cur cs : List Value) (hx : a.eval x = .agg cs.toArray)
    (hg : w.heap[g]? = some (.cells cur.toArray t' (0, 0)))
    (n : Nat) (hn : cs.length = n) (hi : (P.info? t).map (·.size) = some n) (hf : off + n ≤ cur.length) (h1 : ∀ v ∈ cs, v.oneCell' = true)
    (h : ∀ w', Hid (w'.heap[g]? = some (.cells (splice cur off cs).toArray t' (0, 0))) → Hid (w' = w.setRow g (splice cur off cs).toArray) → wpList P ops Q rest (a.put o.dst undef) w') : wpList P ops Q (o :: rest) a w :=
  wpList_plain hgd fun _ hK => owp_store_row t p x ho g off hp t' cur cs hx hg n hn hi hf h1 (fun w' h1 h2 => hK _ _ (h w' h1 h2))
theorem wl_index_row (hgd : o.guard = none) (t : TypeId) (x ix : Operand) (ho : o.op = .index t x ix) (cs : Array Value) (hx : a.eval x = .agg cs) (k : IntKind) (i : Int) (hix : a.eval ix = .int k i) (n : Nat) (e : TypeId) (hu : P.underlying t = some (.array n e))
    (de : TypeDesc) (hue : P.underlying e = some de) (hd : (match de with | .struct _ | .array _ _ => true | _ => false) = false) (hs : (P.info? e).map (·.size) = some 1) (h0 : 0 ≤ i) (h1 : i < n) (v : Value) (hv : cs[i.toNat]? = some v)
    (h : wpList P ops Q rest (a.put o.dst v) w) : wpList P ops Q (o :: rest) a w :=
  wpList_plain hgd fun _ hK => owp_index_row t x ix ho cs hx k i hix n e hu de hue hd hs h0 h1 v hv (hK _ _ h)
theorem wl_copy_prefix (hgd : o.guard = none) (d x : Operand) (dT sT : TypeId) (ho : o.op = .call { callee := .builtin .copy, args := #[d, x], argTypes := #[dT, sT] })
    (g off dLen dCap : Nat) (hd : a.eval d = .slice (some ⟨g, off, none⟩) dLen dCap) (s : ByteArray) (hx : a.eval x = .string s) (elem : TypeId) (cur cs : List Value) (t : TypeId)
    (hu : P.underlying dT = some (.slice elem)) (hs : (P.info? elem).map (·.size) = some 1) (hg : w.heap[g]? = some (.cells cur.toArray t (0, 0)))
    (hcs : cs = (s.data.toList.take dLen).map fun b : UInt8 => Value.int .u8 (b.toNat : Int)) (hfit : off + cs.length ≤ cur.length)
    (h : ∀ w', Hid (w'.heap[g]? = some (.cells (splice cur off cs).toArray t (0, 0))) → Hid (w' = w.setRow g (splice cur off cs).toArray) → wpList P ops Q rest (a.put o.dst (.int .i64 cs.length)) w') : wpList P ops Q (o :: rest) a w :=
  wpList_plain hgd fun _ hK => owp_copy_prefix d x dT sT ho g off dLen dCap hd s hx elem cur cs t hu hs hg hcs hfit (fun w' h1 h2 => hK _ _ (h w' h1 h2))
theorem wl_build_row (hgd : o.guard = none) (t : TypeId) (parts : Array (Nat × Operand)) (ho : o.op = .build t parts) (v : Value) (hrun : (Instr.build t (parts.map fun (i, x) => (i, a.eval x))).run P w = .ok v w)
    (h : wpList P ops Q rest (a.put o.dst v) w) : wpList P ops Q (o :: rest) a w :=
  wpList_plain hgd fun _ hK => owp_build_row t parts ho v hrun (hK _ _ h)
end

end Go.Proofs.Ytebhkifjommpjaa

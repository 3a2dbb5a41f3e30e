/- Texts laid together: ShW ShC ShD ShE ShF ShG ShH ShI. -/
import Derived.Test.YtchlmcpnjpllnaaX03
import Derived.Laws.CopyOwn
import Derived.Deep.RegionHeld3
import Derived.Deep.DrawnRows
import Derived.BigQuiet
import Derived.Laws.MakeOwn
import Derived.Laws.IdiomStrings
import Derived.Maps.AppendAt
import Derived.Deep.AppendLies
/- Whole arrays by value as one step of a walk: made, boxed, loaded, stored, built, indexed; a string copied into a row. -/
namespace Go.Proofs.Ytchlmcpnjpllnaa
open Go.RowKit

section
variable {P : Program} {o : Oper} {a : Act} {w : World} {K : Act → World → Prop} {Q : Exit → Act → World → Prop}

theorem owp_alloc_row (t : TypeId) (ho : o.op = .alloc t) (z : Array Value) (n : Nat) (hz : (P.info? t).map (fun i => (i.zero, i.size)) = some (some (.agg z), n))
    (h : K (a.put o.dst (.pointer (some ⟨w.heap.size, 0, none⟩))) (w.alloc (.cells z t))) : o.wp P a w K Q := by
  refine owp_value (v := .pointer (some ⟨w.heap.size, 0, none⟩)) (w' := w.alloc (.cells z t)) ?_ h
  have := (zero_of_info hz).1 w
  simp [execOp, ho, Instr.alloc, this, newVar, newRow, newObj, Value.cells, Result.andThen]
  rfl
theorem owp_box_row (t : TypeId) (x : Operand) (ho : o.op = .box t x) (c : Array Value) (hx : a.eval x = .agg c)
    (h : K (a.put o.dst (.pointer (some ⟨w.heap.size, 0, none⟩))) (w.alloc (.cells c t))) : o.wp P a w K Q := by
  refine owp_value (v := .pointer (some ⟨w.heap.size, 0, none⟩)) (w' := w.alloc (.cells c t)) ?_ h
  simp [execOp, ho, Instr.box, hx, newVar, newRow, newObj, Value.cells, Result.andThen]
  rfl
theorem run_load_row (t : TypeId) (g off : Nat) (cs : List Value) (d : TypeDesc) (hu : P.underlying t = some d) (hd : (match d with | .struct _ | .array _ _ => true | _ => false) = true)
    (n : Nat) (hn : cs.length = n) (hi : (P.info? t).map (·.size) = some n) (hc : ∀ j v, cs[j]? = some v → w.cell? ⟨g, off + j, none⟩ = some v) :
    (loadVar t ⟨g, off, none⟩).run P w = .ok (.agg cs.toArray) w := by
  subst hn
  have hl : (loadCells ⟨g, off, none⟩ cs.length).run P w = .ok cs.toArray w :=
    run_loadCells_list (P := P) w ⟨g, off, none⟩ cs (fun j v hv => by
      rw [show (⟨g, off, none⟩ : Addr).add j = ⟨g, off + j, none⟩ by unfold Addr.add; split <;> simp_all]
      exact hc j v hv)
  cases hq : P.info? t with
  | none => simp [hq] at hi
  | some i =>
    simp [hq] at hi
    have ha : (isAgg t).run P w = .ok true w := by
      simp only [isAgg, Sem.run_bind, run_underlying hu, Result.andThen]
      cases d <;> simp_all
    simp [loadVar, ha, sizeOf, typeInfo, hq, hi, hl, Result.andThen]
theorem owp_load_row (t : TypeId) (p : Operand) (ho : o.op = .load t p) (g off : Nat) (hp : a.eval p = .pointer (some ⟨g, off, none⟩)) (cs : List Value) (d : TypeDesc) (hu : P.underlying t = some d) (hd : (match d with | .struct _ | .array _ _ => true | _ => false) = true)
    (n : Nat) (hn : cs.length = n) (hi : (P.info? t).map (·.size) = some n) (hc : ∀ j v, cs[j]? = some v → w.cell? ⟨g, off + j, none⟩ = some v)
    (h : K (a.put o.dst (.agg cs.toArray)) w) : o.wp P a w K Q := by
  refine owp_value (v := .agg cs.toArray) (w' := w) ?_ h
  have := run_load_row (P := P) (w := w) t g off cs d hu hd n hn hi hc
  simp [execOp, ho, Instr.loadAt, Instr.sureAddr, hp, this, Result.andThen]
theorem run_store_row (t t' : TypeId) (g off : Nat) (cur cs : List Value) (hg : w.heap[g]? = some (.cells cur.toArray t' (0, 0)))
    (n : Nat) (hn : cs.length = n) (hi : (P.info? t).map (·.size) = some n) (hf : off + n ≤ cur.length) (h1 : ∀ v ∈ cs, v.oneCell' = true) :
    (storeVar t ⟨g, off, none⟩ (.agg cs.toArray)).run P w = .ok () (w.setRow g (splice cur off cs).toArray) := by
  subst hn
  have hst := run_storeCells_at P g off t' cs 0 cur.toArray w hg (by simpa using hf) h1
  cases hq : P.info? t with
  | none => simp [hq] at hi
  | some i =>
    simp [hq] at hi
    simp only [Nat.add_zero] at hst
    simp [storeVar, Value.cells, sizeOf, typeInfo, hq, hi, hst, splice, Result.andThen]
theorem owp_store_row (t : TypeId) (p x : Operand) (ho : o.op = .store t p x) (g off : Nat) (hp : a.eval p = .pointer (some ⟨g, off, none⟩)) (t' : TypeId) (cur cs : List Value) (hx : a.eval x = .agg cs.toArray)
    (hg : w.heap[g]? = some (.cells cur.toArray t' (0, 0)))
    (n : Nat) (hn : cs.length = n) (hi : (P.info? t).map (·.size) = some n) (hf : off + n ≤ cur.length) (h1 : ∀ v ∈ cs, v.oneCell' = true)
    (h : ∀ w', Hid (w'.heap[g]? = some (.cells (splice cur off cs).toArray t' (0, 0))) → Hid (w' = w.setRow g (splice cur off cs).toArray) → K (a.put o.dst undef) w') : o.wp P a w K Q := by
  refine owp_skip (w' := w.setRow g (splice cur off cs).toArray) ?_ (h _ ?_ ?_)
  · have := run_store_row (P := P) (w := w) t t' g off cur cs hg n hn hi hf h1
    simp [execOp, ho, Instr.storeAt, Instr.sureAddr, hp, hx, this, Result.andThen]
  · exact setRow_heap w g _ _ t' _ hg
  · exact (rfl : w.setRow g (splice cur off cs).toArray = w.setRow g (splice cur off cs).toArray)
theorem owp_index_row (t : TypeId) (x ix : Operand) (ho : o.op = .index t x ix) (cs : Array Value) (hx : a.eval x = .agg cs) (k : IntKind) (i : Int) (hix : a.eval ix = .int k i) (n : Nat) (e : TypeId) (hu : P.underlying t = some (.array n e))
    (de : TypeDesc) (hue : P.underlying e = some de) (hd : (match de with | .struct _ | .array _ _ => true | _ => false) = false) (hs : (P.info? e).map (·.size) = some 1) (h0 : 0 ≤ i) (h1 : i < n) (v : Value) (hv : cs[i.toNat]? = some v)
    (h : K (a.put o.dst v) w) : o.wp P a w K Q := by
  refine owp_value (v := v) (w' := w) ?_ h
  cases hq : P.info? e with
  | none => simp [hq] at hs
  | some i' =>
    simp [hq] at hs
    have ha : (isAgg e).run P w = .ok false w := by
      simp only [isAgg, Sem.run_bind, run_underlying hue, Result.andThen]
      cases de <;> simp_all
    simp [execOp, ho, Instr.index, hx, hix, asIntOf, run_underlying hu, h0, h1, sizeOf, typeInfo, hq, hs, part, ha, hv, Result.andThen]

/-- A string's beginning copied into a row. -/
theorem run_copy_prefix (dT sT ty elem : TypeId) (g off dLen dCap : Nat) (s : ByteArray) (cur cs : List Value) (t : TypeId)
    (hu : P.underlying dT = some (.slice elem)) (hs : (P.info? elem).map (·.size) = some 1) (hg : w.heap[g]? = some (.cells cur.toArray t (0, 0)))
    (hcs : cs = (s.data.toList.take dLen).map fun b : UInt8 => Value.int .u8 (b.toNat : Int)) (hfit : off + cs.length ≤ cur.length) :
    (Builtin.copy_ #[dT, sT] ty #[.slice (some ⟨g, off, none⟩) dLen dCap, .string s]).run P w =
      .ok (goInt cs.length) (w.setRow g (splice cur off cs).toArray) := by
  have h1 : ∀ v ∈ cs, v.oneCell' = true := by
    intro v hv
    rw [hcs] at hv
    obtain ⟨x, _, rfl⟩ := List.mem_map.1 hv
    rfl
  have hst := run_storeCells_at P g off t cs 0 cur.toArray w hg (by simpa using hfit) h1
  have hlen : cs.length = Nat.min s.size dLen := by
    rw [hcs, List.length_map, List.length_take, Nat.min_comm]
    rfl
  have htk : List.take (Nat.min s.size dLen) (List.map (fun b : UInt8 => Value.int IntKind.u8 (b.toNat : Int)) s.data.toList) = cs := by
    rw [hcs, List.map_take]
    have e : (List.map (fun b : UInt8 => Value.int IntKind.u8 (b.toNat : Int)) s.data.toList).length = s.size := by rw [List.length_map]; rfl
    rw [show Nat.min s.size dLen = min s.size dLen from rfl, ← e]
    by_cases h : (List.map (fun b : UInt8 => Value.int IntKind.u8 (b.toNat : Int)) s.data.toList).length ≤ dLen
    · rw [Nat.min_eq_left h, List.take_of_length_le h, List.take_of_length_le (Nat.le_refl _)]
    · rw [Nat.min_eq_right (by omega)]
  cases hq : P.info? elem with
  | none => simp [hq] at hs
  | some i =>
    simp only [Nat.add_zero] at hst
    simp only [hlen] at hst ⊢
    simp [Builtin.copy_, run_underlying hu, Builtin.lenOf, Builtin.firstCells, sizeOf, typeInfo, hq]
    rw [htk, hst]
    simp [Result.andThen, splice, hlen]
theorem owp_copy_prefix (d x : Operand) (dT sT : TypeId) (ho : o.op = .call { callee := .builtin .copy, args := #[d, x], argTypes := #[dT, sT] })
    (g off dLen dCap : Nat) (hd : a.eval d = .slice (some ⟨g, off, none⟩) dLen dCap) (s : ByteArray) (hx : a.eval x = .string s) (elem : TypeId) (cur cs : List Value) (t : TypeId)
    (hu : P.underlying dT = some (.slice elem)) (hs : (P.info? elem).map (·.size) = some 1) (hg : w.heap[g]? = some (.cells cur.toArray t (0, 0)))
    (hcs : cs = (s.data.toList.take dLen).map fun b : UInt8 => Value.int .u8 (b.toNat : Int)) (hfit : off + cs.length ≤ cur.length)
    (h : ∀ w', Hid (w'.heap[g]? = some (.cells (splice cur off cs).toArray t (0, 0))) → Hid (w' = w.setRow g (splice cur off cs).toArray) → K (a.put o.dst (.int .i64 cs.length)) w') : o.wp P a w K Q := by
  refine owp_value (v := .int .i64 cs.length) (w' := w.setRow g (splice cur off cs).toArray) ?_ (h _ ?_ ?_)
  · have hrun := run_copy_prefix (P := P) (w := w) dT sT o.type elem g off dLen dCap s cur cs t hu hs hg hcs hfit
    simp [execOp, ho, resolve, invoke, builtin, hd, hx, hrun, goInt, Result.andThen]
  · exact setRow_heap w g _ _ t _ hg
  · exact (rfl : w.setRow g (splice cur off cs).toArray = w.setRow g (splice cur off cs).toArray)
/-- A row built out of parts. -/
theorem owp_build_row (t : TypeId) (parts : Array (Nat × Operand)) (ho : o.op = .build t parts) (v : Value) (hrun : (Instr.build t (parts.map fun (i, x) => (i, a.eval x))).run P w = .ok v w)
    (h : K (a.put o.dst v) w) : o.wp P a w K Q := by
  refine owp_value (v := v) (w' := w) ?_ h
  simp [execOp, ho, hrun, Result.andThen]
variable {ops : Array Oper} {rest : List Oper}
theorem wl_alloc_row (hgd : o.guard = none) (t : TypeId) (ho : o.op = .alloc t) (z : Array Value) (n : Nat) (hz : (P.info? t).map (fun i => (i.zero, i.size)) = some (some (.agg z), n))
    (h : wpList P ops Q rest (a.put o.dst (.pointer (some ⟨w.heap.size, 0, none⟩))) (w.alloc (.cells z t))) : wpList P ops Q (o :: rest) a w :=
  wpList_plain hgd fun _ hK => owp_alloc_row t ho z n hz (hK _ _ h)
theorem wl_box_row (hgd : o.guard = none) (t : TypeId) (x : Operand) (ho : o.op = .box t x) (c : Array Value) (hx : a.eval x = .agg c)
    (h : wpList P ops Q rest (a.put o.dst (.pointer (some ⟨w.heap.size, 0, none⟩))) (w.alloc (.cells c t))) : wpList P ops Q (o :: rest) a w :=
  wpList_plain hgd fun _ hK => owp_box_row t x ho c hx (hK _ _ h)
theorem wl_load_row (hgd : o.guard = none) (t : TypeId) (p : Operand) (ho : o.op = .load t p) (g off : Nat) (hp : a.eval p = .pointer (some ⟨g, off, none⟩)) (cs : List Value) (d : TypeDesc) (hu : P.underlying t = some d) (hd : (match d with | .struct _ | .array _ _ => true | _ => false) = true)
    (n : Nat) (hn : cs.length = n) (hi : (P.info? t).map (·.size) = some n) (hc : ∀ j v, cs[j]? = some v → w.cell? ⟨g, off + j, none⟩ = some v)
    (h : wpList P ops Q rest (a.put o.dst (.agg cs.toArray)) w) : wpList P ops Q (o :: rest) a w :=
  wpList_plain hgd fun _ hK => owp_load_row t p ho g off hp cs d hu hd n hn hi hc (hK _ _ h)
theorem wl_store_row (hgd : o.guard = none) (t : TypeId) (p x : Operand) (ho : o.op = .store t p x) (g off : Nat) (hp : a.eval p = .pointer (some ⟨g, off, none⟩)) (t' : TypeId) (cur cs : List Value) (hx : a.eval x = .agg cs.toArray)
    (hg : w.heap[g]? = some (.cells cur.toArray t' (0, 0)))
    (n : Nat) (hn : cs.length = n) (hi : (P.info? t).map (·.size) = some n) (hf : off + n ≤ cur.length) (h1 : ∀ v ∈ cs, v.oneCell' = true)
    (h : ∀ w', Hid (w'.heap[g]? = some (.cells (splice cur off cs).toArray t' (0, 0))) → Hid (w' = w.setRow g (splice cur off cs).toArray) → wpList P ops Q rest (a.put o.dst undef) w') : wpList P ops Q (o :: rest) a w :=
  wpList_plain hgd fun _ hK => owp_store_row t p x ho g off hp t' cur cs hx hg n hn hi hf h1 (fun w' h1 h2 => hK _ _ (h w' h1 h2))
theorem wl_index_row (hgd : o.guard = none) (t : TypeId) (x ix : Operand) (ho : o.op = .index t x ix) (cs : Array Value) (hx : a.eval x = .agg cs) (k : IntKind) (i : Int) (hix : a.eval ix = .int k i) (n : Nat) (e : TypeId) (hu : P.underlying t = some (.array n e))
    (de : TypeDesc) (hue : P.underlying e = some de) (hd : (match de with | .struct _ | .array _ _ => true | _ => false) = false) (hs : (P.info? e).map (·.size) = some 1) (h0 : 0 ≤ i) (h1 : i < n) (v : Value) (hv : cs[i.toNat]? = some v)
    (h : wpList P ops Q rest (a.put o.dst v) w) : wpList P ops Q (o :: rest) a w :=
  wpList_plain hgd fun _ hK => owp_index_row t x ix ho cs hx k i hix n e hu de hue hd hs h0 h1 v hv (hK _ _ h)
theorem wl_copy_prefix (hgd : o.guard = none) (d x : Operand) (dT sT : TypeId) (ho : o.op = .call { callee := .builtin .copy, args := #[d, x], argTypes := #[dT, sT] })
    (g off dLen dCap : Nat) (hd : a.eval d = .slice (some ⟨g, off, none⟩) dLen dCap) (s : ByteArray) (hx : a.eval x = .string s) (elem : TypeId) (cur cs : List Value) (t : TypeId)
    (hu : P.underlying dT = some (.slice elem)) (hs : (P.info? elem).map (·.size) = some 1) (hg : w.heap[g]? = some (.cells cur.toArray t (0, 0)))
    (hcs : cs = (s.data.toList.take dLen).map fun b : UInt8 => Value.int .u8 (b.toNat : Int)) (hfit : off + cs.length ≤ cur.length)
    (h : ∀ w', Hid (w'.heap[g]? = some (.cells (splice cur off cs).toArray t (0, 0))) → Hid (w' = w.setRow g (splice cur off cs).toArray) → wpList P ops Q rest (a.put o.dst (.int .i64 cs.length)) w') : wpList P ops Q (o :: rest) a w :=
  wpList_plain hgd fun _ hK => owp_copy_prefix d x dT sT ho g off dLen dCap hd s hx elem cur cs t hu hs hg hcs hfit (fun w' h1 h2 => hK _ _ (h w' h1 h2))
theorem wl_build_row (hgd : o.guard = none) (t : TypeId) (parts : Array (Nat × Operand)) (ho : o.op = .build t parts) (v : Value) (hrun : (Instr.build t (parts.map fun (i, x) => (i, a.eval x))).run P w = .ok v w)
    (h : wpList P ops Q rest (a.put o.dst v) w) : wpList P ops Q (o :: rest) a w :=
  wpList_plain hgd fun _ hK => owp_build_row t parts ho v hrun (hK _ _ h)
end

end Go.Proofs.Ytchlmcpnjpllnaa

/- The tables as calls. -/
namespace Go.Proofs.Ytchlmcpnjpllnaa
open Go.RowKit

/-- Noughts. -/
def z64 : List (BitVec 32) := List.replicate 64 0
theorem z64_len : (uC z64).length = 64 := by rw [uC_len, z64, List.length_replicate]
theorem Try.info150 : (Try.prog.info? 150).map (fun i => (i.zero, i.size)) = some (some (.agg (uC z64).toArray), 64) := by kernel_rfl
theorem Try.info142 : (Try.prog.info? 142).map (fun i => (i.zero, i.size)) = some (some (.agg (Array.replicate 64 (.int .u8 0))), 64) := by kernel_rfl
theorem Try.size150 : (Try.prog.info? 150).map (·.size) = some 64 := (zero_of_info Try.info150).2
theorem Try.size142 : (Try.prog.info? 142).map (·.size) = some 64 := (zero_of_info Try.info142).2

theorem start_any (w : World) : Calls Try.prog 107 #[] w fun e w' => e = .returned (.agg hC) ∧ Below w.heap.size w w' := by
  go_enter Try.func107, Try.ntmps107
  go_wp2
  refine bodyPost_ret (v := .agg hC) (by simp [results, Try.results107, go_sem]; rfl) rfl ⟨rfl, (Below.refl _ _).alloc (Nat.le_refl _) _⟩

set_option maxRecDepth 100000 in
theorem qconstants_any (w : World) : Calls Try.prog 94 #[] w fun e w' => e = .returned (.slice (some ⟨w.heap.size, 0, none⟩) 64 64) ∧ w' = w.alloc (.cells kC 129) := by
  go_enter Try.func94, Try.ntmps94
  go_wp2
  go_ret
  exact ⟨rfl, rfl⟩

theorem uC_one (l : List (BitVec 32)) : ∀ v ∈ uC l, v.oneCell' = true := by
  intro v hv
  obtain ⟨_, _, rfl⟩ := List.mem_map.1 hv
  rfl
theorem splice_all {α : Type} (L cs : List α) (h : L.length = cs.length) : splice L 0 cs = cs := by
  simp [splice, ← h]

theorem kList_len : (uC kList).length = 64 := by rw [uC_len]; rfl
/-- A result that lies in a block. -/
theorem ret_row {f : Func} {a : Act} {w : World} {Q : Ending → World → Prop} {s : Nat} {t : TypeId} {ad : Addr} {v : Value} (hr : f.results = #[.cell s t]) (hs : a.tmps.getD s undef = .pointer (some ad)) (hl : (loadVar t ad).run Try.prog w = .ok v w) (hd : a.defers = [])
    (h : Q (.returned v) w) : bodyPost Try.prog f Q .ret a w := by
  refine bodyPost_ret (v := v) ?_ hd h
  have h1 : a.tmps.getD s undef = .pointer (some ad) := hs
  simp [results, hr, -Array.getD_eq_getD_getElem?, h1, asAddr, hl]

set_option maxRecDepth 100000 in
theorem constants_any (w : World) : Calls Try.prog 114 #[] w fun e w' => e = .returned (.agg kC) ∧ Below w.heap.size w w' := by
  go_enter Try.func114, Try.ntmps114
  iterate 4 go_step
  refine owp_alloc_row 150 rfl _ _ Try.info150 ?_
  iterate 7 go_step
  refine owp_build_row 150 _ rfl (.agg (uC kList).toArray) (by kernel_rfl) ?_
  iterate 2 go_step
  refine owp_store_row 150 _ _ rfl w.heap.size 0 rfl 150 (uC z64) (uC kList) rfl (heap_alloc_last _ _) 64 kList_len Try.size150 (by rw [z64_len]; decide) (uC_one _) ?_
  intro w2 h2 e2
  have hl : (loadVar 150 ⟨w.heap.size, 0, none⟩).run Try.prog w2 = .ok (.agg (uC kList).toArray) w2 := by
    refine run_load_row (w := w2) 150 w.heap.size 0 (uC kList) _ Try.underlying150 rfl 64 kList_len Try.size150 (heap_cells (t := 150) (fr := (0, 0)) ?_)
    have := h2.out
    rw [splice_all _ _ (by rw [kList_len, z64_len])] at this
    exact this
  iterate 6 go_step
  refine ret_row rfl rfl hl rfl ⟨rfl, ?_⟩
  rw [e2.out]
  exact Below.setRow ((Below.refl _ _).alloc (Nat.le_refl _) _) (Nat.le_refl _) _

end Go.Proofs.Ytchlmcpnjpllnaa

/- The words of a block, as the program makes them. -/
namespace Go.Proofs.Ytchlmcpnjpllnaa
open Go.RowKit

def bW (c : UInt8) : BitVec 32 := BitVec.ofNat 32 c.toNat
theorem u_bW (c : UInt8) : (c.toNat : Int) = u (bW c) := u_lit _ (by have := c.toNat_lt; omega)
/-- The words while the first k bytes are gone through. -/
def pw (L : List UInt8) : Nat → List (BitVec 32)
  | 0 => List.replicate 64 0
  | k + 1 => (pw L k).set (k / 4) (((pw L k).getD (k / 4) 0 <<< 8) ||| bW (L.getD k 0))
theorem pw_len (L : List UInt8) : ∀ k, (pw L k).length = 64
  | 0 => by simp [pw]
  | k + 1 => by rw [pw, List.length_set, pw_len L k]

theorem or_byte (x : BitVec 32) (c : UInt8) (h : x.toNat < 16777216) : ((x <<< 8) ||| bW c).toNat = x.toNat * 256 + c.toNat := by
  have hc := c.toNat_lt
  rw [BitVec.toNat_or, BitVec.toNat_shiftLeft, Nat.shiftLeft_eq, bW, BitVec.toNat_ofNat, Nat.mod_eq_of_lt (by omega : x.toNat * 2 ^ 8 < 2 ^ 32), Nat.mod_eq_of_lt (by omega : c.toNat < 2 ^ 32)]
  have := Nat.two_pow_add_eq_or_of_lt (i := 8) (b := c.toNat) (by omega) x.toNat
  rw [Nat.mul_comm, ← this]
theorem four_bytes (a b c d : UInt8) : ((((((((0 : BitVec 32) <<< 8) ||| bW a) <<< 8) ||| bW b) <<< 8) ||| bW c) <<< 8) ||| bW d = be4 a b c d := by
  have ha := a.toNat_lt; have hb := b.toNat_lt; have hc := c.toNat_lt; have hd := d.toNat_lt
  have e1 := or_byte 0 a (by decide)
  have e1' : (((0 : BitVec 32) <<< 8) ||| bW a).toNat = a.toNat := by rw [e1]; simp
  have e2 := or_byte _ b (by rw [e1']; omega : (((0 : BitVec 32) <<< 8) ||| bW a).toNat < 16777216)
  rw [e1'] at e2
  have e3 := or_byte _ c (by rw [e2]; omega)
  rw [e2] at e3
  have e4 := or_byte _ d (by rw [e3]; omega)
  rw [e3] at e4
  apply BitVec.eq_of_toNat_eq
  rw [e4]
  have := u_be4 a b c d
  unfold u at this
  omega

theorem words16_snoc : ∀ (m : Nat) (l : List UInt8), l.length = 4 * m → ∀ a b c d, words16 (m + 1) (l ++ [a, b, c, d]) = words16 m l ++ [be4 a b c d]
  | 0, l, h, a, b, c, d => by
    obtain rfl := List.eq_nil_of_length_eq_zero (by omega : l.length = 0)
    rfl
  | m + 1, p :: q :: r :: s :: l, h, a, b, c, d => by
    simp only [List.length_cons] at h
    have := words16_snoc m l (by omega) a b c d
    simp only [List.cons_append, words16] at this ⊢
    rw [this]
  | m + 1, [], h, _, _, _, _ => by simp at h
  | m + 1, [_], h, _, _, _, _ => by simp at h; omega
  | m + 1, [_, _], h, _, _, _, _ => by simp at h; omega
  | m + 1, [_, _, _], h, _, _, _, _ => by simp at h; omega

theorem pw_step (L : List UInt8) (k q : Nat) (X Y : List (BitVec 32)) (z : BitVec 32) (hq : k / 4 = q) (hX : X.length = q) (h : pw L k = X ++ z :: Y) : pw L (k + 1) = X ++ ((z <<< 8) ||| bW (L.getD k 0)) :: Y := by
  have e : (X ++ z :: Y).getD q 0 = z := by rw [getD_app_right _ _ _ _ (by omega), hX]; simp [List.getD]
  rw [pw, h, hq, e, ← hX, List.set_append_right _ _ (Nat.le_refl _)]
  simp

theorem take4 (L : List UInt8) (k : Nat) (h : k + 4 ≤ L.length) : L.take (k + 4) = L.take k ++ [L.getD k 0, L.getD (k + 1) 0, L.getD (k + 2) 0, L.getD (k + 3) 0] := by
  apply List.ext_getElem?
  intro i
  by_cases h1 : i < k
  · rw [List.getElem?_append_left (by simp; omega), List.getElem?_take, List.getElem?_take, if_pos (by omega), if_pos h1]
  · rw [List.getElem?_append_right (by simp; omega), List.getElem?_take]
    have e : (L.take k).length = k := by simp; omega
    rw [e]
    by_cases h2 : i < k + 4
    · rw [if_pos h2]
      obtain ⟨j, rfl⟩ : ∃ j, i = k + j := ⟨i - k, by omega⟩
      have hj : j < 4 := by omega
      rw [show k + j - k = j by omega]
      have : j = 0 ∨ j = 1 ∨ j = 2 ∨ j = 3 := by omega
      rcases this with rfl | rfl | rfl | rfl <;> simp [List.getD, List.getElem?_eq_getElem (show k < L.length by omega), List.getElem?_eq_getElem (show k + 1 < L.length by omega), List.getElem?_eq_getElem (show k + 2 < L.length by omega), List.getElem?_eq_getElem (show k + 3 < L.length by omega)]
    · rw [if_neg h2, eq_comm, List.getElem?_eq_none_iff]
      simp; omega

theorem pw_words (L : List UInt8) (hL : L.length = 64) : ∀ m, m ≤ 16 → pw L (4 * m) = words16 m (L.take (4 * m)) ++ List.replicate (64 - m) 0
  | 0, _ => by simp [pw, words16]
  | m + 1, hm => by
    have ih := pw_words L hL m (by omega)
    have hl : (words16 m (L.take (4 * m))).length = m := words16_len m _ (by simp; omega)
    have er : List.replicate (64 - m) (0 : BitVec 32) = 0 :: List.replicate (64 - (m + 1)) 0 := by
      rw [show 64 - m = (64 - (m + 1)) + 1 by omega, List.replicate_succ]
    rw [er] at ih
    have s1 := pw_step L (4 * m) m _ _ _ (by omega) hl ih
    have s2 := pw_step L (4 * m + 1) m _ _ _ (by omega) hl s1
    have s3 := pw_step L (4 * m + 2) m _ _ _ (by omega) hl s2
    have s4 := pw_step L (4 * m + 3) m _ _ _ (by omega) hl s3
    rw [show 4 * (m + 1) = 4 * m + 3 + 1 by omega, s4, four_bytes, take4 L (4 * m) (by omega), words16_snoc m _ (by simp; omega)]
    simp
theorem pw_all (L : List UInt8) (hL : L.length = 64) : pw L 64 = words16 16 L ++ List.replicate 48 0 := by
  have := pw_words L hL 16 (Nat.le_refl _)
  rw [List.take_of_length_le (by omega)] at this
  exact this

theorem uC_set (l : List (BitVec 32)) (j : Nat) (v : Value) (x : BitVec 32) (hv : v = .int .u32 (u x)) : (uC l).toArray.setIfInBounds j v = (uC (l.set j x)).toArray := by
  subst hv
  simp [uC, List.map_set]
theorem set_mid (l : List (BitVec 32)) (n j : Nat) (x : BitVec 32) (hj : l.length = j) : (l ++ List.replicate (n + 1) 0).set j x = l ++ [x] ++ List.replicate n 0 := by
  rw [← hj, List.set_append_right _ _ (Nat.le_refl _)]
  simp [List.replicate_succ]

theorem sg0_val (y : BitVec 32) : bits .xor .u32 (bits .xor .u32 (u (rotr y 7)) (u (rotr y 18))) (u y / 8) = u (sg0 y) := by
  rw [u_xor, show (8 : Int) = ((2 ^ 3 : Nat) : Int) from rfl, u_shr, u_xor]; rfl
theorem sg1_val (y : BitVec 32) : bits .xor .u32 (bits .xor .u32 (u (rotr y 17)) (u (rotr y 19))) (u y / 1024) = u (sg1 y) := by
  rw [u_xor, show (1024 : Int) = ((2 ^ 10 : Nat) : Int) from rfl, u_shr, u_xor]; rfl
theorem sum3 (a b c : BitVec 32) : (u a + u b + u c) % 4294967296 = u (a + b + c) := by
  rw [← u_add, ← u_add]; omega
theorem sum4 (a b c d : BitVec 32) : (u a + u b + u c + u d) % 4294967296 = u (a + b + c + d) := by
  rw [← u_add, ← sum3]; omega
theorem sum5 (a b c d e : BitVec 32) : (u a + u b + u c + u d + u e) % 4294967296 = u (a + b + c + d + e) := by
  rw [← u_add, ← sum4]; omega
end Go.Proofs.Ytchlmcpnjpllnaa

/- The words of a block: the walk. -/
namespace Go.Proofs.Ytchlmcpnjpllnaa
open Go.RowKit

theorem third (w : World) (A B C : Obj) : (((w.alloc A).alloc B).alloc C).heap[w.heap.size]? = some A := by
  rw [Below.heap_alloc _ _ _ (by simp; omega), Below.heap_alloc _ _ _ (by simp), heap_alloc_last]

theorem third1 (w : World) (A B C : Obj) : (((w.alloc A).alloc B).alloc C).heap[w.heap.size + 1]? = some B := by
  rw [Below.heap_alloc _ _ _ (by simp)]
  have := heap_alloc_last (w.alloc A) B
  simpa using this
theorem third2 (w : World) (A B C : Obj) : (((w.alloc A).alloc B).alloc C).heap[w.heap.size + 1 + 1]? = some C := by
  have := heap_alloc_last ((w.alloc A).alloc B) C
  simpa using this
theorem third_below (w : World) (A B C : Obj) : Below w.heap.size w (((w.alloc A).alloc B).alloc C) :=
  (((Below.refl _ _).alloc (Nat.le_refl _) _).alloc (by simp) _).alloc (by simp; omega) _

set_option maxRecDepth 100000 in
set_option maxHeartbeats 1600000 in
theorem schedule_any (L : List UInt8) (hL : L.length = 64) (w : World) :
    Calls Try.prog 113 #[.agg (bC L).toArray] w fun e w' => e = .returned (.agg (uC (sched L)).toArray) ∧ Below w.heap.size w w' := by
  have HL := hid hL
  clear hL
  go_enter Try.func113, Try.ntmps113
  go_wp2_with (first
    | refine wl_box_row rfl 142 _ rfl _ rfl ?_
    | refine wl_alloc_row rfl 150 rfl _ _ Try.info150 ?_
    | refine wl_load_row rfl 142 _ rfl w.heap.size 0 rfl (bC L) _ Try.underlying142 rfl 64 (by rw [bC_len]; exact HL.out) Try.size142 (heap_cells (t := 142) (fr := (0, 0)) (third w _ _ _)) ?_)
  go_loopw [12] (fun i wr => ∃ k : Nat, k ≤ 64 ∧ i = .int .i64 (k : Int) ∧ wr.heap[w.heap.size + 1 + 1]? = some (.cells (uC (pw L k)).toArray 150 (0, 0)) ∧ wr.heap[w.heap.size + 1]? = some (.cells (uC z64).toArray 150 (0, 0)) ∧ Below w.heap.size w wr)
    (fun i _ => (64 - intOf i).toNat)
  case atStart => exact ⟨0, by omega, rfl, third2 w _ _ _, third1 w _ _ _, third_below w _ _ _⟩
  case round =>
    obtain ⟨k, hk, rfl, hblk, hz, hbel⟩ := hrel
    have HR := hid (And.intro hblk (And.intro hz hbel))
    clear hblk hz hbel
    by_cases hk64 : k = 64
    · have HW : Hid (wr.heap[w.heap.size + 1 + 1]? = some (.cells (uC (words16 16 L ++ List.replicate 48 0)).toArray 150 (0, 0)) ∧ wr.heap[w.heap.size + 1]? = some (.cells (uC z64).toArray 150 (0, 0)) ∧ Below w.heap.size w wr) := hid (by
        rw [← pw_all L HL.out]
        rw [hk64] at HR
        exact HR.out)
      have hk1 : ¬ ((k : Int) < 64) := by omega
      clear HR hk hk64
      go_wp2
      go_loopw [6] (fun i wr => ∃ (l : List (BitVec 32)) (m : Nat), l.length = m + 16 ∧ m ≤ 48 ∧ i = .int .i64 ((m : Int) + 16) ∧ moreW (48 - m) l = sched L ∧ wr.heap[w.heap.size + 1 + 1]? = some (.cells (uC (l ++ List.replicate (48 - m) 0)).toArray 150 (0, 0)) ∧ wr.heap[w.heap.size + 1]? = some (.cells (uC z64).toArray 150 (0, 0)) ∧ Below w.heap.size w wr)
        (fun i _ => (64 - intOf i).toNat)
      case atStart => exact ⟨words16 16 L, 0, by rw [words16_len 16 L (by rw [HL.out])], by omega, rfl, rfl, HW.out.1, HW.out.2.1, HW.out.2.2⟩
      case round =>
        clear HW
        obtain ⟨l, m, hl, hm, rfl, hs, hblk, hz, hbel⟩ := hrel
        have HR := hid (And.intro hl (And.intro hs (And.intro hblk (And.intro hz hbel))))
        clear hl hs hblk hz hbel
        by_cases hm48 : m = 48
        · subst hm48
          have el : l = sched L := HR.out.2.1
          have HE := hid el
          clear el
          have hB : wr.heap[w.heap.size + 1 + 1]? = some (.cells (uC l).toArray 150 (0, 0)) := by
            have := HR.out.2.2.1
            rwa [List.replicate_zero, List.append_nil] at this
          have HB := hid hB
          have hS : (uC l).length = 64 := by rw [uC_len, HR.out.1]
          have HS := hid hS
          clear hB hS
          go_wp2_with (first
            | refine wl_load_row rfl 150 _ rfl (w.heap.size + 1 + 1) 0 rfl (uC l) _ Try.underlying150 rfl 64 HS.out Try.size150 (heap_cells (t := 150) (fr := (0, 0)) HB.out) ?_
            | (refine wl_store_row rfl 150 _ _ rfl (w.heap.size + 1) 0 rfl 150 (uC z64) (uC l) rfl HR.out.2.2.2.1 64 HS.out Try.size150 (by rw [z64_len]; decide) (uC_one _) ?_; intro w2 h2 e2))
          have hl : (loadVar 150 ⟨w.heap.size + 1, 0, none⟩).run Try.prog w2 = .ok (.agg (uC l).toArray) w2 := by
            refine run_load_row (w := w2) 150 (w.heap.size + 1) 0 (uC l) _ Try.underlying150 rfl 64 HS.out Try.size150 (heap_cells (t := 150) (fr := (0, 0)) ?_)
            have := h2.out
            rwa [splice_all _ _ (by rw [HS.out, z64_len])] at this
          refine ret_row rfl rfl hl rfl ⟨by rw [HE.out], ?_⟩
          rw [e2.out]
          exact Below.setRow HR.out.2.2.2.2 (by omega) _
        · have hm1 : (m : Int) < 48 := by omega
          have hm0 : (0 : Int) ≤ (m : Int) := Int.natCast_nonneg _
          have cell : ∀ j, j < m + 16 → wr.cell? ⟨w.heap.size + 1 + 1, j, none⟩ = some (.int .u32 (u (l.getD j 0))) := fun j hj => by
            have := heap_cells HR.out.2.2.1 j _ (uC_get _ j (by rw [List.length_append, HR.out.1]; omega))
            rw [getD_app_left _ _ _ _ (by rw [HR.out.1]; exact hj)] at this
            rwa [Nat.zero_add] at this
          obtain ⟨x1, e1⟩ : ∃ x, x = l.getD (m + 1) 0 := ⟨_, rfl⟩
          obtain ⟨x2, e2⟩ : ∃ x, x = l.getD (m + 14) 0 := ⟨_, rfl⟩
          obtain ⟨x3, e3⟩ : ∃ x, x = l.getD (m + 9) 0 := ⟨_, rfl⟩
          obtain ⟨x4, e4⟩ : ∃ x, x = l.getD m 0 := ⟨_, rfl⟩
          have c1 := cell (m + 1) (by omega)
          have c2 := cell (m + 14) (by omega)
          have c3 := cell (m + 9) (by omega)
          have c4 := cell m (by omega)
          rw [← e1] at c1
          rw [← e2] at c2
          rw [← e3] at c3
          rw [← e4] at c4
          have HX := hid (And.intro e1 (And.intro e2 (And.intro e3 e4)))
          clear e1 e2 e3 e4
          have c5 : ∃ v, wr.cell? ⟨w.heap.size + 1 + 1, m + 16, none⟩ = some v := ⟨_, by
            have := heap_cells HR.out.2.2.1 (m + 16) _ (uC_get _ (m + 16) (by rw [List.length_append, HR.out.1, List.length_replicate]; omega))
            rwa [Nat.zero_add] at this⟩
          obtain ⟨v5, c5⟩ := c5
          have f5 : wr.frozen? ⟨w.heap.size + 1 + 1, m + 16, none⟩ = false := by simp [World.frozen?, HR.out.2.2.1]
          clear cell
          go_wp2
          go_region
          all_goals (try go_wp2_with (go_at_call 115; refine (turned_any _ _ _ (by decide)).mono ?_; rintro e w1 ⟨rfl, rfl⟩))
          all_goals (try go_region)
          all_goals (try go_wp2)
          go_roundw
          case rel =>
            have en : nextW l = sg1 x2 + x3 + sg0 x1 + x4 := by
              rw [nextW, HR.out.1, HX.out.1, HX.out.2.1, HX.out.2.2.1, HX.out.2.2.2, show m + 16 - 2 = m + 14 by omega, show m + 16 - 7 = m + 9 by omega, show m + 16 - 15 = m + 1 by omega, show m + 16 - 16 = m by omega]
            have e48 : 48 - m = 48 - (m + 1) + 1 := by omega
            refine ⟨l ++ [nextW l], m + 1, by rw [List.length_append, HR.out.1]; rfl, by omega, by rw [show ((m + 1 : Nat) : Int) + 16 = (m : Int) + 16 + 1 by omega], ?_, ?_, ?_, ?_⟩
            · have := HR.out.2.1
              rw [e48, moreW] at this
              exact this
            · refine (blk_set HR.out.2.2.1 _ _).trans ?_
              rw [uC_set _ _ _ (nextW l) ?_, e48, set_mid _ _ _ _ HR.out.1]
              rw [en, sg1_val, sg0_val, sum4]
            · exact (Below.heap_setCell _ _ _ _ (by show w.heap.size + 1 ≠ w.heap.size + 1 + 1; omega)).trans HR.out.2.2.2.1
            · exact Below.same (Below.setCell (p := ⟨w.heap.size + 1 + 1, m + 16, none⟩) HR.out.2.2.2.2 (by show w.heap.size ≤ w.heap.size + 1 + 1; omega) _) rfl rfl rfl rfl
          case measure => simp [intOf]; omega
    · have hk1 : (k : Int) < 64 := by omega
      have hk0 : (0 : Int) ≤ (k : Int) := Int.natCast_nonneg _
      have hq0 : (0 : Int) ≤ (k : Int) / 4 := by omega
      have hq1 : (k : Int) / 4 < 64 := by omega
      have hqn : ((k : Int) / 4).toNat = k / 4 := by omega
      obtain ⟨z, ez⟩ : ∃ x, x = (pw L k).getD (k / 4) 0 := ⟨_, rfl⟩
      obtain ⟨b, eb⟩ : ∃ x, x = L.getD k 0 := ⟨_, rfl⟩
      have cG : wr.cell? ⟨w.heap.size + 1 + 1, k / 4, none⟩ = some (.int .u32 (u z)) := by
        rw [ez]
        have := heap_cells HR.out.1 (k / 4) _ (uC_get (pw L k) (k / 4) (by rw [pw_len]; omega))
        rwa [Nat.zero_add] at this
      have fG : wr.frozen? ⟨w.heap.size + 1 + 1, k / 4, none⟩ = false := by
        simp [World.frozen?, HR.out.1]
      have hv : (bC L).toArray[(k : Int).toNat]? = some (.int .u8 (b.toNat : Int)) := by
        rw [eb, Int.toNat_natCast, List.getElem?_toArray]
        exact bC_get L k (by rw [HL.out]; omega)
      have HV := hid hv
      have HE := hid (And.intro ez eb)
      clear hv ez eb
      go_wp2_with (refine wl_index_row rfl 142 _ _ rfl _ rfl _ _ rfl 64 5 Try.underlying142 _ Try.underlying5 rfl (by kernel_rfl) hk0 hk1 _ HV.out ?_)
      go_roundw
      case rel =>
        refine ⟨k + 1, by omega, rfl, ?_, ?_, ?_⟩
        · refine (blk_set HR.out.1 _ _).trans ?_
          rw [uC_set _ _ _ ((z <<< 8) ||| bW b) ?_, pw, HE.out.1, HE.out.2]
          rw [show (256 : Int) = ((2 ^ 8 : Nat) : Int) from rfl, u_shl, Int.emod_eq_of_lt (Int.natCast_nonneg _) (by have := b.toNat_lt; omega), u_bW, u_or]
        · exact (Below.heap_setCell _ _ _ _ (by show w.heap.size + 1 ≠ w.heap.size + 1 + 1; omega)).trans HR.out.2.1
        · exact HR.out.2.2.setCell (by show w.heap.size ≤ w.heap.size + 1 + 1; omega) _
      case measure => simp [intOf]; omega
end Go.Proofs.Ytchlmcpnjpllnaa

/- The state behind a block: the walk. -/
namespace Go.Proofs.Ytchlmcpnjpllnaa
open Go.RowKit

def z8 : List (BitVec 32) := List.replicate 8 0
theorem z8_len : (uC z8).length = 8 := by rw [uC_len, z8, List.length_replicate]
theorem Try.info140 : (Try.prog.info? 140).map (fun i => (i.zero, i.size)) = some (some (.agg (uC z8).toArray), 8) := by kernel_rfl
theorem Try.size140 : (Try.prog.info? 140).map (·.size) = some 8 := (zero_of_info Try.info140).2
theorem Try.size129 : (Try.prog.info? 129).map (·.size) = some 1 := by kernel_rfl

theorem Sg0_val (y : BitVec 32) : bits .xor .u32 (bits .xor .u32 (u (rotr y 2)) (u (rotr y 13))) (u (rotr y 22)) = u (Sg0 y) := by
  rw [u_xor, u_xor]; rfl
theorem Sg1_val (y : BitVec 32) : bits .xor .u32 (bits .xor .u32 (u (rotr y 6)) (u (rotr y 11))) (u (rotr y 25)) = u (Sg1 y) := by
  rw [u_xor, u_xor]; rfl
theorem notK : (if IntKind.u32.signed = true then (-1 : Int) else IntKind.u32.max) = IntKind.u32.max := rfl
theorem ch_val (e f g : BitVec 32) : bits .or .u32 (bits .and .u32 (u e) (u f)) (bits .and .u32 (bits .xor .u32 IntKind.u32.max (u e)) (u g)) = u (ch e f g) := by
  rw [u_and, u_not, u_and, u_or, ch_or]
theorem maj_val (a b c : BitVec 32) : bits .or .u32 (bits .or .u32 (bits .and .u32 (u a) (u b)) (bits .and .u32 (u a) (u c))) (bits .and .u32 (u b) (u c)) = u (maj a b c) := by
  rw [u_and, u_and, u_and, u_or, u_or, maj_or]
theorem u_sum (x y : BitVec 32) : u (x + y) = (u x + u y) % 4294967296 := (u_add x y).symm

/-- The first i words added. -/
def addN (S X : List (BitVec 32)) : Nat → List (BitVec 32)
  | 0 => S
  | i + 1 => (addN S X i).set i ((addN S X i).getD i 0 + X.getD i 0)
theorem addN_len (S X : List (BitVec 32)) : ∀ i, (addN S X i).length = S.length
  | 0 => rfl
  | i + 1 => by rw [addN, List.length_set, addN_len S X i]
theorem addN_plus (s x : St) : addN s.list x.list 8 = (s.plus x).list := rfl
theorem list_len (s : St) : s.list.length = 8 := rfl

set_option maxRecDepth 100000 in
set_option maxHeartbeats 1600000 in
theorem behind_any (S : St) (W : List (BitVec 32)) (hW : W.length = 64) (w : World) :
    Calls Try.prog 112 #[.agg (uC S.list).toArray, .agg (uC W).toArray] w fun e w' => e = .returned (.agg (uC (behindW S W).list).toArray) ∧ Below w.heap.size w w' := by
  have HL := hid hW
  clear hW
  obtain ⟨SL, hSL⟩ : ∃ l, l = S.list := ⟨_, rfl⟩
  rw [← hSL]
  have HSL := hid hSL
  have HE := hid (list_len S)
  rw [← hSL] at HE
  clear hSL
  go_enter Try.func112, Try.ntmps112
  go_wp2_with (first
    | refine wl_box_row rfl 140 _ rfl _ rfl ?_
    | refine wl_box_row rfl 150 _ rfl _ rfl ?_
    | refine wl_alloc_row rfl 140 rfl _ _ Try.info140 ?_)
  have e1 : ∀ (v : World) (o : Obj), (v.alloc o).heap.size = v.heap.size + 1 := fun v o => by simp
  have h0 := third w (.cells (uC SL).toArray 140) (.cells (uC W).toArray 150) (.cells (uC z8).toArray 140)
  have h1 := third1 w (.cells (uC SL).toArray 140) (.cells (uC W).toArray 150) (.cells (uC z8).toArray 140)
  have h2 := third2 w (.cells (uC SL).toArray 140) (.cells (uC W).toArray 150) (.cells (uC z8).toArray 140)
  have h3 := third_below w (.cells (uC SL).toArray 140) (.cells (uC W).toArray 150) (.cells (uC z8).toArray 140)
  have h4 : (((w.alloc (.cells (uC SL).toArray 140)).alloc (.cells (uC W).toArray 150)).alloc (.cells (uC z8).toArray 140)).heap.size = w.heap.size + 3 := by simp
  rw [e1, e1]
  clear e1
  generalize ((w.alloc (.cells (uC SL).toArray 140)).alloc (.cells (uC W).toArray 150)).alloc (.cells (uC z8).toArray 140) = w3 at h0 h1 h2 h3 h4 ⊢
  have cell : ∀ j v, (uC S.list)[j]? = some v → w3.cell? ⟨w.heap.size, 0 + j, none⟩ = some v := by
    rw [HSL.out] at h0
    exact heap_cells h0
  have c0 : w3.cell? ⟨w.heap.size, 0, none⟩ = some (.int .u32 (u S.a)) := cell 0 _ rfl
  have c1 : w3.cell? ⟨w.heap.size, 1, none⟩ = some (.int .u32 (u S.b)) := cell 1 _ rfl
  have c2 : w3.cell? ⟨w.heap.size, 2, none⟩ = some (.int .u32 (u S.c)) := cell 2 _ rfl
  have c3 : w3.cell? ⟨w.heap.size, 3, none⟩ = some (.int .u32 (u S.d)) := cell 3 _ rfl
  have c4 : w3.cell? ⟨w.heap.size, 4, none⟩ = some (.int .u32 (u S.e)) := cell 4 _ rfl
  have c5 : w3.cell? ⟨w.heap.size, 5, none⟩ = some (.int .u32 (u S.f)) := cell 5 _ rfl
  have c6 : w3.cell? ⟨w.heap.size, 6, none⟩ = some (.int .u32 (u S.g)) := cell 6 _ rfl
  have c7 : w3.cell? ⟨w.heap.size, 7, none⟩ = some (.int .u32 (u S.h)) := cell 7 _ rfl
  have HH := hid (And.intro h0 (And.intro h1 (And.intro h2 (And.intro h3 h4))))
  clear h0 h1 h2 h3 h4 cell
  go_quiet (fail)
  clear c0 c1 c2 c3 c4 c5 c6 c7
  go_wp2_with (go_at_call 114; refine (constants_any _).mono ?_; rintro e w4 ⟨rfl, hb⟩)
  have hsz : (w3.drewN nq).heap.size = w.heap.size + 3 := HH.out.2.2.2.2
  have g0 : w4.heap[w.heap.size]? = some (.cells (uC SL).toArray 140 (0, 0)) := (hb.block _ (by rw [hsz]; omega)).trans HH.out.1
  have g1 : w4.heap[w.heap.size + 1]? = some (.cells (uC W).toArray 150 (0, 0)) := (hb.block _ (by rw [hsz]; omega)).trans HH.out.2.1
  have g2 : w4.heap[w.heap.size + 1 + 1]? = some (.cells (uC z8).toArray 140 (0, 0)) := (hb.block _ (by rw [hsz]; omega)).trans HH.out.2.2.1
  have g3 : Below w.heap.size w w4 := (Below.same HH.out.2.2.2.1 rfl rfl rfl rfl : Below w.heap.size w (w3.drewN nq)).trans (hb.mono (by rw [hsz]; omega))
  have HG := hid (And.intro g0 (And.intro g1 (And.intro g2 g3)))
  clear HH hb hsz g0 g1 g2 g3
  go_loopw [5, 6, 7, 8, 9, 10, 11, 12, 38] (fun a b c d e f g h i wr => ∃ (X : St) (t : Nat), t ≤ 64 ∧ i = .int .i64 (t : Int) ∧ a = .int .u32 (u X.a) ∧ b = .int .u32 (u X.b) ∧ c = .int .u32 (u X.c) ∧ d = .int .u32 (u X.d) ∧ e = .int .u32 (u X.e) ∧ f = .int .u32 (u X.f) ∧ g = .int .u32 (u X.g) ∧ h = .int .u32 (u X.h) ∧ wr = w4 ∧ roundsN W (64 - t) t X = roundsN W 64 0 S)
    (fun _ _ _ _ _ _ _ _ i _ => (64 - intOf i).toNat)
  case atStart => exact ⟨S, 0, by omega, rfl, rfl, rfl, rfl, rfl, rfl, rfl, rfl, rfl, rfl, rfl⟩
  case round =>
    obtain ⟨X, t, ht, rfl, rfl, rfl, rfl, rfl, rfl, rfl, rfl, rfl, rfl, hr⟩ := hrel
    have HR := hid hr
    clear hr
    by_cases ht64 : t = 64
    · have hr2 : X = roundsN W 64 0 S := by rw [← HR.out, ht64]; rfl
      have HX := hid hr2
      have hk1 : ¬ ((t : Int) < 64) := by omega
      clear HR ht ht64 hr2
      go_wp2
      have HG2 := HG
      clear HG
      go_loopw [111] (fun i wz => ∃ j : Nat, j ≤ 8 ∧ i = .int .i64 (j : Int) ∧ wz.heap[w.heap.size]? = some (.cells (uC (addN SL X.list j)).toArray 140 (0, 0)) ∧ wz.heap[w.heap.size + 1 + 1]? = some (.cells (uC z8).toArray 140 (0, 0)) ∧ Below w.heap.size w wz)
        (fun i _ => (8 - intOf i).toNat)
      case atStart => exact ⟨0, by omega, rfl, HG2.out.1, HG2.out.2.2.1, HG2.out.2.2.2⟩
      case round =>
        clear HG2
        obtain ⟨j, hj, rfl, q0, q2, q3⟩ := hrel
        have HQ := hid (And.intro q0 (And.intro q2 q3))
        clear q0 q2 q3
        have hlen : (uC (addN SL X.list j)).length = 8 := by rw [uC_len, addN_len, HE.out]
        have HN := hid hlen
        clear hlen
        by_cases hj8 : j = 8
        · have hj1 : ¬ ((j : Int) < 8) := by omega
          obtain ⟨Y, eY⟩ : ∃ l, l = addN SL X.list j := ⟨_, rfl⟩
          rw [← eY] at HQ HN
          have ey : Y = (behindW S W).list := by rw [eY, hj8, HSL.out, addN_plus, HX.out, behindW]
          have HY := hid ey
          clear eY ey hj8 hj
          go_wp2_with (first
            | refine wl_load_row rfl 140 _ rfl w.heap.size 0 rfl (uC Y) _ Try.underlying140 rfl 8 HN.out Try.size140 (heap_cells (t := 140) (fr := (0, 0)) HQ.out.1) ?_
            | (refine wl_store_row rfl 140 _ _ rfl (w.heap.size + 1 + 1) 0 rfl 140 (uC z8) (uC Y) rfl HQ.out.2.1 8 HN.out Try.size140 (by rw [z8_len]; decide) (uC_one _) ?_; intro w5 h5 e5))
          have hl : (loadVar 140 ⟨w.heap.size + 1 + 1, 0, none⟩).run Try.prog w5 = .ok (.agg (uC Y).toArray) w5 := by
            refine run_load_row (w := w5) 140 (w.heap.size + 1 + 1) 0 (uC Y) _ Try.underlying140 rfl 8 HN.out Try.size140 (heap_cells (t := 140) (fr := (0, 0)) ?_)
            have := h5.out
            rwa [splice_all _ _ (by rw [HN.out, z8_len])] at this
          refine ret_row rfl rfl hl rfl ⟨by rw [HY.out], ?_⟩
          rw [e5.out]
          exact Below.setRow HQ.out.2.2 (by omega) _
        · have hj1 : (j : Int) < 8 := by omega
          have hj0 : (0 : Int) ≤ (j : Int) := Int.natCast_nonneg _
          obtain ⟨y, ey⟩ : ∃ x, x = (addN SL X.list j).getD j 0 := ⟨_, rfl⟩
          obtain ⟨x, ex⟩ : ∃ x, x = X.list.getD j 0 := ⟨_, rfl⟩
          have hv : (uC X.list).toArray[(j : Int).toNat]? = some (.int .u32 (u x)) := by
            rw [Int.toNat_natCast, List.getElem?_toArray, ex]
            exact uC_get X.list j (by show j < 8; omega)
          have cw : wr.cell? ⟨w.heap.size, j, none⟩ = some (.int .u32 (u y)) := by
            rw [ey]
            have := heap_cells HQ.out.1 j _ (uC_get _ j (by rw [addN_len, HE.out]; omega))
            rwa [Nat.zero_add] at this
          have fw : wr.frozen? ⟨w.heap.size, j, none⟩ = false := by simp [World.frozen?, HQ.out.1]
          have HV := hid hv
          have HK := hid (And.intro ey ex)
          clear hv ey ex
          go_wp2_with (refine wl_index_row rfl 140 _ _ rfl _ rfl _ _ rfl 8 129 Try.underlying140 _ Try.underlying129 rfl Try.size129 hj0 hj1 _ HV.out ?_)
          go_roundw
          case rel =>
            refine ⟨j + 1, by omega, rfl, ?_, ?_, ?_⟩
            · refine (blk_set HQ.out.1 _ _).trans ?_
              rw [uC_set _ _ _ (y + x) ?_, addN, HK.out.1, HK.out.2]
              rw [u_add]
            · exact (Below.heap_setCell _ _ _ _ (by show w.heap.size + 1 + 1 ≠ w.heap.size; omega)).trans HQ.out.2.1
            · exact HQ.out.2.2.setCell (by exact Nat.le_refl _) _
          case measure => simp [intOf]; omega
    · have hk1 : (t : Int) < 64 := by omega
      have hk0 : (0 : Int) ≤ (t : Int) := Int.natCast_nonneg _
      obtain ⟨k, ek⟩ : ∃ x, x = kList.getD t 0 := ⟨_, rfl⟩
      obtain ⟨x, ex⟩ : ∃ x, x = W.getD t 0 := ⟨_, rfl⟩
      have hv : kC[(t : Int).toNat]? = some (.int .u32 (u k)) := by
        rw [Int.toNat_natCast, kC, List.getElem?_toArray, ek]
        exact uC_get kList t (by show t < 64; omega)
      have cw : wr.cell? ⟨w.heap.size + 1, t, none⟩ = some (.int .u32 (u x)) := by
        rw [ex]
        have := heap_cells HG.out.2.1 t _ (uC_get W t (by rw [HL.out]; omega))
        rwa [Nat.zero_add] at this
      have HV := hid hv
      have HK := hid (And.intro ek ex)
      clear hv ek ex
      go_wp2_with (first
        | refine wl_index_row rfl 150 _ _ rfl _ rfl _ _ rfl 64 129 Try.underlying150 _ Try.underlying129 rfl Try.size129 hk0 hk1 _ HV.out ?_
        | (go_at_call 115; refine (turned_any _ _ _ (by decide)).mono ?_; rintro e w1 ⟨rfl, rfl⟩))
      go_roundw
      case rel =>
        refine ⟨round1 X k x, t + 1, by omega, rfl, ?_, rfl, rfl, rfl, ?_, rfl, rfl, rfl, trivial, ?_⟩
        · simp only [notK, Sg0_val, Sg1_val, ch_val, maj_val]
          congr 1
          simp only [round1, rU, rV, u_sum]
          omega
        · simp only [notK, Sg1_val, ch_val]
          congr 1
          simp only [round1, rU, u_sum]
          omega
        · have := HR.out
          rw [show 64 - t = 64 - (t + 1) + 1 by omega, roundsN, ← HK.out.1, ← HK.out.2] at this
          exact this
      case measure => simp [intOf]; omega
end Go.Proofs.Ytchlmcpnjpllnaa

/- Bytes that a call gathers; a state as text; the padding. -/
namespace Go.Proofs.Ytchlmcpnjpllnaa
open Go.RowKit

theorem byte_of (n : Nat) : (n : Int) % 256 = ((UInt8.ofNat n).toNat : Int) := by simp
theorem u_bytes (x : BitVec 32) : [Value.int .u8 (u x / 16777216 % 256), .int .u8 (u x / 65536 % 256), .int .u8 (u x / 256 % 256), .int .u8 (u x % 256)] = bC (wBytes x) := by
  have e : ∀ k : Nat, u x / (k : Int) % 256 = ((UInt8.ofNat (x.toNat / k)).toNat : Int) := fun k => by rw [← byte_of]; rfl
  have e0 : u x % 256 = ((UInt8.ofNat x.toNat).toNat : Int) := by rw [← byte_of]; rfl
  have e1 := e 16777216
  have e2 := e 65536
  have e3 := e 256
  simp only [wBytes, bC, List.map_cons, List.map_nil]
  rw [← e1, ← e2, ← e3, ← e0]
  rfl

theorem flat_snoc (l : List (BitVec 32)) (j : Nat) (h : j < l.length) : (l.take (j + 1)).flatMap wBytes = (l.take j).flatMap wBytes ++ wBytes (l.getD j 0) := by
  rw [List.take_add_one, List.flatMap_append]
  simp [h, List.getD]
theorem flat_len (l : List (BitVec 32)) : (l.flatMap wBytes).length = 4 * l.length := by
  induction l with
  | nil => rfl
  | cons a l ih => simp [wBytes] at ih ⊢; omega

set_option maxRecDepth 100000 in
set_option maxHeartbeats 1600000 in
theorem stext_any (S : St) (w : World) :
    Calls Try.prog 110 #[.agg (uC S.list).toArray] w fun e w' => e = .returned (.string ⟨S.text.toArray⟩) ∧ Below w.heap.size w w' := by
  obtain ⟨i0, hi0, hz0, hz1, hz2⟩ := info_parts Try.info5
  have hmk : ∀ u : World, (Instr.makeSlice 57 (.int .i64 0) (.int .i64 32)).run Try.prog u = .ok (.slice (some ⟨u.heap.size, 0, none⟩) 0 32) (u.alloc (.cells (madeCells #[.int .u8 0] 32) 5)) := fun u => by
    have h := run_make (P := Try.prog) u 57 5 i0 (.int .u8 0) Try.underlying57 hi0 hz0 .i64 .i64 0 32 (by omega) (by omega) (by rw [hz2]; omega) (by omega)
    rw [hz1] at h
    exact h
  obtain ⟨SL, hSL⟩ : ∃ l, l = S.list := ⟨_, rfl⟩
  rw [← hSL]
  have HSL := hid hSL
  have HE := hid (list_len S)
  rw [← hSL] at HE
  have HM := hid hmk
  clear hSL hmk
  go_enter Try.func110, Try.ntmps110
  go_wp2_with (first
    | refine wl_box_row rfl 140 _ rfl _ rfl ?_
    | refine wl_load_row rfl 140 _ rfl w.heap.size 0 rfl (uC SL) _ Try.underlying140 rfl 8 (by rw [uC_len]; exact HE.out) Try.size140 (heap_cells (t := 140) (fr := (0, 0)) ((Below.heap_alloc _ _ _ (by simp)).trans (heap_alloc_last w _))) ?_
    | rw [HM.out])
  go_loopw [3, 8] (fun v i wr => ∃ j : Nat, j ≤ 8 ∧ i = .int .i64 (j : Int) ∧ Owned w.heap.size w wr v ((SL.take j).flatMap wBytes))
    (fun _ i _ => (8 - intOf i).toNat)
  case atStart =>
    refine ⟨0, by omega, rfl, ?_, ((Below.refl _ _).alloc (Nat.le_refl _) _).alloc (by simp) _, by simp; omega⟩
    have := World.ownsRow_made (base := w.heap.size) (e := 5) (size := 1) (w.alloc (.cells (uC SL).toArray 140)) (madeCells #[.int .u8 0] 32) 32 (by simp) (by decide) (size_madeCells _ _)
    simpa [bC] using this
  case round =>
    obtain ⟨j, hj, rfl, hO⟩ := hrel
    have HO := hid hO
    clear hO
    by_cases hj8 : j = 8
    · have hj1 : ¬ ((j : Int) < 8) := by omega
      have hc := HO.out.text
      have et : (SL.take j).flatMap wBytes = S.text := by rw [hj8, List.take_of_length_le (by rw [HE.out]; exact Nat.le_refl _), HSL.out]; rfl
      rw [et] at hc
      have HC := hid hc
      clear hc et hj hj8
      go_wp2_with rw [HC.out]
      go_ret
      exact ⟨rfl, HO.out.bel⟩
    · have hj1 : (j : Int) < 8 := by omega
      have hj0 : (0 : Int) ≤ (j : Int) := Int.natCast_nonneg _
      obtain ⟨x, ex⟩ : ∃ x, x = SL.getD j 0 := ⟨_, rfl⟩
      have hv : (uC SL).toArray[(j : Int).toNat]? = some (.int .u32 (u x)) := by
        rw [Int.toNat_natCast, List.getElem?_toArray, ex]
        exact uC_get SL j (by rw [HE.out]; omega)
      have HV := hid hv
      have HX := hid ex
      clear hv ex
      have hlen : ((SL.take j).flatMap wBytes).length + 4 ≤ 40 := by
        rw [flat_len, List.length_take, HE.out]
        omega
      have HN := hid hlen
      clear hlen
      go_wp2_with (first
        | refine wl_index_row rfl 140 _ _ rfl _ rfl _ _ rfl 8 129 Try.underlying140 _ Try.underlying129 rfl Try.size129 hj0 hj1 _ HV.out ?_
        | (at_builtin; refine wpList_append_own_at _ rfl _ _ 57 rfl w.heap.size 5 i0 (.int .u8 0) 1 1 Try.underlying57 hi0 hz0 hz1 hz2 rfl (by decide) _ _ _ rfl (HO.out.alloc _).own ⟨_, 0, none⟩ 4 4 (bC (wBytes x)) rfl rfl (by rw [← u_bytes]; exact World.news_of_block (t := 5) (fr := (0, 0)) (heap_alloc_last _ _)) (bC_one _) (by have := HN.out; unfold maxLen; omega) (by have := HN.out; omega) (HO.out.alloc _).le ?_
           intro v3 w3 hown3 hgrow3 i3 i4
           have HO3 := hid ((HO.out.alloc _).grow (xs := wBytes x) rfl hown3 hgrow3)
           clear hown3 hgrow3 i3 i4))
      go_roundw
      case rel => exact ⟨j + 1, by omega, rfl, by rw [flat_snoc _ _ (by rw [HE.out]; omega), ← HX.out]; exact HO3.out⟩
      case measure => simp [intOf]; omega
end Go.Proofs.Ytchlmcpnjpllnaa

/- The padding. -/
namespace Go.Proofs.Ytchlmcpnjpllnaa
open Go.RowKit

def zB (k : Nat) : Array Value := (bC (List.replicate k 0)).toArray
theorem zB_made (n : Nat) : madeCells #[Value.int .u8 0] n = zB n := by
  apply Array.ext'
  simp [madeCells, zB, bC]
  apply List.ext_getElem?
  intro i
  by_cases h : i < n
  · simp [h, Nat.mod_one]
  · simp [h]
theorem zB_size (k : Nat) : (zB k).size = k := by simp [zB, bC]
theorem zB_get (k : Nat) (h : 0 < k) : (zB k)[0]? = some (.int .u8 0) := by
  cases k with
  | zero => omega
  | succ k => simp [zB, bC, List.replicate_succ]
theorem take_pad (z : Nat) : (((zB (z + 9)).setIfInBounds 0 (.int .u8 128)).toList.take ((z + 1) * 1)) = bC (128 :: List.replicate z 0) := by
  have : List.replicate (z + 9) (0 : UInt8) = 0 :: List.replicate (z + 8) 0 := List.replicate_succ
  unfold zB
  rw [this]
  simp [bC, List.take_replicate]

theorem pad_byte (n k : Nat) : (8 * (n : Int)) / 2 ^ (8 * k) % 256 = ((UInt8.ofNat (8 * n / 256 ^ k)).toNat : Int) := by
  rw [← byte_of, show (256 : Nat) ^ k = 2 ^ (8 * k) by rw [Nat.pow_mul]]
  simp

set_option maxRecDepth 100000 in
set_option maxHeartbeats 1600000 in
theorem padding_any (n : Nat) (hn : n < 1152921504606846976) (w : World) :
    Calls Try.prog 109 #[.int .u64 (n : Int)] w fun e w' => e = .returned (.string ⟨(padB n).toArray⟩) ∧ Below w.heap.size w w' := by
  obtain ⟨i0, hi0, hz0, hz1, hz2⟩ := info_parts Try.info5
  obtain ⟨z, ez⟩ : ∃ z, z = zerosN n := ⟨_, rfl⟩
  have hz64 : z < 64 := by rw [ez]; unfold zerosN; omega
  have hmk : ∀ u : World, (Instr.makeSlice 57 (.int .u64 (1 + -(((n : Int) + 9) % 64) % 64)) (.int .u64 (9 + -(((n : Int) + 9) % 64) % 64))).run Try.prog u = .ok (.slice (some ⟨u.heap.size, 0, none⟩) (z + 1) (z + 9)) (u.alloc (.cells (zB (z + 9)) 5)) := fun u => by
    have e1 : 1 + -(((n : Int) + 9) % 64) % 64 = ((z + 1 : Nat) : Int) := by rw [ez]; unfold zerosN; omega
    have e2 : 9 + -(((n : Int) + 9) % 64) % 64 = ((z + 9 : Nat) : Int) := by rw [ez]; unfold zerosN; omega
    rw [e1, e2]
    have h := run_make (P := Try.prog) u 57 5 i0 (.int .u8 0) Try.underlying57 hi0 hz0 .u64 .u64 ((z + 1 : Nat) : Int) ((z + 9 : Nat) : Int) (by omega) (by omega) (by rw [hz2]; omega) (by omega)
    rw [hz1] at h
    simp only [Int.toNat_natCast, Nat.mul_one] at h
    rw [h]
    simp [Value.cells, zB_made]
  have HM := hid hmk
  have HN := hid hn
  have HZ := hid (And.intro ez hz64)
  have hn0 : (0 : Int) ≤ (n : Int) := Int.natCast_nonneg _
  have hn1 : (n : Int) + 9 < 18446744073709551616 := by omega
  have hn2 : 8 * (n : Int) < 18446744073709551616 := by omega
  have hl0 : (0 : Int) < ((z + 1 : Nat) : Int) := by omega
  have c0 : ∀ u : World, (u.alloc (.cells (zB (z + 9)) 5)).cell? ⟨u.heap.size, 0, none⟩ = some (.int .u8 0) := fun u => by
    have := heap_alloc_last u (.cells (zB (z + 9)) 5)
    simp only [World.cell?, this]
    exact zB_get _ (by omega)
  clear hn ez hz64 hmk
  go_enter Try.func109, Try.ntmps109
  go_wp2_with rw [HM.out]
  clear hl0 c0
  go_loopw [5, 6] (fun v i wr => ∃ (k : Nat) (l : List UInt8), k ≤ 8 ∧ i = .int .i64 ((k : Int) - 1) ∧ l.length + k = z + 9 ∧ l ++ be k (8 * n) = padB n ∧ Owned w.heap.size w wr v l)
    (fun _ i _ => (intOf i + 1).toNat)
  case atStart =>
    refine ⟨8, 128 :: List.replicate z 0, by omega, rfl, by simp, by rw [HZ.out.1]; rfl, ⟨by rw [bC_len, Nat.mul_one], .inr ⟨w.heap.size, z + 9, _, ?_, Nat.le_refl _, heap_alloc_last w _, ?_, ?_, ?_, ?_⟩⟩, (Below.refl _ _).alloc (Nat.le_refl _) _, by simp⟩
    · simp
    · simp
    · have := HZ.out.2; unfold maxLen; omega
    · rw [Array.size_setIfInBounds, zB_size, Nat.mul_one]
    · rw [List.length_cons, List.length_replicate]; exact take_pad z
  case round =>
    obtain ⟨k, l, hk, rfl, hlen, hl, hO⟩ := hrel
    have HO := hid (And.intro hO (And.intro hlen hl))
    clear hO hlen hl
    cases k with
    | zero =>
      have hc := HO.out.1.text
      have et : l = padB n := by have := HO.out.2.2; simpa [be] using this
      rw [et] at hc
      have HC := hid hc
      clear hc et hk
      go_wp2_with rw [HC.out]
      go_ret
      exact ⟨rfl, HO.out.1.bel⟩
    | succ j =>
      have ej : (((j + 1 : Nat) : Int) - 1) = (j : Int) := by omega
      rw [ej]
      clear ej
      have hj0 : (0 : Int) ≤ (j : Int) := Int.natCast_nonneg _
      have hj7 : (j : Int) ≤ 7 := by omega
      have hj8 : (0 : Int) ≤ 8 * (j : Int) := by omega
      have HB := hid (pad_byte n j)
      obtain ⟨c, ec⟩ : ∃ c, c = UInt8.ofNat (8 * n / 256 ^ j) := ⟨_, rfl⟩
      rw [← ec] at HB
      have HE := hid ec
      clear ec
      go_wp2_with (first
        | (at_builtin; refine wpList_append_own_at _ rfl _ _ 57 rfl w.heap.size 5 i0 (.int .u8 0) 1 1 Try.underlying57 hi0 hz0 hz1 hz2 rfl (by decide) _ _ _ rfl (HO.out.1.alloc _).own ⟨_, 0, none⟩ 1 1 (bC [c]) rfl rfl (by rw [HB.out]; exact World.news_of_block (t := 5) (fr := (0, 0)) (heap_alloc_last _ _)) (bC_one _) (by have := HO.out.2.1; have := HZ.out.2; unfold maxLen; omega) (by have := HO.out.2.1; have := HZ.out.2; omega) (HO.out.1.alloc _).le ?_
           intro v3 w3 hown3 hgrow3 i3 i4
           have HO3 := hid ((HO.out.1.alloc _).grow (xs := [c]) rfl hown3 hgrow3)
           clear hown3 hgrow3 i3 i4))
      go_roundw
      case rel =>
        refine ⟨j, l ++ [c], by omega, rfl, ?_, ?_, HO3.out⟩
        · have := HO.out.2.1
          rw [List.length_append, List.length_singleton]
          omega
        · have := HO.out.2.2
          rw [be, ← HE.out] at this
          rw [List.append_assoc]
          exact this
      case measure => simp [intOf]
end Go.Proofs.Ytchlmcpnjpllnaa

/- The digester in memory. -/
namespace Go.Proofs.Ytchlmcpnjpllnaa
open Go.RowKit

/-- The digester's cells: the state, the block, how much of it is used, how many bytes came in all. -/
def dgC (S : St) (B : List UInt8) (k n : Nat) : List Value := uC S.list ++ (bC B ++ [.int .i64 (k : Int), .int .u64 (n : Int)])
theorem dg_len (S : St) (B : List UInt8) (k n : Nat) (hB : B.length = 64) : (dgC S B k n).length = 74 := by
  simp [dgC, uC_len, bC_len, list_len, hB]
theorem dg_state (S : St) (B : List UInt8) (k n : Nat) (j : Nat) (v : Value) (h : (uC S.list)[j]? = some v) : (dgC S B k n)[0 + j]? = some v := by
  have hj : j < (uC S.list).length := (List.getElem?_eq_some_iff.1 h).1
  rw [Nat.zero_add, dgC, List.getElem?_append_left hj, h]
theorem dg_block (S : St) (B : List UInt8) (k n : Nat) (j : Nat) (v : Value) (h : (bC B)[j]? = some v) : (dgC S B k n)[8 + j]? = some v := by
  have hj : j < (bC B).length := (List.getElem?_eq_some_iff.1 h).1
  have e : (uC S.list).length = 8 := by rw [uC_len, list_len]
  rw [dgC, List.getElem?_append_right (by omega), e, show 8 + j - 8 = j by omega, List.getElem?_append_left hj, h]
theorem dg_used (S : St) (B : List UInt8) (k n : Nat) (hB : B.length = 64) : (dgC S B k n)[72]? = some (.int .i64 (k : Int)) := by
  have e : (uC S.list).length = 8 := by rw [uC_len, list_len]
  rw [dgC, List.getElem?_append_right (by omega), e, List.getElem?_append_right (by rw [bC_len]; omega), bC_len, hB]
  rfl
theorem dg_total (S : St) (B : List UInt8) (k n : Nat) (hB : B.length = 64) : (dgC S B k n)[73]? = some (.int .u64 (n : Int)) := by
  have e : (uC S.list).length = 8 := by rw [uC_len, list_len]
  rw [dgC, List.getElem?_append_right (by omega), e, List.getElem?_append_right (by rw [bC_len]; omega), bC_len, hB]
  rfl
theorem dg_set_used (S : St) (B : List UInt8) (k n k' : Nat) (hB : B.length = 64) : (dgC S B k n).set 72 (.int .i64 (k' : Int)) = dgC S B k' n := by
  have e : (uC S.list).length = 8 := by rw [uC_len, list_len]
  rw [dgC, List.set_append_right _ _ (by omega), e, List.set_append_right _ _ (by rw [bC_len]; omega), bC_len, hB]
  rfl
theorem dg_set_total (S : St) (B : List UInt8) (k n n' : Nat) (hB : B.length = 64) : (dgC S B k n).set 73 (.int .u64 (n' : Int)) = dgC S B k n' := by
  have e : (uC S.list).length = 8 := by rw [uC_len, list_len]
  rw [dgC, List.set_append_right _ _ (by omega), e, List.set_append_right _ _ (by rw [bC_len]; omega), bC_len, hB]
  rfl
theorem dg_put (S S' : St) (B : List UInt8) (k n : Nat) : splice (dgC S B k n) 0 (uC S'.list) = dgC S' B k n := by
  have e : (uC S.list).length = 8 := by rw [uC_len, list_len]
  have e' : (uC S'.list).length = 8 := by rw [uC_len, list_len]
  rw [splice, List.take_zero, List.nil_append, e', dgC, Nat.zero_add, ← e, List.drop_left]
  rfl
theorem dg_copy (S : St) (B : List UInt8) (k n j : Nat) (xs : List UInt8) (hB : B.length = 64) (h : j + xs.length ≤ 64) : splice (dgC S B k n) (8 + j) (bC xs) = dgC S (splice B j xs) k n := by
  have e : (uC S.list).length = 8 := by rw [uC_len, list_len]
  unfold splice dgC
  rw [List.take_append, List.drop_append, e, List.take_of_length_le (by rw [e]; omega), List.drop_eq_nil_of_le (by rw [e]; omega), List.nil_append, bC_len]
  rw [show 8 + j - 8 = j by omega, show 8 + j + xs.length - 8 = j + xs.length by omega]
  rw [List.take_append_of_le_length (by rw [bC_len]; omega), List.drop_append_of_le_length (by rw [bC_len]; omega)]
  simp [bC, List.map_take, List.map_drop]
theorem splice_take (B xs : List UInt8) (j : Nat) (h : j + xs.length ≤ B.length) : (splice B j xs).take (j + xs.length) = B.take j ++ xs := by
  unfold splice
  rw [← List.append_assoc, List.take_append_of_le_length (by simp; omega), List.take_of_length_le (by simp; omega)]

theorem arr_set (L : List Value) (j : Nat) (v : Value) : L.toArray.setIfInBounds j v = (L.set j v).toArray := by simp

/-- A digester at block b that has been given the bytes m. -/
structure Dig (w : World) (b : Nat) (S : St) (B : List UInt8) (k : Nat) (d m : List UInt8) : Prop where
  blk : w.heap[b]? = some (.cells (dgC S B k m.length).toArray 144 (0, 0))
  len : B.length = 64
  lt : k < 64
  st : S = hashB .start d
  whole : ∃ q, d.length = 64 * q
  all : d ++ B.take k = m

section
variable {P : Program} {o : Oper} {a : Act} {w : World} {K : Act → World → Prop} {Q : Exit → Act → World → Prop} {ops : Array Oper} {E : Prop}
end

end Go.Proofs.Ytchlmcpnjpllnaa

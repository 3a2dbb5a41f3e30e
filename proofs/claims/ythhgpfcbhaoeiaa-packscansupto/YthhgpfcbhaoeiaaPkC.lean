/- The contract of package pack's Scan: its deferred closure, its loop. -/
import Derived.Test.YthhgpfcbhaoeiaaPkX
import Derived.Test.YthhgpfcbhaoeiaaPkW
import Derived.Deep.RegionLaw
namespace Go.Proofs.Ythhgpfcbhaoeiaa
open Go.RowKit
attribute [local go_sem ↓] Go.wp_at_zero Go.wp_at_succ

theorem run_assert (w : World) : Sem.run Try.prog (Instr.typeAssert (.iface 76 (.agg #[])) 20 76 true) w = .ok (.tuple #[.agg #[], .bool true]) w := by kernel_rfl

theorem catch_short (p q : Nat) (x : Value) (y : Int) (w : World) (hp : w.cell? ⟨p, 0, none⟩ = some x) (hq : w.cell? ⟨q, 0, none⟩ = some (.int .i64 y)) (fp : w.frozen? ⟨p, 0, none⟩ = false) (fq : w.frozen? ⟨q, 0, none⟩ = false) (hpq : p ≠ q) (hpl : p < w.heap.size) (hql : q < w.heap.size) :
    CallsD Try.prog 42 #[.pointer (some ⟨p, 0, none⟩), .pointer (some ⟨q, 0, none⟩)] (.panicking [{ v := .iface 76 (.agg #[]), recovered := false }]) w fun e u' w' =>
      e = .returned (.tuple #[]) ∧ u' = .panicking [{ v := .iface 76 (.agg #[]), recovered := true }] ∧ w' = (((w.setCell ⟨p, 0, none⟩ (.slice none 0 0)).setCell ⟨q, 0, none⟩ (.int .i64 2)).alloc (.cells #[] 76)) := by
  have hta := run_assert
  refine callsD_of_wpS Try.func42 rfl fun c₀ cs hu => ?_
  apply wpS_seq
  apply wpS_region
  simp [wpOpsS, go_sem, recoverD, hu, Try.ntmps42, Exit.thenS]
  refine wpS_of_wp ?_
  rw [show (#[Value.pointer (some { block := p, off := 0 }), Value.pointer (some { block := q, off := 0 })] ++
          ((Array.replicate 14 undef).setIfInBounds 3 (Value.iface 76 (Value.agg #[]))).setIfInBounds 0
            (Value.iface 76 (Value.agg #[]))) = #[Value.pointer (some { block := p, off := 0 }), Value.pointer (some { block := q, off := 0 }), Value.iface 76 (Value.agg #[]), undef, undef, Value.iface 76 (Value.agg #[]), undef, undef, undef, undef, undef, undef, undef, undef, undef, undef] from rfl]
  go_wp2
  simp [bodyPostS, results, Try.results42]

theorem catch_idle (p q : Addr) (w : World) :
    CallsD Try.prog 42 #[.pointer (some p), .pointer (some q)] .returning w fun e u' w' => e = .returned (.tuple #[]) ∧ u' = .returning ∧ w' = w := by
  refine callsD_of_wpS Try.func42 rfl fun c₀ cs hu => ?_
  apply wpS_seq
  apply wpS_region
  simp [wpOpsS, go_sem, recoverD, hu, Try.ntmps42, Exit.thenS]
  refine wpS_of_wp ?_
  rw [show (#[Value.pointer (some p), Value.pointer (some q)] ++
          ((Array.replicate 14 undef).setIfInBounds 3 Value.nilIface).setIfInBounds 0 Value.nilIface) = #[Value.pointer (some p), Value.pointer (some q), Value.nilIface, undef, undef, Value.nilIface, undef, undef, undef, undef, undef, undef, undef, undef, undef, undef] from rfl]
  go_wp2
  cases c₀
  simp_all [bodyPostS, results, Try.results42]

/-- Things that were read, as cells. -/
def vC (l : List (Nat × Nat × ByteArray)) : List Value := l.flatMap fun x => [.int .i64 (x.1 : Int), .int .u64 (x.2.1 : Int), .string x.2.2]
theorem vC_len (l : List (Nat × Nat × ByteArray)) : (vC l).length = l.length * 3 := by
  induction l with
  | nil => rfl
  | cons x l ih => simp [vC] at ih ⊢; omega
theorem vC_app (a b : List (Nat × Nat × ByteArray)) : vC (a ++ b) = vC a ++ vC b := by simp [vC]

/-- What stands in a text by a shape's letters, and what is left; none where it falls short. -/
def scn : List UInt8 → ByteArray → Option (List (Nat × Nat × ByteArray) × ByteArray)
  | [], s => some ([], s)
  | c :: l, s => if nxOK c s then (scn l (nxS c s)).map (fun x => ((nxN c s, nxQ c s, nxT c s) :: x.1, x.2)) else none
theorem scn_snoc (l : List UInt8) (c : UInt8) : ∀ (s : ByteArray), scn (l ++ [c]) s = (scn l s).bind fun x => if nxOK c x.2 then some (x.1 ++ [(nxN c x.2, nxQ c x.2, nxT c x.2)], nxS c x.2) else none := by
  induction l with
  | nil => intro s; simp [scn]
  | cons d l ih =>
    intro s
    rw [List.cons_append, scn, scn]
    split
    · rw [ih]
      cases h : scn l (nxS d s) with
      | none => simp
      | some x => simp
    · simp
theorem scn_none (l : List UInt8) : ∀ (m : List UInt8) (s : ByteArray), scn l s = none → scn (l ++ m) s = none := by
  induction l with
  | nil => intro m s h; simp [scn] at h
  | cons d l ih =>
    intro m s h
    rw [List.cons_append, scn]
    rw [scn] at h
    split
    · rename_i hd
      rw [if_pos hd] at h
      rw [ih m _ (by simpa using h)]
      rfl
    · rfl
theorem scn_len (l : List UInt8) : ∀ (s : ByteArray) (x : List (Nat × Nat × ByteArray) × ByteArray), scn l s = some x → x.1.length = l.length := by
  induction l with
  | nil => intro s x h; simp [scn] at h; subst h; rfl
  | cons d l ih =>
    intro s x h
    rw [scn] at h
    split at h
    · simp at h
      obtain ⟨a, b, h1, rfl⟩ := h
      have := ih _ _ h1
      simp at this ⊢; omega
    · cases h

/-- Scan's error, and what it tells. -/
def scE (sh t : ByteArray) : Int := if okShape sh.data.toList then (match scn sh.data.toList t with | none => 2 | some x => if 0 < x.2.size then 5 else 0) else 1
def scV (sh t : ByteArray) : List (Nat × Nat × ByteArray) := if okShape sh.data.toList then (match scn sh.data.toList t with | none => [] | some x => if 0 < x.2.size then [] else x.1) else []

/-- What a call of Scan leaves. -/
def ScanPost (sh t : ByteArray) (w : World) (e : Ending) (w' : World) : Prop :=
  ∃ v, e = .returned (.tuple #[v, .int .i64 (scE sh t)]) ∧ w'.ownsRow w.heap.size 56 3 v (scV sh t).length (vC (scV sh t)) ∧ Below w.heap.size w w'

theorem Try.info56 : (Try.prog.info? 56).map (fun i => (i.zero, i.size, i.bytes)) = some (some (.agg #[.int .i64 0, .int .u64 0, .string ⟨#[]⟩]), 3, 32) := by kernel_rfl

/-- What the scan owns stays its own while its reader goes on. -/
theorem scan_own {wr w2 : World} {B n : Nat} {v : Value} {xs : List Value} (h : wr.ownsRow (B + 3) 56 3 v n xs) (hk : Kept (B + 1 + 1) none wr.drew w2) : w2.ownsRow (B + 3) 56 3 v n xs := by
  obtain ⟨h1, h2⟩ := h
  refine ⟨h1, ?_⟩
  rcases h2 with h2 | ⟨g, cap, cur, hv, hg, hh, r⟩
  · exact .inl h2
  · exact .inr ⟨g, cap, cur, hv, hg, by rw [hk.block g (lt_of_blk hh) (by omega) (by simp)]; exact hh, r⟩
theorem far_cell {w2 w3 : World} {o : Obj} {row : Option Nat} (hg : (w2.alloc o).grownBy w3 row) {k : Nat} {v : Value} (hk : k < w2.heap.size) (hne : some k ≠ row) (hc : w2.cell? ⟨k, 0, none⟩ = some v) : w3.cell? ⟨k, 0, none⟩ = some v :=
  (hg.cell_far ⟨k, 0, none⟩ (by simp; omega) hne).trans ((World.cell?_of_block (w := w2) (a := ⟨k, 0, none⟩) (Below.heap_alloc w2 o k hk)).trans hc)
theorem al_cell {w2 : World} {k : Nat} {v : Value} (hk : k < w2.heap.size) (hc : w2.cell? ⟨k, 0, none⟩ = some v) (o : Obj) : (w2.alloc o).cell? ⟨k, 0, none⟩ = some v :=
  (World.cell?_of_block (w := w2) (a := ⟨k, 0, none⟩) (Below.heap_alloc w2 o k hk)).trans hc
theorem far_free {w2 w3 : World} {o : Obj} {row : Option Nat} (hg : (w2.alloc o).grownBy w3 row) {k : Nat} (hk : k < w2.heap.size) (hne : some k ≠ row) (hc : w2.frozen? ⟨k, 0, none⟩ = false) : w3.frozen? ⟨k, 0, none⟩ = false :=
  (hg.frozen_far ⟨k, 0, none⟩ (by simp; omega) hne).trans ((World.frozen?_of_block (w := w2) (a := ⟨k, 0, none⟩) (Below.heap_alloc w2 o k hk)).trans hc)
theorem scan_base {x : World} {B n : Nat} {v : Value} {xs : List Value} (h : x.ownsRow (B + 3) 56 3 v n xs) : x.ownsRow B 56 3 v n xs := by
  obtain ⟨h1, h2⟩ := h
  refine ⟨h1, ?_⟩
  rcases h2 with h2 | ⟨g, cap, cur, hv, hg, r⟩
  · exact .inl h2
  · exact .inr ⟨g, cap, cur, hv, by omega, r⟩
theorem fell_world {w wr w2 : World} {n : Nat} {v : Value} {sk : ByteArray} {xs : List Value}
    (HM : RdAt wr (w.heap.size + 1 + 1) sk false ∧ wr.heap[w.heap.size]? = some (.cells #[v] 49 (0, 0)) ∧ wr.heap[w.heap.size + 1]? = some (.cells #[.int .i64 0] 35 (0, 0)) ∧ wr.ownsRow (w.heap.size + 3) 56 3 v n xs ∧ Below w.heap.size w wr)
    (hk2 : Kept (w.heap.size + 1 + 1) none wr.drew w2) :
    (∃ v, w2.heap[w.heap.size]? = some (.cells #[v] 49 (0, 0))) ∧ w2.heap[w.heap.size + 1]? = some (.cells #[.int .i64 0] 35 (0, 0)) ∧ Below w.heap.size w w2 := by
  obtain ⟨hrd, hvb, heb, ho, hbel⟩ := HM
  refine ⟨⟨v, ?_⟩, ?_, ?_⟩
  · rw [hk2.block _ (lt_of_blk hvb) (by omega) (by simp)]; exact hvb
  · rw [hk2.block _ (lt_of_blk heb) (by omega) (by simp)]; exact heb
  · have hz : w.heap.size + 1 < wr.heap.size := lt_of_blk heb
    exact hbel.trans ⟨hk2.os, hk2.tape, hk2.output, hk2.size, fun k hk => hk2.block k (by show k < wr.heap.size; omega) (by omega) (by simp)⟩
theorem scan_sep {wr : World} {B n : Nat} {v : Value} {xs : List Value} (h : wr.ownsRow (B + 3) 56 3 v n xs) : some B ≠ v.ownBlock := fun e => by
  have := (h.lt B e.symm).1
  omega

/-- What one round of the scan leaves. -/
theorem scan_step {w wr w2 w3 : World} {B n : Nat} {v V : Value} {sk s' : ByteArray} {xs ys : List Value} {o : Obj} (hB : B = w.heap.size)
    (HM : RdAt wr (B + 1 + 1) sk false ∧ wr.heap[B]? = some (.cells #[v] 49 (0, 0)) ∧ wr.heap[B + 1]? = some (.cells #[.int .i64 0] 35 (0, 0)) ∧ wr.ownsRow (B + 3) 56 3 v n xs ∧ Below B w wr)
    (HR : RdAt w2 (B + 1 + 1) s' false ∧ Kept (B + 1 + 1) none wr.drew w2) (hown : w3.ownsRow (B + 3) 56 3 V (n + 1) ys) (hgrow : (w2.alloc o).grownBy w3 v.ownBlock) :
    RdAt (w3.setCell ⟨B, 0, none⟩ V) (B + 1 + 1) s' false ∧ (w3.setCell ⟨B, 0, none⟩ V).heap[B]? = some (.cells #[V] 49 (0, 0)) ∧ (w3.setCell ⟨B, 0, none⟩ V).heap[B + 1]? = some (.cells #[.int .i64 0] 35 (0, 0)) ∧
      (w3.setCell ⟨B, 0, none⟩ V).ownsRow (B + 3) 56 3 V (n + 1) ys ∧ Below B w (w3.setCell ⟨B, 0, none⟩ V) := by
  obtain ⟨hrd, hvb, heb, ho, hbel⟩ := HM
  obtain ⟨hr2, hk2⟩ := HR
  have hlt : B + 1 + 1 < wr.heap.size := lt_of_blk hrd
  have hs2 : wr.heap.size ≤ w2.heap.size := hk2.size
  have hsep : ∀ k, k < B + 3 → some k ≠ v.ownBlock := fun k hk e => by have := (ho.lt k e.symm).1; omega
  have hg : ∀ k, k < B + 3 → w3.heap[k]? = w2.heap[k]? := fun k hk => by
    rw [hgrow.block k (by simp; omega) (hsep k hk)]
    exact Below.heap_alloc w2 o k (by omega)
  have hv3 : w3.heap[B]? = some (.cells #[v] 49 (0, 0)) := by
    rw [hg B (by omega), hk2.block B (by show B < wr.heap.size; omega) (by omega) (by simp)]; exact hvb
  refine ⟨?_, ?_, ?_, ?_, ?_⟩
  · have : w3.heap[B + 1 + 1]? = w2.heap[B + 1 + 1]? := hg _ (by omega)
    exact (Below.heap_setCell _ _ _ _ (by show B + 1 + 1 ≠ B; omega)).trans (this.trans hr2)
  · simp [World.setCell, Array.getElem?_modify, hv3]
  · rw [Below.heap_setCell _ _ _ _ (by show B + 1 ≠ B; omega), hg _ (by omega), hk2.block (B + 1) (by show B + 1 < wr.heap.size; omega) (by omega) (by simp)]; exact heb
  · exact ownsRow_setCell_below hown (by show B < B + 3; omega) _
  · refine Below.setCell ?_ (by show B ≤ B; omega) _
    have hb2 : Below B w w2 := hbel.trans ⟨hk2.os, hk2.tape, hk2.output, hk2.size, fun k hk => hk2.block k (by show k < wr.heap.size; omega) (by omega) (by simp)⟩
    exact (hb2.alloc (by omega) o).grown hgrow (by simp; omega) (fun k hk => by have := (ho.lt k hk).1; omega)

set_option maxRecDepth 100000 in
set_option maxHeartbeats 1600000 in
theorem scan_bad (sh t : ByteArray) (w : World) (hs : sh.size ≤ maxLen) (hb : okShape sh.data.toList = false) :
    Calls Try.prog 22 #[.string sh, .string t] w (ScanPost sh t w) := by
  have HC := hid (fun w => shape_any sh w hs)
  have hE : scE sh t = 1 := by simp [scE, hb]
  have hV : scV sh t = [] := by simp [scV, hb]
  have HE := hid hE
  have HV := hid hV
  clear hE hV hs
  go_enter_defers Try.func22, Try.ntmps22
  go_wp2_with fail
  refine (HC.out _).mono ?_
  rintro e w' ⟨rfl, rfl⟩
  go_wp2
  refine ⟨.tuple #[.slice none 0 0, .int .i64 1], by simp [results, Try.results22, go_sem], .slice none 0 0, by rw [HE.out], by rw [HV.out]; exact World.ownsRow_nil _ _ _ _, ?_⟩
  exact ((Below.refl _ _).alloc (Nat.le_refl _) _).alloc (by simp) _

/-- The way out by the scan's own panic. -/
def Fell (w0 : World) : Exit → Act → World → Prop
  | .panic c, a, w => c = [{ v := .iface 76 (.agg #[]), recovered := false }] ∧ a.tmps.getD 4 undef = .pointer (some ⟨w0.heap.size, 0, none⟩) ∧ a.tmps.getD 5 undef = .pointer (some ⟨w0.heap.size + 1, 0, none⟩) ∧
      a.defers = [{ target := Target.fn (Fn.func 42) #[Value.pointer (some { block := w0.heap.size, off := 0 }), Value.pointer (some { block := w0.heap.size + 1, off := 0 })], args := #[] }] ∧
      (∃ v, w.heap[w0.heap.size]? = some (.cells #[v] 49 (0, 0))) ∧ w.heap[w0.heap.size + 1]? = some (.cells #[.int .i64 0] 35 (0, 0)) ∧ Below w0.heap.size w0 w
  | _, _, _ => False

theorem fell_put (w0 : World) (d : Tmp) (v : Value) (h4 : d ≠ 4) (h5 : d ≠ 5) (c : List PanicEntry) (a : Act) (w : World) (h : Fell w0 (.panic c) (a.put (some d) v) w) : Fell w0 (.panic c) a w := by
  obtain ⟨h1, h2, h3, h6⟩ := h
  refine ⟨h1, ?_, ?_, h6⟩
  · rw [← h2]; simp [Act.put, h4]
  · rw [← h3]; simp [Act.put, h5]

theorem fell_leaves (sh t : ByteArray) (w0 : World) (hE : scE sh t = 2) (hV : scV sh t = []) (c : List PanicEntry) (a : Act) (w : World) (h : Fell w0 (.panic c) a w) : bodyPostD Try.prog Try.f22 (ScanPost sh t w0) (.panic c) a w := by
  obtain ⟨rfl, h4, h5, hd, ⟨v, hv⟩, he, hb⟩ := h
  show Leaves _ _ _ _ _ _ _
  rw [hd]
  refine leaves_cons (f := 42) (args := #[Value.pointer (some { block := w0.heap.size, off := 0 }), Value.pointer (some { block := w0.heap.size + 1, off := 0 })]) (by simp) (by simp [go_sem]) ?_
  refine (catch_short w0.heap.size (w0.heap.size + 1) v 0 w (cell_of_blk hv 0 (by simp)) (cell_of_blk he 0 (by simp)) (free_of_blk hv 0) (free_of_blk he 0) (by omega) (lt_of_blk hv) (lt_of_blk he)).mono ?_
  rintro e u' w'' ⟨rfl, rfl, rfl⟩
  show Leaves _ _ _ _ _ _ _
  refine ⟨.tuple #[.slice none 0 0, .int .i64 2], ?_, .slice none 0 0, by rw [hE], by rw [hV]; exact World.ownsRow_nil _ _ _ _, ?_⟩
  · have l1 := lt_of_blk hv
    have l2 := lt_of_blk he
    have cv := cell_of_blk hv 0 (by simp)
    have ce := cell_of_blk he 0 (by simp)
    have h4' : a.tmps[4]?.getD undef = .pointer (some ⟨w0.heap.size, 0, none⟩) := by rw [← Array.getD_eq_getD_getElem?]; exact h4
    have h5' : a.tmps[5]?.getD undef = .pointer (some ⟨w0.heap.size + 1, 0, none⟩) := by rw [← Array.getD_eq_getD_getElem?]; exact h5
    simp [results, Try.results22, h4', h5', go_sem, cv, ce, l1, l2]
  · have := lt_of_blk he
    exact ((hb.setCell (by show _ ≤ w0.heap.size; omega) _).setCell (by show _ ≤ w0.heap.size + 1; omega) _).alloc (by simp [World.setCell]; omega) _

set_option maxRecDepth 100000 in
set_option maxHeartbeats 3200000 in
theorem scan_run (sh t : ByteArray) (w : World) (hs : sh.size * 32 ≤ 140737488355328) (hb : okShape sh.data.toList = true) :
    Calls Try.prog 22 #[.string sh, .string t] w (ScanPost sh t w) := by
  have HC := hid (fun w => shape_any sh w (by unfold maxLen; omega))
  obtain ⟨i0, hi0, hz0, hz1, hz2⟩ := info_parts Try.info56
  have hmf : ∀ (fn : Fn) (first cap : Array Value) (w : World), (Instr.makeFunc fn first cap).run Try.prog w = .ok (.func fn first cap) w := fun _ _ _ _ => rfl
  have HB := hid hb
  go_enter_defers Try.func22, Try.ntmps22
  go_wp2_with fail
  refine (HC.out _).mono ?_
  rintro e w' ⟨rfl, rfl⟩
  clear hb
  rw [HB.out]
  go_wp2_with fail
  refine (read_any t _).mono ?_
  rintro e w1 ⟨rfl, hw1⟩
  have hr1 : RdAt w1 (w.heap.size + 1 + 1) t false := by
    have := heap_alloc_new ((w.alloc (Obj.cells #[Value.slice none 0 0] 49)).alloc (Obj.cells #[Value.int IntKind.i64 0] 35)) (.cells #[.string t, .bool false] 71)
    rw [World.size_alloc, World.size_alloc] at this
    rw [hw1]; exact this
  have hv1 : w1.heap[w.heap.size]? = some (.cells #[.slice none 0 0] 49 (0, 0)) := by rw [hw1, Below.heap_alloc _ _ _ (by simp; omega), Below.heap_alloc _ _ _ (by simp)]; exact heap_alloc_new w _
  have he1 : w1.heap[w.heap.size + 1]? = some (.cells #[.int .i64 0] 35 (0, 0)) := by
    have := heap_alloc_new (w.alloc (Obj.cells #[Value.slice none 0 0] 49)) (.cells #[.int .i64 0] 35)
    rw [World.size_alloc] at this
    rw [hw1, Below.heap_alloc _ _ _ (by simp)]; exact this
  have hb1 : Below w.heap.size w w1 := by rw [hw1]; exact (((Below.refl _ _).alloc (Nat.le_refl _) _).alloc (by simp) _).alloc (by simp; omega) _
  have H1 := hid (And.intro hr1 (And.intro hv1 (And.intro he1 hb1)))
  clear hw1 hr1 hv1 he1 hb1
  simp only [World.size_alloc]
  go_wp2_with fail
  go_loopw [16] (fun i wr => ∃ (k : Nat) (vs : List (Nat × Nat × ByteArray)) (sk : ByteArray) (v : Value), k ≤ sh.size ∧ i = .int .i64 k ∧ scn (sh.data.toList.take k) t = some (vs, sk) ∧
      RdAt wr (w.heap.size + 1 + 1) sk false ∧ wr.heap[w.heap.size]? = some (.cells #[v] 49 (0, 0)) ∧ wr.heap[w.heap.size + 1]? = some (.cells #[.int .i64 0] 35 (0, 0)) ∧
      wr.ownsRow (w.heap.size + 3) 56 3 v vs.length (vC vs) ∧ Below w.heap.size w wr)
    (fun i _ => sh.size - (intOf i).toNat)
  case atStart => exact ⟨0, [], t, .slice none 0 0, Nat.zero_le _, rfl, rfl, H1.out.1, H1.out.2.1, H1.out.2.2.1, World.ownsRow_nil _ _ _ _, H1.out.2.2.2⟩
  case round =>
    obtain ⟨k, vs, sk, v, hk, rfl, hsc, hrd, hvb, heb, hown, hbel⟩ := hrel
    have HS := hid hsc
    have HM := hid (And.intro hrd (And.intro hvb (And.intro heb (And.intro hown hbel))))
    clear hsc hrd hvb heb hown hbel
    by_cases hlt : k < sh.size
    · have hc : ltr sh[k] = true := by
        have := HB.out
        unfold okShape at this
        rw [List.all_eq_true] at this
        exact this _ (by simp [ByteArray.getElem_eq_getElem_data])
      have HCc := hid hc
      clear hc
      go_wp2_with fail
      cases hnx : nxOK sh[k] sk with
      | true =>
        have HN := hid hnx
        clear hnx
        have cv := cell_of_blk HM.out.2.1 0 (by simp)
        have hsz := HM.out.2.2.2.2.size
        have hvl : vs.length ≤ k := by have := scn_len _ _ _ HS.out; simp at this; omega
        have hlw := lt_of_blk HM.out.1
        simp at cv
        refine wp_region_noPanic ?_
        go_region_law
          ((first
            | (refine step_append_lies _ (by rfl) _ _ _ (by rfl) (w.heap.size + 3) 56 i0 _ 3 32 Try.underlying49 hi0 hz0 hz1 hz2 rfl (by omega) v vs.length (vC vs) (by rfl) (hown2.alloc _) ⟨w2.heap.size, 0, none⟩ 1 1 [.int .i64 (nxN sh[k] sk : Int), .int .u64 (nxQ sh[k] sk : Int), .string (nxT sh[k] sk)] (by rfl) (by rfl) (World.news_of_block (cs := #[.int .i64 (nxN sh[k] sk : Int), .int .u64 (nxQ sh[k] sk : Int), .string (nxT sh[k] sk)]) (t := 56) (fr := (0, 0)) (heap_alloc_new w2 _)) (by simp [Value.oneCell']) (by omega) (by unfold maxLen; omega) (by omega) (by simp; omega) (w2.heap.size + 1) (by simp) ?_; intro gg cap w3 hown3 hgrow hat hlt3; have cz := far_cell hgrow (by omega) hbv cv2; have fz := far_free hgrow (by omega) hbv fv2)
            | (go_simp; go_at_call 43; refine (next_ok (w.heap.size + 1 + 1) sh[k] sk _ HCc.out (by exact HM.out.1) HN.out).mono ?_; rintro e w2 ⟨rfl, hrd2, hk2⟩; have HR2 := hid (And.intro hrd2 hk2); have hs2 : wr.heap.size ≤ w2.heap.size := hk2.size; have cv2 : w2.cell? ⟨w.heap.size, 0, none⟩ = some v := (hk2.cell (by simp; omega) (by omega) (by simp)).trans (by simpa using cv); have fv2 : w2.frozen? ⟨w.heap.size, 0, none⟩ = false := (hk2.frozen (by simp; omega) (by omega) (by simp)).trans (free_of_blk HM.out.2.1 0); have hown2 := scan_own HM.out.2.2.2.1 hk2; have hbv := scan_sep HM.out.2.2.2.1; have cva := al_cell (by omega) cv2; clear hrd2 hk2)))
        all_goals refine NoPanic.normal ?_
        all_goals go_wp2
        all_goals
          go_roundw
          case rel =>
            have st := scan_step rfl HM.out HR2.out hown3 hgrow
            refine ⟨k + 1, vs ++ [(nxN sh[k] sk, nxQ sh[k] sk, nxT sh[k] sk)], nxS sh[k] sk, .slice (some ⟨gg, 0, none⟩) (vs.length + 1) cap, by omega, by go_num, ?_, st.1, st.2.1, st.2.2.1, ?_, st.2.2.2.2⟩
            · rw [take_snoc sh k hlt, scn_snoc, HS.out]
              simp [HN.out]
            · rw [List.length_append, vC_app]; exact st.2.2.2.1
          case measure => simp [intOf]; omega
      | false =>
        have HN := hid hnx
        clear hnx
        have hE : scE sh t = 2 ∧ scV sh t = [] := by
          have h1 : scn (sh.data.toList.take (k + 1)) t = none := by rw [take_snoc sh k hlt, scn_snoc, HS.out]; simp [HN.out]
          have h2 := scn_none _ (sh.data.toList.drop (k + 1)) _ h1
          rw [List.take_append_drop] at h2
          simp [scE, scV, HB.out, h2]
        have HE := hid hE
        clear hE
        have cv := cell_of_blk HM.out.2.1 0 (by simp)
        simp at cv
        refine Code.wp_mono (Q := Fell w) ?_ ?_
        · intro e a w' h
          cases e with
          | panic c => exact fell_leaves sh t w HE.out.1 HE.out.2 c a w' h
          | _ => exact h.elim
        · have hix : ∀ w, (Instr.index 9 (.string sh) (.int .i64 (k : Int))).run Try.prog w = .ok (.int .u8 (sh[k].toNat : Int)) w := by
            intro w
            have h0 : (0 : Int) ≤ (k : Int) := Int.natCast_nonneg _
            go_simp
          refine wp_region_any (by kernel_rfl) ?_
          change wpAny _ _ _ _ _ _ _ (World.drew _)
          refine wpAny_take (i := 1) (v := .pointer (some ⟨w.heap.size + 1 + 1, 0, none⟩)) rfl (by kernel_rfl) (by kernel_rfl) (by kernel_rfl) (fell_put w 20 _ (by decide) (by decide)) (Or.inl ⟨by rfl, ?_⟩) ?_
          · intro w; go_simp
          refine wpAny_take (i := 2) (v := .string sh) rfl (by kernel_rfl) (by kernel_rfl) (by kernel_rfl) (fell_put w 21 _ (by decide) (by decide)) (Or.inl ⟨by rfl, ?_⟩) ?_
          · intro w; go_simp
          refine wpAny_take (i := 3) (v := .int .i64 k) rfl (by kernel_rfl) (by kernel_rfl) (by kernel_rfl) (fell_put w 22 _ (by decide) (by decide)) (Or.inl ⟨by rfl, ?_⟩) ?_
          · intro w; go_simp
          refine wpAny_take (i := 4) (v := .int .u8 (sh[k].toNat : Int)) rfl (by kernel_rfl) (by kernel_rfl) (by kernel_rfl) (fell_put w 23 _ (by decide) (by decide)) (Or.inl ⟨by rfl, ?_⟩) ?_
          · intro w; go_simp
          refine wpAny_ready (rs := [0, 5]) (by kernel_rfl) (by simp) ?_
          refine AllReady.cons rfl (fun K hK => ?_) ?_
          · go_simp
            refine hK _ _ ?_
            clear hK K
            refine wpAny_ready (rs := [5]) (by kernel_rfl) (by simp) ?_
            refine AllReady.cons rfl (fun K hK => ?_) AllReady.nil
            go_simp
            refine (next_short (w.heap.size + 1 + 1) sh[k] sk _ HCc.out (by exact HM.out.1) HN.out).mono ?_
            rintro e w2 ⟨rfl, hk2⟩
            exact ⟨rfl, rfl, rfl, rfl, fell_world HM.out hk2⟩
          · refine AllReady.cons rfl (fun K hK => ?_) AllReady.nil
            go_simp
            refine (next_short (w.heap.size + 1 + 1) sh[k] sk _ HCc.out (by exact HM.out.1) HN.out).mono ?_
            rintro e w2 ⟨rfl, hk2⟩
            exact ⟨rfl, rfl, rfl, rfl, fell_world HM.out hk2⟩
    · go_wp2_with fail
      refine (left_any (w.heap.size + 1 + 1) sk false wr HM.out.1).mono ?_
      rintro e w' ⟨rfl, rfl⟩
      have cv := cell_of_blk HM.out.2.1 0 (by simp)
      have ce := cell_of_blk HM.out.2.2.1 0 (by simp)
      have fv := free_of_blk HM.out.2.1 0
      have fe := free_of_blk HM.out.2.2.1 0
      simp at cv ce
      have HS2 : Hid (scn sh.data.toList t = some (vs, sk)) := by
        have := HS.out
        rw [List.take_of_length_le (by simp; have : sh.data.size = sh.size := rfl; omega)] at this
        exact this
      obtain ⟨av, nv, capv, rfl⟩ : ∃ av nv capv, v = .slice av nv capv := by
        rcases HM.out.2.2.2.1.2 with ⟨hv, _⟩ | ⟨g, cap, cur, hv, _⟩
        · exact ⟨_, _, _, hv⟩
        · exact ⟨_, _, _, hv⟩
      have l1 := lt_of_blk HM.out.2.1
      have l2 := lt_of_blk HM.out.2.2.1
      by_cases hsk : 0 < sk.size
      · have HE : Hid (scE sh t = 5 ∧ scV sh t = []) := by
          unfold Hid
          simp [scE, scV, HB.out, HS2.out, hsk]
        go_wp2
        refine leaves_cons (f := 42) (args := #[Value.pointer (some { block := w.heap.size, off := 0 }), Value.pointer (some { block := w.heap.size + 1, off := 0 })]) (by simp) (by simp [go_sem]) ?_
        refine (catch_idle _ _ _).mono ?_
        rintro e u' w'' ⟨rfl, rfl, rfl⟩
        refine ⟨.tuple #[.slice none 0 0, .int .i64 5], by simp [results, Try.results22, go_sem, cv, ce], .slice none 0 0, by rw [HE.out.1], by rw [HE.out.2]; exact World.ownsRow_nil _ _ _ _, ?_⟩
        exact (HM.out.2.2.2.2.setCell (by show _ ≤ w.heap.size; omega) _).setCell (by show _ ≤ w.heap.size + 1; omega) _
      · have HE : Hid (scE sh t = 0 ∧ scV sh t = vs) := by
          unfold Hid
          simp [scE, scV, HB.out, HS2.out, hsk]
        go_wp2
        refine leaves_cons (f := 42) (args := #[Value.pointer (some { block := w.heap.size, off := 0 }), Value.pointer (some { block := w.heap.size + 1, off := 0 })]) (by simp) (by simp [go_sem]) ?_
        refine (catch_idle _ _ _).mono ?_
        rintro e u' w'' ⟨rfl, rfl, rfl⟩
        refine ⟨.tuple #[.slice av nv capv, .int .i64 0], by simp [results, Try.results22, go_sem, cv, ce], .slice av nv capv, by rw [HE.out.1], ?_, ?_⟩
        · rw [HE.out.2]
          exact scan_base (ownsRow_setCell_below (ownsRow_setCell_below HM.out.2.2.2.1 (by show w.heap.size < _; omega) _) (by show w.heap.size + 1 < _; omega) _)
        · exact (HM.out.2.2.2.2.setCell (by show _ ≤ w.heap.size; omega) _).setCell (by show _ ≤ w.heap.size + 1; omega) _

theorem scan_any (sh t : ByteArray) (w : World) (hs : sh.size * 32 ≤ 140737488355328) : Calls Try.prog 22 #[.string sh, .string t] w (ScanPost sh t w) := by
  cases hb : okShape sh.data.toList with
  | true => exact scan_run sh t w hs hb
  | false => exact scan_bad sh t w (by unfold maxLen; omega) hb

end Go.Proofs.Ythhgpfcbhaoeiaa

/- The tables as calls. -/
import Derived.Test.YtebhkifjommpjaaShW
namespace Go.Proofs.Ytebhkifjommpjaa
open Go.RowKit

/-- Noughts. -/
def z64 : List (BitVec 32) := List.replicate 64 0
theorem z64_len : (uC z64).length = 64 := by rw [uC_len, z64, List.length_replicate]
theorem Try.info92 : (Try.prog.info? 92).map (fun i => (i.zero, i.size)) = some (some (.agg (uC z64).toArray), 64) := by kernel_rfl
theorem Try.info83 : (Try.prog.info? 83).map (fun i => (i.zero, i.size)) = some (some (.agg (Array.replicate 64 (.int .u8 0))), 64) := by kernel_rfl
theorem Try.size92 : (Try.prog.info? 92).map (·.size) = some 64 := (zero_of_info Try.info92).2
theorem Try.size83 : (Try.prog.info? 83).map (·.size) = some 64 := (zero_of_info Try.info83).2

theorem start_any (w : World) : Calls Try.prog 58 #[] w fun e w' => e = .returned (.agg hC) ∧ Below w.heap.size w w' := by
  go_enter Try.func58, Try.ntmps58
  go_wp2
  refine bodyPost_ret (v := .agg hC) (by simp [results, Try.results58, go_sem]; rfl) rfl ⟨rfl, (Below.refl _ _).alloc (Nat.le_refl _) _⟩

set_option maxRecDepth 100000 in
theorem qconstants_any (w : World) : Calls Try.prog 53 #[] w fun e w' => e = .returned (.slice (some ⟨w.heap.size, 0, none⟩) 64 64) ∧ w' = w.alloc (.cells kC 73) := by
  go_enter Try.func53, Try.ntmps53
  go_wp2
  go_ret
  exact ⟨rfl, rfl⟩

theorem uC_one (l : List (BitVec 32)) : ∀ v ∈ uC l, v.oneCell' = true := by
  intro v hv
  obtain ⟨_, _, rfl⟩ := List.mem_map.1 hv
  rfl
theorem splice_all {α : Type} (L cs : List α) (h : L.length = cs.length) : splice L 0 cs = cs := by
  simp [splice, ← h]

theorem kList_len : (uC kList).length = 64 := by rw [uC_len]; rfl
/-- A result that lies in a block. -/
theorem ret_row {f : Func} {a : Act} {w : World} {Q : Ending → World → Prop} {s : Nat} {t : TypeId} {ad : Addr} {v : Value} (hr : f.results = #[.cell s t]) (hs : a.tmps.getD s undef = .pointer (some ad)) (hl : (loadVar t ad).run Try.prog w = .ok v w) (hd : a.defers = [])
    (h : Q (.returned v) w) : bodyPost Try.prog f Q .ret a w := by
  refine bodyPost_ret (v := v) ?_ hd h
  have h1 : a.tmps.getD s undef = .pointer (some ad) := hs
  simp [results, hr, -Array.getD_eq_getD_getElem?, h1, asAddr, hl]

set_option maxRecDepth 100000 in
theorem constants_any (w : World) : Calls Try.prog 67 #[] w fun e w' => e = .returned (.agg kC) ∧ Below w.heap.size w w' := by
  go_enter Try.func67, Try.ntmps67
  iterate 4 go_step
  refine owp_alloc_row 92 rfl _ _ Try.info92 ?_
  iterate 7 go_step
  refine owp_build_row 92 _ rfl (.agg (uC kList).toArray) (by kernel_rfl) ?_
  iterate 2 go_step
  refine owp_store_row 92 _ _ rfl w.heap.size 0 rfl 92 (uC z64) (uC kList) rfl (heap_alloc_last _ _) 64 kList_len Try.size92 (by rw [z64_len]; decide) (uC_one _) ?_
  intro w2 h2 e2
  have hl : (loadVar 92 ⟨w.heap.size, 0, none⟩).run Try.prog w2 = .ok (.agg (uC kList).toArray) w2 := by
    refine run_load_row (w := w2) 92 w.heap.size 0 (uC kList) _ Try.underlying92 rfl 64 kList_len Try.size92 (heap_cells (t := 92) (fr := (0, 0)) ?_)
    have := h2.out
    rw [splice_all _ _ (by rw [kList_len, z64_len])] at this
    exact this
  iterate 6 go_step
  refine ret_row rfl rfl hl rfl ⟨rfl, ?_⟩
  rw [e2.out]
  exact Below.setRow ((Below.refl _ _).alloc (Nat.le_refl _) _) (Nat.le_refl _) _

end Go.Proofs.Ytebhkifjommpjaa

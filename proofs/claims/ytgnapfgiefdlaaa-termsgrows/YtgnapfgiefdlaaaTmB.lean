/- The program's book: a struct with a map keyed by signatures, made when something is noted. -/
import Derived.Test.YtgnapfgiefdlaaaTmA
import Derived.Test.YtgnapfgiefdlaaaBaE
import Derived.Deep.QuietTactic
import Derived.BigQuiet
import Derived.Deep.RegionHeld3
namespace Go.Proofs.Ytgnapfgiefdlaaa
open Go.RowKit Go.Maps

section
variable {P : Program} {ops : Array Oper} {o : Oper} {a : Act} {w : World} {Q : Exit → Act → World → Prop} {K : Act → World → Prop}
theorem wpOp_h {i : Nat} (hi : ops[i]? = some o) (hw : Region.wanted o (yielded ops a.tmps) = true) (h : ∀ K' : Act → World → Prop, (∀ a w, K a w → K' a w) → o.wp P a w K' Q) : wpOp P ops Q i K a w := by
  unfold Go.wpOp
  simp only [hi, hw, if_true]
  exact .inl (h _ (fun _ _ h => h))
end
theorem map_type : Try.prog.underlying 57 = some (.map 34 60) := by kernel_rfl
theorem unit_zero (w : World) : (zeroValue 60).run Try.prog w = .ok (.agg #[]) w := by kernel_rfl
/-- The book at v: F its blocks, L what stands in it. -/
structure BkAt (F : List Nat) (w : World) (v : Value) (L : List (Int × ByteArray)) : Prop where
  bk : ∃ g, v = .pointer (some ⟨g, 0, none⟩) ∧ ((F = [g] ∧ w.heap[g]? = some (.cells #[.map none] 59 (0, 0)) ∧ L = []) ∨
    ∃ m D, F = [g, m] ∧ g ≠ m ∧ w.heap[g]? = some (.cells #[.map (some m)] 59 (0, 0)) ∧ w.ownsMap Try.prog 34 unitElem m L.length D ∧ Holds D (.agg []) (.agg []) L)
theorem BkAt.form {F : List Nat} {w : World} {v : Value} {L : List (Int × ByteArray)} (h : BkAt F w v L) : ∃ g, v = .pointer (some ⟨g, 0, none⟩) := by
  obtain ⟨g, h1, _⟩ := h.bk
  exact ⟨g, h1⟩
theorem BkAt.lt {F : List Nat} {w : World} {v : Value} {L : List (Int × ByteArray)} (h : BkAt F w v L) : ∀ b, b ∈ F → b < w.heap.size := by
  obtain ⟨g, _, ⟨rfl, hg, _⟩ | ⟨m, D, rfl, _, hg, hm, _⟩⟩ := h.bk
  · intro b hb
    rw [List.mem_singleton.1 hb]
    exact lt_of_blk hg
  · intro b hb
    simp at hb
    rcases hb with rfl | rfl
    · exact lt_of_blk hg
    · exact hm.lt
theorem BkAt.nodup {F : List Nat} {w : World} {v : Value} {L : List (Int × ByteArray)} (h : BkAt F w v L) : L.Nodup := by
  obtain ⟨g, _, ⟨_, _, rfl⟩ | ⟨m, D, _, _, _, _, hH⟩⟩ := h.bk
  · exact List.nodup_nil
  · exact hH.nodup
theorem BkAt.keep {F : List Nat} {w w' : World} {v : Value} {L : List (Int × ByteArray)} (h : BkAt F w v L) (_ : w.heap.size ≤ w'.heap.size) (hb : ∀ b, b ∈ F → w'.heap[b]? = w.heap[b]?) : BkAt F w' v L := by
  obtain ⟨g, h1, ⟨rfl, hg, h0⟩ | ⟨m, D, rfl, hne, hg, hm, hH⟩⟩ := h.bk
  · exact ⟨g, h1, .inl ⟨rfl, (hb g (by simp)).trans hg, h0⟩⟩
  · refine ⟨g, h1, .inr ⟨m, D, rfl, hne, (hb g (by simp)).trans hg, ?_, hH⟩⟩
    obtain ⟨es, clock, hb2, r⟩ := hm
    exact ⟨es, clock, (hb m (by simp)).trans hb2, r⟩
theorem BkAt.of_below {F : List Nat} {w w' : World} {v : Value} {L : List (Int × ByteArray)} (h : BkAt F w v L) (hb : Below w.heap.size w w') : BkAt F w' v L :=
  h.keep hb.size (fun b hF => hb.block b (h.lt b hF))
/-- The book's one field, and what a look-up in it answers. -/
theorem BkAt.look {F : List Nat} {w : World} {g : Nat} {L : List (Int × ByteArray)} (h : BkAt F w (.pointer (some ⟨g, 0, none⟩)) L) : ∃ mo, w.cell? ⟨g, 0, none⟩ = some (.map mo) ∧
    (∀ p, fitP p → (Instr.lookup 57 (.map mo) (.agg #[.int .i64 p.1, .string p.2]) true).run Try.prog w = .ok (.tuple #[.agg #[], .bool (stands L p)]) w) := by
  obtain ⟨g', h1, ⟨_, hg, rfl⟩ | ⟨m, D, _, _, hg, hm, hH⟩⟩ := h.bk
  · cases h1
    refine ⟨none, cell_at (L := [.map none]) hg 0 _ rfl, fun p hp => ?_⟩
    exact Maps.look_nil true sig_keyed map_type (unit_zero w) (sig_key p hp)
  · cases h1
    refine ⟨some m, cell_at (L := [.map (some m)]) hg 0 _ rfl, fun p hp => ?_⟩
    obtain ⟨v, ps, hrun, hR⟩ := hm.look_ok sig_keyed map_type (unit_zero w) unitElem_mk (sig_key p hp)
    obtain ⟨rfl, _⟩ := unitElem_inv hR
    rw [hrun, hH.has_ p hp]
set_option maxHeartbeats 1600000 in
theorem tnew_any (w : World) : Calls Try.prog 20 #[] w fun e w' => ∃ v F, e = .returned v ∧ BkAt F w' v [] ∧ (∀ b, b ∈ F → w.heap.size ≤ b) ∧ Below w.heap.size w w' := by
  go_enter Try.func20, Try.ntmps20
  go_wp2
  go_ret
  refine ⟨_, [w.heap.size], rfl, ⟨w.heap.size, rfl, .inl ⟨rfl, heap_alloc_last w _, rfl⟩⟩, fun b hb => ?_, (Below.refl _ _).alloc (Nat.le_refl _) _⟩
  rw [List.mem_singleton.1 hb]
  exact Nat.le_refl _
set_option maxHeartbeats 1600000 in
theorem tlen_any (F : List Nat) (v : Value) (L : List (Int × ByteArray)) (w : World) (hB : BkAt F w v L) :
    Calls Try.prog 23 #[v] w fun e w' => e = .returned (.int .i64 (L.length : Int)) ∧ Below w.heap.size w w' := by
  obtain ⟨g, rfl, ⟨_, hg, rfl⟩ | ⟨m, D, _, _, hg, hm, hH⟩⟩ := hB.bk
  · have c0 : w.cell? ⟨g, 0, none⟩ = some (.map none) := cell_at (L := [.map none]) hg 0 _ rfl
    have hl : ∀ ty, (Builtin.len_ #[57] ty #[.map none]).run Try.prog w = .ok (.int .i64 0) w := fun ty => Maps.len_nil map_type ty
    clear hB hg
    go_enter Try.func23, Try.ntmps23
    go_wp2
    go_ret
    exact ⟨rfl, Below.refl _ _⟩
  · have c0 : w.cell? ⟨g, 0, none⟩ = some (.map (some m)) := cell_at (L := [.map (some m)]) hg 0 _ rfl
    have HS := hid hH.size
    have HM := hid hm
    clear hB hg hH hm
    go_enter Try.func23, Try.ntmps23
    go_wp2_with (at_len; refine wpList_len_own _ rfl _ 57 rfl 34 60 map_type _ m _ D rfl HM.out ?_)
    go_ret
    exact ⟨by rw [← HS.out]; rfl, Below.refl _ _⟩
set_option maxRecDepth 100000 in
set_option maxHeartbeats 1600000 in
theorem thas_any (F : List Nat) (v : Value) (L : List (Int × ByteArray)) (x : Int) (t : ByteArray) (hf : fitP (x, t)) (w : World) (hB : BkAt F w v L) :
    Calls Try.prog 26 #[v, .agg #[.int .i64 x, .string t]] w fun e w' => e = .returned (.bool (stands L (x, t))) ∧ Below w.heap.size w w' := by
  obtain ⟨g, rfl⟩ := hB.form
  obtain ⟨wz, ez⟩ : ∃ wz, wz = w.alloc (.cells #[.int .i64 x, .string t] 34) := ⟨_, rfl⟩
  have hBz : BkAt F wz (.pointer (some ⟨g, 0, none⟩)) L := hB.of_below (by rw [ez]; exact (Below.refl _ _).alloc (Nat.le_refl _) _)
  have hb0 : wz.heap[w.heap.size]? = some (.cells #[.int .i64 x, .string t] 34 (0, 0)) := by rw [ez]; exact heap_alloc_last w _
  obtain ⟨mo, hmo, _⟩ := hBz.look
  have hgl : g < wz.heap.size := (by obtain ⟨g', h1, ⟨_, hg, _⟩ | ⟨m, D, _, _, hg, _⟩⟩ := hBz.bk <;> (cases h1; exact lt_of_blk hg))
  have HS : Hid (∀ ww : World, Below wz.heap.size wz ww → ww.cell? ⟨g, 0, none⟩ = some (.map mo) ∧ ww.cell? ⟨w.heap.size, 0, none⟩ = some (.int .i64 x) ∧ ww.cell? ⟨w.heap.size, 1, none⟩ = some (.string t) ∧ (Instr.lookup 57 (.map mo) (.agg #[.int .i64 x, .string t]) true).run Try.prog ww = .ok (.tuple #[.agg #[], .bool (stands L (x, t))]) ww) := hid (fun ww hw => by
    have hc := (hw.cell (p := ⟨g, 0, none⟩) hgl).trans hmo
    obtain ⟨mo2, hmo2, hl⟩ := (hBz.of_below hw).look
    rw [hc] at hmo2
    cases hmo2
    exact ⟨hc, (cell_two ((hw.block _ (lt_of_blk hb0)).trans hb0)).1, (cell_two ((hw.block _ (lt_of_blk hb0)).trans hb0)).2, hl (x, t) hf⟩)
  generalize stands L (x, t) = B at HS ⊢
  have HE := hid ez
  have HB := hid (show Below w.heap.size w wz by rw [ez]; exact (Below.refl _ _).alloc (Nat.le_refl _) _)
  clear hmo hgl hBz hb0 hf hB ez
  go_enter Try.func26, Try.ntmps26
  go_wp2
  rw [← HE.out]
  refine wp_region_held (S := fun ww => Below wz.heap.size wz ww) (by kernel_rfl) ?_
  try (change wpAnyH _ _ _ _ _ _ _ _ (World.drew _))
  refine wpAnyH_take (i := 0) (v := ?v1) rfl (by kernel_rfl) (by kernel_rfl) (by kernel_rfl) (fun _ _ _ h => h) (Or.inl ⟨by rfl, ?hy1⟩) (Below.refl _ _).drew ?rest1
  case hy1 => (intro ww _; go_simp; try with_reducible rfl)
  go_simp
  refine wpAnyH_take (i := 1) (v := ?v2) rfl (by kernel_rfl) (by kernel_rfl) (by kernel_rfl) (fun _ _ _ h => h) (Or.inl ⟨by rfl, ?hy2⟩) (Below.refl _ _).drew ?rest2
  case hy2 => (intro ww _; go_simp; try with_reducible rfl)
  go_simp
  refine wpAnyH_take (i := 2) (v := ?v3) rfl (by kernel_rfl) (by kernel_rfl) (by kernel_rfl) (fun _ _ _ h => h) (Or.inl ⟨by rfl, ?hy3⟩) (Below.refl _ _).drew ?rest3
  case hy3 => (intro ww _; go_simp; try with_reducible rfl)
  go_simp
  refine wpAnyH_take (i := 3) (v := ?v4) rfl (by kernel_rfl) (by kernel_rfl) (by kernel_rfl) (fun _ _ _ h => h) (Or.inl ⟨by rfl, ?hy4⟩) (Below.refl _ _).drew ?rest4
  case hy4 => (intro ww hS; obtain ⟨y0, y1, y2, y3⟩ := HS.out ww hS; go_simp; try with_reducible rfl)
  go_simp
  refine wpAnyH_take (i := 4) (v := ?v5) rfl (by kernel_rfl) (by kernel_rfl) (by kernel_rfl) (fun _ _ _ h => h) (Or.inl ⟨by rfl, ?hy5⟩) (Below.refl _ _).drew ?rest5
  case hy5 => (intro ww hS; obtain ⟨y0, y1, y2, y3⟩ := HS.out ww hS; go_simp; try with_reducible rfl)
  go_simp
  refine wpAnyH_take (i := 5) (v := ?v6) rfl (by kernel_rfl) (by kernel_rfl) (by kernel_rfl) (fun _ _ _ h => h) (Or.inl ⟨by rfl, ?hy6⟩) (Below.refl _ _).drew ?rest6
  case hy6 => (intro ww hS; obtain ⟨y0, y1, y2, y3⟩ := HS.out ww hS; go_simp; try with_reducible rfl)
  go_simp
  refine wpAnyH_take (i := 6) (v := ?v7) rfl (by kernel_rfl) (by kernel_rfl) (by kernel_rfl) (fun _ _ _ h => h) (Or.inl ⟨by rfl, ?hy7⟩) (Below.refl _ _).drew ?rest7
  case hy7 => (intro ww _; go_simp; try with_reducible rfl)
  go_simp
  refine wpAnyH_take (i := 7) (v := ?v8) rfl (by kernel_rfl) (by kernel_rfl) (by kernel_rfl) (fun _ _ _ h => h) (Or.inl ⟨by rfl, ?hy8⟩) (Below.refl _ _).drew ?rest8
  case hy8 => (intro ww _; go_simp; try with_reducible rfl)
  go_simp
  refine wpAnyH_take (i := 8) (v := ?v9) rfl (by kernel_rfl) (by kernel_rfl) (by kernel_rfl) (fun _ _ _ h => h) (Or.inl ⟨by rfl, ?hy9⟩) (Below.refl _ _).drew ?rest9
  case hy9 => (intro ww _; go_simp; try with_reducible rfl)
  go_simp
  refine wpAnyH_all (rs := [9]) (by kernel_rfl) (by simp) ?_
  intro i hi
  obtain rfl := List.mem_singleton.1 hi
  clear hi
  refine wpOp_h rfl (by rfl) (fun K hK => ?_)
  go_simp
  refine hK _ _ ⟨((Below.refl _ _).drew).alloc (Nat.le_refl _) _, ?_⟩
  clear hK K
  go_simp
  refine wpAnyH_all (rs := [10]) (by kernel_rfl) (by simp) ?_
  intro i hi
  obtain rfl := List.mem_singleton.1 hi
  clear hi
  refine wpOp_h rfl (by rfl) (fun K hK => ?_)
  go_simp
  refine hK _ _ ⟨((Below.refl _ _).drew).alloc (Nat.le_refl _) _, ?_⟩
  clear hK K
  go_simp
  refine wpAnyH_all (rs := [11]) (by kernel_rfl) (by simp) ?_
  intro i hi
  obtain rfl := List.mem_singleton.1 hi
  clear hi
  refine wpOp_h rfl (by rfl) (fun K hK => ?_)
  go_simp
  refine hK _ _ ⟨((Below.refl _ _).drew).alloc (Nat.le_refl _) _, ?_⟩
  clear hK K
  go_simp
  refine wpAnyH_done (by kernel_rfl) ?_ _
  go_simp
  go_wp2
  go_ret
  exact ⟨rfl, HB.out.trans ((((Below.refl _ _).drew).alloc (Nat.le_refl _) _).mono HB.out.size)⟩
end Go.Proofs.Ytgnapfgiefdlaaa

/- The document's timers. -/
import Derived.Test.YtoepmpjncddnlaaPtB
import Derived.Test.YtoepmpjncddnlaaHlA
namespace Go.Proofs.Ytoepmpjncddnlaa
open Go.RowKit

section
variable {P : Program} {ops : Array Oper} {o : Oper} {a : Act} {w : World} {Q : Exit → Act → World → Prop} {K : Act → World → Prop}
theorem wpOp_p {i : Nat} (hi : ops[i]? = some o) (hw : Region.wanted o (yielded ops a.tmps) = true) (h : ∀ K' : Act → World → Prop, (∀ a w, K a w → K' a w) → o.wp P a w K' Q) : wpOp P ops Q i K a w := by
  unfold Go.wpOp
  simp only [hi, hw, if_true]
  exact .inl (h _ (fun _ _ h => h))
end
/-- A timer of the document in block b. -/
def DmAt (w : World) (b : Nat) (v : Int) (o : Bool) (x : Int) : Prop := w.heap[b]? = some (.cells #[.int .i64 v, .bool o, .int .i64 x] 27 (0, 0))
section
variable {w w' : World} {b c : Nat} {v x : Int} {o : Bool}
theorem DmAt.lt (h : DmAt w b v o x) : b < w.heap.size := lt_of_blk h
theorem DmAt.cells (h : DmAt w b v o x) : w.cell? ⟨b, 0, none⟩ = some (.int .i64 v) ∧ w.cell? ⟨b, 1, none⟩ = some (.bool o) ∧ w.cell? ⟨b, 2, none⟩ = some (.int .i64 x) := ⟨cell_at (L := [_, _, _]) h 0 _ rfl, cell_at (L := [_, _, _]) h 1 _ rfl, cell_at (L := [_, _, _]) h 2 _ rfl⟩
theorem DmAt.fr (h : DmAt w b v o x) (j : Nat) : w.frozen? ⟨b, j, none⟩ = false := free_at h j
theorem DmAt.keep (h : DmAt w b v o x) (hb : Below w.heap.size w w') : DmAt w' b v o x := (hb.block b h.lt).trans h
theorem DmAt.but (h : DmAt w b v o x) (hb : But c w w') (hne : b ≠ c) : DmAt w' b v o x := (hb.block b h.lt hne).trans h
theorem DmAt.set0 (h : DmAt w b v o x) (y : Int) : DmAt (w.setCell ⟨b, 0, none⟩ (.int .i64 y)) b y o x := (blk_set h 0 _).trans rfl
theorem DmAt.set1 (h : DmAt w b v o x) (y : Bool) : DmAt (w.setCell ⟨b, 1, none⟩ (.bool y)) b v y x := (blk_set h 1 _).trans rfl
theorem DmAt.set2 (h : DmAt w b v o x) (y : Int) : DmAt (w.setCell ⟨b, 2, none⟩ (.int .i64 y)) b v o y := (blk_set h 2 _).trans rfl
end
theorem wtime_any (n : Int) (w : World) : Calls Try.prog 23 #[.int .i64 n] w fun e w' => e = .returned (.int .i64 (tmO n)) ∧ w' = w := by
  go_enter Try.func23, Try.ntmps23
  go_wp2
  all_goals (go_ret; refine ⟨tm_eq ?_, rfl⟩; unfold tmO; split at * <;> omega)
theorem wnewP_any (w : World) : Calls Try.prog 9 #[] w fun e w' => e = .returned (.agg #[.int .i64 8, .bool false, .int .i64 0]) ∧ Below w.heap.size w w' := by
  go_enter Try.func9, Try.ntmps9
  go_wp2
  have hq : DmAt (w.alloc (.cells #[.int .i64 8, .bool false, .int .i64 0] 27)) w.heap.size 8 false 0 := heap_alloc_last _ _
  obtain ⟨x0, x1, x2⟩ := hq.cells
  refine bodyPost_ret (v := .agg #[.int .i64 8, .bool false, .int .i64 0]) (by simp [results, Try.results9, go_sem, x0, x1, x2]) rfl ⟨rfl, ?_⟩
  exact (Below.refl _ _).alloc (Nat.le_refl _) _
theorem wstop_any (b : Nat) (v : Int) (o : Bool) (x : Int) (w : World) (h : DmAt w b v o x) : Calls Try.prog 12 #[.pointer (some ⟨b, 0, none⟩)] w fun e w' => e = .returned (.tuple #[]) ∧ DmAt w' b v false x ∧ But b w w' := by
  have HT := hid h
  have f1 := h.fr 1
  obtain ⟨c0, c1, c2⟩ := h.cells
  clear h
  go_enter Try.func12, Try.ntmps12
  go_wp2
  go_end0
  exact ⟨rfl, HT.out.set1 _, (But.refl _ _).setCell _ _⟩
theorem wcalm_any (b : Nat) (v : Int) (o : Bool) (x : Int) (w : World) (h : DmAt w b v o x) : Calls Try.prog 14 #[.pointer (some ⟨b, 0, none⟩)] w fun e w' => e = .returned (.tuple #[]) ∧ DmAt w' b 8 o x ∧ But b w w' := by
  have HT := hid h
  have f0 := h.fr 0
  obtain ⟨c0, c1, c2⟩ := h.cells
  clear h
  go_enter Try.func14, Try.ntmps14
  go_wp2
  go_end0
  exact ⟨rfl, HT.out.set0 _, (But.refl _ _).setCell _ _⟩
theorem dm_set0 {w w' : World} {b : Nat} {v x y z : Int} {o : Bool} (h : DmAt w b v o x) (hx : y = z) (hw : w' = w.setCell ⟨b, 0, none⟩ (.int .i64 y)) : DmAt w' b z o x ∧ But b w w' := by
  subst hx hw
  exact ⟨h.set0 _, (But.refl _ _).setCell _ _⟩
theorem wfail_any (b : Nat) (m : Int) (hm : 0 ≤ m ∧ m ≤ 504) (o : Bool) (x : Int) (w : World) (h : DmAt w b (8 + m) o x) : Calls Try.prog 13 #[.pointer (some ⟨b, 0, none⟩)] w fun e w' => e = .returned (.tuple #[]) ∧ DmAt w' b (8 + flM m) o x ∧ But b w w' := by
  have HT := hid h
  have f0 := h.fr 0
  obtain ⟨c0, c1, c2⟩ := h.cells
  have h1 : IntKind.i64.wrap (2 * (8 + m)) = 2 * (8 + m) := wrap_room _ (by omega) (by omega)
  clear h
  go_enter Try.func13, Try.ntmps13
  go_wp2
  all_goals go_end0
  all_goals exact ⟨rfl, dm_set0 HT.out (by unfold flM; omega) rfl⟩
theorem wdue_any (b : Nat) (v : Int) (o : Bool) (x : Int) (n : Int) (w : World) (h : DmAt w b v o x) : Calls Try.prog 16 #[.pointer (some ⟨b, 0, none⟩), .int .i64 n] w fun e w' => e = .returned (.bool (o && decide (x ≤ tmO n))) ∧ Below w.heap.size w w' := by
  have HO := hid (fun u : World => of_same (fun w => wtime_any n w) u)
  have c1 : ∀ y : Cls w, y.1.cell? ⟨b, 1, none⟩ = some (.bool o) := fun y => (h.keep y.2).cells.2.1
  have c2 : ∀ y : Cls w, y.1.cell? ⟨b, 2, none⟩ = some (.int .i64 x) := fun y => (h.keep y.2).cells.2.2
  clear h
  generalize tmO n = T at HO ⊢
  cases o
  all_goals
    go_enter Try.func16, Try.ntmps16
    go_wp2
    haveI := Cls.ne w
    refine wp_region_cls w (by kernel_rfl) (by kernel_rfl) ?_
    repeat (go_big_quiet_step (first | (go_at_call 23; exact Cls.of _ (fun u _ => HO.out u))))
    refine wpQuiet_nil ?_
    rintro _ ⟨x, rfl⟩
    go_wp2
    go_ret
    exact ⟨rfl, x.2⟩
theorem wstart_no (b : Nat) (v x : Int) (n : Int) (w : World) (h : DmAt w b v true x) : Calls Try.prog 11 #[.pointer (some ⟨b, 0, none⟩), .int .i64 n] w fun e w' => e = .returned (.tuple #[]) ∧ DmAt w' b v true x ∧ But b w w' := by
  have HT := hid h
  obtain ⟨c0, c1, c2⟩ := h.cells
  clear h
  go_enter Try.func11, Try.ntmps11
  go_wp2
  go_end0
  exact ⟨rfl, HT.out, But.refl _ _⟩
set_option maxHeartbeats 800000 in
theorem wstart_yes (b : Nat) (m x : Int) (hm : 0 ≤ m ∧ m ≤ 504) (n : Int) (w : World) (h : DmAt w b (8 + m) false x) : Calls Try.prog 11 #[.pointer (some ⟨b, 0, none⟩), .int .i64 n] w fun e w' => e = .returned (.tuple #[]) ∧ DmAt w' b (8 + m) true (tmO n + (8 + m)) ∧ But b w w' := by
  have f1 := h.fr 1
  have hb := tmO_bounds n
  have h1 : IntKind.i64.wrap (tmO n + (8 + m)) = tmO n + (8 + m) := wrap_room _ (by omega) (by omega)
  have HO := hid (fun u : World => wtime_any n u)
  have HS0 : Hid (DmAt (w.setCell ⟨b, 1, none⟩ (.bool true)) b (8 + m) true x ∧ But b w (w.setCell ⟨b, 1, none⟩ (.bool true))) := hid ⟨h.set1 _, (But.refl _ _).setCell _ _⟩
  obtain ⟨c0, c1, c2⟩ := h.cells
  clear h hb hm
  generalize tmO n = T at HO h1 ⊢
  go_enter Try.func11, Try.ntmps11
  go_wp2
  have HS : Hid (DmAt (World.drew (w.setCell ⟨b, 1, none⟩ (.bool true))) b (8 + m) true x ∧ But b w (World.drew (w.setCell ⟨b, 1, none⟩ (.bool true)))) := hid ⟨HS0.out.1.keep (Below.refl _ _).drew, HS0.out.2.trans (But.of (Below.refl _ _).drew)⟩
  refine wp_region_G (S := fun ww => DmAt ww b (8 + m) true x ∧ But b w ww) (ex := [10]) (by kernel_rfl) ?_
  try (change wpAnyG _ _ _ _ _ _ _ _ _ (World.drew _))
  refine wpAnyG_take (i := 0) (v := ?v1) rfl (by kernel_rfl) (fun _ _ _ h => h) (Or.inl ⟨by rfl, ?hy1⟩) HS.out ?rest1
  case hy1 => (intro ww _; go_simp; try with_reducible rfl)
  go_simp
  refine wpAnyG_take (i := 1) (v := ?v2) rfl (by kernel_rfl) (fun _ _ _ h => h) (Or.inl ⟨by rfl, ?hy2⟩) HS.out ?rest2
  case hy2 => (intro ww _; go_simp; try with_reducible rfl)
  go_simp
  refine wpAnyG_take (i := 3) (v := ?v3) rfl (by kernel_rfl) (fun _ _ _ h => h) (Or.inl ⟨by rfl, ?hy3⟩) HS.out ?rest3
  case hy3 => (intro ww _; go_simp; try with_reducible rfl)
  go_simp
  refine wpAnyG_take (i := 4) (v := ?v4) rfl (by kernel_rfl) (fun _ _ _ h => h) (Or.inl ⟨by rfl, ?hy4⟩) HS.out ?rest4
  case hy4 => (intro ww _; go_simp; try with_reducible rfl)
  go_simp
  refine wpAnyG_take (i := 5) (v := ?v5) rfl (by kernel_rfl) (fun _ _ _ h => h) (Or.inl ⟨by rfl, ?hy5⟩) HS.out ?rest5
  case hy5 => (intro ww _; go_simp; try with_reducible rfl)
  go_simp
  refine wpAnyG_take (i := 6) (v := ?v6) rfl (by kernel_rfl) (fun _ _ _ h => h) (Or.inl ⟨by rfl, ?hy6⟩) HS.out ?rest6
  case hy6 => (intro ww hS; obtain ⟨y0, y1, y2⟩ := hS.1.cells; go_simp; try with_reducible rfl)
  go_simp
  refine wpAnyG_all (rs := [2]) (by kernel_rfl) (by simp) ?_
  intro i hi
  obtain rfl := List.mem_singleton.1 hi
  clear hi
  refine wpOp_p rfl (by rfl) (fun K hK => ?_)
  go_simp
  refine (HO.out _).mono ?_
  rintro e w3 ⟨rfl, hw3⟩
  replace hw3 := hw3.symm
  subst hw3
  refine hK _ _ ⟨fun _ => HS.out, ?_⟩
  clear hK K
  go_simp
  refine wpAnyG_take (i := 7) (v := ?v7) rfl (by kernel_rfl) (fun _ _ _ h => h) (Or.inl ⟨by rfl, ?hy7⟩) HS.out ?rest7
  case hy7 => (intro ww _; go_simp; try with_reducible rfl)
  go_simp
  refine wpAnyG_take (i := 8) (v := ?v8) rfl (by kernel_rfl) (fun _ _ _ h => h) (Or.inl ⟨by rfl, ?hy8⟩) HS.out ?rest8
  case hy8 => (intro ww _; go_simp; try with_reducible rfl)
  go_simp
  refine wpAnyG_take (i := 9) (v := ?v9) rfl (by kernel_rfl) (fun _ _ _ h => h) (Or.inl ⟨by rfl, ?hy9⟩) HS.out ?rest9
  case hy9 => (intro ww _; go_simp; try with_reducible rfl)
  go_simp
  refine wpAnyG_all (rs := [10]) (by kernel_rfl) (by simp) ?_
  intro i hi
  obtain rfl := List.mem_singleton.1 hi
  clear hi
  refine wpOp_p rfl (by rfl) (fun K hK => ?_)
  obtain ⟨y0, y1, y2⟩ := HS.out.1.cells
  have yf := HS.out.1.fr 2
  go_simp
  refine hK _ _ ⟨fun h => absurd (by simp) h, ?_⟩
  clear hK K
  go_simp
  refine wpAnyG_done (by kernel_rfl) ?_ _
  go_simp
  go_wp2
  go_end0
  exact ⟨rfl, HS.out.1.set2 _, HS.out.2.setCell _ _⟩
end Go.Proofs.Ytoepmpjncddnlaa

/- Of an Ask the request; the laws' own sign of life. -/
import Derived.Test.YthoofboegchodaaDpZM
import Derived.Deep.RegionLaw
namespace Go.Proofs.Ythoofboegchodaa
open Go.RowKit

section
variable {P : Program} {ops : Array Oper} {o : Oper} {a : Act} {w : World} {Q : Exit → Act → World → Prop} {K : Act → World → Prop}
theorem ret_oneD {f : Func} {a : Act} {w : World} {Q : Ending → World → Prop} {s : Nat} {t : TypeId} {ad : Addr} {v : Value} (hr : f.results = #[.cell s t]) (hs : a.tmps.getD s undef = .pointer (some ad)) (hl : (loadVar t ad).run Try.prog w = .ok v w) (hd : a.defers = [])
    (h : Q (.returned v) w) : bodyPost Try.prog f Q .ret a w := by
  refine bodyPost_ret (v := v) ?_ hd h
  have h1 : a.tmps.getD s undef = .pointer (some ad) := hs
  simp [results, hr, -Array.getD_eq_getD_getElem?, h1, asAddr, hl]
theorem wpOp_d {i : Nat} (hi : ops[i]? = some o) (hw : Region.wanted o (yielded ops a.tmps) = true) (h : ∀ K' : Act → World → Prop, (∀ a w, K a w → K' a w) → o.wp P a w K' Q) : wpOp P ops Q i K a w := by
  unfold Go.wpOp
  simp only [hi, hw, if_true]
  exact .inl (h _ (fun _ _ h => h))
theorem owp_store_rq (p x : Operand) (ho : o.op = .store 49 p x) (b : Nat) (hp : a.eval p = .pointer (some ⟨b, 0, none⟩)) (r0 r : Rq) (hx : a.eval x = .agg #[.int .i64 r.c, .int .i64 r.st, .int .i64 r.k, .string r.key, .float .f64 r.b, .int .i64 r.id]) (hR : RqAt w b r0)
    (h : ∀ w', Hid (RqAt w' b r ∧ One b w w') → K (a.put o.dst undef) w') : o.wp Try.prog a w K Q :=
  wp_store_mid (P := Try.prog) 49 p x ho b 0 #[.int .i64 r.c, .int .i64 r.st, .int .i64 r.k, .string r.key, .float .f64 r.b, .int .i64 r.id] hp hx (rq_there hR) (by kernel_rfl) (by simp [Value.oneCell']) (h _ ⟨rq_all hR, one_cells b _ 0 w⟩)
end
/-- An Ask in a variable. -/
def AkAt (w : World) (b : Nat) (a : Rq) : Prop := w.heap[b]? = some (.cells #[.int .i64 a.c, .int .i64 a.st, .int .i64 a.k, .string a.key, .int .u64 (a.b : Int), .int .i64 a.id] 57 (0, 0))
theorem AkAt.cells {w : World} {b : Nat} {a : Rq} (h : AkAt w b a) : (w.cell? ⟨b, 0, none⟩ = some (.int .i64 a.c) ∧ w.cell? ⟨b, 1, none⟩ = some (.int .i64 a.st)) ∧ w.cell? ⟨b, 2, none⟩ = some (.int .i64 a.k) ∧ w.cell? ⟨b, 3, none⟩ = some (.string a.key) ∧ w.cell? ⟨b, 4, none⟩ = some (.int .u64 (a.b : Int)) ∧ w.cell? ⟨b, 5, none⟩ = some (.int .i64 a.id) :=
  ⟨⟨cell_at h 0 _ rfl, cell_at h 1 _ rfl⟩, cell_at h 2 _ rfl, cell_at h 3 _ rfl, cell_at h 4 _ rfl, cell_at h 5 _ rfl⟩
theorem AkAt.keep {w w' : World} {b : Nat} {a : Rq} (h : AkAt w b a) (hb : Below w.heap.size w w') : AkAt w' b a := (hb.block b (lt_of_blk h)).trans h
set_option maxRecDepth 100000 in
set_option maxHeartbeats 3200000 in
theorem drequest_any (a : Rq) (w : World) : Calls Try.prog 18 #[.agg #[.int .i64 a.c, .int .i64 a.st, .int .i64 a.k, .string a.key, .int .u64 (a.b : Int), .int .i64 a.id]] w fun e w' => e = .returned (.agg #[.int .i64 a.c, .int .i64 a.st, .int .i64 a.k, .string a.key, .float .f64 a.b, .int .i64 a.id]) ∧ Below w.heap.size w w' := by
  have H0 : Hid (AkAt ((w.alloc (.cells #[.int .i64 a.c, .int .i64 a.st, .int .i64 a.k, .string a.key, .int .u64 (a.b : Int), .int .i64 a.id] 57)).alloc (.cells #[.int .i64 0, .int .i64 0, .int .i64 0, .string ⟨#[]⟩, .float .f64 0, .int .i64 0] 49)) w.heap.size a ∧ RqAt ((w.alloc (.cells #[.int .i64 a.c, .int .i64 a.st, .int .i64 a.k, .string a.key, .int .u64 (a.b : Int), .int .i64 a.id] 57)).alloc (.cells #[.int .i64 0, .int .i64 0, .int .i64 0, .string ⟨#[]⟩, .float .f64 0, .int .i64 0] 49)) (w.heap.size + 1) zeroQ ∧ Below w.heap.size w ((w.alloc (.cells #[.int .i64 a.c, .int .i64 a.st, .int .i64 a.k, .string a.key, .int .u64 (a.b : Int), .int .i64 a.id] 57)).alloc (.cells #[.int .i64 0, .int .i64 0, .int .i64 0, .string ⟨#[]⟩, .float .f64 0, .int .i64 0] 49))) := hid
    ⟨(Below.heap_alloc _ _ _ (by simp)).trans (heap_alloc_last w _), snd_alloc w _ _, ((Below.refl _ _).alloc (Nat.le_refl _) _).alloc (by simp) _⟩
  go_enter Try.func18, Try.ntmps18
  go_wp2
  obtain ⟨w1, ew⟩ : ∃ w1, w1 = (w.alloc (.cells #[.int .i64 a.c, .int .i64 a.st, .int .i64 a.k, .string a.key, .int .u64 (a.b : Int), .int .i64 a.id] 57)).alloc (.cells #[.int .i64 0, .int .i64 0, .int .i64 0, .string ⟨#[]⟩, .float .f64 0, .int .i64 0] 49) := ⟨_, rfl⟩
  rw [← ew] at H0 ⊢
  clear ew
  have H1 : Hid (AkAt w1.drew w.heap.size a ∧ RqAt w1.drew (w.heap.size + 1) zeroQ ∧ Below w.heap.size w w1.drew) := hid ⟨H0.out.1.keep (Below.refl _ _).drew, H0.out.2.1.keep (Below.refl _ _).drew, H0.out.2.2.drew⟩
  have HS := hid H1.out.1
  refine wp_region_held (S := fun ww => AkAt ww w.heap.size a) (by kernel_rfl) ?_
  try (change wpAnyH _ _ _ _ _ _ _ _ (World.drew _))
  refine wpAnyH_take (i := 0) (v := ?v1) rfl (by kernel_rfl) (by kernel_rfl) (by kernel_rfl) (fun _ _ _ h => h) (Or.inl ⟨by rfl, ?hy1⟩) HS.out ?rest1
  case hy1 => (intro ww _; go_simp; try with_reducible rfl)
  go_simp
  refine wpAnyH_take (i := 1) (v := ?v2) rfl (by kernel_rfl) (by kernel_rfl) (by kernel_rfl) (fun _ _ _ h => h) (Or.inl ⟨by rfl, ?hy2⟩) HS.out ?rest2
  case hy2 => (intro ww hS; obtain ⟨⟨y0, y1⟩, y2, y3, y4, y5⟩ := hS.cells; go_simp; try with_reducible rfl)
  go_simp
  refine wpAnyH_take (i := 2) (v := ?v3) rfl (by kernel_rfl) (by kernel_rfl) (by kernel_rfl) (fun _ _ _ h => h) (Or.inl ⟨by rfl, ?hy3⟩) HS.out ?rest3
  case hy3 => (intro ww _; go_simp; try with_reducible rfl)
  go_simp
  refine wpAnyH_take (i := 3) (v := ?v4) rfl (by kernel_rfl) (by kernel_rfl) (by kernel_rfl) (fun _ _ _ h => h) (Or.inl ⟨by rfl, ?hy4⟩) HS.out ?rest4
  case hy4 => (intro ww hS; obtain ⟨⟨y0, y1⟩, y2, y3, y4, y5⟩ := hS.cells; go_simp; try with_reducible rfl)
  go_simp
  refine wpAnyH_take (i := 4) (v := ?v5) rfl (by kernel_rfl) (by kernel_rfl) (by kernel_rfl) (fun _ _ _ h => h) (Or.inl ⟨by rfl, ?hy5⟩) HS.out ?rest5
  case hy5 => (intro ww _; go_simp; try with_reducible rfl)
  go_simp
  refine wpAnyH_take (i := 5) (v := ?v6) rfl (by kernel_rfl) (by kernel_rfl) (by kernel_rfl) (fun _ _ _ h => h) (Or.inl ⟨by rfl, ?hy6⟩) HS.out ?rest6
  case hy6 => (intro ww hS; obtain ⟨⟨y0, y1⟩, y2, y3, y4, y5⟩ := hS.cells; go_simp; try with_reducible rfl)
  go_simp
  refine wpAnyH_take (i := 6) (v := ?v7) rfl (by kernel_rfl) (by kernel_rfl) (by kernel_rfl) (fun _ _ _ h => h) (Or.inl ⟨by rfl, ?hy7⟩) HS.out ?rest7
  case hy7 => (intro ww _; go_simp; try with_reducible rfl)
  go_simp
  refine wpAnyH_take (i := 7) (v := ?v8) rfl (by kernel_rfl) (by kernel_rfl) (by kernel_rfl) (fun _ _ _ h => h) (Or.inl ⟨by rfl, ?hy8⟩) HS.out ?rest8
  case hy8 => (intro ww hS; obtain ⟨⟨y0, y1⟩, y2, y3, y4, y5⟩ := hS.cells; go_simp; try with_reducible rfl)
  go_simp
  refine wpAnyH_take (i := 8) (v := ?v9) rfl (by kernel_rfl) (by kernel_rfl) (by kernel_rfl) (fun _ _ _ h => h) (Or.inl ⟨by rfl, ?hy9⟩) HS.out ?rest9
  case hy9 => (intro ww _; go_simp; try with_reducible rfl)
  go_simp
  refine wpAnyH_take (i := 9) (v := ?v10) rfl (by kernel_rfl) (by kernel_rfl) (by kernel_rfl) (fun _ _ _ h => h) (Or.inl ⟨by rfl, ?hy10⟩) HS.out ?rest10
  case hy10 => (intro ww hS; obtain ⟨⟨y0, y1⟩, y2, y3, y4, y5⟩ := hS.cells; go_simp; try with_reducible rfl)
  go_simp
  refine wpAnyH_take (i := 11) (v := ?v11) rfl (by kernel_rfl) (by kernel_rfl) (by kernel_rfl) (fun _ _ _ h => h) (Or.inl ⟨by rfl, ?hy11⟩) HS.out ?rest11
  case hy11 => (intro ww _; go_simp; try with_reducible rfl)
  go_simp
  refine wpAnyH_take (i := 12) (v := ?v12) rfl (by kernel_rfl) (by kernel_rfl) (by kernel_rfl) (fun _ _ _ h => h) (Or.inl ⟨by rfl, ?hy12⟩) HS.out ?rest12
  case hy12 => (intro ww hS; obtain ⟨⟨y0, y1⟩, y2, y3, y4, y5⟩ := hS.cells; go_simp; try with_reducible rfl)
  go_simp
  refine wpAnyH_all (rs := [10]) (by kernel_rfl) (by simp) ?_
  intro i hi
  obtain rfl := List.mem_singleton.1 hi
  clear hi
  refine wpOp_d rfl (by rfl) (fun K hK => ?_)
  go_simp
  rw [ff_run]
  go_simp
  refine hK _ _ ⟨HS.out, ?_⟩
  clear hK K
  go_simp
  refine wpAnyH_take (i := 13) (v := ?v13) rfl (by kernel_rfl) (by kernel_rfl) (by kernel_rfl) (fun _ _ _ h => h) (Or.inl ⟨by rfl, ?hy13⟩) HS.out ?rest13
  case hy13 => (intro ww _; go_simp; try with_reducible rfl)
  go_simp
  refine wpAnyH_take (i := 14) (v := ?v14) rfl (by kernel_rfl) (by kernel_rfl) (by kernel_rfl) (fun _ _ _ h => h) (Or.inl ⟨by rfl, ?hy14⟩) HS.out ?rest14
  case hy14 => (intro ww _; go_simp; try with_reducible rfl)
  go_simp
  refine wpAnyH_all (rs := [15]) (by kernel_rfl) (by simp) ?_
  intro i hi
  obtain rfl := List.mem_singleton.1 hi
  clear hi
  refine wpOp_d rfl (by rfl) (fun K hK => ?_)
  refine owp_store_rq _ _ rfl (w.heap.size + 1) rfl zeroQ a rfl H1.out.2.1 ?_
  intro wz Hz
  refine hK _ _ ⟨(Hz.out.2.block _ (by omega)).trans H1.out.1, ?_⟩
  clear hK K
  go_simp
  refine wpAnyH_done (by kernel_rfl) ?_ _
  go_simp
  go_wp2
  refine ret_oneD (s := 2) (ad := ⟨w.heap.size + 1, 0, none⟩) rfl rfl (load_rq _ _ a Hz.out.1) rfl ?_
  exact ⟨rfl, Hz.out.2.below H1.out.2.2 (by omega)⟩
/-- The request that the laws tell and read first. -/
def liveQ : Rq := ⟨2, 3, 5, ⟨#[107]⟩, 0, 0⟩
theorem can_zero : canW 0 = 0 := by decide
theorem live_right : rightB liveQ = true := by decide
theorem live_facts : rqE liveQ = 0 ∧ (rqT liveQ).size = 19 ∧ rdE (rqT liveQ) = 0 ∧ wholeB liveQ (rdR (rqT liveQ)) = true := by
  obtain ⟨h1, h2, h3⟩ := read_back live_right (by decide)
  refine ⟨(rqE_iff _).2 (Or.inr live_right), ?_, ?_, ?_⟩
  · have : (rqL liveQ).length = 19 := rqL_len liveQ
    rw [rqT, right_null live_right, live_right]
    show (rqL liveQ).toArray.size = 19
    simpa using this
  · rw [rdE, h3, h1]
    rfl
  · rw [rdR, h3, h1]
    show wholeB liveQ (rdq (rqT liveQ)) = true
    rw [h2]
    decide
end Go.Proofs.Ythoofboegchodaa

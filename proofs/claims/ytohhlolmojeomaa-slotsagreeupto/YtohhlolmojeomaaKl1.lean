/- Texts laid together: DpZ DsI SlR SlS SlT SlU. -/
import Derived.Test.YtohhlolmojeomaaKd1
import Derived.Deep.RegionLaw
import Derived.Test.YtohhlolmojeomaaKk1
import Derived.Test.YtohhlolmojeomaaKb1
/- Which text holds the contracts of deeds: here the trial's (DtA). For landed code: change this import. -/

/- Of an Ask the request; the laws' own sign of life. -/
namespace Go.Proofs.Ytohhlolmojeomaa
open Go.RowKit

section
variable {P : Program} {ops : Array Oper} {o : Oper} {a : Act} {w : World} {Q : Exit → Act → World → Prop} {K : Act → World → Prop}
theorem ret_oneD {f : Func} {a : Act} {w : World} {Q : Ending → World → Prop} {s : Nat} {t : TypeId} {ad : Addr} {v : Value} (hr : f.results = #[.cell s t]) (hs : a.tmps.getD s undef = .pointer (some ad)) (hl : (loadVar t ad).run Try.prog w = .ok v w) (hd : a.defers = [])
    (h : Q (.returned v) w) : bodyPost Try.prog f Q .ret a w := by
  refine bodyPost_ret (v := v) ?_ hd h
  have h1 : a.tmps.getD s undef = .pointer (some ad) := hs
  simp [results, hr, -Array.getD_eq_getD_getElem?, h1, asAddr, hl]
theorem wpOp_d {i : Nat} (hi : ops[i]? = some o) (hw : Region.wanted o (yielded ops a.tmps) = true) (h : ∀ K' : Act → World → Prop, (∀ a w, K a w → K' a w) → o.wp P a w K' Q) : wpOp P ops Q i K a w := by
  unfold Go.wpOp
  simp only [hi, hw, if_true]
  exact .inl (h _ (fun _ _ h => h))
theorem owp_store_rq (p x : Operand) (ho : o.op = .store 43 p x) (b : Nat) (hp : a.eval p = .pointer (some ⟨b, 0, none⟩)) (r0 r : Rq) (hx : a.eval x = .agg #[.int .i64 r.c, .int .i64 r.st, .int .i64 r.k, .string r.key, .float .f64 r.b, .int .i64 r.id]) (hR : RqAt w b r0)
    (h : ∀ w', Hid (RqAt w' b r ∧ One b w w') → K (a.put o.dst undef) w') : o.wp Try.prog a w K Q :=
  wp_store_mid (P := Try.prog) 43 p x ho b 0 #[.int .i64 r.c, .int .i64 r.st, .int .i64 r.k, .string r.key, .float .f64 r.b, .int .i64 r.id] hp hx (rq_there hR) (by kernel_rfl) (by simp [Value.oneCell']) (h _ ⟨rq_all hR, one_cells b _ 0 w⟩)
end
/-- An Ask in a variable. -/
def AkAt (w : World) (b : Nat) (a : Rq) : Prop := w.heap[b]? = some (.cells #[.int .i64 a.c, .int .i64 a.st, .int .i64 a.k, .string a.key, .int .u64 (a.b : Int), .int .i64 a.id] 34 (0, 0))
theorem AkAt.cells {w : World} {b : Nat} {a : Rq} (h : AkAt w b a) : (w.cell? ⟨b, 0, none⟩ = some (.int .i64 a.c) ∧ w.cell? ⟨b, 1, none⟩ = some (.int .i64 a.st)) ∧ w.cell? ⟨b, 2, none⟩ = some (.int .i64 a.k) ∧ w.cell? ⟨b, 3, none⟩ = some (.string a.key) ∧ w.cell? ⟨b, 4, none⟩ = some (.int .u64 (a.b : Int)) ∧ w.cell? ⟨b, 5, none⟩ = some (.int .i64 a.id) :=
  ⟨⟨cell_at h 0 _ rfl, cell_at h 1 _ rfl⟩, cell_at h 2 _ rfl, cell_at h 3 _ rfl, cell_at h 4 _ rfl, cell_at h 5 _ rfl⟩
theorem AkAt.keep {w w' : World} {b : Nat} {a : Rq} (h : AkAt w b a) (hb : Below w.heap.size w w') : AkAt w' b a := (hb.block b (lt_of_blk h)).trans h
set_option maxRecDepth 100000 in
set_option maxHeartbeats 3200000 in
theorem drequest_any (a : Rq) (w : World) : Calls Try.prog 24 #[.agg #[.int .i64 a.c, .int .i64 a.st, .int .i64 a.k, .string a.key, .int .u64 (a.b : Int), .int .i64 a.id]] w fun e w' => e = .returned (.agg #[.int .i64 a.c, .int .i64 a.st, .int .i64 a.k, .string a.key, .float .f64 a.b, .int .i64 a.id]) ∧ Below w.heap.size w w' := by
  have H0 : Hid (AkAt ((w.alloc (.cells #[.int .i64 a.c, .int .i64 a.st, .int .i64 a.k, .string a.key, .int .u64 (a.b : Int), .int .i64 a.id] 34)).alloc (.cells #[.int .i64 0, .int .i64 0, .int .i64 0, .string ⟨#[]⟩, .float .f64 0, .int .i64 0] 43)) w.heap.size a ∧ RqAt ((w.alloc (.cells #[.int .i64 a.c, .int .i64 a.st, .int .i64 a.k, .string a.key, .int .u64 (a.b : Int), .int .i64 a.id] 34)).alloc (.cells #[.int .i64 0, .int .i64 0, .int .i64 0, .string ⟨#[]⟩, .float .f64 0, .int .i64 0] 43)) (w.heap.size + 1) zeroQ ∧ Below w.heap.size w ((w.alloc (.cells #[.int .i64 a.c, .int .i64 a.st, .int .i64 a.k, .string a.key, .int .u64 (a.b : Int), .int .i64 a.id] 34)).alloc (.cells #[.int .i64 0, .int .i64 0, .int .i64 0, .string ⟨#[]⟩, .float .f64 0, .int .i64 0] 43))) := hid
    ⟨(Below.heap_alloc _ _ _ (by simp)).trans (heap_alloc_last w _), snd_alloc w _ _, ((Below.refl _ _).alloc (Nat.le_refl _) _).alloc (by simp) _⟩
  go_enter Try.func24, Try.ntmps24
  go_wp2
  obtain ⟨w1, ew⟩ : ∃ w1, w1 = (w.alloc (.cells #[.int .i64 a.c, .int .i64 a.st, .int .i64 a.k, .string a.key, .int .u64 (a.b : Int), .int .i64 a.id] 34)).alloc (.cells #[.int .i64 0, .int .i64 0, .int .i64 0, .string ⟨#[]⟩, .float .f64 0, .int .i64 0] 43) := ⟨_, rfl⟩
  rw [← ew] at H0 ⊢
  clear ew
  have H1 : Hid (AkAt w1.drew w.heap.size a ∧ RqAt w1.drew (w.heap.size + 1) zeroQ ∧ Below w.heap.size w w1.drew) := hid ⟨H0.out.1.keep (Below.refl _ _).drew, H0.out.2.1.keep (Below.refl _ _).drew, H0.out.2.2.drew⟩
  have HS := hid H1.out.1
  refine wp_region_held (S := fun ww => AkAt ww w.heap.size a) (by kernel_rfl) ?_
  try (change wpAnyH _ _ _ _ _ _ _ _ (World.drew _))
  refine wpAnyH_take (i := 0) (v := ?v1) rfl (by kernel_rfl) (by kernel_rfl) (by kernel_rfl) (fun _ _ _ h => h) (Or.inl ⟨by rfl, ?hy1⟩) HS.out ?rest1
  case hy1 => (intro ww _; go_simp; try with_reducible rfl)
  go_simp
  refine wpAnyH_take (i := 1) (v := ?v2) rfl (by kernel_rfl) (by kernel_rfl) (by kernel_rfl) (fun _ _ _ h => h) (Or.inl ⟨by rfl, ?hy2⟩) HS.out ?rest2
  case hy2 => (intro ww hS; obtain ⟨⟨y0, y1⟩, y2, y3, y4, y5⟩ := hS.cells; go_simp; try with_reducible rfl)
  go_simp
  refine wpAnyH_take (i := 2) (v := ?v3) rfl (by kernel_rfl) (by kernel_rfl) (by kernel_rfl) (fun _ _ _ h => h) (Or.inl ⟨by rfl, ?hy3⟩) HS.out ?rest3
  case hy3 => (intro ww _; go_simp; try with_reducible rfl)
  go_simp
  refine wpAnyH_take (i := 3) (v := ?v4) rfl (by kernel_rfl) (by kernel_rfl) (by kernel_rfl) (fun _ _ _ h => h) (Or.inl ⟨by rfl, ?hy4⟩) HS.out ?rest4
  case hy4 => (intro ww hS; obtain ⟨⟨y0, y1⟩, y2, y3, y4, y5⟩ := hS.cells; go_simp; try with_reducible rfl)
  go_simp
  refine wpAnyH_take (i := 4) (v := ?v5) rfl (by kernel_rfl) (by kernel_rfl) (by kernel_rfl) (fun _ _ _ h => h) (Or.inl ⟨by rfl, ?hy5⟩) HS.out ?rest5
  case hy5 => (intro ww _; go_simp; try with_reducible rfl)
  go_simp
  refine wpAnyH_take (i := 5) (v := ?v6) rfl (by kernel_rfl) (by kernel_rfl) (by kernel_rfl) (fun _ _ _ h => h) (Or.inl ⟨by rfl, ?hy6⟩) HS.out ?rest6
  case hy6 => (intro ww hS; obtain ⟨⟨y0, y1⟩, y2, y3, y4, y5⟩ := hS.cells; go_simp; try with_reducible rfl)
  go_simp
  refine wpAnyH_take (i := 6) (v := ?v7) rfl (by kernel_rfl) (by kernel_rfl) (by kernel_rfl) (fun _ _ _ h => h) (Or.inl ⟨by rfl, ?hy7⟩) HS.out ?rest7
  case hy7 => (intro ww _; go_simp; try with_reducible rfl)
  go_simp
  refine wpAnyH_take (i := 7) (v := ?v8) rfl (by kernel_rfl) (by kernel_rfl) (by kernel_rfl) (fun _ _ _ h => h) (Or.inl ⟨by rfl, ?hy8⟩) HS.out ?rest8
  case hy8 => (intro ww hS; obtain ⟨⟨y0, y1⟩, y2, y3, y4, y5⟩ := hS.cells; go_simp; try with_reducible rfl)
  go_simp
  refine wpAnyH_take (i := 8) (v := ?v9) rfl (by kernel_rfl) (by kernel_rfl) (by kernel_rfl) (fun _ _ _ h => h) (Or.inl ⟨by rfl, ?hy9⟩) HS.out ?rest9
  case hy9 => (intro ww _; go_simp; try with_reducible rfl)
  go_simp
  refine wpAnyH_take (i := 9) (v := ?v10) rfl (by kernel_rfl) (by kernel_rfl) (by kernel_rfl) (fun _ _ _ h => h) (Or.inl ⟨by rfl, ?hy10⟩) HS.out ?rest10
  case hy10 => (intro ww hS; obtain ⟨⟨y0, y1⟩, y2, y3, y4, y5⟩ := hS.cells; go_simp; try with_reducible rfl)
  go_simp
  refine wpAnyH_take (i := 11) (v := ?v11) rfl (by kernel_rfl) (by kernel_rfl) (by kernel_rfl) (fun _ _ _ h => h) (Or.inl ⟨by rfl, ?hy11⟩) HS.out ?rest11
  case hy11 => (intro ww _; go_simp; try with_reducible rfl)
  go_simp
  refine wpAnyH_take (i := 12) (v := ?v12) rfl (by kernel_rfl) (by kernel_rfl) (by kernel_rfl) (fun _ _ _ h => h) (Or.inl ⟨by rfl, ?hy12⟩) HS.out ?rest12
  case hy12 => (intro ww hS; obtain ⟨⟨y0, y1⟩, y2, y3, y4, y5⟩ := hS.cells; go_simp; try with_reducible rfl)
  go_simp
  refine wpAnyH_all (rs := [10]) (by kernel_rfl) (by simp) ?_
  intro i hi
  obtain rfl := List.mem_singleton.1 hi
  clear hi
  refine wpOp_d rfl (by rfl) (fun K hK => ?_)
  go_simp
  rw [ff_run]
  go_simp
  refine hK _ _ ⟨HS.out, ?_⟩
  clear hK K
  go_simp
  refine wpAnyH_take (i := 13) (v := ?v13) rfl (by kernel_rfl) (by kernel_rfl) (by kernel_rfl) (fun _ _ _ h => h) (Or.inl ⟨by rfl, ?hy13⟩) HS.out ?rest13
  case hy13 => (intro ww _; go_simp; try with_reducible rfl)
  go_simp
  refine wpAnyH_take (i := 14) (v := ?v14) rfl (by kernel_rfl) (by kernel_rfl) (by kernel_rfl) (fun _ _ _ h => h) (Or.inl ⟨by rfl, ?hy14⟩) HS.out ?rest14
  case hy14 => (intro ww _; go_simp; try with_reducible rfl)
  go_simp
  refine wpAnyH_all (rs := [15]) (by kernel_rfl) (by simp) ?_
  intro i hi
  obtain rfl := List.mem_singleton.1 hi
  clear hi
  refine wpOp_d rfl (by rfl) (fun K hK => ?_)
  refine owp_store_rq _ _ rfl (w.heap.size + 1) rfl zeroQ a rfl H1.out.2.1 ?_
  intro wz Hz
  refine hK _ _ ⟨(Hz.out.2.block _ (by omega)).trans H1.out.1, ?_⟩
  clear hK K
  go_simp
  refine wpAnyH_done (by kernel_rfl) ?_ _
  go_simp
  go_wp2
  refine ret_oneD (s := 2) (ad := ⟨w.heap.size + 1, 0, none⟩) rfl rfl (load_rq _ _ a Hz.out.1) rfl ?_
  exact ⟨rfl, Hz.out.2.below H1.out.2.2 (by omega)⟩
/-- The request that the laws tell and read first. -/
def liveQ : Rq := ⟨2, 3, 5, ⟨#[107]⟩, 0, 0⟩
theorem can_zero : canW 0 = 0 := by decide
theorem live_right : rightB liveQ = true := by decide
theorem live_facts : rqE liveQ = 0 ∧ (rqT liveQ).size = 19 ∧ rdE (rqT liveQ) = 0 ∧ wholeB liveQ (rdR (rqT liveQ)) = true := by
  obtain ⟨h1, h2, h3⟩ := read_back live_right (by decide)
  refine ⟨(rqE_iff _).2 (Or.inr live_right), ?_, ?_, ?_⟩
  · have : (rqL liveQ).length = 19 := rqL_len liveQ
    rw [rqT, right_null live_right, live_right]
    show (rqL liveQ).toArray.size = 19
    simpa using this
  · rw [rdE, h3, h1]
    rfl
  · rw [rdR, h3, h1]
    show wholeB liveQ (rdq (rqT liveQ)) = true
    rw [h2]
    decide
end Go.Proofs.Ytohhlolmojeomaa

/- The laws' steps: kind and signature. -/
namespace Go.Proofs.Ytohhlolmojeomaa
open Go.RowKit

structure Sp where
  k : Int
  fr : Int
  sl : Int
  vw : Int
  a : Rq
  wr : Bool
def spC (o : Sp) : List Value := [.int .i64 o.k, .int .i64 o.fr, .int .i64 o.sl, .int .i64 o.vw, .int .i64 o.a.c, .int .i64 o.a.st, .int .i64 o.a.k, .string o.a.key, .int .u64 (o.a.b : Int), .int .i64 o.a.id, .bool o.wr]
theorem wrap_u4 (k : Int) : (IntKind.u64.wrap k).tmod 4 = k % 4 := by
  have h : IntKind.u64.wrap k = k % 18446744073709551616 := by simp [IntKind.wrap, IntKind.bits, IntKind.signed]
  rw [h, Int.tmod_eq_emod_of_nonneg (Int.emod_nonneg _ (by decide))]
  omega
theorem wrap_i4 (k : Int) : IntKind.i64.wrap (k % 4) = k % 4 := wrap_small _ (by omega) (by omega)
theorem wrap_u4b (k : Int) : IntKind.u64.wrap (k % 4) = k % 4 := by
  have h : IntKind.u64.wrap (k % 4) = (k % 4) % 18446744073709551616 := by simp [IntKind.wrap, IntKind.bits, IntKind.signed]
  rw [h]; omega
set_option maxRecDepth 100000 in
set_option maxHeartbeats 3200000 in
theorem ukind_any (o : Sp) (w : World) : Calls Try.prog 16 #[.agg #[.int .i64 o.k, .int .i64 o.fr, .int .i64 o.sl, .int .i64 o.vw, .int .i64 o.a.c, .int .i64 o.a.st, .int .i64 o.a.k, .string o.a.key, .int .u64 (o.a.b : Int), .int .i64 o.a.id, .bool o.wr]] w fun e w' => e = .returned (.int .i64 (o.k % 4)) ∧ Below w.heap.size w w' := by
  have h1 := wrap_u4 o.k
  have h2 := wrap_i4 o.k
  have h3 := wrap_u4b o.k
  have c0 : (w.alloc (.cells #[.int .i64 o.k, .int .i64 o.fr, .int .i64 o.sl, .int .i64 o.vw, .int .i64 o.a.c, .int .i64 o.a.st, .int .i64 o.a.k, .string o.a.key, .int .u64 (o.a.b : Int), .int .i64 o.a.id, .bool o.wr] 36)).cell? ⟨w.heap.size, 0, none⟩ = some (.int .i64 o.k) := cell_at (L := spC o) (heap_alloc_last w _) 0 _ rfl
  go_enter Try.func16, Try.ntmps16
  go_wp2
  go_ret
  exact ⟨by simp_all, (Below.refl _ _).alloc (Nat.le_refl _) _⟩
theorem prT_len (ep v s : Int) (r : Rq) : (prT ep v s r).size ≤ 100 := by
  unfold prT
  split
  · rename_i h
    have hr := (rqT_sz h).2
    split
    · show (prL ep v s ++ (rqT r).data.toList).toArray.size ≤ 100
      rw [prL]
      simp only [List.size_toArray, List.length_append, be_len, Array.length_toList]
      have : (rqT r).data.size = (rqT r).size := rfl
      omega
    · decide
  · decide
def sgS (ep v : Int) (o : Sp) : ByteArray := if o.wr = true then prT ep v o.sl o.a ++ ⟨#[63]⟩ else prT ep v o.sl o.a
set_option maxRecDepth 100000 in
set_option maxHeartbeats 3200000 in
theorem usig_any (o : Sp) (hb : o.a.b < 18446744073709551616) (ep v : Int) (w : World) : Calls Try.prog 30 #[.agg #[.int .i64 o.k, .int .i64 o.fr, .int .i64 o.sl, .int .i64 o.vw, .int .i64 o.a.c, .int .i64 o.a.st, .int .i64 o.a.k, .string o.a.key, .int .u64 (o.a.b : Int), .int .i64 o.a.id, .bool o.wr], .int .i64 ep, .int .i64 v] w fun e w' => e = .returned (.agg #[.int .i64 o.fr, .string (sgS ep v o)]) ∧ Below w.heap.size w w' := by
  have HT : Hid (∀ u : World, Calls Try.prog 11 #[.int .i64 ep, .int .i64 v, .int .i64 o.sl, .agg #[.int .i64 o.a.c, .int .i64 o.a.st, .int .i64 o.a.k, .string o.a.key, .float .f64 o.a.b, .int .i64 o.a.id]] u fun e w' => e = .returned (.tuple #[.string (prT ep v o.sl o.a), .int .i64 (prE ep v o.sl o.a)]) ∧ Below u.heap.size u w') := hid (fun u => qprepared_any ep v o.sl o.a hb u)
  obtain ⟨wa, ea⟩ : ∃ wa, wa = (w.alloc (.cells #[.int .i64 o.k, .int .i64 o.fr, .int .i64 o.sl, .int .i64 o.vw, .int .i64 o.a.c, .int .i64 o.a.st, .int .i64 o.a.k, .string o.a.key, .int .u64 (o.a.b : Int), .int .i64 o.a.id, .bool o.wr] 36)).alloc (.cells #[.int .i64 0, .string ⟨#[]⟩] 67) := ⟨_, rfl⟩
  have hba : Below w.heap.size w wa := by rw [ea]; exact ((Below.refl _ _).alloc (Nat.le_refl _) _).alloc (by simp) _
  have H0 : Hid (BxAt wa w.heap.size [.int .i64 o.k, .int .i64 o.fr, .int .i64 o.sl, .int .i64 o.vw, .int .i64 o.a.c, .int .i64 o.a.st, .int .i64 o.a.k, .string o.a.key, .int .u64 (o.a.b : Int), .int .i64 o.a.id, .bool o.wr] 36 ∧ BxAt wa (w.heap.size + 1) [.int .i64 0, .string ⟨#[]⟩] 67 ∧ Below w.heap.size w wa) := hid ⟨by rw [ea]; exact (Below.heap_alloc _ _ _ (by simp)).trans (heap_alloc_last w _), by rw [ea]; exact snd_alloc _ _ _, hba⟩
  have HEa := hid ea
  obtain ⟨t, et⟩ : ∃ t, t = sgS ep v o := ⟨_, rfl⟩
  have HV : Hid (t = if o.wr = true then prT ep v o.sl o.a ++ ⟨#[63]⟩ else prT ep v o.sl o.a) := hid et
  rw [← et]
  have htx : (prT ep v o.sl o.a).size + 1 ≤ 281474976710655 := by have := prT_len ep v o.sl o.a; omega
  generalize prT ep v o.sl o.a = tx at HT HV htx
  generalize prE ep v o.sl o.a = er at HT
  clear hb ea hba et
  cases hw : o.wr with
  | true =>
    have HV2 : Hid (t = tx ++ ⟨#[63]⟩) := hid (by have := HV.out; rw [hw] at this; simpa using this)
    go_enter Try.func30, Try.ntmps30
    go_wp2_with fail
    first | rw [← HEa.out] | (rw [hw] at HEa; rw [← HEa.out]) | skip
    rw [hw] at H0
    obtain ⟨wd, ed⟩ : ∃ u, u = wa.drew := ⟨_, rfl⟩
    have HD : Hid (BxAt wd w.heap.size [.int .i64 o.k, .int .i64 o.fr, .int .i64 o.sl, .int .i64 o.vw, .int .i64 o.a.c, .int .i64 o.a.st, .int .i64 o.a.k, .string o.a.key, .int .u64 (o.a.b : Int), .int .i64 o.a.id, .bool true] 36 ∧ BxAt wd (w.heap.size + 1) [.int .i64 0, .string ⟨#[]⟩] 67 ∧ Below w.heap.size w wd) := hid (by rw [ed]; exact ⟨H0.out.1, H0.out.2.1, H0.out.2.2.drew⟩)
    have HS : Hid (BxAt wd w.heap.size [.int .i64 o.k, .int .i64 o.fr, .int .i64 o.sl, .int .i64 o.vw, .int .i64 o.a.c, .int .i64 o.a.st, .int .i64 o.a.k, .string o.a.key, .int .u64 (o.a.b : Int), .int .i64 o.a.id, .bool true] 36) := hid HD.out.1
    refine wp_region_G (S := fun ww => BxAt ww w.heap.size [.int .i64 o.k, .int .i64 o.fr, .int .i64 o.sl, .int .i64 o.vw, .int .i64 o.a.c, .int .i64 o.a.st, .int .i64 o.a.k, .string o.a.key, .int .u64 (o.a.b : Int), .int .i64 o.a.id, .bool true] 36) (ex := []) (by kernel_rfl) ?_
    try (change wpAnyG _ _ _ _ _ _ _ _ _ (World.drew _))
    try rw [← ed]
    clear ed
    refine wpAnyG_take (i := 0) (v := ?v1) rfl (by kernel_rfl) (fun _ _ _ h => h) (Or.inl ⟨by rfl, ?hy1⟩) HS.out ?rest1
    case hy1 => (intro ww _; go_simp; try with_reducible rfl)
    go_simp
    refine wpAnyG_take (i := 1) (v := ?v2) rfl (by kernel_rfl) (fun _ _ _ h => h) (Or.inl ⟨by rfl, ?hy2⟩) HS.out ?rest2
    case hy2 => (intro ww _; go_simp; try with_reducible rfl)
    go_simp
    refine wpAnyG_take (i := 2) (v := ?v3) rfl (by kernel_rfl) (fun _ _ _ h => h) (Or.inl ⟨by rfl, ?hy3⟩) HS.out ?rest3
    case hy3 => (intro ww _; go_simp; try with_reducible rfl)
    go_simp
    refine wpAnyG_take (i := 3) (v := ?v4) rfl (by kernel_rfl) (fun _ _ _ h => h) (Or.inl ⟨by rfl, ?hy4⟩) HS.out ?rest4
    case hy4 => (intro ww hS; have q2 := hS.cell 2 _ rfl; go_simp; try with_reducible rfl)
    go_simp
    refine wpAnyG_take (i := 4) (v := ?v5) rfl (by kernel_rfl) (fun _ _ _ h => h) (Or.inl ⟨by rfl, ?hy5⟩) HS.out ?rest5
    case hy5 => (intro ww _; go_simp; try with_reducible rfl)
    go_simp
    refine wpAnyG_take (i := 5) (v := ?v6) rfl (by kernel_rfl) (fun _ _ _ h => h) (Or.inl ⟨by rfl, ?hy6⟩) HS.out ?rest6
    case hy6 => (intro ww hS; have q4 := hS.cell 4 _ rfl; have q5 := hS.cell 5 _ rfl; have q6 := hS.cell 6 _ rfl; have q7 := hS.cell 7 _ rfl; have q8 := hS.cell 8 _ rfl; have q9 := hS.cell 9 _ rfl; go_simp; try with_reducible rfl)
    go_simp
    refine wpAnyG_all (rs := [6]) (by kernel_rfl) (by simp) ?_
    intro i hi
    obtain rfl := List.mem_singleton.1 hi
    clear hi
    refine wpOp_s rfl (by rfl) (fun K hK => ?_)
    go_simp
    refine (drequest_any o.a _).mono ?_
    rintro e w2 ⟨rfl, hb2⟩
    have H2 : Hid (BxAt w2 w.heap.size [.int .i64 o.k, .int .i64 o.fr, .int .i64 o.sl, .int .i64 o.vw, .int .i64 o.a.c, .int .i64 o.a.st, .int .i64 o.a.k, .string o.a.key, .int .u64 (o.a.b : Int), .int .i64 o.a.id, .bool true] 36 ∧ BxAt w2 (w.heap.size + 1) [.int .i64 0, .string ⟨#[]⟩] 67 ∧ Below w.heap.size w w2) := hid ⟨HD.out.1.keep hb2, HD.out.2.1.keep hb2, HD.out.2.2.trans (hb2.mono HD.out.2.2.size)⟩
    clear hb2
    refine hK _ _ ⟨fun _ => H2.out.1, ?_⟩
    clear hK K
    go_simp
    refine wpAnyG_all (rs := [7]) (by kernel_rfl) (by simp) ?_
    intro i hi
    obtain rfl := List.mem_singleton.1 hi
    clear hi
    refine wpOp_s rfl (by rfl) (fun K hK => ?_)
    go_simp
    refine (HT.out _).mono ?_
    rintro e w3 ⟨rfl, hb3⟩
    have H3 : Hid (BxAt w3 w.heap.size [.int .i64 o.k, .int .i64 o.fr, .int .i64 o.sl, .int .i64 o.vw, .int .i64 o.a.c, .int .i64 o.a.st, .int .i64 o.a.k, .string o.a.key, .int .u64 (o.a.b : Int), .int .i64 o.a.id, .bool true] 36 ∧ BxAt w3 (w.heap.size + 1) [.int .i64 0, .string ⟨#[]⟩] 67 ∧ Below w.heap.size w w3) := hid ⟨H2.out.1.keep hb3, H2.out.2.1.keep hb3, H2.out.2.2.trans (hb3.mono H2.out.2.2.size)⟩
    clear hb3
    refine hK _ _ ⟨fun _ => H3.out.1, ?_⟩
    clear hK K
    go_simp
    refine wpAnyG_take (i := 8) (v := ?v7) rfl (by kernel_rfl) (fun _ _ _ h => h) (Or.inl ⟨by rfl, ?hy7⟩) H3.out.1 ?rest7
    case hy7 => (intro ww _; go_simp; try with_reducible rfl)
    go_simp
    refine wpAnyG_take (i := 9) (v := ?v8) rfl (by kernel_rfl) (fun _ _ _ h => h) (Or.inl ⟨by rfl, ?hy8⟩) H3.out.1 ?rest8
    case hy8 => (intro ww _; go_simp; try with_reducible rfl)
    go_simp
    refine wpAnyG_take (i := 10) (v := ?v9) rfl (by kernel_rfl) (fun _ _ _ h => h) (Or.inl ⟨by rfl, ?hy9⟩) H3.out.1 ?rest9
    case hy9 => (intro ww _; go_simp; try with_reducible rfl)
    go_simp
    refine wpAnyG_take (i := 11) (v := ?v10) rfl (by kernel_rfl) (fun _ _ _ h => h) (Or.inl ⟨by rfl, ?hy10⟩) H3.out.1 ?rest10
    case hy10 => (intro ww _; go_simp; try with_reducible rfl)
    go_simp
    refine wpAnyG_take (i := 12) (v := ?v11) rfl (by kernel_rfl) (fun _ _ _ h => h) (Or.inl ⟨by rfl, ?hy11⟩) H3.out.1 ?rest11
    case hy11 => (intro ww _; go_simp; try with_reducible rfl)
    go_simp
    refine wpAnyG_done (by kernel_rfl) ?_ _
    go_simp
    have y1 := H3.out.1.cell 1 _ rfl; have y10 := H3.out.1.cell 10 _ rfl
    go_wp2_with (first
      | (refine wl_store_blk rfl 67 _ _ rfl (w.heap.size + 1) 0 rfl #[.int .i64 o.fr, .string (tx ++ ⟨#[63]⟩)] rfl [.int .i64 0, .string ⟨#[]⟩] 67 H3.out.2.1 (by simp) (by kernel_rfl) (by simp [Value.oneCell']) ?_; intro w5 Hz; go_must (have H5 : Hid (BxAt w5 (w.heap.size + 1) [.int .i64 o.fr, .string (tx ++ ⟨#[63]⟩)] 67 ∧ Below w.heap.size w w5) := hid ⟨Hz.out.1, Hz.out.2.below H3.out.2.2 (by omega)⟩); clear Hz))
    refine ret_oneS (s := 6) (ad := ⟨w.heap.size + 1, 0, none⟩) rfl rfl (load_blk2 H5.out.1 _ Try.underlying67 rfl (by kernel_rfl)) rfl ?_
    exact ⟨by rw [HV2.out], H5.out.2⟩
  | false =>
    have HV2 : Hid (t = tx) := hid (by have := HV.out; rw [hw] at this; simpa using this)
    go_enter Try.func30, Try.ntmps30
    go_wp2_with fail
    first | rw [← HEa.out] | (rw [hw] at HEa; rw [← HEa.out]) | skip
    rw [hw] at H0
    obtain ⟨wd, ed⟩ : ∃ u, u = wa.drew := ⟨_, rfl⟩
    have HD : Hid (BxAt wd w.heap.size [.int .i64 o.k, .int .i64 o.fr, .int .i64 o.sl, .int .i64 o.vw, .int .i64 o.a.c, .int .i64 o.a.st, .int .i64 o.a.k, .string o.a.key, .int .u64 (o.a.b : Int), .int .i64 o.a.id, .bool false] 36 ∧ BxAt wd (w.heap.size + 1) [.int .i64 0, .string ⟨#[]⟩] 67 ∧ Below w.heap.size w wd) := hid (by rw [ed]; exact ⟨H0.out.1, H0.out.2.1, H0.out.2.2.drew⟩)
    have HS : Hid (BxAt wd w.heap.size [.int .i64 o.k, .int .i64 o.fr, .int .i64 o.sl, .int .i64 o.vw, .int .i64 o.a.c, .int .i64 o.a.st, .int .i64 o.a.k, .string o.a.key, .int .u64 (o.a.b : Int), .int .i64 o.a.id, .bool false] 36) := hid HD.out.1
    refine wp_region_G (S := fun ww => BxAt ww w.heap.size [.int .i64 o.k, .int .i64 o.fr, .int .i64 o.sl, .int .i64 o.vw, .int .i64 o.a.c, .int .i64 o.a.st, .int .i64 o.a.k, .string o.a.key, .int .u64 (o.a.b : Int), .int .i64 o.a.id, .bool false] 36) (ex := []) (by kernel_rfl) ?_
    try (change wpAnyG _ _ _ _ _ _ _ _ _ (World.drew _))
    try rw [← ed]
    clear ed
    refine wpAnyG_take (i := 0) (v := ?v301) rfl (by kernel_rfl) (fun _ _ _ h => h) (Or.inl ⟨by rfl, ?hy301⟩) HS.out ?rest301
    case hy301 => (intro ww _; go_simp; try with_reducible rfl)
    go_simp
    refine wpAnyG_take (i := 1) (v := ?v302) rfl (by kernel_rfl) (fun _ _ _ h => h) (Or.inl ⟨by rfl, ?hy302⟩) HS.out ?rest302
    case hy302 => (intro ww _; go_simp; try with_reducible rfl)
    go_simp
    refine wpAnyG_take (i := 2) (v := ?v303) rfl (by kernel_rfl) (fun _ _ _ h => h) (Or.inl ⟨by rfl, ?hy303⟩) HS.out ?rest303
    case hy303 => (intro ww _; go_simp; try with_reducible rfl)
    go_simp
    refine wpAnyG_take (i := 3) (v := ?v304) rfl (by kernel_rfl) (fun _ _ _ h => h) (Or.inl ⟨by rfl, ?hy304⟩) HS.out ?rest304
    case hy304 => (intro ww hS; have q2 := hS.cell 2 _ rfl; go_simp; try with_reducible rfl)
    go_simp
    refine wpAnyG_take (i := 4) (v := ?v305) rfl (by kernel_rfl) (fun _ _ _ h => h) (Or.inl ⟨by rfl, ?hy305⟩) HS.out ?rest305
    case hy305 => (intro ww _; go_simp; try with_reducible rfl)
    go_simp
    refine wpAnyG_take (i := 5) (v := ?v306) rfl (by kernel_rfl) (fun _ _ _ h => h) (Or.inl ⟨by rfl, ?hy306⟩) HS.out ?rest306
    case hy306 => (intro ww hS; have q4 := hS.cell 4 _ rfl; have q5 := hS.cell 5 _ rfl; have q6 := hS.cell 6 _ rfl; have q7 := hS.cell 7 _ rfl; have q8 := hS.cell 8 _ rfl; have q9 := hS.cell 9 _ rfl; go_simp; try with_reducible rfl)
    go_simp
    refine wpAnyG_all (rs := [6]) (by kernel_rfl) (by simp) ?_
    intro i hi
    obtain rfl := List.mem_singleton.1 hi
    clear hi
    refine wpOp_s rfl (by rfl) (fun K hK => ?_)
    go_simp
    refine (drequest_any o.a _).mono ?_
    rintro e w2 ⟨rfl, hb2⟩
    have H2 : Hid (BxAt w2 w.heap.size [.int .i64 o.k, .int .i64 o.fr, .int .i64 o.sl, .int .i64 o.vw, .int .i64 o.a.c, .int .i64 o.a.st, .int .i64 o.a.k, .string o.a.key, .int .u64 (o.a.b : Int), .int .i64 o.a.id, .bool false] 36 ∧ BxAt w2 (w.heap.size + 1) [.int .i64 0, .string ⟨#[]⟩] 67 ∧ Below w.heap.size w w2) := hid ⟨HD.out.1.keep hb2, HD.out.2.1.keep hb2, HD.out.2.2.trans (hb2.mono HD.out.2.2.size)⟩
    clear hb2
    refine hK _ _ ⟨fun _ => H2.out.1, ?_⟩
    clear hK K
    go_simp
    refine wpAnyG_all (rs := [7]) (by kernel_rfl) (by simp) ?_
    intro i hi
    obtain rfl := List.mem_singleton.1 hi
    clear hi
    refine wpOp_s rfl (by rfl) (fun K hK => ?_)
    go_simp
    refine (HT.out _).mono ?_
    rintro e w3 ⟨rfl, hb3⟩
    have H3 : Hid (BxAt w3 w.heap.size [.int .i64 o.k, .int .i64 o.fr, .int .i64 o.sl, .int .i64 o.vw, .int .i64 o.a.c, .int .i64 o.a.st, .int .i64 o.a.k, .string o.a.key, .int .u64 (o.a.b : Int), .int .i64 o.a.id, .bool false] 36 ∧ BxAt w3 (w.heap.size + 1) [.int .i64 0, .string ⟨#[]⟩] 67 ∧ Below w.heap.size w w3) := hid ⟨H2.out.1.keep hb3, H2.out.2.1.keep hb3, H2.out.2.2.trans (hb3.mono H2.out.2.2.size)⟩
    clear hb3
    refine hK _ _ ⟨fun _ => H3.out.1, ?_⟩
    clear hK K
    go_simp
    refine wpAnyG_take (i := 8) (v := ?v307) rfl (by kernel_rfl) (fun _ _ _ h => h) (Or.inl ⟨by rfl, ?hy307⟩) H3.out.1 ?rest307
    case hy307 => (intro ww _; go_simp; try with_reducible rfl)
    go_simp
    refine wpAnyG_take (i := 9) (v := ?v308) rfl (by kernel_rfl) (fun _ _ _ h => h) (Or.inl ⟨by rfl, ?hy308⟩) H3.out.1 ?rest308
    case hy308 => (intro ww _; go_simp; try with_reducible rfl)
    go_simp
    refine wpAnyG_take (i := 10) (v := ?v309) rfl (by kernel_rfl) (fun _ _ _ h => h) (Or.inl ⟨by rfl, ?hy309⟩) H3.out.1 ?rest309
    case hy309 => (intro ww _; go_simp; try with_reducible rfl)
    go_simp
    refine wpAnyG_take (i := 11) (v := ?v310) rfl (by kernel_rfl) (fun _ _ _ h => h) (Or.inl ⟨by rfl, ?hy310⟩) H3.out.1 ?rest310
    case hy310 => (intro ww _; go_simp; try with_reducible rfl)
    go_simp
    refine wpAnyG_take (i := 12) (v := ?v311) rfl (by kernel_rfl) (fun _ _ _ h => h) (Or.inl ⟨by rfl, ?hy311⟩) H3.out.1 ?rest311
    case hy311 => (intro ww _; go_simp; try with_reducible rfl)
    go_simp
    refine wpAnyG_done (by kernel_rfl) ?_ _
    go_simp
    have y1 := H3.out.1.cell 1 _ rfl; have y10 := H3.out.1.cell 10 _ rfl
    go_wp2_with (first
      | (refine wl_store_blk rfl 67 _ _ rfl (w.heap.size + 1) 0 rfl #[.int .i64 o.fr, .string (tx)] rfl [.int .i64 0, .string ⟨#[]⟩] 67 H3.out.2.1 (by simp) (by kernel_rfl) (by simp [Value.oneCell']) ?_; intro w5 Hz; go_must (have H5 : Hid (BxAt w5 (w.heap.size + 1) [.int .i64 o.fr, .string (tx)] 67 ∧ Below w.heap.size w w5) := hid ⟨Hz.out.1, Hz.out.2.below H3.out.2.2 (by omega)⟩); clear Hz))
    refine ret_oneS (s := 6) (ad := ⟨w.heap.size + 1, 0, none⟩) rfl rfl (load_blk2 H5.out.1 _ Try.underlying67 rfl (by kernel_rfl)) rfl ?_
    exact ⟨by rw [HV2.out], H5.out.2⟩
end Go.Proofs.Ytohhlolmojeomaa

/- Each step as a function of what is known. No walk here. -/
namespace Go.Proofs.Ytohhlolmojeomaa
open Go.RowKit

def q0P : Pp := ⟨⟨#[]⟩, [], [], ct0, ⟨#[]⟩⟩
def ixS (ep s : Int) : Nat := (s - 4 * ep - 1).toNat
def outS (ep s : Int) : Prop := s ≤ 4 * ep ∨ 4 * ep + 4 < s
instance (ep s : Int) : Decidable (outS ep s) := by unfold outS; infer_instance
def proS (ep : Int) (n : Nat) (v : Int) (qs : List Pp) (s : Int) (r : Rq) : Int × List Pp :=
  if rqE r ≠ 0 then (1, qs) else if outS ep s then (14, qs) else
  if (qs.getD (ixS ep s) q0P).pro.size = 0 then (0, qs.set (ixS ep s) (setl ep n v s { qs.getD (ixS ep s) q0P with pro := rqT r }))
  else if (qs.getD (ixS ep s) q0P).pro = rqT r then (7, qs) else (22, qs)
def preS (ep : Int) (l : List Int) (v : Int) (qs : List Pp) (fr s : Int) (r : Rq) (x : Int × ByteArray) : Int × List Pp :=
  if rqE r ≠ 0 then (1, qs) else if outS ep s then (14, qs) else if hasM l fr = false then (8, qs) else if x ≠ (fr, prT ep v s r) then (16, qs) else
  if ((qs.getD (ixS ep s) q0P).pre.getD fr.toNat ⟨#[]⟩).size = 0 then (0, qs.set (ixS ep s) (setl ep l.length v s { qs.getD (ixS ep s) q0P with pre := (qs.getD (ixS ep s) q0P).pre.set fr.toNat (rqT r) }))
  else (7, qs)
def comS (ep : Int) (l : List Int) (v : Int) (qs : List Pp) (fr s : Int) (r : Rq) : Int × List Pp :=
  if rqE r ≠ 0 then (1, qs) else if outS ep s then (14, qs) else if hasM l fr = false then (8, qs) else
  if ((qs.getD (ixS ep s) q0P).com.getD fr.toNat ⟨#[]⟩).size = 0 then (0, qs.set (ixS ep s) (setl ep l.length v s { qs.getD (ixS ep s) q0P with com := (qs.getD (ixS ep s) q0P).com.set fr.toNat (rqT r) }))
  else (7, qs)
def clrQ (q : Pp) : Pp := { q with pro := ⟨#[]⟩, pre := emL, com := emL }
def entS (v : Int) (qs : List Pp) (x : Int) : Int × Int × List Pp := if x ≤ v ∨ 15 < x then (13, v, qs) else (0, x, qs.map clrQ)
/-- What a step does. -/
def stp (ep : Int) (l : List Int) (v : Int) (qs : List Pp) (o : Sp) : Int × Int × List Pp :=
  if o.k % 4 = 0 then entS v qs o.vw
  else if o.k % 4 = 1 then ((proS ep l.length v qs o.sl o.a).1, v, (proS ep l.length v qs o.sl o.a).2)
  else if o.k % 4 = 2 then ((preS ep l v qs o.fr o.sl o.a (o.fr, sgS ep v o)).1, v, (preS ep l v qs o.fr o.sl o.a (o.fr, sgS ep v o)).2)
  else ((comS ep l v qs o.fr o.sl o.a).1, v, (comS ep l v qs o.fr o.sl o.a).2)
/-- What always holds of a log. -/
structure QOk (ep : Int) (l : List Int) (v : Int) (qs : List Pp) : Prop where
  hr : rightC ep l = true
  hv : 0 ≤ v ∧ v ≤ 15
  four : qs.length = 4
  ok : ∀ q, q ∈ qs → PpOk q
  sg : ∀ q, q ∈ qs → q.ct.2.2.2.length ≤ 16
theorem setl_sg {ep : Int} {n : Nat} {v slot : Int} {p : Pp} (h : p.ct.2.2.2.length ≤ 16) : (setl ep n v slot p).ct.2.2.2.length ≤ 16 := by
  unfold setl
  split
  · simp only
    split
    · exact whoS_len _ _ _ 16
    · exact h
  · exact h
theorem QOk.len {ep : Int} {l : List Int} {v : Int} {qs : List Pp} (h : QOk ep l v qs) : (0 ≤ ep ∧ ep ≤ 60) ∧ 0 < l.length ∧ l.length ≤ 1000 := by
  have h1 := (rightC_ep h.hr)
  have h2 := mem_len h1.2
  exact ⟨h1.1, by omega, by omega⟩
theorem mem_nat {ep : Int} {l : List Int} {fr : Int} (hr : rightC ep l = true) (hh : hasM l fr = true) : ∃ j : Nat, j < 16 ∧ fr = (j : Int) := by
  have := mem_in (rightC_ep hr).2 fr (of_decide_eq_true hh)
  exact ⟨fr.toNat, by omega, by omega⟩
theorem ix_slot {ep s : Int} (h : ¬ outS ep s) : s = 4 * ep + 1 + (ixS ep s : Int) ∧ ixS ep s < 4 := by
  unfold outS at h
  unfold ixS
  omega
theorem ix_back (ep : Int) (i : Nat) : ixS ep (4 * ep + 1 + (i : Int)) = i := by unfold ixS; omega
theorem getD_of {α : Type} {l : List α} {i : Nat} {d : α} (h : i < l.length) : l[i]? = some (l.getD i d) := by simp [h]
theorem set_ok {qs : List Pp} {i : Nat} {q : Pp} (h : ∀ x, x ∈ qs → PpOk x) (hq : PpOk q) : ∀ x, x ∈ qs.set i q → PpOk x := fun x hx => by
  rcases List.mem_or_eq_of_mem_set hx with h1 | h1
  · exact h x h1
  · rw [h1]; exact hq
theorem QOk.get {ep : Int} {l : List Int} {v : Int} {qs : List Pp} (h : QOk ep l v qs) {s : Int} (hs : ¬ outS ep s) : qs[ixS ep s]? = some (qs.getD (ixS ep s) q0P) ∧ PpOk (qs.getD (ixS ep s) q0P) := by
  have := getD_of (l := qs) (i := ixS ep s) (d := q0P) (by rw [h.four]; exact (ix_slot hs).2)
  exact ⟨this, h.ok _ (List.mem_of_getElem? this)⟩
theorem QOk.put {ep : Int} {l : List Int} {v : Int} {qs : List Pp} (h : QOk ep l v qs) (i : Nat) {q : Pp} (hq : PpOk q) (hs : q.ct.2.2.2.length ≤ 16) : QOk ep l v (qs.set i q) := ⟨h.hr, h.hv, by rw [List.length_set]; exact h.four, set_ok h.ok hq, fun x hx => by
  rcases List.mem_or_eq_of_mem_set hx with h1 | h1
  · exact h.sg x h1
  · rw [h1]; exact hs⟩
theorem pro_ok {ep : Int} {l : List Int} {v : Int} {qs : List Pp} (h : QOk ep l v qs) (s : Int) (r : Rq) : QOk ep l v (proS ep l.length v qs s r).2 := by
  unfold proS
  split
  · exact h
  · rename_i hr
    split
    · exact h
    · rename_i ho
      have hq := (h.get ho).2
      have hg := h.sg _ (List.mem_of_getElem? (h.get ho).1)
      split
      · exact h.put _ (setl_ok ⟨hq.pre, hq.com, (rqT_sz (by simpa using hr)).2, hq.don⟩) (setl_sg hg)
      · split <;> exact h
theorem pre_ok {ep : Int} {l : List Int} {v : Int} {qs : List Pp} (h : QOk ep l v qs) (fr s : Int) (r : Rq) (x : Int × ByteArray) : QOk ep l v (preS ep l v qs fr s r x).2 := by
  unfold preS
  split
  · exact h
  · split
    · exact h
    · rename_i ho
      have hq := (h.get ho).2
      have hg := h.sg _ (List.mem_of_getElem? (h.get ho).1)
      split
      · exact h
      · split
        · exact h
        · split
          · exact h.put _ (setl_ok ⟨by rw [List.length_set]; exact hq.pre, hq.com, hq.pro, hq.don⟩) (setl_sg hg)
          · exact h
theorem com_ok {ep : Int} {l : List Int} {v : Int} {qs : List Pp} (h : QOk ep l v qs) (fr s : Int) (r : Rq) : QOk ep l v (comS ep l v qs fr s r).2 := by
  unfold comS
  split
  · exact h
  · split
    · exact h
    · rename_i ho
      have hq := (h.get ho).2
      have hg := h.sg _ (List.mem_of_getElem? (h.get ho).1)
      split
      · exact h
      · split
        · exact h.put _ (setl_ok ⟨hq.pre, by rw [List.length_set]; exact hq.com, hq.pro, hq.don⟩) (setl_sg hg)
        · exact h
theorem ent_ok {ep : Int} {l : List Int} {v : Int} {qs : List Pp} (h : QOk ep l v qs) (x : Int) : QOk ep l (entS v qs x).2.1 (entS v qs x).2.2 := by
  unfold entS
  split
  · exact h
  · rename_i hx
    have := h.hv
    refine ⟨h.hr, by simp only; omega, by rw [List.length_map]; exact h.four, fun q hq => ?_, fun q hq => ?_⟩
    · obtain ⟨p, hp, rfl⟩ := List.mem_map.1 hq
      exact ⟨rfl, rfl, show (⟨#[]⟩ : ByteArray).size ≤ 64 by decide, (h.ok p hp).don⟩
    · obtain ⟨p, hp, rfl⟩ := List.mem_map.1 hq
      exact h.sg p hp
theorem stp_ok {ep : Int} {l : List Int} {v : Int} {qs : List Pp} (h : QOk ep l v qs) (o : Sp) : QOk ep l (stp ep l v qs o).2.1 (stp ep l v qs o).2.2 := by
  unfold stp
  split
  · exact ent_ok h _
  · split
    · exact pro_ok h _ _
    · split
      · exact pre_ok h _ _ _ _
      · exact com_ok h _ _ _
def StPost (w w' : World) (N g : Nat) (ep : Int) (am : Option Addr) (cm : Nat) (l : List Int) (v' : Int) (e : Ending) (er : Int) (qs : List Pp) (ps : List Pl) : Prop := ∃ ps', e = .returned (.int .i64 er) ∧ LgM w' N g ep am cm l v' ps' ∧ ps'.map Pl.pp = qs ∧ But g w w' ∧ ∀ p', p' ∈ ps' → (∃ p, p ∈ ps ∧ p'.ct.2 = p.ct.2) ∨ Fresh w.heap.size p'.ct.2
theorem StPost.same {w w' : World} {N g : Nat} {ep : Int} {am : Option Addr} {cm : Nat} {l : List Int} {v : Int} {ps : List Pl} {e : Ending} {er : Int} (h : LgM w N g ep am cm l v ps) (he : e = .returned (.int .i64 er)) (hb : Below w.heap.size w w') : StPost w w' N g ep am cm l v e er (ps.map Pl.pp) ps := ⟨ps, he, h.keep hb, rfl, But.of hb, fun p hp => .inl ⟨p, hp, rfl⟩⟩
theorem StPost.set {w w' : World} {N g : Nat} {ep : Int} {am : Option Addr} {cm : Nat} {l : List Int} {v : Int} {ps : List Pl} {e : Ending} {er : Int} {i : Nat} {q : Pp} (he : e = .returned (.int .i64 er)) (h : SetPost w w' N g ep am cm l v ps i q) : StPost w w' N g ep am cm l v e er ((ps.map Pl.pp).set i q) ps := by
  obtain ⟨p', h1, h2, h3, h4⟩ := h
  refine ⟨ps.set i p', he, h1, by rw [List.map_set, h2], h3, fun x hx => ?_⟩
  cases hp : ps[i]? with
  | none =>
    rw [List.set_eq_of_length_le (List.getElem?_eq_none_iff.1 hp)] at hx
    exact .inl ⟨x, hx, rfl⟩
  | some p0 =>
    rcases List.mem_or_eq_of_mem_set hx with e | e
    · exact .inl ⟨x, e, rfl⟩
    · rw [e]
      rcases h4 p0 hp with e2 | e2
      · exact .inl ⟨p0, List.mem_of_getElem? hp, e2⟩
      · exact .inr e2
theorem map_get {ps : List Pl} {i : Nat} (h : i < ps.length) : ∃ p, ps[i]? = some p ∧ (ps.map Pl.pp).getD i q0P = p.pp := by
  refine ⟨ps[i], List.getElem?_eq_getElem h, ?_⟩
  rw [List.getD_eq_getElem?_getD, List.getElem?_map, List.getElem?_eq_getElem h]
  rfl
theorem map_ok {ps : List Pl} {l : List Int} {ep v : Int} (h : QOk ep l v (ps.map Pl.pp)) {i : Nat} {p : Pl} (hi : ps[i]? = some p) : PpOk p.pp := h.ok _ (List.mem_map_of_mem (List.mem_of_getElem? hi))
theorem spropose_all {N g : Nat} {ep : Int} {am : Option Addr} {cm : Nat} {l : List Int} {v : Int} {ps : List Pl} (s : Int) (r : Rq) (hb : r.b < 18446744073709551616) (w : World) (h : LgM w N g ep am cm l v ps) (hq : QOk ep l v (ps.map Pl.pp)) :
    Calls Try.prog 26 #[.pointer (some ⟨g, 0, none⟩), .int .i64 s, .agg #[.int .i64 r.c, .int .i64 r.st, .int .i64 r.k, .string r.key, .float .f64 r.b, .int .i64 r.id]] w fun e w' => StPost w w' N g ep am cm l v e (proS ep l.length v (ps.map Pl.pp) s r).1 (proS ep l.length v (ps.map Pl.pp) s r).2 ps := by
  obtain ⟨he, hl, hlm⟩ := hq.len
  unfold proS
  split
  · rename_i hr
    refine (spropose_arg N g ep am cm l v ps s r hb hr w h hl).mono ?_
    rintro e w' ⟨h1, h2⟩
    exact StPost.same h h1 h2
  · rename_i hr
    have hr : rqE r = 0 := by simpa using hr
    split
    · rename_i ho
      refine (spropose_slot N g ep am cm l v ps s r hb hr w h hl he ho).mono ?_
      rintro e w' ⟨h1, h2⟩
      exact StPost.same h h1 h2
    · rename_i ho
      obtain ⟨hs, hi⟩ := ix_slot ho
      generalize ixS ep s = i at hs hi ⊢
      obtain ⟨p, hp, hg⟩ := map_get (ps := ps) (i := i) (by rw [h.at_.four]; exact hi)
      rw [hg, hs]
      split
      · rename_i hz
        refine (spropose_new N g ep am cm l v ps i p r hb hr w h hl he hp hlm hq.hv hz).mono ?_
        rintro e w' ⟨h1, h2⟩
        exact StPost.set h1 h2
      · rename_i hz
        split
        · rename_i heq
          refine (spropose_same N g ep am cm l v ps i p r hb hr w h hl he hp hz heq).mono ?_
          rintro e w' ⟨h1, h2⟩
          exact StPost.same h h1 h2
        · rename_i heq
          refine (spropose_other N g ep am cm l v ps i p r hb hr w h hl he hp hz heq).mono ?_
          rintro e w' ⟨h1, h2⟩
          exact StPost.same h h1 h2
theorem senter_all {N g : Nat} {ep : Int} {am : Option Addr} {cm : Nat} {l : List Int} {v : Int} {ps : List Pl} (x : Int) (w : World) (h : LgM w N g ep am cm l v ps) (hq : QOk ep l v (ps.map Pl.pp)) :
    Calls Try.prog 25 #[.pointer (some ⟨g, 0, none⟩), .int .i64 x] w fun e w' => StPost w w' N g ep am cm l (entS v (ps.map Pl.pp) x).2.1 e (entS v (ps.map Pl.pp) x).1 (entS v (ps.map Pl.pp) x).2.2 ps := by
  obtain ⟨he, hl, hlm⟩ := hq.len
  unfold entS
  by_cases h1 : x ≤ v
  · rw [if_pos (Or.inl h1)]
    refine (senter_low g ep am cm l v ps x w h.at_ hl h1).mono ?_
    rintro e w' ⟨k1, k2⟩
    exact StPost.same h k1 k2
  · by_cases h2 : 15 < x
    · rw [if_pos (Or.inr h2)]
      refine (senter_high g ep am cm l v ps x w h.at_ hl h1 h2).mono ?_
      rintro e w' ⟨k1, k2⟩
      exact StPost.same h k1 k2
    · rw [if_neg (by omega)]
      refine (senter_yes N g ep am cm l v ps x w h hl h1 h2).mono ?_
      rintro e w' ⟨k1, k2, k3⟩
      exact ⟨_, k1, k2, by rw [List.map_map, List.map_map]; rfl, k3, fun p' hp' => by obtain ⟨p, hp, rfl⟩ := List.mem_map.1 hp'; exact .inl ⟨p, hp, rfl⟩⟩
theorem sprepare_all {N g : Nat} {ep : Int} {am : Option Addr} {cm : Nat} {l : List Int} {v : Int} {ps : List Pl} (fr s : Int) (r : Rq) (x : Int × ByteArray) (hb : r.b < 18446744073709551616) (w : World) (h : LgM w N g ep am cm l v ps) (hq : QOk ep l v (ps.map Pl.pp)) :
    Calls Try.prog 27 #[.pointer (some ⟨g, 0, none⟩), .int .i64 fr, .int .i64 s, .agg #[.int .i64 r.c, .int .i64 r.st, .int .i64 r.k, .string r.key, .float .f64 r.b, .int .i64 r.id], .agg #[.int .i64 x.1, .string x.2]] w fun e w' => StPost w w' N g ep am cm l v e (preS ep l v (ps.map Pl.pp) fr s r x).1 (preS ep l v (ps.map Pl.pp) fr s r x).2 ps := by
  obtain ⟨he, hl, hlm⟩ := hq.len
  unfold preS
  split
  · rename_i hr
    refine (sprepare_arg N g ep am cm l v ps s fr r x hb hr w h hl).mono ?_
    rintro e w' ⟨h1, h2⟩
    exact StPost.same h h1 h2
  · rename_i hr
    have hr : rqE r = 0 := by simpa using hr
    split
    · rename_i ho
      refine (sprepare_slot N g ep am cm l v ps s fr r x hb hr w h hl he ho).mono ?_
      rintro e w' ⟨h1, h2⟩
      exact StPost.same h h1 h2
    · rename_i ho
      obtain ⟨hs, hi⟩ := ix_slot ho
      generalize ixS ep s = i at hs hi ⊢
      obtain ⟨p, hp, hg⟩ := map_get (ps := ps) (i := i) (by rw [h.at_.four]; exact hi)
      have hok := map_ok hq hp
      rw [hg, hs]
      split
      · rename_i hh
        refine (sprepare_absent N g ep am cm l v ps i fr r x hb hr w h hl hlm he hi hh).mono ?_
        rintro e w' ⟨h1, h2⟩
        exact StPost.same h h1 h2
      · rename_i hh
        have hh : hasM l fr = true := by simpa using hh
        obtain ⟨j, hj, rfl⟩ := mem_nat hq.hr hh
        rw [Int.toNat_natCast]
        split
        · rename_i hx
          by_cases hx1 : x.1 = (j : Int)
          · refine (sprepare_sig_text N g ep am cm l v ps i p j hj r x hb hr w h hl hlm he hq.hv hp hh (fun e => hx (Prod.ext hx1 e))).mono ?_
            rintro e w' ⟨h1, h2⟩
            exact StPost.same h h1 h2
          · refine (sprepare_sig_by N g ep am cm l v ps i p j hj r x hb hr w h hl hlm he hq.hv hp hh hx1).mono ?_
            rintro e w' ⟨h1, h2⟩
            exact StPost.same h h1 h2
        · rename_i hx
          have hx : x = ((j : Int), prT ep v (4 * ep + 1 + (i : Int)) r) := by simpa using hx
          have h0 : p.pre[j]? = some (p.pp.pre.getD j ⟨#[]⟩) := getD_of (l := p.pre) (by have := hok.pre; change p.pre.length = 16 at this; omega)
          split
          · rename_i hz
            refine (sprepare_ok N g ep am cm l v ps i p j hj r x hb hr w h hl hlm he hq.hv hp hh hx _ h0 hz hok.pro).mono ?_
            rintro e w' ⟨h1, h2⟩
            exact StPost.set h1 h2
          · rename_i hz
            refine (sprepare_same N g ep am cm l v ps i p j hj r x hb hr w h hl hlm he hq.hv hp hh hx _ h0 hz).mono ?_
            rintro e w' ⟨h1, h2⟩
            exact StPost.same h h1 h2
theorem scommit_all {N g : Nat} {ep : Int} {am : Option Addr} {cm : Nat} {l : List Int} {v : Int} {ps : List Pl} (fr s : Int) (r : Rq) (hb : r.b < 18446744073709551616) (w : World) (h : LgM w N g ep am cm l v ps) (hq : QOk ep l v (ps.map Pl.pp)) :
    Calls Try.prog 28 #[.pointer (some ⟨g, 0, none⟩), .int .i64 fr, .int .i64 s, .agg #[.int .i64 r.c, .int .i64 r.st, .int .i64 r.k, .string r.key, .float .f64 r.b, .int .i64 r.id]] w fun e w' => StPost w w' N g ep am cm l v e (comS ep l v (ps.map Pl.pp) fr s r).1 (comS ep l v (ps.map Pl.pp) fr s r).2 ps := by
  obtain ⟨he, hl, hlm⟩ := hq.len
  unfold comS
  split
  · rename_i hr
    refine (scommit_arg N g ep am cm l v ps s fr r hb hr w h hl).mono ?_
    rintro e w' ⟨h1, h2⟩
    exact StPost.same h h1 h2
  · rename_i hr
    have hr : rqE r = 0 := by simpa using hr
    split
    · rename_i ho
      refine (scommit_slot N g ep am cm l v ps s fr r hb hr w h hl he ho).mono ?_
      rintro e w' ⟨h1, h2⟩
      exact StPost.same h h1 h2
    · rename_i ho
      obtain ⟨hs, hi⟩ := ix_slot ho
      generalize ixS ep s = i at hs hi ⊢
      obtain ⟨p, hp, hg⟩ := map_get (ps := ps) (i := i) (by rw [h.at_.four]; exact hi)
      have hok := map_ok hq hp
      rw [hg, hs]
      split
      · rename_i hh
        refine (scommit_absent N g ep am cm l v ps i fr r hb hr w h hl hlm he hi hh).mono ?_
        rintro e w' ⟨h1, h2⟩
        exact StPost.same h h1 h2
      · rename_i hh
        have hh : hasM l fr = true := by simpa using hh
        obtain ⟨j, hj, rfl⟩ := mem_nat hq.hr hh
        rw [Int.toNat_natCast]
        have h0 : p.com[j]? = some (p.pp.com.getD j ⟨#[]⟩) := getD_of (l := p.com) (by have := hok.com; change p.com.length = 16 at this; omega)
        split
        · rename_i hz
          refine (scommit_ok N g ep am cm l v ps i p j hj r hb hr w h hl hlm he hq.hv hp hh _ h0 hz hok.pro).mono ?_
          rintro e w' ⟨h1, h2⟩
          exact StPost.set h1 h2
        · rename_i hz
          refine (scommit_same N g ep am cm l v ps i p j hj r hb hr w h hl hlm he hq.hv hp hh _ h0 hz).mono ?_
          rintro e w' ⟨h1, h2⟩
          exact StPost.same h h1 h2
end Go.Proofs.Ytohhlolmojeomaa

/- A step on the program's log. -/
namespace Go.Proofs.Ytohhlolmojeomaa
open Go.RowKit

set_option maxRecDepth 100000 in
set_option maxHeartbeats 3200000 in
theorem ucall_0 {N g : Nat} {ep : Int} {am : Option Addr} {cm : Nat} {l : List Int} {v : Int} {ps : List Pl} (o : Sp) (_hb : o.a.b < 18446744073709551616) (hk : o.k % 4 = 0) (w : World) (h : LgM w N g ep am cm l v ps) (hq : QOk ep l v (ps.map Pl.pp)) :
    Calls Try.prog 9 #[.pointer (some ⟨g, 0, none⟩), .int .i64 ep, .agg #[.int .i64 o.k, .int .i64 o.fr, .int .i64 o.sl, .int .i64 o.vw, .int .i64 o.a.c, .int .i64 o.a.st, .int .i64 o.a.k, .string o.a.key, .int .u64 (o.a.b : Int), .int .i64 o.a.id, .bool o.wr]] w fun e w' => StPost w w' N g ep am cm l (entS v (ps.map Pl.pp) o.vw).2.1 e (entS v (ps.map Pl.pp) o.vw).1 (entS v (ps.map Pl.pp) o.vw).2.2 ps := by
  obtain ⟨Er, eEr⟩ : ∃ x, x = (entS v (ps.map Pl.pp) o.vw).1 := ⟨_, rfl⟩
  obtain ⟨V', eV⟩ : ∃ x, x = (entS v (ps.map Pl.pp) o.vw).2.1 := ⟨_, rfl⟩
  obtain ⟨Q', eQ⟩ : ∃ x, x = (entS v (ps.map Pl.pp) o.vw).2.2 := ⟨_, rfl⟩
  have HC : Hid (∀ u : World, LgM u N g ep am cm l v ps → Calls Try.prog 25 #[.pointer (some ⟨g, 0, none⟩), .int .i64 o.vw] u fun e w' => StPost u w' N g ep am cm l V' e Er Q' ps) := hid (fun u hu => by rw [eEr, eV, eQ]; exact senter_all o.vw u hu hq)
  have HK : Hid (∀ u : World, Calls Try.prog 16 #[.agg #[.int .i64 o.k, .int .i64 o.fr, .int .i64 o.sl, .int .i64 o.vw, .int .i64 o.a.c, .int .i64 o.a.st, .int .i64 o.a.k, .string o.a.key, .int .u64 (o.a.b : Int), .int .i64 o.a.id, .bool o.wr]] u fun e w' => e = .returned (.int .i64 0) ∧ Below u.heap.size u w') := hid (fun u => by have := ukind_any o u; rw [hk] at this; exact this)
  rw [← eEr, ← eV, ← eQ]
  
  
  have hbA : Below w.heap.size w (w.alloc (.cells #[.int .i64 o.k, .int .i64 o.fr, .int .i64 o.sl, .int .i64 o.vw, .int .i64 o.a.c, .int .i64 o.a.st, .int .i64 o.a.k, .string o.a.key, .int .u64 (o.a.b : Int), .int .i64 o.a.id, .bool o.wr] 36)) := (Below.refl _ _).alloc (Nat.le_refl _) _
  have H0 : Hid (LgM (w.alloc (.cells #[.int .i64 o.k, .int .i64 o.fr, .int .i64 o.sl, .int .i64 o.vw, .int .i64 o.a.c, .int .i64 o.a.st, .int .i64 o.a.k, .string o.a.key, .int .u64 (o.a.b : Int), .int .i64 o.a.id, .bool o.wr] 36)) N g ep am cm l v ps ∧ BxAt (w.alloc (.cells #[.int .i64 o.k, .int .i64 o.fr, .int .i64 o.sl, .int .i64 o.vw, .int .i64 o.a.c, .int .i64 o.a.st, .int .i64 o.a.k, .string o.a.key, .int .u64 (o.a.b : Int), .int .i64 o.a.id, .bool o.wr] 36)) w.heap.size [.int .i64 o.k, .int .i64 o.fr, .int .i64 o.sl, .int .i64 o.vw, .int .i64 o.a.c, .int .i64 o.a.st, .int .i64 o.a.k, .string o.a.key, .int .u64 (o.a.b : Int), .int .i64 o.a.id, .bool o.wr] 36 ∧ Below w.heap.size w (w.alloc (.cells #[.int .i64 o.k, .int .i64 o.fr, .int .i64 o.sl, .int .i64 o.vw, .int .i64 o.a.c, .int .i64 o.a.st, .int .i64 o.a.k, .string o.a.key, .int .u64 (o.a.b : Int), .int .i64 o.a.id, .bool o.wr] 36))) := hid ⟨h.keep hbA, heap_alloc_last w _, hbA⟩
  have HNw : Hid (g < w.heap.size) := hid (Nat.lt_of_lt_of_le h.lt h.sz)
  have q0 := H0.out.2.1.cell 0 _ rfl; have q1 := H0.out.2.1.cell 1 _ rfl; have q2 := H0.out.2.1.cell 2 _ rfl; have q3 := H0.out.2.1.cell 3 _ rfl; have q4 := H0.out.2.1.cell 4 _ rfl; have q5 := H0.out.2.1.cell 5 _ rfl; have q6 := H0.out.2.1.cell 6 _ rfl; have q7 := H0.out.2.1.cell 7 _ rfl; have q8 := H0.out.2.1.cell 8 _ rfl; have q9 := H0.out.2.1.cell 9 _ rfl; have q10 := H0.out.2.1.cell 10 _ rfl
  have HEs := hid (And.intro eEr (And.intro eV eQ))
  clear h hq _hb hk hbA eEr eV eQ
  go_enter Try.func9, Try.ntmps9
  go_wp2_with (first
    | (go_at_call 16; go_must (refine (HK.out _).mono ?_); rintro e w1 ⟨rfl, hb1⟩; have H1 : Hid (LgM w1 N g ep am cm l v ps ∧ BxAt w1 w.heap.size [.int .i64 o.k, .int .i64 o.fr, .int .i64 o.sl, .int .i64 o.vw, .int .i64 o.a.c, .int .i64 o.a.st, .int .i64 o.a.k, .string o.a.key, .int .u64 (o.a.b : Int), .int .i64 o.a.id, .bool o.wr] 36 ∧ Below w.heap.size w w1) := hid ⟨H0.out.1.keep hb1, H0.out.2.1.keep hb1, H0.out.2.2.trans (hb1.mono H0.out.2.2.size)⟩; clear hb1 q0 q1 q2 q3 q4 q5 q6 q7 q8 q9 q10; have q3 := H1.out.2.1.cell 3 _ rfl)
    | (go_at_call 25; go_must (refine (HC.out _ H1.out.1).mono ?_); rintro e w9 hp9; obtain ⟨ps', rfl, hq1, hq2, hq3, hq4⟩ := hp9; have H9 : Hid (LgM w9 N g ep am cm l V' ps' ∧ ps'.map Pl.pp = Q' ∧ But g w w9 ∧ ∀ p', p' ∈ ps' → (∃ p, p ∈ ps ∧ p'.ct.2 = p.ct.2) ∨ Fresh w.heap.size p'.ct.2) := hid ⟨hq1, hq2, (But.of H1.out.2.2).trans hq3, fun p' hp' => (hq4 p' hp').imp id (fun hf => hf.mono H1.out.2.2.size)⟩; clear hq1 hq2 hq3 hq4))
  go_ret
  exact ⟨ps', rfl, H9.out.1, H9.out.2.1, H9.out.2.2⟩
set_option maxRecDepth 100000 in
set_option maxHeartbeats 3200000 in
theorem ucall_1 {N g : Nat} {ep : Int} {am : Option Addr} {cm : Nat} {l : List Int} {v : Int} {ps : List Pl} (o : Sp) (hb : o.a.b < 18446744073709551616) (hk : o.k % 4 = 1) (w : World) (h : LgM w N g ep am cm l v ps) (hq : QOk ep l v (ps.map Pl.pp)) :
    Calls Try.prog 9 #[.pointer (some ⟨g, 0, none⟩), .int .i64 ep, .agg #[.int .i64 o.k, .int .i64 o.fr, .int .i64 o.sl, .int .i64 o.vw, .int .i64 o.a.c, .int .i64 o.a.st, .int .i64 o.a.k, .string o.a.key, .int .u64 (o.a.b : Int), .int .i64 o.a.id, .bool o.wr]] w fun e w' => StPost w w' N g ep am cm l v e (proS ep l.length v (ps.map Pl.pp) o.sl o.a).1 (proS ep l.length v (ps.map Pl.pp) o.sl o.a).2 ps := by
  obtain ⟨Er, eEr⟩ : ∃ x, x = (proS ep l.length v (ps.map Pl.pp) o.sl o.a).1 := ⟨_, rfl⟩
  obtain ⟨V', eV⟩ : ∃ x, x = v := ⟨_, rfl⟩
  obtain ⟨Q', eQ⟩ : ∃ x, x = (proS ep l.length v (ps.map Pl.pp) o.sl o.a).2 := ⟨_, rfl⟩
  have HC : Hid (∀ u : World, LgM u N g ep am cm l v ps → Calls Try.prog 26 #[.pointer (some ⟨g, 0, none⟩), .int .i64 o.sl, .agg #[.int .i64 o.a.c, .int .i64 o.a.st, .int .i64 o.a.k, .string o.a.key, .float .f64 o.a.b, .int .i64 o.a.id]] u fun e w' => StPost u w' N g ep am cm l V' e Er Q' ps) := hid (fun u hu => by rw [eEr, eV, eQ]; exact spropose_all o.sl o.a hb u hu hq)
  have HK : Hid (∀ u : World, Calls Try.prog 16 #[.agg #[.int .i64 o.k, .int .i64 o.fr, .int .i64 o.sl, .int .i64 o.vw, .int .i64 o.a.c, .int .i64 o.a.st, .int .i64 o.a.k, .string o.a.key, .int .u64 (o.a.b : Int), .int .i64 o.a.id, .bool o.wr]] u fun e w' => e = .returned (.int .i64 1) ∧ Below u.heap.size u w') := hid (fun u => by have := ukind_any o u; rw [hk] at this; exact this)
  rw [← eEr, ← eQ]
  have hbA : Below w.heap.size w (w.alloc (.cells #[.int .i64 o.k, .int .i64 o.fr, .int .i64 o.sl, .int .i64 o.vw, .int .i64 o.a.c, .int .i64 o.a.st, .int .i64 o.a.k, .string o.a.key, .int .u64 (o.a.b : Int), .int .i64 o.a.id, .bool o.wr] 36)) := (Below.refl _ _).alloc (Nat.le_refl _) _
  have H0 : Hid (LgM (w.alloc (.cells #[.int .i64 o.k, .int .i64 o.fr, .int .i64 o.sl, .int .i64 o.vw, .int .i64 o.a.c, .int .i64 o.a.st, .int .i64 o.a.k, .string o.a.key, .int .u64 (o.a.b : Int), .int .i64 o.a.id, .bool o.wr] 36)) N g ep am cm l v ps ∧ BxAt (w.alloc (.cells #[.int .i64 o.k, .int .i64 o.fr, .int .i64 o.sl, .int .i64 o.vw, .int .i64 o.a.c, .int .i64 o.a.st, .int .i64 o.a.k, .string o.a.key, .int .u64 (o.a.b : Int), .int .i64 o.a.id, .bool o.wr] 36)) w.heap.size [.int .i64 o.k, .int .i64 o.fr, .int .i64 o.sl, .int .i64 o.vw, .int .i64 o.a.c, .int .i64 o.a.st, .int .i64 o.a.k, .string o.a.key, .int .u64 (o.a.b : Int), .int .i64 o.a.id, .bool o.wr] 36 ∧ Below w.heap.size w (w.alloc (.cells #[.int .i64 o.k, .int .i64 o.fr, .int .i64 o.sl, .int .i64 o.vw, .int .i64 o.a.c, .int .i64 o.a.st, .int .i64 o.a.k, .string o.a.key, .int .u64 (o.a.b : Int), .int .i64 o.a.id, .bool o.wr] 36))) := hid ⟨h.keep hbA, heap_alloc_last w _, hbA⟩
  have HNw : Hid (g < w.heap.size) := hid (Nat.lt_of_lt_of_le h.lt h.sz)
  have q0 := H0.out.2.1.cell 0 _ rfl; have q1 := H0.out.2.1.cell 1 _ rfl; have q2 := H0.out.2.1.cell 2 _ rfl; have q3 := H0.out.2.1.cell 3 _ rfl; have q4 := H0.out.2.1.cell 4 _ rfl; have q5 := H0.out.2.1.cell 5 _ rfl; have q6 := H0.out.2.1.cell 6 _ rfl; have q7 := H0.out.2.1.cell 7 _ rfl; have q8 := H0.out.2.1.cell 8 _ rfl; have q9 := H0.out.2.1.cell 9 _ rfl; have q10 := H0.out.2.1.cell 10 _ rfl
  have HEs := hid (And.intro eEr (And.intro eV eQ))
  clear h hq hb hk hbA eEr eV eQ
  go_enter Try.func9, Try.ntmps9
  go_wp2_with (first
    | (go_at_call 16; go_must (refine (HK.out _).mono ?_); rintro e w1 ⟨rfl, hb1⟩; have H1 : Hid (LgM w1 N g ep am cm l v ps ∧ BxAt w1 w.heap.size [.int .i64 o.k, .int .i64 o.fr, .int .i64 o.sl, .int .i64 o.vw, .int .i64 o.a.c, .int .i64 o.a.st, .int .i64 o.a.k, .string o.a.key, .int .u64 (o.a.b : Int), .int .i64 o.a.id, .bool o.wr] 36 ∧ Below w.heap.size w w1) := hid ⟨H0.out.1.keep hb1, H0.out.2.1.keep hb1, H0.out.2.2.trans (hb1.mono H0.out.2.2.size)⟩; clear hb1 q0 q1 q2 q3 q4 q5 q6 q7 q8 q9 q10; have q3 := H1.out.2.1.cell 3 _ rfl))
  obtain ⟨wd, ed⟩ : ∃ u, u = w1.drew := ⟨_, rfl⟩
  have HD : Hid (LgM wd N g ep am cm l v ps ∧ BxAt wd w.heap.size [.int .i64 o.k, .int .i64 o.fr, .int .i64 o.sl, .int .i64 o.vw, .int .i64 o.a.c, .int .i64 o.a.st, .int .i64 o.a.k, .string o.a.key, .int .u64 (o.a.b : Int), .int .i64 o.a.id, .bool o.wr] 36 ∧ Below w.heap.size w wd) := hid (by rw [ed]; exact ⟨H1.out.1.keep (Below.refl _ _).drew, H1.out.2.1, H1.out.2.2.drew⟩)
  have HS : Hid (BxAt wd w.heap.size [.int .i64 o.k, .int .i64 o.fr, .int .i64 o.sl, .int .i64 o.vw, .int .i64 o.a.c, .int .i64 o.a.st, .int .i64 o.a.k, .string o.a.key, .int .u64 (o.a.b : Int), .int .i64 o.a.id, .bool o.wr] 36) := hid HD.out.2.1
  refine wp_region_G (S := fun ww => BxAt ww w.heap.size [.int .i64 o.k, .int .i64 o.fr, .int .i64 o.sl, .int .i64 o.vw, .int .i64 o.a.c, .int .i64 o.a.st, .int .i64 o.a.k, .string o.a.key, .int .u64 (o.a.b : Int), .int .i64 o.a.id, .bool o.wr] 36) (ex := []) (by kernel_rfl) ?_
  try (change wpAnyG _ _ _ _ _ _ _ _ _ (World.drew _))
  try rw [← ed]
  clear ed
  refine wpAnyG_take (i := 0) (v := ?v1) rfl (by kernel_rfl) (fun _ _ _ h => h) (Or.inl ⟨by rfl, ?hy1⟩) HS.out ?rest1
  case hy1 => (intro ww _; go_simp; try with_reducible rfl)
  go_simp
  refine wpAnyG_take (i := 1) (v := ?v2) rfl (by kernel_rfl) (fun _ _ _ h => h) (Or.inl ⟨by rfl, ?hy2⟩) HS.out ?rest2
  case hy2 => (intro ww _; go_simp; try with_reducible rfl)
  go_simp
  refine wpAnyG_take (i := 2) (v := ?v3) rfl (by kernel_rfl) (fun _ _ _ h => h) (Or.inl ⟨by rfl, ?hy3⟩) HS.out ?rest3
  case hy3 => (intro ww hS; have q2 := hS.cell 2 _ rfl; go_simp; try with_reducible rfl)
  go_simp
  refine wpAnyG_take (i := 3) (v := ?v4) rfl (by kernel_rfl) (fun _ _ _ h => h) (Or.inl ⟨by rfl, ?hy4⟩) HS.out ?rest4
  case hy4 => (intro ww _; go_simp; try with_reducible rfl)
  go_simp
  refine wpAnyG_take (i := 4) (v := ?v5) rfl (by kernel_rfl) (fun _ _ _ h => h) (Or.inl ⟨by rfl, ?hy5⟩) HS.out ?rest5
  case hy5 => (intro ww hS; have q4 := hS.cell 4 _ rfl; have q5 := hS.cell 5 _ rfl; have q6 := hS.cell 6 _ rfl; have q7 := hS.cell 7 _ rfl; have q8 := hS.cell 8 _ rfl; have q9 := hS.cell 9 _ rfl; go_simp; try with_reducible rfl)
  go_simp
  refine wpAnyG_all (rs := [5]) (by kernel_rfl) (by simp) ?_
  intro i hi
  obtain rfl := List.mem_singleton.1 hi
  clear hi
  refine wpOp_s rfl (by rfl) (fun K hK => ?_)
  go_simp
  refine (drequest_any o.a _).mono ?_
  rintro e w3 ⟨rfl, hb3⟩
  have H3 : Hid (LgM w3 N g ep am cm l v ps ∧ BxAt w3 w.heap.size [.int .i64 o.k, .int .i64 o.fr, .int .i64 o.sl, .int .i64 o.vw, .int .i64 o.a.c, .int .i64 o.a.st, .int .i64 o.a.k, .string o.a.key, .int .u64 (o.a.b : Int), .int .i64 o.a.id, .bool o.wr] 36 ∧ Below w.heap.size w w3) := hid ⟨HD.out.1.keep hb3, HD.out.2.1.keep hb3, HD.out.2.2.trans (hb3.mono HD.out.2.2.size)⟩
  clear hb3
  refine hK _ _ ⟨fun _ => H3.out.2.1, ?_⟩
  clear hK K
  go_simp
  refine wpAnyG_all (rs := [6]) (by kernel_rfl) (by simp) ?_
  intro i hi
  obtain rfl := List.mem_singleton.1 hi
  clear hi
  refine wpOp_s rfl (by rfl) (fun K hK => ?_)
  go_simp
  refine (HC.out _ H3.out.1).mono ?_
  rintro e w9 hp9
  obtain ⟨ps', rfl, hq1, hq2, hq3, hq4⟩ := hp9
  have H9 : Hid (LgM w9 N g ep am cm l V' ps' ∧ ps'.map Pl.pp = Q' ∧ But g w w9 ∧ ∀ p', p' ∈ ps' → (∃ p, p ∈ ps ∧ p'.ct.2 = p.ct.2) ∨ Fresh w.heap.size p'.ct.2) := hid ⟨hq1, hq2, (But.of H3.out.2.2).trans hq3, fun p' hp' => (hq4 p' hp').imp id (fun hf => hf.mono H3.out.2.2.size)⟩
  have HS9 : Hid (BxAt w9 w.heap.size [.int .i64 o.k, .int .i64 o.fr, .int .i64 o.sl, .int .i64 o.vw, .int .i64 o.a.c, .int .i64 o.a.st, .int .i64 o.a.k, .string o.a.key, .int .u64 (o.a.b : Int), .int .i64 o.a.id, .bool o.wr] 36) := hid ((hq3.block _ (lt_of_blk H3.out.2.1) (by have := H3.out.1.lt; have := HNw.out; omega)).trans H3.out.2.1)
  clear hq1 hq2 hq3 hq4
  refine hK _ _ ⟨fun _ => HS9.out, ?_⟩
  clear hK K
  go_simp
  refine wpAnyG_take (i := 7) (v := ?v6) rfl (by kernel_rfl) (fun _ _ _ h => h) (Or.inl ⟨by rfl, ?hy6⟩) HS9.out ?rest6
  case hy6 => (intro ww _; go_simp; try with_reducible rfl)
  go_simp
  refine wpAnyG_done (by kernel_rfl) ?_ _
  go_simp
  go_wp2
  go_ret
  exact ⟨ps', rfl, by rw [← HEs.out.2.1]; exact H9.out.1, H9.out.2.1, H9.out.2.2⟩
set_option maxRecDepth 100000 in
set_option maxHeartbeats 3200000 in
theorem ucall_2 {N g : Nat} {ep : Int} {am : Option Addr} {cm : Nat} {l : List Int} {v : Int} {ps : List Pl} (o : Sp) (hb : o.a.b < 18446744073709551616) (hk : o.k % 4 = 2) (w : World) (h : LgM w N g ep am cm l v ps) (hq : QOk ep l v (ps.map Pl.pp)) :
    Calls Try.prog 9 #[.pointer (some ⟨g, 0, none⟩), .int .i64 ep, .agg #[.int .i64 o.k, .int .i64 o.fr, .int .i64 o.sl, .int .i64 o.vw, .int .i64 o.a.c, .int .i64 o.a.st, .int .i64 o.a.k, .string o.a.key, .int .u64 (o.a.b : Int), .int .i64 o.a.id, .bool o.wr]] w fun e w' => StPost w w' N g ep am cm l v e (preS ep l v (ps.map Pl.pp) o.fr o.sl o.a (o.fr, sgS ep v o)).1 (preS ep l v (ps.map Pl.pp) o.fr o.sl o.a (o.fr, sgS ep v o)).2 ps := by
  obtain ⟨sg, esg⟩ : ∃ sg, sg = sgS ep v o := ⟨_, rfl⟩
  have HVw : Hid (∀ u : World, LgM u N g ep am cm l v ps → Calls Try.prog 12 #[.pointer (some ⟨g, 0, none⟩)] u fun e w' => e = .returned (.int .i64 v) ∧ w' = u) := hid (fun u hu => sview_any g ep am cm l v ps u hu.at_ hq.len.2.1)
  have HSg : Hid (∀ u : World, Calls Try.prog 30 #[.agg #[.int .i64 o.k, .int .i64 o.fr, .int .i64 o.sl, .int .i64 o.vw, .int .i64 o.a.c, .int .i64 o.a.st, .int .i64 o.a.k, .string o.a.key, .int .u64 (o.a.b : Int), .int .i64 o.a.id, .bool o.wr], .int .i64 ep, .int .i64 v] u fun e w' => e = .returned (.agg #[.int .i64 o.fr, .string sg]) ∧ Below u.heap.size u w') := hid (fun u => by rw [esg]; exact usig_any o hb ep v u)
  obtain ⟨Er, eEr⟩ : ∃ x, x = (preS ep l v (ps.map Pl.pp) o.fr o.sl o.a (o.fr, sgS ep v o)).1 := ⟨_, rfl⟩
  obtain ⟨V', eV⟩ : ∃ x, x = v := ⟨_, rfl⟩
  obtain ⟨Q', eQ⟩ : ∃ x, x = (preS ep l v (ps.map Pl.pp) o.fr o.sl o.a (o.fr, sgS ep v o)).2 := ⟨_, rfl⟩
  have HC : Hid (∀ u : World, LgM u N g ep am cm l v ps → Calls Try.prog 27 #[.pointer (some ⟨g, 0, none⟩), .int .i64 o.fr, .int .i64 o.sl, .agg #[.int .i64 o.a.c, .int .i64 o.a.st, .int .i64 o.a.k, .string o.a.key, .float .f64 o.a.b, .int .i64 o.a.id], .agg #[.int .i64 o.fr, .string sg]] u fun e w' => StPost u w' N g ep am cm l V' e Er Q' ps) := hid (fun u hu => by rw [eEr, eV, eQ]; exact (by rw [esg]; exact sprepare_all o.fr o.sl o.a (o.fr, sgS ep v o) hb u hu hq))
  have HK : Hid (∀ u : World, Calls Try.prog 16 #[.agg #[.int .i64 o.k, .int .i64 o.fr, .int .i64 o.sl, .int .i64 o.vw, .int .i64 o.a.c, .int .i64 o.a.st, .int .i64 o.a.k, .string o.a.key, .int .u64 (o.a.b : Int), .int .i64 o.a.id, .bool o.wr]] u fun e w' => e = .returned (.int .i64 2) ∧ Below u.heap.size u w') := hid (fun u => by have := ukind_any o u; rw [hk] at this; exact this)
  rw [← eEr, ← eQ]
  have hbA : Below w.heap.size w (w.alloc (.cells #[.int .i64 o.k, .int .i64 o.fr, .int .i64 o.sl, .int .i64 o.vw, .int .i64 o.a.c, .int .i64 o.a.st, .int .i64 o.a.k, .string o.a.key, .int .u64 (o.a.b : Int), .int .i64 o.a.id, .bool o.wr] 36)) := (Below.refl _ _).alloc (Nat.le_refl _) _
  have H0 : Hid (LgM (w.alloc (.cells #[.int .i64 o.k, .int .i64 o.fr, .int .i64 o.sl, .int .i64 o.vw, .int .i64 o.a.c, .int .i64 o.a.st, .int .i64 o.a.k, .string o.a.key, .int .u64 (o.a.b : Int), .int .i64 o.a.id, .bool o.wr] 36)) N g ep am cm l v ps ∧ BxAt (w.alloc (.cells #[.int .i64 o.k, .int .i64 o.fr, .int .i64 o.sl, .int .i64 o.vw, .int .i64 o.a.c, .int .i64 o.a.st, .int .i64 o.a.k, .string o.a.key, .int .u64 (o.a.b : Int), .int .i64 o.a.id, .bool o.wr] 36)) w.heap.size [.int .i64 o.k, .int .i64 o.fr, .int .i64 o.sl, .int .i64 o.vw, .int .i64 o.a.c, .int .i64 o.a.st, .int .i64 o.a.k, .string o.a.key, .int .u64 (o.a.b : Int), .int .i64 o.a.id, .bool o.wr] 36 ∧ Below w.heap.size w (w.alloc (.cells #[.int .i64 o.k, .int .i64 o.fr, .int .i64 o.sl, .int .i64 o.vw, .int .i64 o.a.c, .int .i64 o.a.st, .int .i64 o.a.k, .string o.a.key, .int .u64 (o.a.b : Int), .int .i64 o.a.id, .bool o.wr] 36))) := hid ⟨h.keep hbA, heap_alloc_last w _, hbA⟩
  have HNw : Hid (g < w.heap.size) := hid (Nat.lt_of_lt_of_le h.lt h.sz)
  have q0 := H0.out.2.1.cell 0 _ rfl; have q1 := H0.out.2.1.cell 1 _ rfl; have q2 := H0.out.2.1.cell 2 _ rfl; have q3 := H0.out.2.1.cell 3 _ rfl; have q4 := H0.out.2.1.cell 4 _ rfl; have q5 := H0.out.2.1.cell 5 _ rfl; have q6 := H0.out.2.1.cell 6 _ rfl; have q7 := H0.out.2.1.cell 7 _ rfl; have q8 := H0.out.2.1.cell 8 _ rfl; have q9 := H0.out.2.1.cell 9 _ rfl; have q10 := H0.out.2.1.cell 10 _ rfl
  have HEs := hid (And.intro eEr (And.intro eV eQ))
  clear h hq hb hk hbA eEr eV eQ esg
  go_enter Try.func9, Try.ntmps9
  go_wp2_with (first
    | (go_at_call 16; go_must (refine (HK.out _).mono ?_); rintro e w1 ⟨rfl, hb1⟩; have H1 : Hid (LgM w1 N g ep am cm l v ps ∧ BxAt w1 w.heap.size [.int .i64 o.k, .int .i64 o.fr, .int .i64 o.sl, .int .i64 o.vw, .int .i64 o.a.c, .int .i64 o.a.st, .int .i64 o.a.k, .string o.a.key, .int .u64 (o.a.b : Int), .int .i64 o.a.id, .bool o.wr] 36 ∧ Below w.heap.size w w1) := hid ⟨H0.out.1.keep hb1, H0.out.2.1.keep hb1, H0.out.2.2.trans (hb1.mono H0.out.2.2.size)⟩; clear hb1 q0 q1 q2 q3 q4 q5 q6 q7 q8 q9 q10; have q3 := H1.out.2.1.cell 3 _ rfl))
  obtain ⟨wd, ed⟩ : ∃ u, u = w1.drew := ⟨_, rfl⟩
  have HD : Hid (LgM wd N g ep am cm l v ps ∧ BxAt wd w.heap.size [.int .i64 o.k, .int .i64 o.fr, .int .i64 o.sl, .int .i64 o.vw, .int .i64 o.a.c, .int .i64 o.a.st, .int .i64 o.a.k, .string o.a.key, .int .u64 (o.a.b : Int), .int .i64 o.a.id, .bool o.wr] 36 ∧ Below w.heap.size w wd) := hid (by rw [ed]; exact ⟨H1.out.1.keep (Below.refl _ _).drew, H1.out.2.1, H1.out.2.2.drew⟩)
  have HS : Hid (BxAt wd w.heap.size [.int .i64 o.k, .int .i64 o.fr, .int .i64 o.sl, .int .i64 o.vw, .int .i64 o.a.c, .int .i64 o.a.st, .int .i64 o.a.k, .string o.a.key, .int .u64 (o.a.b : Int), .int .i64 o.a.id, .bool o.wr] 36) := hid HD.out.2.1
  refine wp_region_G (S := fun ww => BxAt ww w.heap.size [.int .i64 o.k, .int .i64 o.fr, .int .i64 o.sl, .int .i64 o.vw, .int .i64 o.a.c, .int .i64 o.a.st, .int .i64 o.a.k, .string o.a.key, .int .u64 (o.a.b : Int), .int .i64 o.a.id, .bool o.wr] 36) (ex := []) (by kernel_rfl) ?_
  try (change wpAnyG _ _ _ _ _ _ _ _ _ (World.drew _))
  try rw [← ed]
  clear ed
  refine wpAnyG_take (i := 0) (v := ?v1) rfl (by kernel_rfl) (fun _ _ _ h => h) (Or.inl ⟨by rfl, ?hy1⟩) HS.out ?rest1
  case hy1 => (intro ww _; go_simp; try with_reducible rfl)
  go_simp
  refine wpAnyG_take (i := 1) (v := ?v2) rfl (by kernel_rfl) (fun _ _ _ h => h) (Or.inl ⟨by rfl, ?hy2⟩) HS.out ?rest2
  case hy2 => (intro ww _; go_simp; try with_reducible rfl)
  go_simp
  refine wpAnyG_take (i := 2) (v := ?v3) rfl (by kernel_rfl) (fun _ _ _ h => h) (Or.inl ⟨by rfl, ?hy3⟩) HS.out ?rest3
  case hy3 => (intro ww hS; have q1 := hS.cell 1 _ rfl; go_simp; try with_reducible rfl)
  go_simp
  refine wpAnyG_take (i := 3) (v := ?v4) rfl (by kernel_rfl) (fun _ _ _ h => h) (Or.inl ⟨by rfl, ?hy4⟩) HS.out ?rest4
  case hy4 => (intro ww _; go_simp; try with_reducible rfl)
  go_simp
  refine wpAnyG_take (i := 4) (v := ?v5) rfl (by kernel_rfl) (fun _ _ _ h => h) (Or.inl ⟨by rfl, ?hy5⟩) HS.out ?rest5
  case hy5 => (intro ww hS; have q2 := hS.cell 2 _ rfl; go_simp; try with_reducible rfl)
  go_simp
  refine wpAnyG_take (i := 5) (v := ?v6) rfl (by kernel_rfl) (fun _ _ _ h => h) (Or.inl ⟨by rfl, ?hy6⟩) HS.out ?rest6
  case hy6 => (intro ww _; go_simp; try with_reducible rfl)
  go_simp
  refine wpAnyG_take (i := 6) (v := ?v7) rfl (by kernel_rfl) (fun _ _ _ h => h) (Or.inl ⟨by rfl, ?hy7⟩) HS.out ?rest7
  case hy7 => (intro ww hS; have q4 := hS.cell 4 _ rfl; have q5 := hS.cell 5 _ rfl; have q6 := hS.cell 6 _ rfl; have q7 := hS.cell 7 _ rfl; have q8 := hS.cell 8 _ rfl; have q9 := hS.cell 9 _ rfl; go_simp; try with_reducible rfl)
  go_simp
  refine wpAnyG_take (i := 8) (v := ?v8) rfl (by kernel_rfl) (fun _ _ _ h => h) (Or.inl ⟨by rfl, ?hy8⟩) HS.out ?rest8
  case hy8 => (intro ww hS; have q0 := hS.cell 0 _ rfl; have q1 := hS.cell 1 _ rfl; have q2 := hS.cell 2 _ rfl; have q3 := hS.cell 3 _ rfl; have q4 := hS.cell 4 _ rfl; have q5 := hS.cell 5 _ rfl; have q6 := hS.cell 6 _ rfl; have q7 := hS.cell 7 _ rfl; have q8 := hS.cell 8 _ rfl; have q9 := hS.cell 9 _ rfl; have q10 := hS.cell 10 _ rfl; go_simp; try with_reducible rfl)
  go_simp
  refine wpAnyG_take (i := 9) (v := ?v9) rfl (by kernel_rfl) (fun _ _ _ h => h) (Or.inl ⟨by rfl, ?hy9⟩) HS.out ?rest9
  case hy9 => (intro ww _; go_simp; try with_reducible rfl)
  go_simp
  refine wpAnyG_take (i := 10) (v := ?v10) rfl (by kernel_rfl) (fun _ _ _ h => h) (Or.inl ⟨by rfl, ?hy10⟩) HS.out ?rest10
  case hy10 => (intro ww _; go_simp; try with_reducible rfl)
  go_simp
  refine wpAnyG_all (rs := [7]) (by kernel_rfl) (by simp) ?_
  intro i hi
  obtain rfl := List.mem_singleton.1 hi
  clear hi
  refine wpOp_s rfl (by rfl) (fun K hK => ?_)
  go_simp
  refine (drequest_any o.a _).mono ?_
  rintro e w3 ⟨rfl, hb3⟩
  have H3 : Hid (LgM w3 N g ep am cm l v ps ∧ BxAt w3 w.heap.size [.int .i64 o.k, .int .i64 o.fr, .int .i64 o.sl, .int .i64 o.vw, .int .i64 o.a.c, .int .i64 o.a.st, .int .i64 o.a.k, .string o.a.key, .int .u64 (o.a.b : Int), .int .i64 o.a.id, .bool o.wr] 36 ∧ Below w.heap.size w w3) := hid ⟨HD.out.1.keep hb3, HD.out.2.1.keep hb3, HD.out.2.2.trans (hb3.mono HD.out.2.2.size)⟩
  clear hb3
  refine hK _ _ ⟨fun _ => H3.out.2.1, ?_⟩
  clear hK K
  go_simp
  refine wpAnyG_all (rs := [11]) (by kernel_rfl) (by simp) ?_
  intro i hi
  obtain rfl := List.mem_singleton.1 hi
  clear hi
  refine wpOp_s rfl (by rfl) (fun K hK => ?_)
  go_simp
  refine (HVw.out _ H3.out.1).mono ?_
  rintro e w4 ⟨rfl, hw4⟩
  replace hw4 := hw4.symm
  subst hw4
  refine hK _ _ ⟨fun _ => H3.out.2.1, ?_⟩
  clear hK K
  go_simp
  refine wpAnyG_all (rs := [12]) (by kernel_rfl) (by simp) ?_
  intro i hi
  obtain rfl := List.mem_singleton.1 hi
  clear hi
  refine wpOp_s rfl (by rfl) (fun K hK => ?_)
  go_simp
  refine (HSg.out _).mono ?_
  rintro e w5 ⟨rfl, hb5⟩
  have H5 : Hid (LgM w5 N g ep am cm l v ps ∧ BxAt w5 w.heap.size [.int .i64 o.k, .int .i64 o.fr, .int .i64 o.sl, .int .i64 o.vw, .int .i64 o.a.c, .int .i64 o.a.st, .int .i64 o.a.k, .string o.a.key, .int .u64 (o.a.b : Int), .int .i64 o.a.id, .bool o.wr] 36 ∧ Below w.heap.size w w5) := hid ⟨H3.out.1.keep hb5, H3.out.2.1.keep hb5, H3.out.2.2.trans (hb5.mono H3.out.2.2.size)⟩
  clear hb5
  refine hK _ _ ⟨fun _ => H5.out.2.1, ?_⟩
  clear hK K
  go_simp
  refine wpAnyG_all (rs := [13]) (by kernel_rfl) (by simp) ?_
  intro i hi
  obtain rfl := List.mem_singleton.1 hi
  clear hi
  refine wpOp_s rfl (by rfl) (fun K hK => ?_)
  go_simp
  refine (HC.out _ H5.out.1).mono ?_
  rintro e w9 hp9
  obtain ⟨ps', rfl, hq1, hq2, hq3, hq4⟩ := hp9
  have H9 : Hid (LgM w9 N g ep am cm l V' ps' ∧ ps'.map Pl.pp = Q' ∧ But g w w9 ∧ ∀ p', p' ∈ ps' → (∃ p, p ∈ ps ∧ p'.ct.2 = p.ct.2) ∨ Fresh w.heap.size p'.ct.2) := hid ⟨hq1, hq2, (But.of H5.out.2.2).trans hq3, fun p' hp' => (hq4 p' hp').imp id (fun hf => hf.mono H5.out.2.2.size)⟩
  have HS9 : Hid (BxAt w9 w.heap.size [.int .i64 o.k, .int .i64 o.fr, .int .i64 o.sl, .int .i64 o.vw, .int .i64 o.a.c, .int .i64 o.a.st, .int .i64 o.a.k, .string o.a.key, .int .u64 (o.a.b : Int), .int .i64 o.a.id, .bool o.wr] 36) := hid ((hq3.block _ (lt_of_blk H5.out.2.1) (by have := H5.out.1.lt; have := HNw.out; omega)).trans H5.out.2.1)
  clear hq1 hq2 hq3 hq4
  refine hK _ _ ⟨fun _ => HS9.out, ?_⟩
  clear hK K
  go_simp
  refine wpAnyG_take (i := 14) (v := ?v11) rfl (by kernel_rfl) (fun _ _ _ h => h) (Or.inl ⟨by rfl, ?hy11⟩) HS9.out ?rest11
  case hy11 => (intro ww _; go_simp; try with_reducible rfl)
  go_simp
  refine wpAnyG_done (by kernel_rfl) ?_ _
  go_simp
  go_wp2
  go_ret
  exact ⟨ps', rfl, by rw [← HEs.out.2.1]; exact H9.out.1, H9.out.2.1, H9.out.2.2⟩
set_option maxRecDepth 100000 in
set_option maxHeartbeats 3200000 in
theorem ucall_3 {N g : Nat} {ep : Int} {am : Option Addr} {cm : Nat} {l : List Int} {v : Int} {ps : List Pl} (o : Sp) (hb : o.a.b < 18446744073709551616) (hk : o.k % 4 = 3) (w : World) (h : LgM w N g ep am cm l v ps) (hq : QOk ep l v (ps.map Pl.pp)) :
    Calls Try.prog 9 #[.pointer (some ⟨g, 0, none⟩), .int .i64 ep, .agg #[.int .i64 o.k, .int .i64 o.fr, .int .i64 o.sl, .int .i64 o.vw, .int .i64 o.a.c, .int .i64 o.a.st, .int .i64 o.a.k, .string o.a.key, .int .u64 (o.a.b : Int), .int .i64 o.a.id, .bool o.wr]] w fun e w' => StPost w w' N g ep am cm l v e (comS ep l v (ps.map Pl.pp) o.fr o.sl o.a).1 (comS ep l v (ps.map Pl.pp) o.fr o.sl o.a).2 ps := by
  obtain ⟨Er, eEr⟩ : ∃ x, x = (comS ep l v (ps.map Pl.pp) o.fr o.sl o.a).1 := ⟨_, rfl⟩
  obtain ⟨V', eV⟩ : ∃ x, x = v := ⟨_, rfl⟩
  obtain ⟨Q', eQ⟩ : ∃ x, x = (comS ep l v (ps.map Pl.pp) o.fr o.sl o.a).2 := ⟨_, rfl⟩
  have HC : Hid (∀ u : World, LgM u N g ep am cm l v ps → Calls Try.prog 28 #[.pointer (some ⟨g, 0, none⟩), .int .i64 o.fr, .int .i64 o.sl, .agg #[.int .i64 o.a.c, .int .i64 o.a.st, .int .i64 o.a.k, .string o.a.key, .float .f64 o.a.b, .int .i64 o.a.id]] u fun e w' => StPost u w' N g ep am cm l V' e Er Q' ps) := hid (fun u hu => by rw [eEr, eV, eQ]; exact scommit_all o.fr o.sl o.a hb u hu hq)
  have HK : Hid (∀ u : World, Calls Try.prog 16 #[.agg #[.int .i64 o.k, .int .i64 o.fr, .int .i64 o.sl, .int .i64 o.vw, .int .i64 o.a.c, .int .i64 o.a.st, .int .i64 o.a.k, .string o.a.key, .int .u64 (o.a.b : Int), .int .i64 o.a.id, .bool o.wr]] u fun e w' => e = .returned (.int .i64 3) ∧ Below u.heap.size u w') := hid (fun u => by have := ukind_any o u; rw [hk] at this; exact this)
  rw [← eEr, ← eQ]
  have hbA : Below w.heap.size w (w.alloc (.cells #[.int .i64 o.k, .int .i64 o.fr, .int .i64 o.sl, .int .i64 o.vw, .int .i64 o.a.c, .int .i64 o.a.st, .int .i64 o.a.k, .string o.a.key, .int .u64 (o.a.b : Int), .int .i64 o.a.id, .bool o.wr] 36)) := (Below.refl _ _).alloc (Nat.le_refl _) _
  have H0 : Hid (LgM (w.alloc (.cells #[.int .i64 o.k, .int .i64 o.fr, .int .i64 o.sl, .int .i64 o.vw, .int .i64 o.a.c, .int .i64 o.a.st, .int .i64 o.a.k, .string o.a.key, .int .u64 (o.a.b : Int), .int .i64 o.a.id, .bool o.wr] 36)) N g ep am cm l v ps ∧ BxAt (w.alloc (.cells #[.int .i64 o.k, .int .i64 o.fr, .int .i64 o.sl, .int .i64 o.vw, .int .i64 o.a.c, .int .i64 o.a.st, .int .i64 o.a.k, .string o.a.key, .int .u64 (o.a.b : Int), .int .i64 o.a.id, .bool o.wr] 36)) w.heap.size [.int .i64 o.k, .int .i64 o.fr, .int .i64 o.sl, .int .i64 o.vw, .int .i64 o.a.c, .int .i64 o.a.st, .int .i64 o.a.k, .string o.a.key, .int .u64 (o.a.b : Int), .int .i64 o.a.id, .bool o.wr] 36 ∧ Below w.heap.size w (w.alloc (.cells #[.int .i64 o.k, .int .i64 o.fr, .int .i64 o.sl, .int .i64 o.vw, .int .i64 o.a.c, .int .i64 o.a.st, .int .i64 o.a.k, .string o.a.key, .int .u64 (o.a.b : Int), .int .i64 o.a.id, .bool o.wr] 36))) := hid ⟨h.keep hbA, heap_alloc_last w _, hbA⟩
  have HNw : Hid (g < w.heap.size) := hid (Nat.lt_of_lt_of_le h.lt h.sz)
  have q0 := H0.out.2.1.cell 0 _ rfl; have q1 := H0.out.2.1.cell 1 _ rfl; have q2 := H0.out.2.1.cell 2 _ rfl; have q3 := H0.out.2.1.cell 3 _ rfl; have q4 := H0.out.2.1.cell 4 _ rfl; have q5 := H0.out.2.1.cell 5 _ rfl; have q6 := H0.out.2.1.cell 6 _ rfl; have q7 := H0.out.2.1.cell 7 _ rfl; have q8 := H0.out.2.1.cell 8 _ rfl; have q9 := H0.out.2.1.cell 9 _ rfl; have q10 := H0.out.2.1.cell 10 _ rfl
  have HEs := hid (And.intro eEr (And.intro eV eQ))
  clear h hq hb hk hbA eEr eV eQ
  go_enter Try.func9, Try.ntmps9
  go_wp2_with (first
    | (go_at_call 16; go_must (refine (HK.out _).mono ?_); rintro e w1 ⟨rfl, hb1⟩; have H1 : Hid (LgM w1 N g ep am cm l v ps ∧ BxAt w1 w.heap.size [.int .i64 o.k, .int .i64 o.fr, .int .i64 o.sl, .int .i64 o.vw, .int .i64 o.a.c, .int .i64 o.a.st, .int .i64 o.a.k, .string o.a.key, .int .u64 (o.a.b : Int), .int .i64 o.a.id, .bool o.wr] 36 ∧ Below w.heap.size w w1) := hid ⟨H0.out.1.keep hb1, H0.out.2.1.keep hb1, H0.out.2.2.trans (hb1.mono H0.out.2.2.size)⟩; clear hb1 q0 q1 q2 q3 q4 q5 q6 q7 q8 q9 q10; have q3 := H1.out.2.1.cell 3 _ rfl))
  obtain ⟨wd, ed⟩ : ∃ u, u = w1.drew := ⟨_, rfl⟩
  have HD : Hid (LgM wd N g ep am cm l v ps ∧ BxAt wd w.heap.size [.int .i64 o.k, .int .i64 o.fr, .int .i64 o.sl, .int .i64 o.vw, .int .i64 o.a.c, .int .i64 o.a.st, .int .i64 o.a.k, .string o.a.key, .int .u64 (o.a.b : Int), .int .i64 o.a.id, .bool o.wr] 36 ∧ Below w.heap.size w wd) := hid (by rw [ed]; exact ⟨H1.out.1.keep (Below.refl _ _).drew, H1.out.2.1, H1.out.2.2.drew⟩)
  have HS : Hid (BxAt wd w.heap.size [.int .i64 o.k, .int .i64 o.fr, .int .i64 o.sl, .int .i64 o.vw, .int .i64 o.a.c, .int .i64 o.a.st, .int .i64 o.a.k, .string o.a.key, .int .u64 (o.a.b : Int), .int .i64 o.a.id, .bool o.wr] 36) := hid HD.out.2.1
  refine wp_region_G (S := fun ww => BxAt ww w.heap.size [.int .i64 o.k, .int .i64 o.fr, .int .i64 o.sl, .int .i64 o.vw, .int .i64 o.a.c, .int .i64 o.a.st, .int .i64 o.a.k, .string o.a.key, .int .u64 (o.a.b : Int), .int .i64 o.a.id, .bool o.wr] 36) (ex := []) (by kernel_rfl) ?_
  try (change wpAnyG _ _ _ _ _ _ _ _ _ (World.drew _))
  try rw [← ed]
  clear ed
  refine wpAnyG_take (i := 0) (v := ?v1) rfl (by kernel_rfl) (fun _ _ _ h => h) (Or.inl ⟨by rfl, ?hy1⟩) HS.out ?rest1
  case hy1 => (intro ww _; go_simp; try with_reducible rfl)
  go_simp
  refine wpAnyG_take (i := 1) (v := ?v2) rfl (by kernel_rfl) (fun _ _ _ h => h) (Or.inl ⟨by rfl, ?hy2⟩) HS.out ?rest2
  case hy2 => (intro ww _; go_simp; try with_reducible rfl)
  go_simp
  refine wpAnyG_take (i := 2) (v := ?v3) rfl (by kernel_rfl) (fun _ _ _ h => h) (Or.inl ⟨by rfl, ?hy3⟩) HS.out ?rest3
  case hy3 => (intro ww hS; have q1 := hS.cell 1 _ rfl; go_simp; try with_reducible rfl)
  go_simp
  refine wpAnyG_take (i := 3) (v := ?v4) rfl (by kernel_rfl) (fun _ _ _ h => h) (Or.inl ⟨by rfl, ?hy4⟩) HS.out ?rest4
  case hy4 => (intro ww _; go_simp; try with_reducible rfl)
  go_simp
  refine wpAnyG_take (i := 4) (v := ?v5) rfl (by kernel_rfl) (fun _ _ _ h => h) (Or.inl ⟨by rfl, ?hy5⟩) HS.out ?rest5
  case hy5 => (intro ww hS; have q2 := hS.cell 2 _ rfl; go_simp; try with_reducible rfl)
  go_simp
  refine wpAnyG_take (i := 5) (v := ?v6) rfl (by kernel_rfl) (fun _ _ _ h => h) (Or.inl ⟨by rfl, ?hy6⟩) HS.out ?rest6
  case hy6 => (intro ww _; go_simp; try with_reducible rfl)
  go_simp
  refine wpAnyG_take (i := 6) (v := ?v7) rfl (by kernel_rfl) (fun _ _ _ h => h) (Or.inl ⟨by rfl, ?hy7⟩) HS.out ?rest7
  case hy7 => (intro ww hS; have q4 := hS.cell 4 _ rfl; have q5 := hS.cell 5 _ rfl; have q6 := hS.cell 6 _ rfl; have q7 := hS.cell 7 _ rfl; have q8 := hS.cell 8 _ rfl; have q9 := hS.cell 9 _ rfl; go_simp; try with_reducible rfl)
  go_simp
  refine wpAnyG_all (rs := [7]) (by kernel_rfl) (by simp) ?_
  intro i hi
  obtain rfl := List.mem_singleton.1 hi
  clear hi
  refine wpOp_s rfl (by rfl) (fun K hK => ?_)
  go_simp
  refine (drequest_any o.a _).mono ?_
  rintro e w3 ⟨rfl, hb3⟩
  have H3 : Hid (LgM w3 N g ep am cm l v ps ∧ BxAt w3 w.heap.size [.int .i64 o.k, .int .i64 o.fr, .int .i64 o.sl, .int .i64 o.vw, .int .i64 o.a.c, .int .i64 o.a.st, .int .i64 o.a.k, .string o.a.key, .int .u64 (o.a.b : Int), .int .i64 o.a.id, .bool o.wr] 36 ∧ Below w.heap.size w w3) := hid ⟨HD.out.1.keep hb3, HD.out.2.1.keep hb3, HD.out.2.2.trans (hb3.mono HD.out.2.2.size)⟩
  clear hb3
  refine hK _ _ ⟨fun _ => H3.out.2.1, ?_⟩
  clear hK K
  go_simp
  refine wpAnyG_all (rs := [8]) (by kernel_rfl) (by simp) ?_
  intro i hi
  obtain rfl := List.mem_singleton.1 hi
  clear hi
  refine wpOp_s rfl (by rfl) (fun K hK => ?_)
  go_simp
  refine (HC.out _ H3.out.1).mono ?_
  rintro e w9 hp9
  obtain ⟨ps', rfl, hq1, hq2, hq3, hq4⟩ := hp9
  have H9 : Hid (LgM w9 N g ep am cm l V' ps' ∧ ps'.map Pl.pp = Q' ∧ But g w w9 ∧ ∀ p', p' ∈ ps' → (∃ p, p ∈ ps ∧ p'.ct.2 = p.ct.2) ∨ Fresh w.heap.size p'.ct.2) := hid ⟨hq1, hq2, (But.of H3.out.2.2).trans hq3, fun p' hp' => (hq4 p' hp').imp id (fun hf => hf.mono H3.out.2.2.size)⟩
  have HS9 : Hid (BxAt w9 w.heap.size [.int .i64 o.k, .int .i64 o.fr, .int .i64 o.sl, .int .i64 o.vw, .int .i64 o.a.c, .int .i64 o.a.st, .int .i64 o.a.k, .string o.a.key, .int .u64 (o.a.b : Int), .int .i64 o.a.id, .bool o.wr] 36) := hid ((hq3.block _ (lt_of_blk H3.out.2.1) (by have := H3.out.1.lt; have := HNw.out; omega)).trans H3.out.2.1)
  clear hq1 hq2 hq3 hq4
  refine hK _ _ ⟨fun _ => HS9.out, ?_⟩
  clear hK K
  go_simp
  refine wpAnyG_take (i := 9) (v := ?v8) rfl (by kernel_rfl) (fun _ _ _ h => h) (Or.inl ⟨by rfl, ?hy8⟩) HS9.out ?rest8
  case hy8 => (intro ww _; go_simp; try with_reducible rfl)
  go_simp
  refine wpAnyG_done (by kernel_rfl) ?_ _
  go_simp
  go_wp2
  go_ret
  exact ⟨ps', rfl, by rw [← HEs.out.2.1]; exact H9.out.1, H9.out.2.1, H9.out.2.2⟩
theorem ucall_any {N g : Nat} {ep : Int} {am : Option Addr} {cm : Nat} {l : List Int} {v : Int} {ps : List Pl} (o : Sp) (hb : o.a.b < 18446744073709551616) (w : World) (h : LgM w N g ep am cm l v ps) (hq : QOk ep l v (ps.map Pl.pp)) :
    Calls Try.prog 9 #[.pointer (some ⟨g, 0, none⟩), .int .i64 ep, .agg #[.int .i64 o.k, .int .i64 o.fr, .int .i64 o.sl, .int .i64 o.vw, .int .i64 o.a.c, .int .i64 o.a.st, .int .i64 o.a.k, .string o.a.key, .int .u64 (o.a.b : Int), .int .i64 o.a.id, .bool o.wr]] w fun e w' => StPost w w' N g ep am cm l (stp ep l v (ps.map Pl.pp) o).2.1 e (stp ep l v (ps.map Pl.pp) o).1 (stp ep l v (ps.map Pl.pp) o).2.2 ps := by
  unfold stp
  split
  · rename_i hk; exact ucall_0 o hb hk w h hq
  · split
    · rename_i hk; exact ucall_1 o hb hk w h hq
    · split
      · rename_i hk; exact ucall_2 o hb hk w h hq
      · exact ucall_3 o hb (by omega) w h hq
end Go.Proofs.Ytohhlolmojeomaa

/- The laws' own beginning. -/
namespace Go.Proofs.Ytohhlolmojeomaa
open Go.RowKit

def crtQ (qs : List Pp) : List Ct := (qs.filter fun q => decide (q.ct.2.2.2.length ≠ 0)).map fun q => q.ct
def sizeQ (qs : List Pp) : Int := (qs.map sizeP).sum
theorem crtTo_all {ps : List Pl} (h : ps.length = 4) : crtTo ps 4 = crtQ (ps.map Pl.pp) := by
  rw [crtTo, ← h, List.take_length, crtQ, List.filter_map, List.map_map]
  rfl
theorem sumTo_all {ps : List Pl} (h : ps.length = 4) : sumTo ps 4 = sizeQ (ps.map Pl.pp) := by
  rw [sumTo, ← h, List.take_length, sizeQ, List.map_map]
  rfl
def lv0 : List Pp := (proS 0 4 0 (z4P.map Pl.pp) 2 zeroQ).2
def lvP (q : List Pp) (j : Int) : List Pp := (preS 0 [0, 1, 2, 3] 0 q j 2 zeroQ (j, prT 0 0 2 zeroQ)).2
def lvN (q : List Pp) (j : Int) : List Pp := (comS 0 [0, 1, 2, 3] 0 (lvP q j) j 2 zeroQ).2
def lvS : Nat → List Pp
  | 0 => lv0
  | j + 1 => lvN (lvS j) (j : Int)
theorem lv_pro : (proS 0 4 0 (z4P.map Pl.pp) 2 zeroQ).1 = 0 := by decide +kernel
theorem lv_pre (j : Nat) (hj : j < 3) : (preS 0 [0, 1, 2, 3] 0 (lvS j) (j : Int) 2 zeroQ ((j : Int), prT 0 0 2 zeroQ)).1 = 0 := by
  match j, hj with
  | 0, _ => decide +kernel
  | 1, _ => decide +kernel
  | 2, _ => decide +kernel
theorem lv_com (j : Nat) (hj : j < 3) : (comS 0 [0, 1, 2, 3] 0 (lvP (lvS j) (j : Int)) (j : Int) 2 zeroQ).1 = 0 := by
  match j, hj with
  | 0, _ => decide +kernel
  | 1, _ => decide +kernel
  | 2, _ => decide +kernel
theorem lv_end : (crtQ (lvS 3)).length = 1 ∧ sizeQ (lvS 3) = 7 ∧ isPrep 4 ((lvS 3).getD 1 q0P) = true ∧ rdE ((lvS 3).getD 1 q0P).don = 0 := by decide +kernel
theorem lv_z : QOk 0 [0, 1, 2, 3] 0 (z4P.map Pl.pp) := ⟨by decide +kernel, by omega, rfl, fun q hq => by
  have : q = zPl.pp := by simpa [z4P] using hq
  rw [this]
  exact ⟨rfl, rfl, show (⟨#[]⟩ : ByteArray).size ≤ 64 by decide, show (⟨#[]⟩ : ByteArray).size ≤ 64 by decide⟩, fun q hq => by
  have : q = zPl.pp := by simpa [z4P] using hq
  rw [this]
  exact Nat.zero_le 16⟩
theorem lv_ok : ∀ j, QOk 0 [0, 1, 2, 3] 0 (lvS j)
  | 0 => pro_ok lv_z 2 zeroQ
  | j + 1 => com_ok (pre_ok (lv_ok j) _ _ _ _) _ _ _
theorem lv_okP (j : Nat) : QOk 0 [0, 1, 2, 3] 0 (lvP (lvS j) (j : Int)) := pre_ok (lv_ok j) _ _ _ _
theorem lv_start {w w1 : World} {g : Nat} {am : Option Addr} {cm : Nat} {o : Obj} (h1 : SlA w1 g 0 am cm [0, 1, 2, 3] 0 z4P) (h2 : (w.alloc o).heap.size ≤ g) (h3 : g < w1.heap.size) (h4 : ∀ x, am = some x → (w.alloc o).heap.size ≤ x.block ∧ x.block ≠ g) (h5 : Below (w.alloc o).heap.size (w.alloc o) w1) : LgM w1 (g + 1) g 0 am cm [0, 1, 2, 3] 0 z4P ∧ Below w.heap.size w w1 ∧ w.heap.size ≤ g :=
  ⟨LgM.zero h1 (by omega) (by omega) (fun x hx => (h4 x hx).2), ((Below.refl _ _).alloc (Nat.le_refl _) _).trans (h5.mono (by simp)), by simp at h2; omega⟩
theorem lv_sg (j : Int) : sgS 0 0 ⟨0, j, 2, 0, zeroQ, false⟩ = prT 0 0 2 zeroQ := rfl
theorem lv_cell {ps : List Pl} (h : ps.map Pl.pp = lvS 3) : ∃ p, ps[1]? = some p ∧ p.pp = (lvS 3).getD 1 q0P := by
  have hl : ps.length = 4 := by rw [← List.length_map (f := Pl.pp), h]; exact (lv_ok 3).four
  obtain ⟨p, h1, h2⟩ := map_get (ps := ps) (i := 1) (by omega)
  exact ⟨p, h1, by rw [← h2, h]⟩
theorem lv_call {u : World} {g : Nat} {am : Option Addr} {cm : Nat} (h : LgM u (g + 1) g 0 am cm [0, 1, 2, 3] 0 z4P) : Calls Try.prog 26 #[.pointer (some ⟨g, 0, none⟩), .int .i64 2, .agg #[.int .i64 0, .int .i64 0, .int .i64 0, .string ⟨#[]⟩, .float .f64 0, .int .i64 0]] u fun e w' => StPost u w' (g + 1) g 0 am cm [0, 1, 2, 3] 0 e 0 (lvS 0) z4P := by
  have := spropose_all 2 zeroQ (by decide) u h lv_z
  have e1 : (proS 0 ([0, 1, 2, 3] : List Int).length 0 (z4P.map Pl.pp) 2 zeroQ).1 = 0 := lv_pro
  rw [e1] at this
  exact this
set_option maxRecDepth 100000 in
set_option maxHeartbeats 3200000 in
theorem ulives14 (w : World) : Calls Try.prog 7 #[] w fun e w' => e = .returned (.bool true) ∧ Below w.heap.size w w' := by
  have HI : Hid (IntsIn (w.alloc (.cells #[.int .i64 0, .int .i64 1, .int .i64 2, .int .i64 3] 3)) (some ⟨w.heap.size, 0, none⟩) [0, 1, 2, 3]) := hid (ints_new w [0, 1, 2, 3] 3)
  go_enter Try.func7, Try.ntmps7
  go_wp2_with (first
    | (go_at_call 8; go_must (refine (snew_yes 0 (some ⟨w.heap.size, 0, none⟩) 4 4 [0, 1, 2, 3] rfl _ HI.out (by decide +kernel)).mono ?_); rintro e w1 ⟨g, am, cm, rfl, hn1, hn2, hn3, hn4, hn5⟩; have H1 : Hid (LgM w1 (g + 1) g 0 am cm [0, 1, 2, 3] 0 z4P ∧ Below w.heap.size w w1 ∧ w.heap.size ≤ g) := hid (lv_start hn1 hn2 hn3 hn4 hn5); clear hn1 hn2 hn3 hn4 hn5)
    | (go_at_call 26; go_must (refine (lv_call H1.out.1).mono ?_); rintro e w2 hp2; obtain ⟨ps2, rfl, hq1, hq2, hq3, _⟩ := hp2; have H2 : Hid (LgM w2 (g + 1) g 0 am cm [0, 1, 2, 3] 0 ps2 ∧ ps2.map Pl.pp = lvS 0 ∧ Below w.heap.size w w2) := hid ⟨hq1, hq2, H1.out.2.1.trans (hq3.below H1.out.2.1.size H1.out.2.2)⟩; clear hq1 hq2 hq3))
  go_loopw [3] (fun i wr => ∃ (j : Nat) (ps : List Pl), j ≤ 3 ∧ i = .int .i64 (j : Int) ∧ LgM wr (g + 1) g 0 am cm [0, 1, 2, 3] 0 ps ∧ ps.map Pl.pp = lvS j ∧ Below w.heap.size w wr) (fun i _ => ((3 : Int) - intOf i).toNat)
  case atStart => exact ⟨0, ps2, by omega, rfl, H2.out.1, H2.out.2.1, H2.out.2.2⟩
  case round =>
    obtain ⟨j, ps, hj, rfl, hL, hps, hB⟩ := hrel
    have HX : Hid (LgM wr (g + 1) g 0 am cm [0, 1, 2, 3] 0 ps ∧ ps.map Pl.pp = lvS j ∧ Below w.heap.size w wr) := hid ⟨hL, hps, hB⟩
    have hj0 : (0 : Int) ≤ (j : Int) := Int.natCast_nonneg _
    clear hL hps hB
    by_cases hjn : j = 3
    · subst hjn
      clear hj
      obtain ⟨p, hp1, hp2⟩ := lv_cell HX.out.2.1
      have HP : Hid (ps[1]? = some p) := hid hp1
      have hok := (lv_ok 3).ok _ (List.mem_of_getElem? (getD_of (l := lvS 3) (i := 1) (d := q0P) (by rw [(lv_ok 3).four]; omega)))
      have HCm : Hid (∀ u : World, LgM u (g + 1) g 0 am cm [0, 1, 2, 3] 0 ps → Calls Try.prog 20 #[.pointer (some ⟨g, 0, none⟩), .int .i64 2] u fun e w' => e = .returned (.tuple #[.agg #[.int .i64 (rdR p.don).c, .int .i64 (rdR p.don).st, .int .i64 (rdR p.don).k, .string (rdR p.don).key, .float .f64 (rdR p.don).b, .int .i64 (rdR p.don).id], .bool true]) ∧ Below u.heap.size u w') := hid (fun u hu => by
        have h1 : rdE p.don = 0 := by have := lv_end.2.2.2; rw [← hp2] at this; exact this
        have := scommitted_yes g 0 am cm [0, 1, 2, 3] 0 ps 1 p u hu.at_ (by decide) (by omega) hp1 (by rw [← hp2] at hok; exact hok.don)
        rw [h1] at this
        exact this)
      have HPr : Hid (∀ u : World, LgM u (g + 1) g 0 am cm [0, 1, 2, 3] 0 ps → Calls Try.prog 29 #[.pointer (some ⟨g, 0, none⟩), .int .i64 2] u fun e w' => e = .returned (.bool true) ∧ Below u.heap.size u w') := hid (fun u hu => by
        have := sprep_any g 0 am cm [0, 1, 2, 3] 0 ps 1 p u hu.at_ (by decide) (by decide) (by omega) hp1
        rw [show isPrep ([0, 1, 2, 3] : List Int).length p.pp = true from by rw [hp2]; exact lv_end.2.2.1] at this
        exact this)
      have HCe : Hid (∀ u : World, LgM u (g + 1) g 0 am cm [0, 1, 2, 3] 0 ps → Calls Try.prog 10 #[.pointer (some ⟨g, 0, none⟩)] u fun e w' => ∃ a k, e = .returned (.slice a 1 k) ∧ Below u.heap.size u w') := hid (fun u hu => (scerts_any (g + 1) g 0 am cm [0, 1, 2, 3] 0 ps (fun q hq => (lv_ok 3).sg q.pp (by rw [← HX.out.2.1]; exact List.mem_map_of_mem hq)) u hu (by decide)).mono (by
        rintro e w' ⟨vl, he, hr, hb⟩
        obtain ⟨a, k, hv⟩ := hr.form
        rw [List.length_map, crtTo_all hu.at_.four, HX.out.2.1, lv_end.1] at hv
        exact ⟨a, k, by rw [he, hv], hb⟩))
      have HSz : Hid (∀ u : World, LgM u (g + 1) g 0 am cm [0, 1, 2, 3] 0 ps → Calls Try.prog 19 #[.pointer (some ⟨g, 0, none⟩)] u fun e w' => e = .returned (.int .i64 7) ∧ Below u.heap.size u w') := hid (fun u hu => by
        have := sSize_any (g + 1) g 0 am cm [0, 1, 2, 3] 0 ps u hu (by decide)
        rw [sumTo_all hu.at_.four, HX.out.2.1, lv_end.2.1] at this
        exact this)
      generalize rdR p.don = rr at HCm
      clear hp1 hp2 hok
      go_wp2_with (first
        | (go_at_call 20; go_must (refine (HCm.out _ HX.out.1).mono ?_); rintro e w3 ⟨rfl, hb3⟩; have H3 : Hid (LgM w3 (g + 1) g 0 am cm [0, 1, 2, 3] 0 ps ∧ Below w.heap.size w w3) := hid ⟨HX.out.1.keep hb3, HX.out.2.2.trans (hb3.mono HX.out.2.2.size)⟩; clear hb3)
        | (have := H3; refine wl_store_blk rfl 43 _ _ rfl w3.heap.size 0 rfl #[.int .i64 rr.c, .int .i64 rr.st, .int .i64 rr.k, .string rr.key, .float .f64 rr.b, .int .i64 rr.id] rfl [.int .i64 0, .int .i64 0, .int .i64 0, .string ⟨#[]⟩, .float .f64 0, .int .i64 0] 43 (heap_alloc_last w3 _) (by simp) (by kernel_rfl) (by simp [Value.oneCell']) ?_; intro w4 Hz; have H4 : Hid (LgM w4 (g + 1) g 0 am cm [0, 1, 2, 3] 0 ps ∧ Below w.heap.size w w4) := hid (by have hb := Hz.out.2.below ((Below.refl w3.heap.size w3).alloc (Nat.le_refl _) _) (Nat.le_refl _); exact ⟨H3.out.1.keep hb, H3.out.2.trans (hb.mono H3.out.2.size)⟩); clear Hz)
        | (go_at_call 29; go_must (refine (HPr.out _ H4.out.1).mono ?_); rintro e w5 ⟨rfl, hb5⟩; have H5 : Hid (LgM w5 (g + 1) g 0 am cm [0, 1, 2, 3] 0 ps ∧ Below w.heap.size w w5) := hid ⟨H4.out.1.keep hb5, H4.out.2.trans (hb5.mono H4.out.2.size)⟩; clear hb5)
        | (go_at_call 10; go_must (refine (HCe.out _ H5.out.1).mono ?_); rintro e w6 ⟨a6, k6, rfl, hb6⟩; have H6 : Hid (LgM w6 (g + 1) g 0 am cm [0, 1, 2, 3] 0 ps ∧ Below w.heap.size w w6) := hid ⟨H5.out.1.keep hb6, H5.out.2.trans (hb6.mono H5.out.2.size)⟩; clear hb6)
        | (go_at_call 19; go_must (refine (HSz.out _ H6.out.1).mono ?_); rintro e w7 ⟨rfl, hb7⟩; have H7 : Hid (Below w.heap.size w w7) := hid (H6.out.2.trans (hb7.mono H6.out.2.size)); clear hb7))
      go_ret
      exact ⟨rfl, H7.out⟩
    · have hj1 : (j : Int) < 3 := by omega
      have hjl : j < 3 := by omega
      have HJ := hid (And.intro hjl hjn)
      have HSg : Hid (∀ u : World, Calls Try.prog 30 #[.agg #[.int .i64 0, .int .i64 (j : Int), .int .i64 2, .int .i64 0, .int .i64 0, .int .i64 0, .int .i64 0, .string ⟨#[]⟩, .int .u64 0, .int .i64 0, .bool false], .int .i64 0, .int .i64 0] u fun e w' => e = .returned (.agg #[.int .i64 (j : Int), .string (prT 0 0 2 zeroQ)]) ∧ Below u.heap.size u w') := hid (fun u => usig_any ⟨0, (j : Int), 2, 0, zeroQ, false⟩ (show (0 : Nat) < 18446744073709551616 by decide) 0 0 u)
      have HPe : Hid (∀ u : World, LgM u (g + 1) g 0 am cm [0, 1, 2, 3] 0 ps → Calls Try.prog 27 #[.pointer (some ⟨g, 0, none⟩), .int .i64 (j : Int), .int .i64 2, .agg #[.int .i64 0, .int .i64 0, .int .i64 0, .string ⟨#[]⟩, .float .f64 0, .int .i64 0], .agg #[.int .i64 (j : Int), .string (prT 0 0 2 zeroQ)]] u fun e w' => StPost u w' (g + 1) g 0 am cm [0, 1, 2, 3] 0 e 0 (lvP (lvS j) (j : Int)) ps) := hid (fun u hu => by
        have := sprepare_all (j : Int) 2 zeroQ ((j : Int), prT 0 0 2 zeroQ) (by decide) u hu (by rw [HX.out.2.1]; exact lv_ok j)
        rw [HX.out.2.1, lv_pre j hjl] at this
        exact this)
      have HCo : Hid (∀ (u : World) (qs : List Pl), LgM u (g + 1) g 0 am cm [0, 1, 2, 3] 0 qs → qs.map Pl.pp = lvP (lvS j) (j : Int) → Calls Try.prog 28 #[.pointer (some ⟨g, 0, none⟩), .int .i64 (j : Int), .int .i64 2, .agg #[.int .i64 0, .int .i64 0, .int .i64 0, .string ⟨#[]⟩, .float .f64 0, .int .i64 0]] u fun e w' => StPost u w' (g + 1) g 0 am cm [0, 1, 2, 3] 0 e 0 (lvS (j + 1)) qs) := hid (fun u qs hu hqs => by
        have := scommit_all (j : Int) 2 zeroQ (by decide) u hu (by rw [hqs]; exact lv_okP j)
        rw [hqs, lv_com j hjl] at this
        exact this)
      generalize prT 0 0 2 zeroQ = tx at HSg HPe
      have hw2 : IntKind.i64.wrap ((j : Int) + 1) = (j : Int) + 1 := wrap_small _ (by omega) (by omega)
      clear hj hjn hjl
      go_wp2_with (first
        | (refine wl_store_blk rfl 36 _ _ rfl wr.heap.size 0 rfl #[.int .i64 0, .int .i64 (j : Int), .int .i64 2, .int .i64 0, .int .i64 0, .int .i64 0, .int .i64 0, .string ⟨#[]⟩, .int .u64 0, .int .i64 0, .bool false] rfl [.int .i64 0, .int .i64 0, .int .i64 0, .int .i64 0, .int .i64 0, .int .i64 0, .int .i64 0, .string ⟨#[]⟩, .int .u64 0, .int .i64 0, .bool false] 36 (heap_alloc_last wr _) (by simp) (by kernel_rfl) (by simp [Value.oneCell']) ?_; intro w3 Hz; have H3 : Hid (BxAt w3 wr.heap.size [.int .i64 0, .int .i64 (j : Int), .int .i64 2, .int .i64 0, .int .i64 0, .int .i64 0, .int .i64 0, .string ⟨#[]⟩, .int .u64 0, .int .i64 0, .bool false] 36 ∧ LgM w3 (g + 1) g 0 am cm [0, 1, 2, 3] 0 ps ∧ Below w.heap.size w w3) := hid (by have hb := Hz.out.2.below ((Below.refl wr.heap.size wr).alloc (Nat.le_refl _) _) (Nat.le_refl _); exact ⟨Hz.out.1, HX.out.1.keep hb, HX.out.2.2.trans (hb.mono HX.out.2.2.size)⟩); clear Hz; have q0 := H3.out.1.cell 0 _ rfl; have q1 := H3.out.1.cell 1 _ rfl; have q2 := H3.out.1.cell 2 _ rfl; have q3 := H3.out.1.cell 3 _ rfl; have q4 := H3.out.1.cell 4 _ rfl; have q5 := H3.out.1.cell 5 _ rfl; have q6 := H3.out.1.cell 6 _ rfl; have q7 := H3.out.1.cell 7 _ rfl; have q8 := H3.out.1.cell 8 _ rfl; have q9 := H3.out.1.cell 9 _ rfl; have q10 := H3.out.1.cell 10 _ rfl)
        | (go_at_call 30; go_must (refine (HSg.out _).mono ?_); rintro e w4 ⟨rfl, hb4⟩; have H4 : Hid (LgM w4 (g + 1) g 0 am cm [0, 1, 2, 3] 0 ps ∧ Below w.heap.size w w4) := hid ⟨H3.out.2.1.keep hb4, H3.out.2.2.trans (hb4.mono H3.out.2.2.size)⟩; clear hb4 q0 q1 q2 q3 q4 q5 q6 q7 q8 q9 q10)
        | (go_at_call 27; go_must (refine (HPe.out _ H4.out.1).mono ?_); rintro e w5 hp5; obtain ⟨ps5, rfl, hq1, hq2, hq3, _⟩ := hp5; have H5 : Hid (LgM w5 (g + 1) g 0 am cm [0, 1, 2, 3] 0 ps5 ∧ ps5.map Pl.pp = lvP (lvS j) (j : Int) ∧ Below w.heap.size w w5) := hid ⟨hq1, hq2, H4.out.2.trans (hq3.below H4.out.2.size H1.out.2.2)⟩; clear hq1 hq2 hq3)
        | (go_at_call 28; go_must (refine (HCo.out _ _ H5.out.1 H5.out.2.1).mono ?_); rintro e w6 hp6; obtain ⟨ps6, rfl, hq1, hq2, hq3, _⟩ := hp6; have H6 : Hid (LgM w6 (g + 1) g 0 am cm [0, 1, 2, 3] 0 ps6 ∧ ps6.map Pl.pp = lvS (j + 1) ∧ Below w.heap.size w w6) := hid ⟨hq1, hq2, H5.out.2.2.trans (hq3.below H5.out.2.2.size H1.out.2.2)⟩; clear hq1 hq2 hq3))
      go_roundw
      case rel => exact ⟨j + 1, ps6, by have := HJ.out; omega, by go_num, H6.out.1, H6.out.2.1, H6.out.2.2⟩
      case measure => simp [intOf]; omega
end Go.Proofs.Ytohhlolmojeomaa

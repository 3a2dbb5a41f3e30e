/- Texts laid together: LrH LrI LrK. -/
import Derived.Test.YtecidbdbdnnglaaGreatMy7
import Derived.Test.YtecidbdbdnnglaaGreatMy10
/- The document's ledger: Do. -/
namespace Go.Proofs.YtecidbdbdnnglaaGreat
open Go.RowKit

theorem mq_start {F : List Nat} {w : World} {v : Value} {s : Ls} (h : LmAt F w v s) (r : Rq) :
    MtSt F w ((w.alloc (.cells #[.int .i64 r.c, .int .i64 r.st, .int .i64 r.k, .string r.key, .float .f64 r.b, .int .i64 r.id] 56)).alloc (.cells #[.int .i64 0, .float .f64 0] 50)) ([w.heap.size + 1] ++ ([w.heap.size] ++ [])) (fun u => RsAt u (w.heap.size + 1) 0 0 ∧ (RqAt u w.heap.size r ∧ True)) F v s := by
  have h1 := (MtSt.of h).fresh ((Below.refl w.heap.size w).alloc (Nat.le_refl _) (.cells #[.int .i64 r.c, .int .i64 r.st, .int .i64 r.k, .string r.key, .float .f64 r.b, .int .i64 r.id] 56)) (stable_rq _ r) (heap_alloc_last w _) (by simp)
  have e : (w.alloc (.cells #[.int .i64 r.c, .int .i64 r.st, .int .i64 r.k, .string r.key, .float .f64 r.b, .int .i64 r.id] 56)).heap.size = w.heap.size + 1 := by simp
  have h2 := h1.fresh ((Below.refl _ _).alloc (Nat.le_refl _) (.cells #[.int .i64 0, .float .f64 0] 50)) (stable_rs _ 0 0) (heap_alloc_last _ _) (by simp)
  rw [e] at h2
  exact h2
/-- One slot more is done. -/
theorem MtSt.more {F0 : List Nat} {w0 w : World} {L : List Nat} {R : World → Prop} {F : List Nat} {g : Nat} {s : Ls} (h : MtSt F0 w0 w L R F (.pointer (some ⟨g, 0, none⟩)) s) :
    MtSt F0 w0 (w.setCell ⟨g, 3, none⟩ (.int .i64 ((s.dn : Int) + 1))) L R F (.pointer (some ⟨g, 0, none⟩)) (moreS s) := by
  have ho := one_cellR w g 3 (.int .i64 ((s.dn : Int) + 1))
  have hz : w.heap.size ≤ (w.setCell ⟨g, 3, none⟩ (.int .i64 ((s.dn : Int) + 1))).heap.size := Nat.le_of_eq ho.size.symm
  refine ⟨?_, h.sub, one_outR ho h.out (h.sub g h.ld.gin), h.st, fun b hm => Nat.lt_of_lt_of_le (h.lt b hm) hz, h.st _ _ h.r hz (fun b hm => ho.block b (fun e => h.ap b hm (e ▸ h.ld.gin))), h.ap, h.fr⟩
  obtain ⟨g', gs, gr, am, an, ai, cm, cn, ci, hv, hF, k⟩ := h.ld
  cases hv
  refine ⟨g, gs, gr, am, an, ai, cm, cn, ci, rfl, hF, ?_⟩
  exact k.setg ho ((blk_set k.blk 3 _).trans (by simp [moreS])) k.im k.ix k.it k.ma k.na k.ia rfl
theorem LmAt.c3 {F : List Nat} {w : World} {g : Nat} {s : Ls} (h : LmAt F w (.pointer (some ⟨g, 0, none⟩)) s) : w.cell? ⟨g, 3, none⟩ = some (.int .i64 (s.dn : Int)) ∧ w.frozen? ⟨g, 3, none⟩ = false := by
  obtain ⟨g', gs, gr, am, an, ai, cm, cn, ci, hv, _, h⟩ := h
  cases hv
  exact ⟨h.c3, h.fr 3⟩
set_option maxRecDepth 100000 in
set_option maxHeartbeats 6400000 in
theorem wdo_no {F : List Nat} {w : World} {v : Value} {s : Ls} (h : LmAt F w v s) (hok : LOk s) (r : Rq) (hN : nullB r = false) (hR : rightB r = false) :
    Calls Tryz.prog 25 #[v, .agg #[.int .i64 r.c, .int .i64 r.st, .int .i64 r.k, .string r.key, .float .f64 r.b, .int .i64 r.id]] w fun e w' => e = .returned (.tuple #[.agg #[.int .i64 0, .float .f64 0], .int .i64 1]) ∧ LmTo F w w' v s := by
  have hst : Stable ([w.heap.size] ++ []) (fun u => RqAt u w.heap.size r ∧ True) := stable_and (stable_rq _ r) stable_true
  have hni : w.heap.size + 1 ∉ ([w.heap.size] ++ []) := by simp
  have H0 := hid (mq_start h r)
  obtain ⟨g, rfl⟩ := h.ptr
  have HSt := hid (And.intro hst hni)
  have hep : s.ep ≤ 1000 := by have := hok.ep; omega
  have hdn : (s.dn : Int) ≤ 244 := by have := hok.hi; have := hok.ep; omega
  have hdn0 : (0 : Int) ≤ (s.dn : Int) := Int.natCast_nonneg _
  have HNl : Hid (∀ u : World, Calls Tryz.prog 67 #[.agg #[.int .i64 r.c, .int .i64 r.st, .int .i64 r.k, .string r.key, .float .f64 r.b, .int .i64 r.id]] u fun e w' => e = .returned (.bool (nullB r)) ∧ Below u.heap.size u w') := hid (fun u => qnull_any r u)
  have HRg : Hid (∀ u : World, Calls Tryz.prog 68 #[.agg #[.int .i64 r.c, .int .i64 r.st, .int .i64 r.k, .string r.key, .float .f64 r.b, .int .i64 r.id]] u fun e w' => e = .returned (.bool (rightB r)) ∧ Below u.heap.size u w') := hid (fun u => qright_any r u)
  have HFl : Hid (∀ (u : World) (G : List Nat), LmAt G u (.pointer (some ⟨g, 0, none⟩)) s → Calls Tryz.prog 30 #[.pointer (some ⟨g, 0, none⟩)] u fun e w' => e = .returned (.bool (fullS s)) ∧ Below u.heap.size u w') := hid (fun u G hu => wfullT hu hep)
  rw [hN] at HNl
  rw [hR] at HRg
  clear HFl
  clear h hst hni hok hN hR hep
  obtain ⟨⟨y0, y1⟩, y2, y3, y4, y5⟩ := H0.out.r.2.1.cells
  go_enter Tryz.func25, Tryz.ntmps25
  go_wp2_with (first
    | (go_at_call 68; have := H1; refine (HRg.out _).mono ?_; rintro e w2 ⟨rfl, hq⟩; have H2 := hid (H1.out.keep hq); clear hq; clear y0 y1 y2 y3 y4 y5; obtain ⟨⟨y0, y1⟩, y2, y3, y4, y5⟩ := H2.out.r.2.1.cells)
    | (go_at_call 67; have := H0; refine (HNl.out _).mono ?_; rintro e w1 ⟨rfl, hq⟩; have H1 := hid (H0.out.keep hq); clear hq; clear y0 y1 y2 y3 y4 y5; obtain ⟨⟨y0, y1⟩, y2, y3, y4, y5⟩ := H1.out.r.2.1.cells)
    | (have := H2; refine wl_store_rs rfl _ _ rfl (w.heap.size + 1) rfl 0 0 0 0 rfl H2.out.r.1 ?_; intro w3 Hz; have H3 := hid (H2.out.put HSt.out.1 HSt.out.2 Hz.out); clear Hz))
  refine ret_pair (s := 4) (s2 := 5) (ad := ⟨w.heap.size + 1, 0, none⟩) rfl rfl (load_rs _ _ 0 0 H3.out.r.1) rfl rfl ?_
  exact ⟨rfl, H3.out.fin⟩
set_option maxRecDepth 100000 in
set_option maxHeartbeats 6400000 in
theorem wdo_rfull {F : List Nat} {w : World} {v : Value} {s : Ls} (h : LmAt F w v s) (hok : LOk s) (r : Rq) (hN : nullB r = false) (hR : rightB r = true) (hF : fullS s = true) :
    Calls Tryz.prog 25 #[v, .agg #[.int .i64 r.c, .int .i64 r.st, .int .i64 r.k, .string r.key, .float .f64 r.b, .int .i64 r.id]] w fun e w' => e = .returned (.tuple #[.agg #[.int .i64 0, .float .f64 0], .int .i64 18]) ∧ LmTo F w w' v s := by
  have hst : Stable ([w.heap.size] ++ []) (fun u => RqAt u w.heap.size r ∧ True) := stable_and (stable_rq _ r) stable_true
  have hni : w.heap.size + 1 ∉ ([w.heap.size] ++ []) := by simp
  have H0 := hid (mq_start h r)
  obtain ⟨g, rfl⟩ := h.ptr
  have HSt := hid (And.intro hst hni)
  have hep : s.ep ≤ 1000 := by have := hok.ep; omega
  have hdn : (s.dn : Int) ≤ 244 := by have := hok.hi; have := hok.ep; omega
  have hdn0 : (0 : Int) ≤ (s.dn : Int) := Int.natCast_nonneg _
  have HNl : Hid (∀ u : World, Calls Tryz.prog 67 #[.agg #[.int .i64 r.c, .int .i64 r.st, .int .i64 r.k, .string r.key, .float .f64 r.b, .int .i64 r.id]] u fun e w' => e = .returned (.bool (nullB r)) ∧ Below u.heap.size u w') := hid (fun u => qnull_any r u)
  have HRg : Hid (∀ u : World, Calls Tryz.prog 68 #[.agg #[.int .i64 r.c, .int .i64 r.st, .int .i64 r.k, .string r.key, .float .f64 r.b, .int .i64 r.id]] u fun e w' => e = .returned (.bool (rightB r)) ∧ Below u.heap.size u w') := hid (fun u => qright_any r u)
  have HFl : Hid (∀ (u : World) (G : List Nat), LmAt G u (.pointer (some ⟨g, 0, none⟩)) s → Calls Tryz.prog 30 #[.pointer (some ⟨g, 0, none⟩)] u fun e w' => e = .returned (.bool (fullS s)) ∧ Below u.heap.size u w') := hid (fun u G hu => wfullT hu hep)
  rw [hN] at HNl
  rw [hR] at HRg
  rw [hF] at HFl
  clear h hst hni hok hN hR hep hF
  obtain ⟨⟨y0, y1⟩, y2, y3, y4, y5⟩ := H0.out.r.2.1.cells
  go_enter Tryz.func25, Tryz.ntmps25
  go_wp2_with (first
    | (go_at_call 30; have := H2; refine (HFl.out _ _ H2.out.ld).mono ?_; rintro e w3 ⟨rfl, hq⟩; have H3 := hid (H2.out.keep hq); clear hq; clear y0 y1 y2 y3 y4 y5; obtain ⟨⟨y0, y1⟩, y2, y3, y4, y5⟩ := H3.out.r.2.1.cells)
    | (go_at_call 68; have := H1; refine (HRg.out _).mono ?_; rintro e w2 ⟨rfl, hq⟩; have H2 := hid (H1.out.keep hq); clear hq; clear y0 y1 y2 y3 y4 y5; obtain ⟨⟨y0, y1⟩, y2, y3, y4, y5⟩ := H2.out.r.2.1.cells)
    | (go_at_call 67; have := H0; refine (HNl.out _).mono ?_; rintro e w1 ⟨rfl, hq⟩; have H1 := hid (H0.out.keep hq); clear hq; clear y0 y1 y2 y3 y4 y5; obtain ⟨⟨y0, y1⟩, y2, y3, y4, y5⟩ := H1.out.r.2.1.cells)
    | (have := H3; refine wl_store_rs rfl _ _ rfl (w.heap.size + 1) rfl 0 0 0 0 rfl H3.out.r.1 ?_; intro w4 Hz; have H4 := hid (H3.out.put HSt.out.1 HSt.out.2 Hz.out); clear Hz))
  refine ret_pair (s := 4) (s2 := 5) (ad := ⟨w.heap.size + 1, 0, none⟩) rfl rfl (load_rs _ _ 0 0 H4.out.r.1) rfl rfl ?_
  exact ⟨rfl, H4.out.fin⟩
set_option maxRecDepth 100000 in
set_option maxHeartbeats 6400000 in
theorem wdo_nfull {F : List Nat} {w : World} {v : Value} {s : Ls} (h : LmAt F w v s) (hok : LOk s) (r : Rq) (hN : nullB r = true) (hF : fullS s = true) :
    Calls Tryz.prog 25 #[v, .agg #[.int .i64 r.c, .int .i64 r.st, .int .i64 r.k, .string r.key, .float .f64 r.b, .int .i64 r.id]] w fun e w' => e = .returned (.tuple #[.agg #[.int .i64 0, .float .f64 0], .int .i64 18]) ∧ LmTo F w w' v s := by
  have hst : Stable ([w.heap.size] ++ []) (fun u => RqAt u w.heap.size r ∧ True) := stable_and (stable_rq _ r) stable_true
  have hni : w.heap.size + 1 ∉ ([w.heap.size] ++ []) := by simp
  have H0 := hid (mq_start h r)
  obtain ⟨g, rfl⟩ := h.ptr
  have HSt := hid (And.intro hst hni)
  have hep : s.ep ≤ 1000 := by have := hok.ep; omega
  have hdn : (s.dn : Int) ≤ 244 := by have := hok.hi; have := hok.ep; omega
  have hdn0 : (0 : Int) ≤ (s.dn : Int) := Int.natCast_nonneg _
  have HNl : Hid (∀ u : World, Calls Tryz.prog 67 #[.agg #[.int .i64 r.c, .int .i64 r.st, .int .i64 r.k, .string r.key, .float .f64 r.b, .int .i64 r.id]] u fun e w' => e = .returned (.bool (nullB r)) ∧ Below u.heap.size u w') := hid (fun u => qnull_any r u)
  have HRg : Hid (∀ u : World, Calls Tryz.prog 68 #[.agg #[.int .i64 r.c, .int .i64 r.st, .int .i64 r.k, .string r.key, .float .f64 r.b, .int .i64 r.id]] u fun e w' => e = .returned (.bool (rightB r)) ∧ Below u.heap.size u w') := hid (fun u => qright_any r u)
  have HFl : Hid (∀ (u : World) (G : List Nat), LmAt G u (.pointer (some ⟨g, 0, none⟩)) s → Calls Tryz.prog 30 #[.pointer (some ⟨g, 0, none⟩)] u fun e w' => e = .returned (.bool (fullS s)) ∧ Below u.heap.size u w') := hid (fun u G hu => wfullT hu hep)
  rw [hN] at HNl
  clear HRg
  rw [hF] at HFl
  clear h hst hni hok hN hep hF
  obtain ⟨⟨y0, y1⟩, y2, y3, y4, y5⟩ := H0.out.r.2.1.cells
  go_enter Tryz.func25, Tryz.ntmps25
  go_wp2_with (first
    | (go_at_call 30; have := H1; refine (HFl.out _ _ H1.out.ld).mono ?_; rintro e w2 ⟨rfl, hq⟩; have H2 := hid (H1.out.keep hq); clear hq; clear y0 y1 y2 y3 y4 y5; obtain ⟨⟨y0, y1⟩, y2, y3, y4, y5⟩ := H2.out.r.2.1.cells)
    | (go_at_call 67; have := H0; refine (HNl.out _).mono ?_; rintro e w1 ⟨rfl, hq⟩; have H1 := hid (H0.out.keep hq); clear hq; clear y0 y1 y2 y3 y4 y5; obtain ⟨⟨y0, y1⟩, y2, y3, y4, y5⟩ := H1.out.r.2.1.cells)
    | (have := H2; refine wl_store_rs rfl _ _ rfl (w.heap.size + 1) rfl 0 0 0 0 rfl H2.out.r.1 ?_; intro w3 Hz; have H3 := hid (H2.out.put HSt.out.1 HSt.out.2 Hz.out); clear Hz))
  refine ret_pair (s := 4) (s2 := 5) (ad := ⟨w.heap.size + 1, 0, none⟩) rfl rfl (load_rs _ _ 0 0 H3.out.r.1) rfl rfl ?_
  exact ⟨rfl, H3.out.fin⟩
set_option maxRecDepth 100000 in
set_option maxHeartbeats 6400000 in
theorem wdo_null {F : List Nat} {w : World} {v : Value} {s : Ls} (h : LmAt F w v s) (hok : LOk s) (r : Rq) (hN : nullB r = true) (hF : fullS s = false) :
    Calls Tryz.prog 25 #[v, .agg #[.int .i64 r.c, .int .i64 r.st, .int .i64 r.k, .string r.key, .float .f64 r.b, .int .i64 r.id]] w fun e w' => e = .returned (.tuple #[.agg #[.int .i64 8, .float .f64 0], .int .i64 0]) ∧ LmTo F w w' v (moreS s) := by
  have hst : Stable ([w.heap.size] ++ []) (fun u => RqAt u w.heap.size r ∧ True) := stable_and (stable_rq _ r) stable_true
  have hni : w.heap.size + 1 ∉ ([w.heap.size] ++ []) := by simp
  have H0 := hid (mq_start h r)
  obtain ⟨g, rfl⟩ := h.ptr
  have HSt := hid (And.intro hst hni)
  have hep : s.ep ≤ 1000 := by have := hok.ep; omega
  have hdn : (s.dn : Int) ≤ 244 := by have := hok.hi; have := hok.ep; omega
  have hdn0 : (0 : Int) ≤ (s.dn : Int) := Int.natCast_nonneg _
  have HNl : Hid (∀ u : World, Calls Tryz.prog 67 #[.agg #[.int .i64 r.c, .int .i64 r.st, .int .i64 r.k, .string r.key, .float .f64 r.b, .int .i64 r.id]] u fun e w' => e = .returned (.bool (nullB r)) ∧ Below u.heap.size u w') := hid (fun u => qnull_any r u)
  have HRg : Hid (∀ u : World, Calls Tryz.prog 68 #[.agg #[.int .i64 r.c, .int .i64 r.st, .int .i64 r.k, .string r.key, .float .f64 r.b, .int .i64 r.id]] u fun e w' => e = .returned (.bool (rightB r)) ∧ Below u.heap.size u w') := hid (fun u => qright_any r u)
  have HFl : Hid (∀ (u : World) (G : List Nat), LmAt G u (.pointer (some ⟨g, 0, none⟩)) s → Calls Tryz.prog 30 #[.pointer (some ⟨g, 0, none⟩)] u fun e w' => e = .returned (.bool (fullS s)) ∧ Below u.heap.size u w') := hid (fun u G hu => wfullT hu hep)
  rw [hN] at HNl
  clear HRg
  rw [hF] at HFl
  clear h hst hni hok hN hep hF
  obtain ⟨⟨y0, y1⟩, y2, y3, y4, y5⟩ := H0.out.r.2.1.cells
  go_enter Tryz.func25, Tryz.ntmps25
  go_wp2_with (first
    | (go_at_call 30; have := H1; refine (HFl.out _ _ H1.out.ld).mono ?_; rintro e w2 ⟨rfl, hq⟩; have H2 := hid (H1.out.keep hq); clear hq; clear y0 y1 y2 y3 y4 y5; obtain ⟨⟨y0, y1⟩, y2, y3, y4, y5⟩ := H2.out.r.2.1.cells; obtain ⟨c3, f3⟩ := H2.out.ld.c3; have H3 := hid H2.out.more)
    | (go_at_call 67; have := H0; refine (HNl.out _).mono ?_; rintro e w1 ⟨rfl, hq⟩; have H1 := hid (H0.out.keep hq); clear hq; clear y0 y1 y2 y3 y4 y5; obtain ⟨⟨y0, y1⟩, y2, y3, y4, y5⟩ := H1.out.r.2.1.cells)
    | (have := H3; refine wl_store_rs rfl _ _ rfl (w.heap.size + 1) rfl 0 8 0 0 rfl H3.out.r.1 ?_; intro w4 Hz; have H4 := hid (H3.out.put HSt.out.1 HSt.out.2 Hz.out); clear Hz))
  refine ret_pair (s := 4) (s2 := 5) (ad := ⟨w.heap.size + 1, 0, none⟩) rfl rfl (load_rs _ _ 8 0 H4.out.r.1) rfl rfl ?_
  exact ⟨rfl, H4.out.fin⟩
set_option maxRecDepth 100000 in
set_option maxHeartbeats 6400000 in
theorem wdo_old {F : List Nat} {w : World} {v : Value} {s : Ls} (h : LmAt F w v s) (hok : LOk s) (r : Rq) (hN : nullB r = false) (hR : rightB r = true) (hF : fullS s = false) (T : Int) (hT : ((s.at (clN r)).1 : Int) = T) (Kc : Int) (hKc : (s.at (clN r)).2.1 = Kc) (M : Nat) (hM : (s.at (clN r)).2.2 = M) (hlt : r.st < T) :
    Calls Tryz.prog 25 #[v, .agg #[.int .i64 r.c, .int .i64 r.st, .int .i64 r.k, .string r.key, .float .f64 r.b, .int .i64 r.id]] w fun e w' => e = .returned (.tuple #[.agg #[.int .i64 7, .float .f64 0], .int .i64 0]) ∧ LmTo F w w' v (moreS s) := by
  have hst : Stable ([w.heap.size] ++ []) (fun u => RqAt u w.heap.size r ∧ True) := stable_and (stable_rq _ r) stable_true
  have hni : w.heap.size + 1 ∉ ([w.heap.size] ++ []) := by simp
  have H0 := hid (mq_start h r)
  obtain ⟨g, rfl⟩ := h.ptr
  have HSt := hid (And.intro hst hni)
  have hep : s.ep ≤ 1000 := by have := hok.ep; omega
  have hdn : (s.dn : Int) ≤ 244 := by have := hok.hi; have := hok.ep; omega
  have hdn0 : (0 : Int) ≤ (s.dn : Int) := Int.natCast_nonneg _
  have HNl : Hid (∀ u : World, Calls Tryz.prog 67 #[.agg #[.int .i64 r.c, .int .i64 r.st, .int .i64 r.k, .string r.key, .float .f64 r.b, .int .i64 r.id]] u fun e w' => e = .returned (.bool (nullB r)) ∧ Below u.heap.size u w') := hid (fun u => qnull_any r u)
  have HRg : Hid (∀ u : World, Calls Tryz.prog 68 #[.agg #[.int .i64 r.c, .int .i64 r.st, .int .i64 r.k, .string r.key, .float .f64 r.b, .int .i64 r.id]] u fun e w' => e = .returned (.bool (rightB r)) ∧ Below u.heap.size u w') := hid (fun u => qright_any r u)
  have HFl : Hid (∀ (u : World) (G : List Nat), LmAt G u (.pointer (some ⟨g, 0, none⟩)) s → Calls Tryz.prog 30 #[.pointer (some ⟨g, 0, none⟩)] u fun e w' => e = .returned (.bool (fullS s)) ∧ Below u.heap.size u w') := hid (fun u G hu => wfullT hu hep)
  obtain ⟨hc8, hcc⟩ := cl_lt hR
  obtain ⟨p, ep⟩ : ∃ p : Nat, p = clN r + 1 := ⟨_, rfl⟩
  have HY0 : Hid (some (Value.int .i64 r.c) = some (.int .i64 (p : Int))) := hid (by rw [show r.c = (p : Int) by omega])
  have hp9 : (p : Int) < 9 := by omega
  have hp0 : (0 : Int) ≤ (p : Int) := Int.natCast_nonneg _
  have HCs : Hid (∀ (u : World) (G : List Nat), LmAt G u (.pointer (some ⟨g, 0, none⟩)) (moreS s) → ∃ gs gr, u.cell? ⟨g, 5, none⟩ = some (.slice (some ⟨gs, 0, none⟩) 9 9) ∧ u.cell? ⟨gs, p, none⟩ = some (.int .i64 T) ∧ u.cell? ⟨g, 6, none⟩ = some (.slice (some ⟨gr, 0, none⟩) 9 9) ∧ u.cell? ⟨gr, p * 2, none⟩ = some (.int .i64 Kc) ∧ u.cell? ⟨gr, p * 2 + 1, none⟩ = some (.float .f64 M)) := hid (fun u G hu => by
    obtain ⟨g', gs, gr, am, an, ai, cm, cn, ci, hv, _, k⟩ := hu
    cases hv
    have k1 := k.cs (clN r) hc8
    obtain ⟨k2, k3⟩ := k.cr (clN r) hc8
    rw [← ep, more_at] at k1 k2 k3
    rw [hT] at k1
    rw [hKc] at k2
    rw [hM] at k3
    exact ⟨gs, gr, k.c5, k1, k.c6, k2, k3⟩)
  rw [hN] at HNl
  rw [hR] at HRg
  rw [hF] at HFl
  clear h hst hni hok hN hR hep hF hT hKc hM hc8 hcc ep
  obtain ⟨⟨y0, y1⟩, y2, y3, y4, y5⟩ := H0.out.r.2.1.cells
  go_enter Tryz.func25, Tryz.ntmps25
  go_wp2_with (first
    | (go_at_call 30; have := H2; refine (HFl.out _ _ H2.out.ld).mono ?_; rintro e w3 ⟨rfl, hq⟩; have H3 := hid (H2.out.keep hq); clear hq; clear y0 y1 y2 y3 y4 y5; obtain ⟨⟨y0, y1⟩, y2, y3, y4, y5⟩ := H3.out.r.2.1.cells; obtain ⟨c3, f3⟩ := H3.out.ld.c3; have H4 := hid H3.out.more)
    | (go_at_call 68; have := H1; refine (HRg.out _).mono ?_; rintro e w2 ⟨rfl, hq⟩; have H2 := hid (H1.out.keep hq); clear hq; clear y0 y1 y2 y3 y4 y5; obtain ⟨⟨y0, y1⟩, y2, y3, y4, y5⟩ := H2.out.r.2.1.cells)
    | (go_at_call 67; have := H0; refine (HNl.out _).mono ?_; rintro e w1 ⟨rfl, hq⟩; have H1 := hid (H0.out.keep hq); clear hq; clear y0 y1 y2 y3 y4 y5; obtain ⟨⟨y0, y1⟩, y2, y3, y4, y5⟩ := H1.out.r.2.1.cells))
  clear y0 y1 y2 y3 y4 y5 c3 f3
  obtain ⟨W4, eW⟩ : ∃ u, u = w3.setCell ⟨g, 3, none⟩ (.int .i64 ((s.dn : Int) + 1)) := ⟨_, rfl⟩
  rw [← eW] at H4 ⊢
  clear eW
  obtain ⟨⟨y0, y1⟩, y2, y3, y4, y5⟩ := H4.out.r.2.1.cells
  replace y0 := y0.trans HY0.out
  obtain ⟨gs, gr, x5, xs, x6, xr0, xr1⟩ := HCs.out _ _ H4.out.ld
  have H5 := hid H4.out.drew
  refine wp_region_held (S := fun ww => RqAt ww w.heap.size r ∧ ww.cell? ⟨g, 5, none⟩ = some (.slice (some ⟨gs, 0, none⟩) 9 9) ∧ ww.cell? ⟨gs, p, none⟩ = some (.int .i64 T)) (by kernel_rfl) ?_
  try (change wpAnyH _ _ _ _ _ _ _ _ (World.drew _))
  refine wpAnyH_take (i := 0) (v := ?v1) rfl (by kernel_rfl) (by kernel_rfl) (by kernel_rfl) (fun _ _ _ h => h) (Or.inl ⟨by rfl, ?hy1⟩) ⟨H5.out.r.2.1, x5, xs⟩ ?rest1
  case hy1 => (intro ww _; go_simp; try with_reducible rfl)
  go_simp
  refine wpAnyH_take (i := 1) (v := ?v2) rfl (by kernel_rfl) (by kernel_rfl) (by kernel_rfl) (fun _ _ _ h => h) (Or.inl ⟨by rfl, ?hy2⟩) ⟨H5.out.r.2.1, x5, xs⟩ ?rest2
  case hy2 => (intro ww hS; obtain ⟨⟨⟨y0, y1⟩, y2, y3, y4, y5⟩, x5, xs⟩ := And.intro (RqAt.cells hS.1) hS.2; replace y0 := y0.trans HY0.out; go_simp; try with_reducible rfl)
  go_simp
  refine wpAnyH_take (i := 2) (v := ?v3) rfl (by kernel_rfl) (by kernel_rfl) (by kernel_rfl) (fun _ _ _ h => h) (Or.inl ⟨by rfl, ?hy3⟩) ⟨H5.out.r.2.1, x5, xs⟩ ?rest3
  case hy3 => (intro ww _; go_simp; try with_reducible rfl)
  go_simp
  refine wpAnyH_take (i := 3) (v := ?v4) rfl (by kernel_rfl) (by kernel_rfl) (by kernel_rfl) (fun _ _ _ h => h) (Or.inl ⟨by rfl, ?hy4⟩) ⟨H5.out.r.2.1, x5, xs⟩ ?rest4
  case hy4 => (intro ww _; go_simp; try with_reducible rfl)
  go_simp
  refine wpAnyH_take (i := 4) (v := ?v5) rfl (by kernel_rfl) (by kernel_rfl) (by kernel_rfl) (fun _ _ _ h => h) (Or.inl ⟨by rfl, ?hy5⟩) ⟨H5.out.r.2.1, x5, xs⟩ ?rest5
  case hy5 => (intro ww _; go_simp; try with_reducible rfl)
  go_simp
  refine wpAnyH_take (i := 5) (v := ?v6) rfl (by kernel_rfl) (by kernel_rfl) (by kernel_rfl) (fun _ _ _ h => h) (Or.inl ⟨by rfl, ?hy6⟩) ⟨H5.out.r.2.1, x5, xs⟩ ?rest6
  case hy6 => (intro ww hS; obtain ⟨⟨⟨y0, y1⟩, y2, y3, y4, y5⟩, x5, xs⟩ := And.intro (RqAt.cells hS.1) hS.2; replace y0 := y0.trans HY0.out; go_simp; try with_reducible rfl)
  go_simp
  refine wpAnyH_take (i := 6) (v := ?v7) rfl (by kernel_rfl) (by kernel_rfl) (by kernel_rfl) (fun _ _ _ h => h) (Or.inl ⟨by rfl, ?hy7⟩) ⟨H5.out.r.2.1, x5, xs⟩ ?rest7
  case hy7 => (intro ww _; go_simp; try with_reducible rfl)
  go_simp
  refine wpAnyH_take (i := 7) (v := ?v8) rfl (by kernel_rfl) (by kernel_rfl) (by kernel_rfl) (fun _ _ _ h => h) (Or.inl ⟨by rfl, ?hy8⟩) ⟨H5.out.r.2.1, x5, xs⟩ ?rest8
  case hy8 => (intro ww hS; obtain ⟨⟨⟨y0, y1⟩, y2, y3, y4, y5⟩, x5, xs⟩ := And.intro (RqAt.cells hS.1) hS.2; replace y0 := y0.trans HY0.out; go_simp; try with_reducible rfl)
  go_simp
  refine wpAnyH_take (i := 8) (v := ?v9) rfl (by kernel_rfl) (by kernel_rfl) (by kernel_rfl) (fun _ _ _ h => h) (Or.inl ⟨by rfl, ?hy9⟩) ⟨H5.out.r.2.1, x5, xs⟩ ?rest9
  case hy9 => (intro ww _; go_simp; try with_reducible rfl)
  go_simp
  refine wpAnyH_take (i := 9) (v := ?v10) rfl (by kernel_rfl) (by kernel_rfl) (by kernel_rfl) (fun _ _ _ h => h) (Or.inl ⟨by rfl, ?hy10⟩) ⟨H5.out.r.2.1, x5, xs⟩ ?rest10
  case hy10 => (intro ww hS; obtain ⟨⟨⟨y0, y1⟩, y2, y3, y4, y5⟩, x5, xs⟩ := And.intro (RqAt.cells hS.1) hS.2; replace y0 := y0.trans HY0.out; go_simp; try with_reducible rfl)
  go_simp
  refine wpAnyH_take (i := 10) (v := ?v11) rfl (by kernel_rfl) (by kernel_rfl) (by kernel_rfl) (fun _ _ _ h => h) (Or.inl ⟨by rfl, ?hy11⟩) ⟨H5.out.r.2.1, x5, xs⟩ ?rest11
  case hy11 => (intro ww _; go_simp; try with_reducible rfl)
  go_simp
  refine wpAnyH_done (by kernel_rfl) ?_ _
  go_simp
  go_wp2_with (first
    | (have := H5; refine wl_store_rs rfl _ _ rfl (w.heap.size + 1) rfl 0 7 0 0 rfl H5.out.r.1 ?_; intro w6 Hz; have H6 := hid (H5.out.put HSt.out.1 HSt.out.2 Hz.out); clear Hz))
  refine ret_pair (s := 4) (s2 := 5) (ad := ⟨w.heap.size + 1, 0, none⟩) rfl rfl (load_rs _ _ 7 0 H6.out.r.1) rfl rfl ?_
  exact ⟨rfl, H6.out.fin⟩
end Go.Proofs.YtecidbdbdnnglaaGreat

/- The document's ledger: Do, the same stamp again. -/
namespace Go.Proofs.YtecidbdbdnnglaaGreat
open Go.RowKit

theorem LmAt.gr_in {F : List Nat} {w : World} {g gs gr : Nat} {s : Ls} (h : LmAt F w (.pointer (some ⟨g, 0, none⟩)) s) (h5 : w.cell? ⟨g, 5, none⟩ = some (.slice (some ⟨gs, 0, none⟩) 9 9)) (h6 : w.cell? ⟨g, 6, none⟩ = some (.slice (some ⟨gr, 0, none⟩) 9 9)) : gs ∈ F ∧ gr ∈ F := by
  obtain ⟨g', gs', gr', am, an, ai, cm, cn, ci, hv, rfl, k⟩ := h
  cases hv
  have e5 := k.c5.symm.trans h5
  have e6 := k.c6.symm.trans h6
  cases e5
  cases e6
  exact ⟨fpR_g.2.1, fpR_g.2.2⟩
set_option maxRecDepth 100000 in
set_option maxHeartbeats 6400000 in
theorem wdo_same {F : List Nat} {w : World} {v : Value} {s : Ls} (h : LmAt F w v s) (hok : LOk s) (r : Rq) (hN : nullB r = false) (hR : rightB r = true) (hF : fullS s = false) (hT : ((s.at (clN r)).1 : Int) = r.st) (Kc : Int) (hKc : (s.at (clN r)).2.1 = Kc) (M : Nat) (hM : (s.at (clN r)).2.2 = M)  :
    Calls Tryz.prog 25 #[v, .agg #[.int .i64 r.c, .int .i64 r.st, .int .i64 r.k, .string r.key, .float .f64 r.b, .int .i64 r.id]] w fun e w' => e = .returned (.tuple #[.agg #[.int .i64 Kc, .float .f64 M], .int .i64 0]) ∧ LmTo F w w' v (moreS s) := by
  have hst : Stable ([w.heap.size] ++ []) (fun u => RqAt u w.heap.size r ∧ True) := stable_and (stable_rq _ r) stable_true
  have hni : w.heap.size + 1 ∉ ([w.heap.size] ++ []) := by simp
  have H0 := hid (mq_start h r)
  obtain ⟨g, rfl⟩ := h.ptr
  have HSt := hid (And.intro hst hni)
  have hep : s.ep ≤ 1000 := by have := hok.ep; omega
  have hdn : (s.dn : Int) ≤ 244 := by have := hok.hi; have := hok.ep; omega
  have hdn0 : (0 : Int) ≤ (s.dn : Int) := Int.natCast_nonneg _
  have HNl : Hid (∀ u : World, Calls Tryz.prog 67 #[.agg #[.int .i64 r.c, .int .i64 r.st, .int .i64 r.k, .string r.key, .float .f64 r.b, .int .i64 r.id]] u fun e w' => e = .returned (.bool (nullB r)) ∧ Below u.heap.size u w') := hid (fun u => qnull_any r u)
  have HRg : Hid (∀ u : World, Calls Tryz.prog 68 #[.agg #[.int .i64 r.c, .int .i64 r.st, .int .i64 r.k, .string r.key, .float .f64 r.b, .int .i64 r.id]] u fun e w' => e = .returned (.bool (rightB r)) ∧ Below u.heap.size u w') := hid (fun u => qright_any r u)
  have HFl : Hid (∀ (u : World) (G : List Nat), LmAt G u (.pointer (some ⟨g, 0, none⟩)) s → Calls Tryz.prog 30 #[.pointer (some ⟨g, 0, none⟩)] u fun e w' => e = .returned (.bool (fullS s)) ∧ Below u.heap.size u w') := hid (fun u G hu => wfullT hu hep)
  obtain ⟨hc8, hcc⟩ := cl_lt hR
  obtain ⟨p, ep⟩ : ∃ p : Nat, p = clN r + 1 := ⟨_, rfl⟩
  have HY0 : Hid (some (Value.int .i64 r.c) = some (.int .i64 (p : Int))) := hid (by rw [show r.c = (p : Int) by omega])
  have hp9 : (p : Int) < 9 := by omega
  have hp0 : (0 : Int) ≤ (p : Int) := Int.natCast_nonneg _
  have HCs : Hid (∀ (u : World) (G : List Nat), LmAt G u (.pointer (some ⟨g, 0, none⟩)) (moreS s) → ∃ gs gr, u.cell? ⟨g, 5, none⟩ = some (.slice (some ⟨gs, 0, none⟩) 9 9) ∧ u.cell? ⟨gs, p, none⟩ = some (.int .i64 r.st) ∧ u.cell? ⟨g, 6, none⟩ = some (.slice (some ⟨gr, 0, none⟩) 9 9) ∧ u.cell? ⟨gr, p * 2, none⟩ = some (.int .i64 Kc) ∧ u.cell? ⟨gr, p * 2 + 1, none⟩ = some (.float .f64 M)) := hid (fun u G hu => by
    obtain ⟨g', gs, gr, am, an, ai, cm, cn, ci, hv, _, k⟩ := hu
    cases hv
    have k1 := k.cs (clN r) hc8
    obtain ⟨k2, k3⟩ := k.cr (clN r) hc8
    rw [← ep, more_at] at k1 k2 k3
    rw [hT] at k1
    rw [hKc] at k2
    rw [hM] at k3
    exact ⟨gs, gr, k.c5, k1, k.c6, k2, k3⟩)
  rw [hN] at HNl
  rw [hR] at HRg
  rw [hF] at HFl
  clear h hst hni hok hN hR hep hF hT hKc hM hc8 hcc ep
  obtain ⟨⟨y0, y1⟩, y2, y3, y4, y5⟩ := H0.out.r.2.1.cells
  go_enter Tryz.func25, Tryz.ntmps25
  go_wp2_with (first
    | (go_at_call 30; have := H2; refine (HFl.out _ _ H2.out.ld).mono ?_; rintro e w3 ⟨rfl, hq⟩; have H3 := hid (H2.out.keep hq); clear hq; clear y0 y1 y2 y3 y4 y5; obtain ⟨⟨y0, y1⟩, y2, y3, y4, y5⟩ := H3.out.r.2.1.cells; obtain ⟨c3, f3⟩ := H3.out.ld.c3; have H4 := hid H3.out.more)
    | (go_at_call 68; have := H1; refine (HRg.out _).mono ?_; rintro e w2 ⟨rfl, hq⟩; have H2 := hid (H1.out.keep hq); clear hq; clear y0 y1 y2 y3 y4 y5; obtain ⟨⟨y0, y1⟩, y2, y3, y4, y5⟩ := H2.out.r.2.1.cells)
    | (go_at_call 67; have := H0; refine (HNl.out _).mono ?_; rintro e w1 ⟨rfl, hq⟩; have H1 := hid (H0.out.keep hq); clear hq; clear y0 y1 y2 y3 y4 y5; obtain ⟨⟨y0, y1⟩, y2, y3, y4, y5⟩ := H1.out.r.2.1.cells))
  clear y0 y1 y2 y3 y4 y5 c3 f3
  obtain ⟨W4, eW⟩ : ∃ u, u = w3.setCell ⟨g, 3, none⟩ (.int .i64 ((s.dn : Int) + 1)) := ⟨_, rfl⟩
  rw [← eW] at H4 ⊢
  clear eW
  obtain ⟨⟨y0, y1⟩, y2, y3, y4, y5⟩ := H4.out.r.2.1.cells
  replace y0 := y0.trans HY0.out
  obtain ⟨gs, gr, x5, xs, x6, xr0, xr1⟩ := HCs.out _ _ H4.out.ld
  clear y0 y1 y2 y3 y4 y5
  have H5 := hid H4.out.drew
  refine wp_region_G (S := fun ww => RqAt ww w.heap.size r ∧ ww.cell? ⟨g, 5, none⟩ = some (.slice (some ⟨gs, 0, none⟩) 9 9) ∧ ww.cell? ⟨gs, p, none⟩ = some (.int .i64 r.st)) (ex := []) (by kernel_rfl) ?_
  try (change wpAnyG _ _ _ _ _ _ _ _ _ (World.drew _))
  refine wpAnyG_take (i := 0) (v := ?v1) rfl (by kernel_rfl) (fun _ _ _ h => h) (Or.inl ⟨by rfl, ?hy1⟩) ⟨H5.out.r.2.1, x5, xs⟩ ?rest1
  case hy1 => (intro ww _; go_simp; try with_reducible rfl)
  go_simp
  refine wpAnyG_take (i := 1) (v := ?v2) rfl (by kernel_rfl) (fun _ _ _ h => h) (Or.inl ⟨by rfl, ?hy2⟩) ⟨H5.out.r.2.1, x5, xs⟩ ?rest2
  case hy2 => (intro ww hS; obtain ⟨⟨⟨y0, y1⟩, y2, y3, y4, y5⟩, x5, xs⟩ := And.intro (RqAt.cells hS.1) hS.2; replace y0 := y0.trans HY0.out; go_simp; try with_reducible rfl)
  go_simp
  refine wpAnyG_take (i := 2) (v := ?v3) rfl (by kernel_rfl) (fun _ _ _ h => h) (Or.inl ⟨by rfl, ?hy3⟩) ⟨H5.out.r.2.1, x5, xs⟩ ?rest3
  case hy3 => (intro ww _; go_simp; try with_reducible rfl)
  go_simp
  refine wpAnyG_take (i := 3) (v := ?v4) rfl (by kernel_rfl) (fun _ _ _ h => h) (Or.inl ⟨by rfl, ?hy4⟩) ⟨H5.out.r.2.1, x5, xs⟩ ?rest4
  case hy4 => (intro ww _; go_simp; try with_reducible rfl)
  go_simp
  refine wpAnyG_take (i := 4) (v := ?v5) rfl (by kernel_rfl) (fun _ _ _ h => h) (Or.inl ⟨by rfl, ?hy5⟩) ⟨H5.out.r.2.1, x5, xs⟩ ?rest5
  case hy5 => (intro ww _; go_simp; try with_reducible rfl)
  go_simp
  refine wpAnyG_take (i := 5) (v := ?v6) rfl (by kernel_rfl) (fun _ _ _ h => h) (Or.inl ⟨by rfl, ?hy6⟩) ⟨H5.out.r.2.1, x5, xs⟩ ?rest6
  case hy6 => (intro ww hS; obtain ⟨⟨⟨y0, y1⟩, y2, y3, y4, y5⟩, x5, xs⟩ := And.intro (RqAt.cells hS.1) hS.2; replace y0 := y0.trans HY0.out; go_simp; try with_reducible rfl)
  go_simp
  refine wpAnyG_take (i := 6) (v := ?v7) rfl (by kernel_rfl) (fun _ _ _ h => h) (Or.inl ⟨by rfl, ?hy7⟩) ⟨H5.out.r.2.1, x5, xs⟩ ?rest7
  case hy7 => (intro ww _; go_simp; try with_reducible rfl)
  go_simp
  refine wpAnyG_take (i := 7) (v := ?v8) rfl (by kernel_rfl) (fun _ _ _ h => h) (Or.inl ⟨by rfl, ?hy8⟩) ⟨H5.out.r.2.1, x5, xs⟩ ?rest8
  case hy8 => (intro ww hS; obtain ⟨⟨⟨y0, y1⟩, y2, y3, y4, y5⟩, x5, xs⟩ := And.intro (RqAt.cells hS.1) hS.2; replace y0 := y0.trans HY0.out; go_simp; try with_reducible rfl)
  go_simp
  refine wpAnyG_take (i := 8) (v := ?v9) rfl (by kernel_rfl) (fun _ _ _ h => h) (Or.inl ⟨by rfl, ?hy9⟩) ⟨H5.out.r.2.1, x5, xs⟩ ?rest9
  case hy9 => (intro ww _; go_simp; try with_reducible rfl)
  go_simp
  refine wpAnyG_take (i := 9) (v := ?v10) rfl (by kernel_rfl) (fun _ _ _ h => h) (Or.inl ⟨by rfl, ?hy10⟩) ⟨H5.out.r.2.1, x5, xs⟩ ?rest10
  case hy10 => (intro ww hS; obtain ⟨⟨⟨y0, y1⟩, y2, y3, y4, y5⟩, x5, xs⟩ := And.intro (RqAt.cells hS.1) hS.2; replace y0 := y0.trans HY0.out; go_simp; try with_reducible rfl)
  go_simp
  refine wpAnyG_take (i := 10) (v := ?v11) rfl (by kernel_rfl) (fun _ _ _ h => h) (Or.inl ⟨by rfl, ?hy11⟩) ⟨H5.out.r.2.1, x5, xs⟩ ?rest11
  case hy11 => (intro ww _; go_simp; try with_reducible rfl)
  go_simp
  refine wpAnyG_done (by kernel_rfl) ?_ _
  go_simp
  go_wp2
  have H6 := hid H5.out.drew
  refine wp_region_G (S := fun ww => RqAt ww w.heap.size r ∧ ww.cell? ⟨g, 5, none⟩ = some (.slice (some ⟨gs, 0, none⟩) 9 9) ∧ ww.cell? ⟨gs, p, none⟩ = some (.int .i64 r.st)) (ex := []) (by kernel_rfl) ?_
  try (change wpAnyG _ _ _ _ _ _ _ _ _ (World.drew _))
  refine wpAnyG_take (i := 0) (v := ?v12) rfl (by kernel_rfl) (fun _ _ _ h => h) (Or.inl ⟨by rfl, ?hy12⟩) ⟨H6.out.r.2.1, x5, xs⟩ ?rest12
  case hy12 => (intro ww _; go_simp; try with_reducible rfl)
  go_simp
  refine wpAnyG_take (i := 1) (v := ?v13) rfl (by kernel_rfl) (fun _ _ _ h => h) (Or.inl ⟨by rfl, ?hy13⟩) ⟨H6.out.r.2.1, x5, xs⟩ ?rest13
  case hy13 => (intro ww hS; obtain ⟨⟨⟨y0, y1⟩, y2, y3, y4, y5⟩, x5, xs⟩ := And.intro (RqAt.cells hS.1) hS.2; replace y0 := y0.trans HY0.out; go_simp; try with_reducible rfl)
  go_simp
  refine wpAnyG_take (i := 2) (v := ?v14) rfl (by kernel_rfl) (fun _ _ _ h => h) (Or.inl ⟨by rfl, ?hy14⟩) ⟨H6.out.r.2.1, x5, xs⟩ ?rest14
  case hy14 => (intro ww _; go_simp; try with_reducible rfl)
  go_simp
  refine wpAnyG_take (i := 3) (v := ?v15) rfl (by kernel_rfl) (fun _ _ _ h => h) (Or.inl ⟨by rfl, ?hy15⟩) ⟨H6.out.r.2.1, x5, xs⟩ ?rest15
  case hy15 => (intro ww _; go_simp; try with_reducible rfl)
  go_simp
  refine wpAnyG_take (i := 4) (v := ?v16) rfl (by kernel_rfl) (fun _ _ _ h => h) (Or.inl ⟨by rfl, ?hy16⟩) ⟨H6.out.r.2.1, x5, xs⟩ ?rest16
  case hy16 => (intro ww _; go_simp; try with_reducible rfl)
  go_simp
  refine wpAnyG_take (i := 5) (v := ?v17) rfl (by kernel_rfl) (fun _ _ _ h => h) (Or.inl ⟨by rfl, ?hy17⟩) ⟨H6.out.r.2.1, x5, xs⟩ ?rest17
  case hy17 => (intro ww hS; obtain ⟨⟨⟨y0, y1⟩, y2, y3, y4, y5⟩, x5, xs⟩ := And.intro (RqAt.cells hS.1) hS.2; replace y0 := y0.trans HY0.out; go_simp; try with_reducible rfl)
  go_simp
  refine wpAnyG_take (i := 6) (v := ?v18) rfl (by kernel_rfl) (fun _ _ _ h => h) (Or.inl ⟨by rfl, ?hy18⟩) ⟨H6.out.r.2.1, x5, xs⟩ ?rest18
  case hy18 => (intro ww _; go_simp; try with_reducible rfl)
  go_simp
  refine wpAnyG_take (i := 7) (v := ?v19) rfl (by kernel_rfl) (fun _ _ _ h => h) (Or.inl ⟨by rfl, ?hy19⟩) ⟨H6.out.r.2.1, x5, xs⟩ ?rest19
  case hy19 => (intro ww hS; obtain ⟨⟨⟨y0, y1⟩, y2, y3, y4, y5⟩, x5, xs⟩ := And.intro (RqAt.cells hS.1) hS.2; replace y0 := y0.trans HY0.out; go_simp; try with_reducible rfl)
  go_simp
  refine wpAnyG_take (i := 8) (v := ?v20) rfl (by kernel_rfl) (fun _ _ _ h => h) (Or.inl ⟨by rfl, ?hy20⟩) ⟨H6.out.r.2.1, x5, xs⟩ ?rest20
  case hy20 => (intro ww _; go_simp; try with_reducible rfl)
  go_simp
  refine wpAnyG_take (i := 9) (v := ?v21) rfl (by kernel_rfl) (fun _ _ _ h => h) (Or.inl ⟨by rfl, ?hy21⟩) ⟨H6.out.r.2.1, x5, xs⟩ ?rest21
  case hy21 => (intro ww hS; obtain ⟨⟨⟨y0, y1⟩, y2, y3, y4, y5⟩, x5, xs⟩ := And.intro (RqAt.cells hS.1) hS.2; replace y0 := y0.trans HY0.out; go_simp; try with_reducible rfl)
  go_simp
  refine wpAnyG_take (i := 10) (v := ?v22) rfl (by kernel_rfl) (fun _ _ _ h => h) (Or.inl ⟨by rfl, ?hy22⟩) ⟨H6.out.r.2.1, x5, xs⟩ ?rest22
  case hy22 => (intro ww _; go_simp; try with_reducible rfl)
  go_simp
  refine wpAnyG_done (by kernel_rfl) ?_ _
  go_simp
  go_wp2
  have H7 := hid H6.out.drew
  refine wp_region_G (S := fun ww => RqAt ww w.heap.size r ∧ ww.cell? ⟨g, 6, none⟩ = some (.slice (some ⟨gr, 0, none⟩) 9 9) ∧ ww.cell? ⟨gr, p * 2, none⟩ = some (.int .i64 Kc) ∧ ww.cell? ⟨gr, p * 2 + 1, none⟩ = some (.float .f64 M)) (ex := [8, 9]) (by kernel_rfl) ?_
  try (change wpAnyG _ _ _ _ _ _ _ _ _ (World.drew _))
  refine wpAnyG_take (i := 0) (v := ?v23) rfl (by kernel_rfl) (fun _ _ _ h => h) (Or.inl ⟨by rfl, ?hy23⟩) ⟨H7.out.r.2.1, x6, xr0, xr1⟩ ?rest23
  case hy23 => (intro ww _; go_simp; try with_reducible rfl)
  go_simp
  refine wpAnyG_take (i := 1) (v := ?v24) rfl (by kernel_rfl) (fun _ _ _ h => h) (Or.inl ⟨by rfl, ?hy24⟩) ⟨H7.out.r.2.1, x6, xr0, xr1⟩ ?rest24
  case hy24 => (intro ww _; go_simp; try with_reducible rfl)
  go_simp
  refine wpAnyG_take (i := 2) (v := ?v25) rfl (by kernel_rfl) (fun _ _ _ h => h) (Or.inl ⟨by rfl, ?hy25⟩) ⟨H7.out.r.2.1, x6, xr0, xr1⟩ ?rest25
  case hy25 => (intro ww _; go_simp; try with_reducible rfl)
  go_simp
  refine wpAnyG_take (i := 3) (v := ?v26) rfl (by kernel_rfl) (fun _ _ _ h => h) (Or.inl ⟨by rfl, ?hy26⟩) ⟨H7.out.r.2.1, x6, xr0, xr1⟩ ?rest26
  case hy26 => (intro ww hS; obtain ⟨⟨⟨y0, y1⟩, y2, y3, y4, y5⟩, x6, xr0, xr1⟩ := And.intro (RqAt.cells hS.1) hS.2; replace y0 := y0.trans HY0.out; go_simp; try with_reducible rfl)
  go_simp
  refine wpAnyG_take (i := 4) (v := ?v27) rfl (by kernel_rfl) (fun _ _ _ h => h) (Or.inl ⟨by rfl, ?hy27⟩) ⟨H7.out.r.2.1, x6, xr0, xr1⟩ ?rest27
  case hy27 => (intro ww _; go_simp; try with_reducible rfl)
  go_simp
  refine wpAnyG_take (i := 5) (v := ?v28) rfl (by kernel_rfl) (fun _ _ _ h => h) (Or.inl ⟨by rfl, ?hy28⟩) ⟨H7.out.r.2.1, x6, xr0, xr1⟩ ?rest28
  case hy28 => (intro ww hS; obtain ⟨⟨⟨y0, y1⟩, y2, y3, y4, y5⟩, x6, xr0, xr1⟩ := And.intro (RqAt.cells hS.1) hS.2; replace y0 := y0.trans HY0.out; go_simp; try with_reducible rfl)
  go_simp
  refine wpAnyG_take (i := 6) (v := ?v29) rfl (by kernel_rfl) (fun _ _ _ h => h) (Or.inl ⟨by rfl, ?hy29⟩) ⟨H7.out.r.2.1, x6, xr0, xr1⟩ ?rest29
  case hy29 => (intro ww _; go_simp; try with_reducible rfl)
  go_simp
  refine wpAnyG_take (i := 7) (v := ?v30) rfl (by kernel_rfl) (fun _ _ _ h => h) (Or.inl ⟨by rfl, ?hy30⟩) ⟨H7.out.r.2.1, x6, xr0, xr1⟩ ?rest30
  case hy30 => (intro ww hS; obtain ⟨⟨⟨y0, y1⟩, y2, y3, y4, y5⟩, x6, xr0, xr1⟩ := And.intro (RqAt.cells hS.1) hS.2; replace y0 := y0.trans HY0.out; go_simp; try with_reducible rfl)
  go_simp
  refine wpAnyG_all (rs := [8]) (by kernel_rfl) (by simp) ?_
  intro i hi
  obtain rfl := List.mem_singleton.1 hi
  clear hi
  refine wpOp_d rfl (by rfl) (fun K hK => ?_)
  refine owp_store_rsR _ _ rfl (w.heap.size + 1) rfl 0 Kc 0 M rfl H7.out.r.1 ?_
  intro w9 Hz
  have H9 := hid (H7.out.put HSt.out.1 HSt.out.2 Hz.out)
  refine hK _ _ ⟨fun h => absurd (by simp) h, ?_⟩
  clear hK K
  go_simp
  refine wpAnyG_all (rs := [9]) (by kernel_rfl) (by simp) ?_
  intro i hi
  obtain rfl := List.mem_singleton.1 hi
  clear hi
  refine wpOp_d rfl (by rfl) (fun K hK => ?_)
  go_simp
  refine hK _ _ ⟨fun h => absurd (by simp) h, ?_⟩
  clear hK K
  go_simp
  refine wpAnyG_done (by kernel_rfl) ?_ _
  go_simp
  go_wp2
  refine ret_pair (s := 4) (s2 := 5) (ad := ⟨w.heap.size + 1, 0, none⟩) rfl rfl (load_rs _ _ Kc M H9.out.r.1) rfl rfl ?_
  exact ⟨rfl, H9.out.fin⟩
end Go.Proofs.YtecidbdbdnnglaaGreat

/- The document's ledger: Do, a newer request. -/
namespace Go.Proofs.YtecidbdbdnnglaaGreat
open Go.RowKit

theorem MtSt.deed {F0 : List Nat} {w0 w w1 w2 : World} {L : List Nat} {R : World → Prop} {F : List Nat} {g gs gr : Nat} {am an ai : Option Addr} {cm cn ci : Nat} {s : Ls} (h : MtSt F0 w0 w L R F (.pointer (some ⟨g, 0, none⟩)) s) (k : LrA w g gs gr am an ai cm cn ci s) (hF : F = fpR g gs gr am an ai) (c : Nat) (hc : c < 8) (d : De)
    (h1 : w1 = w.setCell ⟨gs, c + 1, none⟩ (.int .i64 (d.1 : Int))) (h2 : w2.heap[gr]? = some (.cells (((rsC2 (reL s.lst)).set ((c + 1) * 2) (.int .i64 d.2.1)).set ((c + 1) * 2 + 1) (.float .f64 d.2.2)).toArray 50 (0, 0))) (ho2 : One gr w1 w2) :
    MtSt F0 w0 w2 L R F (.pointer (some ⟨g, 0, none⟩)) { s with lst := s.lst.set c d } := by
  have ho1 : One gs w w1 := by rw [h1]; exact one_cellR w gs (c + 1) _
  have hz : w.heap.size ≤ w2.heap.size := by rw [ho2.size, ho1.size]; exact Nat.le_refl _
  have m1 : gs ∈ F := by rw [hF]; exact fpR_g.2.1
  have m2 : gr ∈ F := by rw [hF]; exact fpR_g.2.2
  have hb : ∀ b, b ∈ L → w2.heap[b]? = w.heap[b]? := fun b hm => (ho2.block b (fun e => h.ap b hm (e ▸ m2))).trans (ho1.block b (fun e => h.ap b hm (e ▸ m1)))
  exact ⟨⟨g, gs, gr, am, an, ai, cm, cn, ci, rfl, hF, k.deed c hc d h1 h2 ho2⟩, h.sub, one_outR ho2 (one_outR ho1 h.out (h.sub gs m1)) (h.sub gr m2), h.st, fun b hm => Nat.lt_of_lt_of_le (h.lt b hm) hz, h.st _ _ h.r hz hb, h.ap, h.fr⟩
/-- .. while the stamp alone is written. -/
theorem MtSt.half {F0 : List Nat} {w0 w : World} {L : List Nat} {R : World → Prop} {F : List Nat} {g gs gr : Nat} {am an ai : Option Addr} {cm cn ci : Nat} {s : Ls} (h : MtSt F0 w0 w L R F (.pointer (some ⟨g, 0, none⟩)) s) (k : LrA w g gs gr am an ai cm cn ci s) (hF : F = fpR g gs gr am an ai) (p : Nat) (v : Value) :
    R (w.setCell ⟨gs, p, none⟩ v) ∧ (w.setCell ⟨gs, p, none⟩ v).cell? ⟨g, 6, none⟩ = some (.slice (some ⟨gr, 0, none⟩) 9 9) ∧ (w.setCell ⟨gs, p, none⟩ v).heap[gr]? = some (.cells (rsC2 (reL s.lst)).toArray 50 (0, 0)) := by
  have ho := one_cellR w gs p v
  have hz : w.heap.size ≤ (w.setCell ⟨gs, p, none⟩ v).heap.size := Nat.le_of_eq ho.size.symm
  have m1 : gs ∈ F := by rw [hF]; exact fpR_g.2.1
  exact ⟨h.st _ _ h.r hz (fun b hm => ho.block b (fun e => h.ap b hm (e ▸ m1))), (World.cell?_of_block (a := ⟨g, 6, none⟩) (ho.block g k.ne.1)).trans k.c6, (ho.block gr k.ne.2.2.symm).trans k.rs⟩
theorem rsC2_len : ∀ L : List (Int × Nat), (rsC2 L).length = 2 * L.length
  | [] => rfl
  | y :: L => by
    rw [rsC2_cons, List.length_cons, List.length_cons, rsC2_len L, List.length_cons]
    omega
theorem stable_drew {L : List Nat} {R : World → Prop} (h : Stable L R) {w : World} (hr : R w) : R w.drew := h w w.drew hr (Nat.le_refl _) (fun _ _ => rfl)
set_option maxRecDepth 100000 in
set_option maxHeartbeats 6400000 in
theorem wdo_newj {F : List Nat} {w : World} {v : Value} {s : Ls} (h : LmAt F w v s) (hok : LOk s) (r : Rq) (hN : nullB r = false) (hR : rightB r = true) (hF : fullS s = false) (C : Int) (D : Nat) (S2 : Ls) (hC : effC (moreS s) r = C) (hD : effF (moreS s) r = D) (hS : effS (moreS s) r = S2) (T : Int) (hT : ((s.at (clN r)).1 : Int) = T) (Kc : Int) (hKc : (s.at (clN r)).2.1 = Kc) (M : Nat) (hM : (s.at (clN r)).2.2 = M) (hlt : ¬ r.st < T) (hne : ¬ r.st = T) (hst0 : 0 ≤ r.st) (hk : r.k = 6) :
    Calls Tryz.prog 25 #[v, .agg #[.int .i64 r.c, .int .i64 r.st, .int .i64 r.k, .string r.key, .float .f64 r.b, .int .i64 r.id]] w fun e w' => e = .returned (.tuple #[.agg #[.int .i64 C, .float .f64 D], .int .i64 0]) ∧ LmTo F w w' v { S2 with lst := S2.lst.set (clN r) (r.st.toNat, C, D) } := by
  have hst : Stable ([w.heap.size] ++ []) (fun u => RqAt u w.heap.size r ∧ True) := stable_and (stable_rq _ r) stable_true
  have hni : w.heap.size + 1 ∉ ([w.heap.size] ++ []) := by simp
  have H0 := hid (mq_start h r)
  obtain ⟨g, rfl⟩ := h.ptr
  have HSt := hid (And.intro hst hni)
  have hep : s.ep ≤ 1000 := by have := hok.ep; omega
  have hdn : (s.dn : Int) ≤ 244 := by have := hok.hi; have := hok.ep; omega
  have hdn0 : (0 : Int) ≤ (s.dn : Int) := Int.natCast_nonneg _
  have HNl : Hid (∀ u : World, Calls Tryz.prog 67 #[.agg #[.int .i64 r.c, .int .i64 r.st, .int .i64 r.k, .string r.key, .float .f64 r.b, .int .i64 r.id]] u fun e w' => e = .returned (.bool (nullB r)) ∧ Below u.heap.size u w') := hid (fun u => qnull_any r u)
  have HRg : Hid (∀ u : World, Calls Tryz.prog 68 #[.agg #[.int .i64 r.c, .int .i64 r.st, .int .i64 r.k, .string r.key, .float .f64 r.b, .int .i64 r.id]] u fun e w' => e = .returned (.bool (rightB r)) ∧ Below u.heap.size u w') := hid (fun u => qright_any r u)
  have HFl : Hid (∀ (u : World) (G : List Nat), LmAt G u (.pointer (some ⟨g, 0, none⟩)) s → Calls Tryz.prog 30 #[.pointer (some ⟨g, 0, none⟩)] u fun e w' => e = .returned (.bool (fullS s)) ∧ Below u.heap.size u w') := hid (fun u G hu => wfullT hu hep)
  obtain ⟨hc8, hcc⟩ := cl_lt hR
  obtain ⟨p, ep⟩ : ∃ p : Nat, p = clN r + 1 := ⟨_, rfl⟩
  have HY0 : Hid (some (Value.int .i64 r.c) = some (.int .i64 (p : Int))) := hid (by rw [show r.c = (p : Int) by omega])
  have hp9 : (p : Int) < 9 := by omega
  have hp0 : (0 : Int) ≤ (p : Int) := Int.natCast_nonneg _
  have HCs : Hid (∀ (u : World) (G : List Nat), LmAt G u (.pointer (some ⟨g, 0, none⟩)) (moreS s) → ∃ gs gr, u.cell? ⟨g, 5, none⟩ = some (.slice (some ⟨gs, 0, none⟩) 9 9) ∧ u.cell? ⟨gs, p, none⟩ = some (.int .i64 T) ∧ u.cell? ⟨g, 6, none⟩ = some (.slice (some ⟨gr, 0, none⟩) 9 9) ∧ u.cell? ⟨gr, p * 2, none⟩ = some (.int .i64 Kc) ∧ u.cell? ⟨gr, p * 2 + 1, none⟩ = some (.float .f64 M)) := hid (fun u G hu => by
    obtain ⟨g', gs, gr, am, an, ai, cm, cn, ci, hv, _, k⟩ := hu
    cases hv
    have k1 := k.cs (clN r) hc8
    obtain ⟨k2, k3⟩ := k.cr (clN r) hc8
    rw [← ep, more_at] at k1 k2 k3
    rw [hT] at k1
    rw [hKc] at k2
    rw [hM] at k3
    exact ⟨gs, gr, k.c5, k1, k.c6, k2, k3⟩)
  have HMv : Hid (∀ (u : World) (G : List Nat), LmAt G u (.pointer (some ⟨g, 0, none⟩)) (moreS s) → Calls Tryz.prog 69 #[.pointer (some ⟨g, 0, none⟩), .agg #[.int .i64 6, .string r.key, .float .f64 r.b, .int .i64 r.id]] u fun e w' => e = .returned (.agg #[.int .i64 C, .float .f64 D]) ∧ LmTo G u w' (.pointer (some ⟨g, 0, none⟩)) S2) := hid (fun u G hu => by
    have := wmoved_any hu (more_ok hok hF) r hR (by rw [isMov, hk]; decide)
    rw [hC, hD, hS] at this
    rw [hk] at this
    exact this)
  have HY2 : Hid (some (Value.int .i64 r.k) = some (.int .i64 6)) := hid (by rw [hk])
  have HCl := hid (And.intro hc8 ep)
  rw [hN] at HNl
  rw [hR] at HRg
  rw [hF] at HFl
  clear h hst hni hok hN hR hep hF hT hKc hM hc8 hcc ep hC hD hS hk
  obtain ⟨⟨y0, y1⟩, y2, y3, y4, y5⟩ := H0.out.r.2.1.cells
  go_enter Tryz.func25, Tryz.ntmps25
  go_wp2_with (first
    | (go_at_call 30; have := H2; refine (HFl.out _ _ H2.out.ld).mono ?_; rintro e w3 ⟨rfl, hq⟩; have H3 := hid (H2.out.keep hq); clear hq; clear y0 y1 y2 y3 y4 y5; obtain ⟨⟨y0, y1⟩, y2, y3, y4, y5⟩ := H3.out.r.2.1.cells; obtain ⟨c3, f3⟩ := H3.out.ld.c3; have H4 := hid H3.out.more)
    | (go_at_call 68; have := H1; refine (HRg.out _).mono ?_; rintro e w2 ⟨rfl, hq⟩; have H2 := hid (H1.out.keep hq); clear hq; clear y0 y1 y2 y3 y4 y5; obtain ⟨⟨y0, y1⟩, y2, y3, y4, y5⟩ := H2.out.r.2.1.cells)
    | (go_at_call 67; have := H0; refine (HNl.out _).mono ?_; rintro e w1 ⟨rfl, hq⟩; have H1 := hid (H0.out.keep hq); clear hq; clear y0 y1 y2 y3 y4 y5; obtain ⟨⟨y0, y1⟩, y2, y3, y4, y5⟩ := H1.out.r.2.1.cells))
  clear y0 y1 y2 y3 y4 y5 c3 f3
  obtain ⟨W4, eW⟩ : ∃ u, u = w3.setCell ⟨g, 3, none⟩ (.int .i64 ((s.dn : Int) + 1)) := ⟨_, rfl⟩
  rw [← eW] at H4 ⊢
  clear eW
  obtain ⟨⟨y0, y1⟩, y2, y3, y4, y5⟩ := H4.out.r.2.1.cells
  replace y0 := y0.trans HY0.out
  obtain ⟨gs, gr, x5, xs, x6, xr0, xr1⟩ := HCs.out _ _ H4.out.ld
  clear y0 y1 y2 y3 y4 y5
  have H5 := hid H4.out.drew
  refine wp_region_G (S := fun ww => RqAt ww w.heap.size r ∧ ww.cell? ⟨g, 5, none⟩ = some (.slice (some ⟨gs, 0, none⟩) 9 9) ∧ ww.cell? ⟨gs, p, none⟩ = some (.int .i64 T)) (ex := []) (by kernel_rfl) ?_
  try (change wpAnyG _ _ _ _ _ _ _ _ _ (World.drew _))
  refine wpAnyG_take (i := 0) (v := ?v1) rfl (by kernel_rfl) (fun _ _ _ h => h) (Or.inl ⟨by rfl, ?hy1⟩) ⟨H5.out.r.2.1, x5, xs⟩ ?rest1
  case hy1 => (intro ww _; go_simp; try with_reducible rfl)
  go_simp
  refine wpAnyG_take (i := 1) (v := ?v2) rfl (by kernel_rfl) (fun _ _ _ h => h) (Or.inl ⟨by rfl, ?hy2⟩) ⟨H5.out.r.2.1, x5, xs⟩ ?rest2
  case hy2 => (intro ww hS; obtain ⟨⟨⟨y0, y1⟩, y2, y3, y4, y5⟩, x5, xs⟩ := And.intro (RqAt.cells hS.1) hS.2; replace y0 := y0.trans HY0.out; go_simp; try with_reducible rfl)
  go_simp
  refine wpAnyG_take (i := 2) (v := ?v3) rfl (by kernel_rfl) (fun _ _ _ h => h) (Or.inl ⟨by rfl, ?hy3⟩) ⟨H5.out.r.2.1, x5, xs⟩ ?rest3
  case hy3 => (intro ww _; go_simp; try with_reducible rfl)
  go_simp
  refine wpAnyG_take (i := 3) (v := ?v4) rfl (by kernel_rfl) (fun _ _ _ h => h) (Or.inl ⟨by rfl, ?hy4⟩) ⟨H5.out.r.2.1, x5, xs⟩ ?rest4
  case hy4 => (intro ww _; go_simp; try with_reducible rfl)
  go_simp
  refine wpAnyG_take (i := 4) (v := ?v5) rfl (by kernel_rfl) (fun _ _ _ h => h) (Or.inl ⟨by rfl, ?hy5⟩) ⟨H5.out.r.2.1, x5, xs⟩ ?rest5
  case hy5 => (intro ww _; go_simp; try with_reducible rfl)
  go_simp
  refine wpAnyG_take (i := 5) (v := ?v6) rfl (by kernel_rfl) (fun _ _ _ h => h) (Or.inl ⟨by rfl, ?hy6⟩) ⟨H5.out.r.2.1, x5, xs⟩ ?rest6
  case hy6 => (intro ww hS; obtain ⟨⟨⟨y0, y1⟩, y2, y3, y4, y5⟩, x5, xs⟩ := And.intro (RqAt.cells hS.1) hS.2; replace y0 := y0.trans HY0.out; go_simp; try with_reducible rfl)
  go_simp
  refine wpAnyG_take (i := 6) (v := ?v7) rfl (by kernel_rfl) (fun _ _ _ h => h) (Or.inl ⟨by rfl, ?hy7⟩) ⟨H5.out.r.2.1, x5, xs⟩ ?rest7
  case hy7 => (intro ww _; go_simp; try with_reducible rfl)
  go_simp
  refine wpAnyG_take (i := 7) (v := ?v8) rfl (by kernel_rfl) (fun _ _ _ h => h) (Or.inl ⟨by rfl, ?hy8⟩) ⟨H5.out.r.2.1, x5, xs⟩ ?rest8
  case hy8 => (intro ww hS; obtain ⟨⟨⟨y0, y1⟩, y2, y3, y4, y5⟩, x5, xs⟩ := And.intro (RqAt.cells hS.1) hS.2; replace y0 := y0.trans HY0.out; go_simp; try with_reducible rfl)
  go_simp
  refine wpAnyG_take (i := 8) (v := ?v9) rfl (by kernel_rfl) (fun _ _ _ h => h) (Or.inl ⟨by rfl, ?hy9⟩) ⟨H5.out.r.2.1, x5, xs⟩ ?rest9
  case hy9 => (intro ww _; go_simp; try with_reducible rfl)
  go_simp
  refine wpAnyG_take (i := 9) (v := ?v10) rfl (by kernel_rfl) (fun _ _ _ h => h) (Or.inl ⟨by rfl, ?hy10⟩) ⟨H5.out.r.2.1, x5, xs⟩ ?rest10
  case hy10 => (intro ww hS; obtain ⟨⟨⟨y0, y1⟩, y2, y3, y4, y5⟩, x5, xs⟩ := And.intro (RqAt.cells hS.1) hS.2; replace y0 := y0.trans HY0.out; go_simp; try with_reducible rfl)
  go_simp
  refine wpAnyG_take (i := 10) (v := ?v11) rfl (by kernel_rfl) (fun _ _ _ h => h) (Or.inl ⟨by rfl, ?hy11⟩) ⟨H5.out.r.2.1, x5, xs⟩ ?rest11
  case hy11 => (intro ww _; go_simp; try with_reducible rfl)
  go_simp
  refine wpAnyG_done (by kernel_rfl) ?_ _
  go_simp
  go_wp2
  have H6 := hid H5.out.drew
  refine wp_region_G (S := fun ww => RqAt ww w.heap.size r ∧ ww.cell? ⟨g, 5, none⟩ = some (.slice (some ⟨gs, 0, none⟩) 9 9) ∧ ww.cell? ⟨gs, p, none⟩ = some (.int .i64 T)) (ex := []) (by kernel_rfl) ?_
  try (change wpAnyG _ _ _ _ _ _ _ _ _ (World.drew _))
  refine wpAnyG_take (i := 0) (v := ?v12) rfl (by kernel_rfl) (fun _ _ _ h => h) (Or.inl ⟨by rfl, ?hy12⟩) ⟨H6.out.r.2.1, x5, xs⟩ ?rest12
  case hy12 => (intro ww _; go_simp; try with_reducible rfl)
  go_simp
  refine wpAnyG_take (i := 1) (v := ?v13) rfl (by kernel_rfl) (fun _ _ _ h => h) (Or.inl ⟨by rfl, ?hy13⟩) ⟨H6.out.r.2.1, x5, xs⟩ ?rest13
  case hy13 => (intro ww hS; obtain ⟨⟨⟨y0, y1⟩, y2, y3, y4, y5⟩, x5, xs⟩ := And.intro (RqAt.cells hS.1) hS.2; replace y0 := y0.trans HY0.out; go_simp; try with_reducible rfl)
  go_simp
  refine wpAnyG_take (i := 2) (v := ?v14) rfl (by kernel_rfl) (fun _ _ _ h => h) (Or.inl ⟨by rfl, ?hy14⟩) ⟨H6.out.r.2.1, x5, xs⟩ ?rest14
  case hy14 => (intro ww _; go_simp; try with_reducible rfl)
  go_simp
  refine wpAnyG_take (i := 3) (v := ?v15) rfl (by kernel_rfl) (fun _ _ _ h => h) (Or.inl ⟨by rfl, ?hy15⟩) ⟨H6.out.r.2.1, x5, xs⟩ ?rest15
  case hy15 => (intro ww _; go_simp; try with_reducible rfl)
  go_simp
  refine wpAnyG_take (i := 4) (v := ?v16) rfl (by kernel_rfl) (fun _ _ _ h => h) (Or.inl ⟨by rfl, ?hy16⟩) ⟨H6.out.r.2.1, x5, xs⟩ ?rest16
  case hy16 => (intro ww _; go_simp; try with_reducible rfl)
  go_simp
  refine wpAnyG_take (i := 5) (v := ?v17) rfl (by kernel_rfl) (fun _ _ _ h => h) (Or.inl ⟨by rfl, ?hy17⟩) ⟨H6.out.r.2.1, x5, xs⟩ ?rest17
  case hy17 => (intro ww hS; obtain ⟨⟨⟨y0, y1⟩, y2, y3, y4, y5⟩, x5, xs⟩ := And.intro (RqAt.cells hS.1) hS.2; replace y0 := y0.trans HY0.out; go_simp; try with_reducible rfl)
  go_simp
  refine wpAnyG_take (i := 6) (v := ?v18) rfl (by kernel_rfl) (fun _ _ _ h => h) (Or.inl ⟨by rfl, ?hy18⟩) ⟨H6.out.r.2.1, x5, xs⟩ ?rest18
  case hy18 => (intro ww _; go_simp; try with_reducible rfl)
  go_simp
  refine wpAnyG_take (i := 7) (v := ?v19) rfl (by kernel_rfl) (fun _ _ _ h => h) (Or.inl ⟨by rfl, ?hy19⟩) ⟨H6.out.r.2.1, x5, xs⟩ ?rest19
  case hy19 => (intro ww hS; obtain ⟨⟨⟨y0, y1⟩, y2, y3, y4, y5⟩, x5, xs⟩ := And.intro (RqAt.cells hS.1) hS.2; replace y0 := y0.trans HY0.out; go_simp; try with_reducible rfl)
  go_simp
  refine wpAnyG_take (i := 8) (v := ?v20) rfl (by kernel_rfl) (fun _ _ _ h => h) (Or.inl ⟨by rfl, ?hy20⟩) ⟨H6.out.r.2.1, x5, xs⟩ ?rest20
  case hy20 => (intro ww _; go_simp; try with_reducible rfl)
  go_simp
  refine wpAnyG_take (i := 9) (v := ?v21) rfl (by kernel_rfl) (fun _ _ _ h => h) (Or.inl ⟨by rfl, ?hy21⟩) ⟨H6.out.r.2.1, x5, xs⟩ ?rest21
  case hy21 => (intro ww hS; obtain ⟨⟨⟨y0, y1⟩, y2, y3, y4, y5⟩, x5, xs⟩ := And.intro (RqAt.cells hS.1) hS.2; replace y0 := y0.trans HY0.out; go_simp; try with_reducible rfl)
  go_simp
  refine wpAnyG_take (i := 10) (v := ?v22) rfl (by kernel_rfl) (fun _ _ _ h => h) (Or.inl ⟨by rfl, ?hy22⟩) ⟨H6.out.r.2.1, x5, xs⟩ ?rest22
  case hy22 => (intro ww _; go_simp; try with_reducible rfl)
  go_simp
  refine wpAnyG_done (by kernel_rfl) ?_ _
  go_simp
  obtain ⟨W6, e6⟩ : ∃ u, u = W4.drew.drew := ⟨_, rfl⟩
  rw [← e6] at H6 ⊢
  clear e6 x5 xs x6 xr0 xr1
  obtain ⟨⟨y0, y1⟩, y2, y3, y4, y5⟩ := H6.out.r.2.1.cells
  replace y2 := y2.trans HY2.out
  have HB7 : Hid (W6.heap.size ∉ ([w.heap.size + 1] ++ ([w.heap.size] ++ []))) := hid (fun hm => Nat.lt_irrefl _ (H6.out.lt _ hm))
  have HSt7 : Hid (Stable ([w.heap.size + 1] ++ ([w.heap.size] ++ [])) (fun u => RsAt u (w.heap.size + 1) 0 0 ∧ (RqAt u w.heap.size r ∧ True))) := hid (stable_and (stable_rs _ 0 0) HSt.out.1)
  go_wp2_with (first
    | (have := H8; refine wl_store_rs rfl _ _ rfl W6.heap.size rfl 0 C 0 D rfl H8.out.r.1 ?_; intro w9 Hz; have H9 := hid (H8.out.put HSt7.out HB7.out Hz.out); clear Hz; clear y0 y1 y2 y3 y4 y5; obtain ⟨⟨y0, y1⟩, y2, y3, y4, y5⟩ := H9.out.r.2.2.1.cells; replace y2 := y2.trans HY2.out)
    | (go_at_call 69; refine (HMv.out _ _ H7.out.ld).mono ?_; rintro e w8 ⟨rfl, hq⟩; have HC8 := hid (H7.out.to hq); clear hq; obtain ⟨F8, h8⟩ := HC8.out; have H8 := hid h8; clear h8 HC8; clear y0 y1 y2 y3 y4 y5; obtain ⟨⟨y0, y1⟩, y2, y3, y4, y5⟩ := H8.out.r.2.2.1.cells; replace y2 := y2.trans HY2.out)
    | (have := H6; refine wl_store_rs rfl _ _ rfl W6.heap.size rfl 0 0 0 0 rfl (heap_alloc_last W6 _) ?_; intro w7 Hz; have H7 := hid (H6.out.fresh (Hz.out.2.below ((Below.refl W6.heap.size W6).alloc (Nat.le_refl _) _) (Nat.le_refl _)) (stable_rs _ 0 0) Hz.out.1 (lt_of_blk Hz.out.1)); clear Hz; clear y0 y1 y2 y3 y4 y5; obtain ⟨⟨y0, y1⟩, y2, y3, y4, y5⟩ := H7.out.r.2.2.1.cells; replace y2 := y2.trans HY2.out))
  clear y0 y1 y2 y3 y4 y5
  have H10 := hid H9.out.drew
  obtain ⟨g', gs2, gr2, am, an, ai, cm, cn, ci, hv, hFF, kk⟩ := H10.out.ld
  cases hv
  have HK := hid kk
  have HF8 := hid hFF
  clear kk hFF
  have c5 := HK.out.c5
  have c6 := HK.out.c6
  have cs : w9.drew.cell? ⟨gs2, p, none⟩ = some (.int .i64 ((S2.at (clN r)).1 : Int)) := by rw [HCl.out.2]; exact HK.out.cs _ HCl.out.1
  have fs : w9.drew.frozen? ⟨gs2, p, none⟩ = false := free_at HK.out.st _
  refine wp_region_G (S := fun ww => RqAt ww w.heap.size r ∧ ww.cell? ⟨g, 5, none⟩ = some (.slice (some ⟨gs2, 0, none⟩) 9 9)) (ex := [9]) (by kernel_rfl) ?_
  try (change wpAnyG _ _ _ _ _ _ _ _ _ (World.drew _))
  refine wpAnyG_take (i := 0) (v := ?v23) rfl (by kernel_rfl) (fun _ _ _ h => h) (Or.inl ⟨by rfl, ?hy23⟩) ⟨H10.out.r.2.2.1, c5⟩ ?rest23
  case hy23 => (intro ww _; go_simp; try with_reducible rfl)
  go_simp
  refine wpAnyG_take (i := 1) (v := ?v24) rfl (by kernel_rfl) (fun _ _ _ h => h) (Or.inl ⟨by rfl, ?hy24⟩) ⟨H10.out.r.2.2.1, c5⟩ ?rest24
  case hy24 => (intro ww _; go_simp; try with_reducible rfl)
  go_simp
  refine wpAnyG_take (i := 2) (v := ?v25) rfl (by kernel_rfl) (fun _ _ _ h => h) (Or.inl ⟨by rfl, ?hy25⟩) ⟨H10.out.r.2.2.1, c5⟩ ?rest25
  case hy25 => (intro ww _; go_simp; try with_reducible rfl)
  go_simp
  refine wpAnyG_take (i := 3) (v := ?v26) rfl (by kernel_rfl) (fun _ _ _ h => h) (Or.inl ⟨by rfl, ?hy26⟩) ⟨H10.out.r.2.2.1, c5⟩ ?rest26
  case hy26 => (intro ww hS; obtain ⟨⟨⟨y0, y1⟩, y2, y3, y4, y5⟩, x5⟩ := And.intro (RqAt.cells hS.1) hS.2; replace y0 := y0.trans HY0.out; go_simp; try with_reducible rfl)
  go_simp
  refine wpAnyG_take (i := 4) (v := ?v27) rfl (by kernel_rfl) (fun _ _ _ h => h) (Or.inl ⟨by rfl, ?hy27⟩) ⟨H10.out.r.2.2.1, c5⟩ ?rest27
  case hy27 => (intro ww _; go_simp; try with_reducible rfl)
  go_simp
  refine wpAnyG_take (i := 5) (v := ?v28) rfl (by kernel_rfl) (fun _ _ _ h => h) (Or.inl ⟨by rfl, ?hy28⟩) ⟨H10.out.r.2.2.1, c5⟩ ?rest28
  case hy28 => (intro ww hS; obtain ⟨⟨⟨y0, y1⟩, y2, y3, y4, y5⟩, x5⟩ := And.intro (RqAt.cells hS.1) hS.2; replace y0 := y0.trans HY0.out; go_simp; try with_reducible rfl)
  go_simp
  refine wpAnyG_take (i := 6) (v := ?v29) rfl (by kernel_rfl) (fun _ _ _ h => h) (Or.inl ⟨by rfl, ?hy29⟩) ⟨H10.out.r.2.2.1, c5⟩ ?rest29
  case hy29 => (intro ww _; go_simp; try with_reducible rfl)
  go_simp
  refine wpAnyG_take (i := 7) (v := ?v30) rfl (by kernel_rfl) (fun _ _ _ h => h) (Or.inl ⟨by rfl, ?hy30⟩) ⟨H10.out.r.2.2.1, c5⟩ ?rest30
  case hy30 => (intro ww hS; obtain ⟨⟨⟨y0, y1⟩, y2, y3, y4, y5⟩, x5⟩ := And.intro (RqAt.cells hS.1) hS.2; replace y0 := y0.trans HY0.out; go_simp; try with_reducible rfl)
  go_simp
  refine wpAnyG_take (i := 8) (v := ?v31) rfl (by kernel_rfl) (fun _ _ _ h => h) (Or.inl ⟨by rfl, ?hy31⟩) ⟨H10.out.r.2.2.1, c5⟩ ?rest31
  case hy31 => (intro ww _; go_simp; try with_reducible rfl)
  go_simp
  refine wpAnyG_all (rs := [9]) (by kernel_rfl) (by simp) ?_
  intro i hi
  obtain rfl := List.mem_singleton.1 hi
  clear hi
  refine wpOp_d rfl (by rfl) (fun K hK => ?_)
  go_simp
  refine hK _ _ ⟨fun h => absurd (by simp) h, ?_⟩
  clear hK K
  go_simp
  refine wpAnyG_done (by kernel_rfl) ?_ _
  go_simp
  go_wp2
  obtain ⟨W11, e11⟩ : ∃ u, u = (w9.setCell ⟨gs2, p, none⟩ (.int .i64 r.st)).drew := ⟨_, rfl⟩
  have e12 : W11 = w9.drew.setCell ⟨gs2, p, none⟩ (.int .i64 r.st) := e11.trans rfl
  have HH := hid (H10.out.half HK.out HF8.out p (.int .i64 r.st))
  rw [← e11]
  rw [← e12] at HH
  have HE := hid e12
  clear e11 e12 c5 c6 cs fs
  have HR := hid (stable_drew H10.out.st HH.out.1)
  have c6 : W11.drew.cell? ⟨g, 6, none⟩ = some (.slice (some ⟨gr2, 0, none⟩) 9 9) := HH.out.2.1
  refine wp_region_G (S := fun ww => RqAt ww w.heap.size r ∧ ww.cell? ⟨g, 6, none⟩ = some (.slice (some ⟨gr2, 0, none⟩) 9 9) ∧ RsAt ww W6.heap.size C D) (ex := [8]) (by kernel_rfl) ?_
  try (change wpAnyG _ _ _ _ _ _ _ _ _ (World.drew _))
  refine wpAnyG_take (i := 0) (v := ?v32) rfl (by kernel_rfl) (fun _ _ _ h => h) (Or.inl ⟨by rfl, ?hy32⟩) ⟨HR.out.2.2.1, c6, HR.out.1⟩ ?rest32
  case hy32 => (intro ww _; go_simp; try with_reducible rfl)
  go_simp
  refine wpAnyG_take (i := 1) (v := ?v33) rfl (by kernel_rfl) (fun _ _ _ h => h) (Or.inl ⟨by rfl, ?hy33⟩) ⟨HR.out.2.2.1, c6, HR.out.1⟩ ?rest33
  case hy33 => (intro ww _; go_simp; try with_reducible rfl)
  go_simp
  refine wpAnyG_take (i := 2) (v := ?v34) rfl (by kernel_rfl) (fun _ _ _ h => h) (Or.inl ⟨by rfl, ?hy34⟩) ⟨HR.out.2.2.1, c6, HR.out.1⟩ ?rest34
  case hy34 => (intro ww _; go_simp; try with_reducible rfl)
  go_simp
  refine wpAnyG_take (i := 3) (v := ?v35) rfl (by kernel_rfl) (fun _ _ _ h => h) (Or.inl ⟨by rfl, ?hy35⟩) ⟨HR.out.2.2.1, c6, HR.out.1⟩ ?rest35
  case hy35 => (intro ww hS; obtain ⟨⟨⟨y0, y1⟩, y2, y3, y4, y5⟩, x6, z0, z1⟩ := And.intro (RqAt.cells hS.1) (And.intro hS.2.1 hS.2.2.cells); replace y0 := y0.trans HY0.out; go_simp; try with_reducible rfl)
  go_simp
  refine wpAnyG_take (i := 4) (v := ?v36) rfl (by kernel_rfl) (fun _ _ _ h => h) (Or.inl ⟨by rfl, ?hy36⟩) ⟨HR.out.2.2.1, c6, HR.out.1⟩ ?rest36
  case hy36 => (intro ww _; go_simp; try with_reducible rfl)
  go_simp
  refine wpAnyG_take (i := 5) (v := ?v37) rfl (by kernel_rfl) (fun _ _ _ h => h) (Or.inl ⟨by rfl, ?hy37⟩) ⟨HR.out.2.2.1, c6, HR.out.1⟩ ?rest37
  case hy37 => (intro ww hS; obtain ⟨⟨⟨y0, y1⟩, y2, y3, y4, y5⟩, x6, z0, z1⟩ := And.intro (RqAt.cells hS.1) (And.intro hS.2.1 hS.2.2.cells); replace y0 := y0.trans HY0.out; go_simp; try with_reducible rfl)
  go_simp
  refine wpAnyG_take (i := 6) (v := ?v38) rfl (by kernel_rfl) (fun _ _ _ h => h) (Or.inl ⟨by rfl, ?hy38⟩) ⟨HR.out.2.2.1, c6, HR.out.1⟩ ?rest38
  case hy38 => (intro ww hS; obtain ⟨⟨⟨y0, y1⟩, y2, y3, y4, y5⟩, x6, z0, z1⟩ := And.intro (RqAt.cells hS.1) (And.intro hS.2.1 hS.2.2.cells); replace y0 := y0.trans HY0.out; go_simp; try with_reducible rfl)
  go_simp
  refine wpAnyG_take (i := 7) (v := ?v39) rfl (by kernel_rfl) (fun _ _ _ h => h) (Or.inl ⟨by rfl, ?hy39⟩) ⟨HR.out.2.2.1, c6, HR.out.1⟩ ?rest39
  case hy39 => (intro ww _; go_simp; try with_reducible rfl)
  go_simp
  refine wpAnyG_all (rs := [8]) (by kernel_rfl) (by simp) ?_
  intro i hi
  obtain rfl := List.mem_singleton.1 hi
  clear hi
  refine wpOp_d rfl (by rfl) (fun K hK => ?_)
  refine owp_store_blk 50 _ _ rfl gr2 (p * 2) (by rfl) #[.int .i64 C, .float .f64 D] (by rfl) _ _ (show W11.drew.heap[gr2]? = some (.cells (rsC2 (reL S2.lst)).toArray 50 (0, 0)) from HH.out.2.2) (by rw [rsC2_len, reL, List.length_cons, List.length_map, HK.out.len]; simp; have := HCl.out; omega) (by kernel_rfl) (by simp [Value.oneCell']) ?_
  intro w12 Hz
  have H12 := hid (H10.out.deed HK.out HF8.out (clN r) HCl.out.1 (r.st.toNat, C, D) (by rw [HE.out, HCl.out.2, show ((r.st.toNat : Nat) : Int) = r.st by omega]) (by have := Hz.out.1; rw [HCl.out.2] at this; exact this) (show One gr2 W11 w12 from ⟨Hz.out.2.os, Hz.out.2.tape, Hz.out.2.output, Hz.out.2.size, Hz.out.2.block⟩))
  clear Hz
  refine hK _ _ ⟨fun h => absurd (by simp) h, ?_⟩
  clear hK K
  go_simp
  refine wpAnyG_done (by kernel_rfl) ?_ _
  go_simp
  obtain ⟨z0, z1⟩ := H12.out.r.1.cells
  go_wp2_with (first
    | (have := H12; refine wl_store_rs rfl _ _ rfl (w.heap.size + 1) rfl 0 C 0 D rfl H12.out.r.2.1 ?_; intro w13 Hz; have H13 := hid (mt_last H12.out HSt.out.1 HSt.out.2 (fun e => HB7.out (by rw [← e]; simp)) (fun hm => HB7.out (List.mem_append.2 (.inr hm))) Hz.out); clear Hz))
  refine ret_pair (s := 4) (s2 := 5) (ad := ⟨w.heap.size + 1, 0, none⟩) rfl rfl (load_rs _ _ C D H13.out.1) rfl rfl ?_
  exact ⟨rfl, H13.out.2⟩
set_option maxRecDepth 100000 in
set_option maxHeartbeats 6400000 in
theorem wdo_newl {F : List Nat} {w : World} {v : Value} {s : Ls} (h : LmAt F w v s) (hok : LOk s) (r : Rq) (hN : nullB r = false) (hR : rightB r = true) (hF : fullS s = false) (C : Int) (D : Nat) (S2 : Ls) (hC : effC (moreS s) r = C) (hD : effF (moreS s) r = D) (hS : effS (moreS s) r = S2) (T : Int) (hT : ((s.at (clN r)).1 : Int) = T) (Kc : Int) (hKc : (s.at (clN r)).2.1 = Kc) (M : Nat) (hM : (s.at (clN r)).2.2 = M) (hlt : ¬ r.st < T) (hne : ¬ r.st = T) (hst0 : 0 ≤ r.st) (hk : r.k = 7) :
    Calls Tryz.prog 25 #[v, .agg #[.int .i64 r.c, .int .i64 r.st, .int .i64 r.k, .string r.key, .float .f64 r.b, .int .i64 r.id]] w fun e w' => e = .returned (.tuple #[.agg #[.int .i64 C, .float .f64 D], .int .i64 0]) ∧ LmTo F w w' v { S2 with lst := S2.lst.set (clN r) (r.st.toNat, C, D) } := by
  have hst : Stable ([w.heap.size] ++ []) (fun u => RqAt u w.heap.size r ∧ True) := stable_and (stable_rq _ r) stable_true
  have hni : w.heap.size + 1 ∉ ([w.heap.size] ++ []) := by simp
  have H0 := hid (mq_start h r)
  obtain ⟨g, rfl⟩ := h.ptr
  have HSt := hid (And.intro hst hni)
  have hep : s.ep ≤ 1000 := by have := hok.ep; omega
  have hdn : (s.dn : Int) ≤ 244 := by have := hok.hi; have := hok.ep; omega
  have hdn0 : (0 : Int) ≤ (s.dn : Int) := Int.natCast_nonneg _
  have HNl : Hid (∀ u : World, Calls Tryz.prog 67 #[.agg #[.int .i64 r.c, .int .i64 r.st, .int .i64 r.k, .string r.key, .float .f64 r.b, .int .i64 r.id]] u fun e w' => e = .returned (.bool (nullB r)) ∧ Below u.heap.size u w') := hid (fun u => qnull_any r u)
  have HRg : Hid (∀ u : World, Calls Tryz.prog 68 #[.agg #[.int .i64 r.c, .int .i64 r.st, .int .i64 r.k, .string r.key, .float .f64 r.b, .int .i64 r.id]] u fun e w' => e = .returned (.bool (rightB r)) ∧ Below u.heap.size u w') := hid (fun u => qright_any r u)
  have HFl : Hid (∀ (u : World) (G : List Nat), LmAt G u (.pointer (some ⟨g, 0, none⟩)) s → Calls Tryz.prog 30 #[.pointer (some ⟨g, 0, none⟩)] u fun e w' => e = .returned (.bool (fullS s)) ∧ Below u.heap.size u w') := hid (fun u G hu => wfullT hu hep)
  obtain ⟨hc8, hcc⟩ := cl_lt hR
  obtain ⟨p, ep⟩ : ∃ p : Nat, p = clN r + 1 := ⟨_, rfl⟩
  have HY0 : Hid (some (Value.int .i64 r.c) = some (.int .i64 (p : Int))) := hid (by rw [show r.c = (p : Int) by omega])
  have hp9 : (p : Int) < 9 := by omega
  have hp0 : (0 : Int) ≤ (p : Int) := Int.natCast_nonneg _
  have HCs : Hid (∀ (u : World) (G : List Nat), LmAt G u (.pointer (some ⟨g, 0, none⟩)) (moreS s) → ∃ gs gr, u.cell? ⟨g, 5, none⟩ = some (.slice (some ⟨gs, 0, none⟩) 9 9) ∧ u.cell? ⟨gs, p, none⟩ = some (.int .i64 T) ∧ u.cell? ⟨g, 6, none⟩ = some (.slice (some ⟨gr, 0, none⟩) 9 9) ∧ u.cell? ⟨gr, p * 2, none⟩ = some (.int .i64 Kc) ∧ u.cell? ⟨gr, p * 2 + 1, none⟩ = some (.float .f64 M)) := hid (fun u G hu => by
    obtain ⟨g', gs, gr, am, an, ai, cm, cn, ci, hv, _, k⟩ := hu
    cases hv
    have k1 := k.cs (clN r) hc8
    obtain ⟨k2, k3⟩ := k.cr (clN r) hc8
    rw [← ep, more_at] at k1 k2 k3
    rw [hT] at k1
    rw [hKc] at k2
    rw [hM] at k3
    exact ⟨gs, gr, k.c5, k1, k.c6, k2, k3⟩)
  have HMv : Hid (∀ (u : World) (G : List Nat), LmAt G u (.pointer (some ⟨g, 0, none⟩)) (moreS s) → Calls Tryz.prog 69 #[.pointer (some ⟨g, 0, none⟩), .agg #[.int .i64 7, .string r.key, .float .f64 r.b, .int .i64 r.id]] u fun e w' => e = .returned (.agg #[.int .i64 C, .float .f64 D]) ∧ LmTo G u w' (.pointer (some ⟨g, 0, none⟩)) S2) := hid (fun u G hu => by
    have := wmoved_any hu (more_ok hok hF) r hR (by rw [isMov, hk]; decide)
    rw [hC, hD, hS] at this
    rw [hk] at this
    exact this)
  have HY2 : Hid (some (Value.int .i64 r.k) = some (.int .i64 7)) := hid (by rw [hk])
  have HCl := hid (And.intro hc8 ep)
  rw [hN] at HNl
  rw [hR] at HRg
  rw [hF] at HFl
  clear h hst hni hok hN hR hep hF hT hKc hM hc8 hcc ep hC hD hS hk
  obtain ⟨⟨y0, y1⟩, y2, y3, y4, y5⟩ := H0.out.r.2.1.cells
  go_enter Tryz.func25, Tryz.ntmps25
  go_wp2_with (first
    | (go_at_call 30; have := H2; refine (HFl.out _ _ H2.out.ld).mono ?_; rintro e w3 ⟨rfl, hq⟩; have H3 := hid (H2.out.keep hq); clear hq; clear y0 y1 y2 y3 y4 y5; obtain ⟨⟨y0, y1⟩, y2, y3, y4, y5⟩ := H3.out.r.2.1.cells; obtain ⟨c3, f3⟩ := H3.out.ld.c3; have H4 := hid H3.out.more)
    | (go_at_call 68; have := H1; refine (HRg.out _).mono ?_; rintro e w2 ⟨rfl, hq⟩; have H2 := hid (H1.out.keep hq); clear hq; clear y0 y1 y2 y3 y4 y5; obtain ⟨⟨y0, y1⟩, y2, y3, y4, y5⟩ := H2.out.r.2.1.cells)
    | (go_at_call 67; have := H0; refine (HNl.out _).mono ?_; rintro e w1 ⟨rfl, hq⟩; have H1 := hid (H0.out.keep hq); clear hq; clear y0 y1 y2 y3 y4 y5; obtain ⟨⟨y0, y1⟩, y2, y3, y4, y5⟩ := H1.out.r.2.1.cells))
  clear y0 y1 y2 y3 y4 y5 c3 f3
  obtain ⟨W4, eW⟩ : ∃ u, u = w3.setCell ⟨g, 3, none⟩ (.int .i64 ((s.dn : Int) + 1)) := ⟨_, rfl⟩
  rw [← eW] at H4 ⊢
  clear eW
  obtain ⟨⟨y0, y1⟩, y2, y3, y4, y5⟩ := H4.out.r.2.1.cells
  replace y0 := y0.trans HY0.out
  obtain ⟨gs, gr, x5, xs, x6, xr0, xr1⟩ := HCs.out _ _ H4.out.ld
  clear y0 y1 y2 y3 y4 y5
  have H5 := hid H4.out.drew
  refine wp_region_G (S := fun ww => RqAt ww w.heap.size r ∧ ww.cell? ⟨g, 5, none⟩ = some (.slice (some ⟨gs, 0, none⟩) 9 9) ∧ ww.cell? ⟨gs, p, none⟩ = some (.int .i64 T)) (ex := []) (by kernel_rfl) ?_
  try (change wpAnyG _ _ _ _ _ _ _ _ _ (World.drew _))
  refine wpAnyG_take (i := 0) (v := ?v1) rfl (by kernel_rfl) (fun _ _ _ h => h) (Or.inl ⟨by rfl, ?hy1⟩) ⟨H5.out.r.2.1, x5, xs⟩ ?rest1
  case hy1 => (intro ww _; go_simp; try with_reducible rfl)
  go_simp
  refine wpAnyG_take (i := 1) (v := ?v2) rfl (by kernel_rfl) (fun _ _ _ h => h) (Or.inl ⟨by rfl, ?hy2⟩) ⟨H5.out.r.2.1, x5, xs⟩ ?rest2
  case hy2 => (intro ww hS; obtain ⟨⟨⟨y0, y1⟩, y2, y3, y4, y5⟩, x5, xs⟩ := And.intro (RqAt.cells hS.1) hS.2; replace y0 := y0.trans HY0.out; go_simp; try with_reducible rfl)
  go_simp
  refine wpAnyG_take (i := 2) (v := ?v3) rfl (by kernel_rfl) (fun _ _ _ h => h) (Or.inl ⟨by rfl, ?hy3⟩) ⟨H5.out.r.2.1, x5, xs⟩ ?rest3
  case hy3 => (intro ww _; go_simp; try with_reducible rfl)
  go_simp
  refine wpAnyG_take (i := 3) (v := ?v4) rfl (by kernel_rfl) (fun _ _ _ h => h) (Or.inl ⟨by rfl, ?hy4⟩) ⟨H5.out.r.2.1, x5, xs⟩ ?rest4
  case hy4 => (intro ww _; go_simp; try with_reducible rfl)
  go_simp
  refine wpAnyG_take (i := 4) (v := ?v5) rfl (by kernel_rfl) (fun _ _ _ h => h) (Or.inl ⟨by rfl, ?hy5⟩) ⟨H5.out.r.2.1, x5, xs⟩ ?rest5
  case hy5 => (intro ww _; go_simp; try with_reducible rfl)
  go_simp
  refine wpAnyG_take (i := 5) (v := ?v6) rfl (by kernel_rfl) (fun _ _ _ h => h) (Or.inl ⟨by rfl, ?hy6⟩) ⟨H5.out.r.2.1, x5, xs⟩ ?rest6
  case hy6 => (intro ww hS; obtain ⟨⟨⟨y0, y1⟩, y2, y3, y4, y5⟩, x5, xs⟩ := And.intro (RqAt.cells hS.1) hS.2; replace y0 := y0.trans HY0.out; go_simp; try with_reducible rfl)
  go_simp
  refine wpAnyG_take (i := 6) (v := ?v7) rfl (by kernel_rfl) (fun _ _ _ h => h) (Or.inl ⟨by rfl, ?hy7⟩) ⟨H5.out.r.2.1, x5, xs⟩ ?rest7
  case hy7 => (intro ww _; go_simp; try with_reducible rfl)
  go_simp
  refine wpAnyG_take (i := 7) (v := ?v8) rfl (by kernel_rfl) (fun _ _ _ h => h) (Or.inl ⟨by rfl, ?hy8⟩) ⟨H5.out.r.2.1, x5, xs⟩ ?rest8
  case hy8 => (intro ww hS; obtain ⟨⟨⟨y0, y1⟩, y2, y3, y4, y5⟩, x5, xs⟩ := And.intro (RqAt.cells hS.1) hS.2; replace y0 := y0.trans HY0.out; go_simp; try with_reducible rfl)
  go_simp
  refine wpAnyG_take (i := 8) (v := ?v9) rfl (by kernel_rfl) (fun _ _ _ h => h) (Or.inl ⟨by rfl, ?hy9⟩) ⟨H5.out.r.2.1, x5, xs⟩ ?rest9
  case hy9 => (intro ww _; go_simp; try with_reducible rfl)
  go_simp
  refine wpAnyG_take (i := 9) (v := ?v10) rfl (by kernel_rfl) (fun _ _ _ h => h) (Or.inl ⟨by rfl, ?hy10⟩) ⟨H5.out.r.2.1, x5, xs⟩ ?rest10
  case hy10 => (intro ww hS; obtain ⟨⟨⟨y0, y1⟩, y2, y3, y4, y5⟩, x5, xs⟩ := And.intro (RqAt.cells hS.1) hS.2; replace y0 := y0.trans HY0.out; go_simp; try with_reducible rfl)
  go_simp
  refine wpAnyG_take (i := 10) (v := ?v11) rfl (by kernel_rfl) (fun _ _ _ h => h) (Or.inl ⟨by rfl, ?hy11⟩) ⟨H5.out.r.2.1, x5, xs⟩ ?rest11
  case hy11 => (intro ww _; go_simp; try with_reducible rfl)
  go_simp
  refine wpAnyG_done (by kernel_rfl) ?_ _
  go_simp
  go_wp2
  have H6 := hid H5.out.drew
  refine wp_region_G (S := fun ww => RqAt ww w.heap.size r ∧ ww.cell? ⟨g, 5, none⟩ = some (.slice (some ⟨gs, 0, none⟩) 9 9) ∧ ww.cell? ⟨gs, p, none⟩ = some (.int .i64 T)) (ex := []) (by kernel_rfl) ?_
  try (change wpAnyG _ _ _ _ _ _ _ _ _ (World.drew _))
  refine wpAnyG_take (i := 0) (v := ?v12) rfl (by kernel_rfl) (fun _ _ _ h => h) (Or.inl ⟨by rfl, ?hy12⟩) ⟨H6.out.r.2.1, x5, xs⟩ ?rest12
  case hy12 => (intro ww _; go_simp; try with_reducible rfl)
  go_simp
  refine wpAnyG_take (i := 1) (v := ?v13) rfl (by kernel_rfl) (fun _ _ _ h => h) (Or.inl ⟨by rfl, ?hy13⟩) ⟨H6.out.r.2.1, x5, xs⟩ ?rest13
  case hy13 => (intro ww hS; obtain ⟨⟨⟨y0, y1⟩, y2, y3, y4, y5⟩, x5, xs⟩ := And.intro (RqAt.cells hS.1) hS.2; replace y0 := y0.trans HY0.out; go_simp; try with_reducible rfl)
  go_simp
  refine wpAnyG_take (i := 2) (v := ?v14) rfl (by kernel_rfl) (fun _ _ _ h => h) (Or.inl ⟨by rfl, ?hy14⟩) ⟨H6.out.r.2.1, x5, xs⟩ ?rest14
  case hy14 => (intro ww _; go_simp; try with_reducible rfl)
  go_simp
  refine wpAnyG_take (i := 3) (v := ?v15) rfl (by kernel_rfl) (fun _ _ _ h => h) (Or.inl ⟨by rfl, ?hy15⟩) ⟨H6.out.r.2.1, x5, xs⟩ ?rest15
  case hy15 => (intro ww _; go_simp; try with_reducible rfl)
  go_simp
  refine wpAnyG_take (i := 4) (v := ?v16) rfl (by kernel_rfl) (fun _ _ _ h => h) (Or.inl ⟨by rfl, ?hy16⟩) ⟨H6.out.r.2.1, x5, xs⟩ ?rest16
  case hy16 => (intro ww _; go_simp; try with_reducible rfl)
  go_simp
  refine wpAnyG_take (i := 5) (v := ?v17) rfl (by kernel_rfl) (fun _ _ _ h => h) (Or.inl ⟨by rfl, ?hy17⟩) ⟨H6.out.r.2.1, x5, xs⟩ ?rest17
  case hy17 => (intro ww hS; obtain ⟨⟨⟨y0, y1⟩, y2, y3, y4, y5⟩, x5, xs⟩ := And.intro (RqAt.cells hS.1) hS.2; replace y0 := y0.trans HY0.out; go_simp; try with_reducible rfl)
  go_simp
  refine wpAnyG_take (i := 6) (v := ?v18) rfl (by kernel_rfl) (fun _ _ _ h => h) (Or.inl ⟨by rfl, ?hy18⟩) ⟨H6.out.r.2.1, x5, xs⟩ ?rest18
  case hy18 => (intro ww _; go_simp; try with_reducible rfl)
  go_simp
  refine wpAnyG_take (i := 7) (v := ?v19) rfl (by kernel_rfl) (fun _ _ _ h => h) (Or.inl ⟨by rfl, ?hy19⟩) ⟨H6.out.r.2.1, x5, xs⟩ ?rest19
  case hy19 => (intro ww hS; obtain ⟨⟨⟨y0, y1⟩, y2, y3, y4, y5⟩, x5, xs⟩ := And.intro (RqAt.cells hS.1) hS.2; replace y0 := y0.trans HY0.out; go_simp; try with_reducible rfl)
  go_simp
  refine wpAnyG_take (i := 8) (v := ?v20) rfl (by kernel_rfl) (fun _ _ _ h => h) (Or.inl ⟨by rfl, ?hy20⟩) ⟨H6.out.r.2.1, x5, xs⟩ ?rest20
  case hy20 => (intro ww _; go_simp; try with_reducible rfl)
  go_simp
  refine wpAnyG_take (i := 9) (v := ?v21) rfl (by kernel_rfl) (fun _ _ _ h => h) (Or.inl ⟨by rfl, ?hy21⟩) ⟨H6.out.r.2.1, x5, xs⟩ ?rest21
  case hy21 => (intro ww hS; obtain ⟨⟨⟨y0, y1⟩, y2, y3, y4, y5⟩, x5, xs⟩ := And.intro (RqAt.cells hS.1) hS.2; replace y0 := y0.trans HY0.out; go_simp; try with_reducible rfl)
  go_simp
  refine wpAnyG_take (i := 10) (v := ?v22) rfl (by kernel_rfl) (fun _ _ _ h => h) (Or.inl ⟨by rfl, ?hy22⟩) ⟨H6.out.r.2.1, x5, xs⟩ ?rest22
  case hy22 => (intro ww _; go_simp; try with_reducible rfl)
  go_simp
  refine wpAnyG_done (by kernel_rfl) ?_ _
  go_simp
  obtain ⟨W6, e6⟩ : ∃ u, u = W4.drew.drew := ⟨_, rfl⟩
  rw [← e6] at H6 ⊢
  clear e6 x5 xs x6 xr0 xr1
  obtain ⟨⟨y0, y1⟩, y2, y3, y4, y5⟩ := H6.out.r.2.1.cells
  replace y2 := y2.trans HY2.out
  have HB7 : Hid (W6.heap.size ∉ ([w.heap.size + 1] ++ ([w.heap.size] ++ []))) := hid (fun hm => Nat.lt_irrefl _ (H6.out.lt _ hm))
  have HSt7 : Hid (Stable ([w.heap.size + 1] ++ ([w.heap.size] ++ [])) (fun u => RsAt u (w.heap.size + 1) 0 0 ∧ (RqAt u w.heap.size r ∧ True))) := hid (stable_and (stable_rs _ 0 0) HSt.out.1)
  go_wp2_with (first
    | (have := H8; refine wl_store_rs rfl _ _ rfl W6.heap.size rfl 0 C 0 D rfl H8.out.r.1 ?_; intro w9 Hz; have H9 := hid (H8.out.put HSt7.out HB7.out Hz.out); clear Hz; clear y0 y1 y2 y3 y4 y5; obtain ⟨⟨y0, y1⟩, y2, y3, y4, y5⟩ := H9.out.r.2.2.1.cells; replace y2 := y2.trans HY2.out)
    | (go_at_call 69; refine (HMv.out _ _ H7.out.ld).mono ?_; rintro e w8 ⟨rfl, hq⟩; have HC8 := hid (H7.out.to hq); clear hq; obtain ⟨F8, h8⟩ := HC8.out; have H8 := hid h8; clear h8 HC8; clear y0 y1 y2 y3 y4 y5; obtain ⟨⟨y0, y1⟩, y2, y3, y4, y5⟩ := H8.out.r.2.2.1.cells; replace y2 := y2.trans HY2.out)
    | (have := H6; refine wl_store_rs rfl _ _ rfl W6.heap.size rfl 0 0 0 0 rfl (heap_alloc_last W6 _) ?_; intro w7 Hz; have H7 := hid (H6.out.fresh (Hz.out.2.below ((Below.refl W6.heap.size W6).alloc (Nat.le_refl _) _) (Nat.le_refl _)) (stable_rs _ 0 0) Hz.out.1 (lt_of_blk Hz.out.1)); clear Hz; clear y0 y1 y2 y3 y4 y5; obtain ⟨⟨y0, y1⟩, y2, y3, y4, y5⟩ := H7.out.r.2.2.1.cells; replace y2 := y2.trans HY2.out))
  clear y0 y1 y2 y3 y4 y5
  have H10 := hid H9.out.drew
  obtain ⟨g', gs2, gr2, am, an, ai, cm, cn, ci, hv, hFF, kk⟩ := H10.out.ld
  cases hv
  have HK := hid kk
  have HF8 := hid hFF
  clear kk hFF
  have c5 := HK.out.c5
  have c6 := HK.out.c6
  have cs : w9.drew.cell? ⟨gs2, p, none⟩ = some (.int .i64 ((S2.at (clN r)).1 : Int)) := by rw [HCl.out.2]; exact HK.out.cs _ HCl.out.1
  have fs : w9.drew.frozen? ⟨gs2, p, none⟩ = false := free_at HK.out.st _
  refine wp_region_G (S := fun ww => RqAt ww w.heap.size r ∧ ww.cell? ⟨g, 5, none⟩ = some (.slice (some ⟨gs2, 0, none⟩) 9 9)) (ex := [9]) (by kernel_rfl) ?_
  try (change wpAnyG _ _ _ _ _ _ _ _ _ (World.drew _))
  refine wpAnyG_take (i := 0) (v := ?v23) rfl (by kernel_rfl) (fun _ _ _ h => h) (Or.inl ⟨by rfl, ?hy23⟩) ⟨H10.out.r.2.2.1, c5⟩ ?rest23
  case hy23 => (intro ww _; go_simp; try with_reducible rfl)
  go_simp
  refine wpAnyG_take (i := 1) (v := ?v24) rfl (by kernel_rfl) (fun _ _ _ h => h) (Or.inl ⟨by rfl, ?hy24⟩) ⟨H10.out.r.2.2.1, c5⟩ ?rest24
  case hy24 => (intro ww _; go_simp; try with_reducible rfl)
  go_simp
  refine wpAnyG_take (i := 2) (v := ?v25) rfl (by kernel_rfl) (fun _ _ _ h => h) (Or.inl ⟨by rfl, ?hy25⟩) ⟨H10.out.r.2.2.1, c5⟩ ?rest25
  case hy25 => (intro ww _; go_simp; try with_reducible rfl)
  go_simp
  refine wpAnyG_take (i := 3) (v := ?v26) rfl (by kernel_rfl) (fun _ _ _ h => h) (Or.inl ⟨by rfl, ?hy26⟩) ⟨H10.out.r.2.2.1, c5⟩ ?rest26
  case hy26 => (intro ww hS; obtain ⟨⟨⟨y0, y1⟩, y2, y3, y4, y5⟩, x5⟩ := And.intro (RqAt.cells hS.1) hS.2; replace y0 := y0.trans HY0.out; go_simp; try with_reducible rfl)
  go_simp
  refine wpAnyG_take (i := 4) (v := ?v27) rfl (by kernel_rfl) (fun _ _ _ h => h) (Or.inl ⟨by rfl, ?hy27⟩) ⟨H10.out.r.2.2.1, c5⟩ ?rest27
  case hy27 => (intro ww _; go_simp; try with_reducible rfl)
  go_simp
  refine wpAnyG_take (i := 5) (v := ?v28) rfl (by kernel_rfl) (fun _ _ _ h => h) (Or.inl ⟨by rfl, ?hy28⟩) ⟨H10.out.r.2.2.1, c5⟩ ?rest28
  case hy28 => (intro ww hS; obtain ⟨⟨⟨y0, y1⟩, y2, y3, y4, y5⟩, x5⟩ := And.intro (RqAt.cells hS.1) hS.2; replace y0 := y0.trans HY0.out; go_simp; try with_reducible rfl)
  go_simp
  refine wpAnyG_take (i := 6) (v := ?v29) rfl (by kernel_rfl) (fun _ _ _ h => h) (Or.inl ⟨by rfl, ?hy29⟩) ⟨H10.out.r.2.2.1, c5⟩ ?rest29
  case hy29 => (intro ww _; go_simp; try with_reducible rfl)
  go_simp
  refine wpAnyG_take (i := 7) (v := ?v30) rfl (by kernel_rfl) (fun _ _ _ h => h) (Or.inl ⟨by rfl, ?hy30⟩) ⟨H10.out.r.2.2.1, c5⟩ ?rest30
  case hy30 => (intro ww hS; obtain ⟨⟨⟨y0, y1⟩, y2, y3, y4, y5⟩, x5⟩ := And.intro (RqAt.cells hS.1) hS.2; replace y0 := y0.trans HY0.out; go_simp; try with_reducible rfl)
  go_simp
  refine wpAnyG_take (i := 8) (v := ?v31) rfl (by kernel_rfl) (fun _ _ _ h => h) (Or.inl ⟨by rfl, ?hy31⟩) ⟨H10.out.r.2.2.1, c5⟩ ?rest31
  case hy31 => (intro ww _; go_simp; try with_reducible rfl)
  go_simp
  refine wpAnyG_all (rs := [9]) (by kernel_rfl) (by simp) ?_
  intro i hi
  obtain rfl := List.mem_singleton.1 hi
  clear hi
  refine wpOp_d rfl (by rfl) (fun K hK => ?_)
  go_simp
  refine hK _ _ ⟨fun h => absurd (by simp) h, ?_⟩
  clear hK K
  go_simp
  refine wpAnyG_done (by kernel_rfl) ?_ _
  go_simp
  go_wp2
  obtain ⟨W11, e11⟩ : ∃ u, u = (w9.setCell ⟨gs2, p, none⟩ (.int .i64 r.st)).drew := ⟨_, rfl⟩
  have e12 : W11 = w9.drew.setCell ⟨gs2, p, none⟩ (.int .i64 r.st) := e11.trans rfl
  have HH := hid (H10.out.half HK.out HF8.out p (.int .i64 r.st))
  rw [← e11]
  rw [← e12] at HH
  have HE := hid e12
  clear e11 e12 c5 c6 cs fs
  have HR := hid (stable_drew H10.out.st HH.out.1)
  have c6 : W11.drew.cell? ⟨g, 6, none⟩ = some (.slice (some ⟨gr2, 0, none⟩) 9 9) := HH.out.2.1
  refine wp_region_G (S := fun ww => RqAt ww w.heap.size r ∧ ww.cell? ⟨g, 6, none⟩ = some (.slice (some ⟨gr2, 0, none⟩) 9 9) ∧ RsAt ww W6.heap.size C D) (ex := [8]) (by kernel_rfl) ?_
  try (change wpAnyG _ _ _ _ _ _ _ _ _ (World.drew _))
  refine wpAnyG_take (i := 0) (v := ?v32) rfl (by kernel_rfl) (fun _ _ _ h => h) (Or.inl ⟨by rfl, ?hy32⟩) ⟨HR.out.2.2.1, c6, HR.out.1⟩ ?rest32
  case hy32 => (intro ww _; go_simp; try with_reducible rfl)
  go_simp
  refine wpAnyG_take (i := 1) (v := ?v33) rfl (by kernel_rfl) (fun _ _ _ h => h) (Or.inl ⟨by rfl, ?hy33⟩) ⟨HR.out.2.2.1, c6, HR.out.1⟩ ?rest33
  case hy33 => (intro ww _; go_simp; try with_reducible rfl)
  go_simp
  refine wpAnyG_take (i := 2) (v := ?v34) rfl (by kernel_rfl) (fun _ _ _ h => h) (Or.inl ⟨by rfl, ?hy34⟩) ⟨HR.out.2.2.1, c6, HR.out.1⟩ ?rest34
  case hy34 => (intro ww _; go_simp; try with_reducible rfl)
  go_simp
  refine wpAnyG_take (i := 3) (v := ?v35) rfl (by kernel_rfl) (fun _ _ _ h => h) (Or.inl ⟨by rfl, ?hy35⟩) ⟨HR.out.2.2.1, c6, HR.out.1⟩ ?rest35
  case hy35 => (intro ww hS; obtain ⟨⟨⟨y0, y1⟩, y2, y3, y4, y5⟩, x6, z0, z1⟩ := And.intro (RqAt.cells hS.1) (And.intro hS.2.1 hS.2.2.cells); replace y0 := y0.trans HY0.out; go_simp; try with_reducible rfl)
  go_simp
  refine wpAnyG_take (i := 4) (v := ?v36) rfl (by kernel_rfl) (fun _ _ _ h => h) (Or.inl ⟨by rfl, ?hy36⟩) ⟨HR.out.2.2.1, c6, HR.out.1⟩ ?rest36
  case hy36 => (intro ww _; go_simp; try with_reducible rfl)
  go_simp
  refine wpAnyG_take (i := 5) (v := ?v37) rfl (by kernel_rfl) (fun _ _ _ h => h) (Or.inl ⟨by rfl, ?hy37⟩) ⟨HR.out.2.2.1, c6, HR.out.1⟩ ?rest37
  case hy37 => (intro ww hS; obtain ⟨⟨⟨y0, y1⟩, y2, y3, y4, y5⟩, x6, z0, z1⟩ := And.intro (RqAt.cells hS.1) (And.intro hS.2.1 hS.2.2.cells); replace y0 := y0.trans HY0.out; go_simp; try with_reducible rfl)
  go_simp
  refine wpAnyG_take (i := 6) (v := ?v38) rfl (by kernel_rfl) (fun _ _ _ h => h) (Or.inl ⟨by rfl, ?hy38⟩) ⟨HR.out.2.2.1, c6, HR.out.1⟩ ?rest38
  case hy38 => (intro ww hS; obtain ⟨⟨⟨y0, y1⟩, y2, y3, y4, y5⟩, x6, z0, z1⟩ := And.intro (RqAt.cells hS.1) (And.intro hS.2.1 hS.2.2.cells); replace y0 := y0.trans HY0.out; go_simp; try with_reducible rfl)
  go_simp
  refine wpAnyG_take (i := 7) (v := ?v39) rfl (by kernel_rfl) (fun _ _ _ h => h) (Or.inl ⟨by rfl, ?hy39⟩) ⟨HR.out.2.2.1, c6, HR.out.1⟩ ?rest39
  case hy39 => (intro ww _; go_simp; try with_reducible rfl)
  go_simp
  refine wpAnyG_all (rs := [8]) (by kernel_rfl) (by simp) ?_
  intro i hi
  obtain rfl := List.mem_singleton.1 hi
  clear hi
  refine wpOp_d rfl (by rfl) (fun K hK => ?_)
  refine owp_store_blk 50 _ _ rfl gr2 (p * 2) (by rfl) #[.int .i64 C, .float .f64 D] (by rfl) _ _ (show W11.drew.heap[gr2]? = some (.cells (rsC2 (reL S2.lst)).toArray 50 (0, 0)) from HH.out.2.2) (by rw [rsC2_len, reL, List.length_cons, List.length_map, HK.out.len]; simp; have := HCl.out; omega) (by kernel_rfl) (by simp [Value.oneCell']) ?_
  intro w12 Hz
  have H12 := hid (H10.out.deed HK.out HF8.out (clN r) HCl.out.1 (r.st.toNat, C, D) (by rw [HE.out, HCl.out.2, show ((r.st.toNat : Nat) : Int) = r.st by omega]) (by have := Hz.out.1; rw [HCl.out.2] at this; exact this) (show One gr2 W11 w12 from ⟨Hz.out.2.os, Hz.out.2.tape, Hz.out.2.output, Hz.out.2.size, Hz.out.2.block⟩))
  clear Hz
  refine hK _ _ ⟨fun h => absurd (by simp) h, ?_⟩
  clear hK K
  go_simp
  refine wpAnyG_done (by kernel_rfl) ?_ _
  go_simp
  obtain ⟨z0, z1⟩ := H12.out.r.1.cells
  go_wp2_with (first
    | (have := H12; refine wl_store_rs rfl _ _ rfl (w.heap.size + 1) rfl 0 C 0 D rfl H12.out.r.2.1 ?_; intro w13 Hz; have H13 := hid (mt_last H12.out HSt.out.1 HSt.out.2 (fun e => HB7.out (by rw [← e]; simp)) (fun hm => HB7.out (List.mem_append.2 (.inr hm))) Hz.out); clear Hz))
  refine ret_pair (s := 4) (s2 := 5) (ad := ⟨w.heap.size + 1, 0, none⟩) rfl rfl (load_rs _ _ C D H13.out.1) rfl rfl ?_
  exact ⟨rfl, H13.out.2⟩
set_option maxRecDepth 100000 in
set_option maxHeartbeats 6400000 in
theorem wdo_newk {F : List Nat} {w : World} {v : Value} {s : Ls} (h : LmAt F w v s) (hok : LOk s) (r : Rq) (hN : nullB r = false) (hR : rightB r = true) (hF : fullS s = false) (hb0 : r.b < 18446744073709551616) (C : Int) (D : Nat) (S2 : Ls) (hC : effC (moreS s) r = C) (hD : effF (moreS s) r = D) (hS : effS (moreS s) r = S2) (T : Int) (hT : ((s.at (clN r)).1 : Int) = T) (Kc : Int) (hKc : (s.at (clN r)).2.1 = Kc) (M : Nat) (hM : (s.at (clN r)).2.2 = M) (hlt : ¬ r.st < T) (hne : ¬ r.st = T) (hst0 : 0 ≤ r.st) (hm : isMov r = false) (hk6 : ¬ r.k = 6) (hk7 : ¬ r.k = 7) :
    Calls Tryz.prog 25 #[v, .agg #[.int .i64 r.c, .int .i64 r.st, .int .i64 r.k, .string r.key, .float .f64 r.b, .int .i64 r.id]] w fun e w' => e = .returned (.tuple #[.agg #[.int .i64 C, .float .f64 D], .int .i64 0]) ∧ LmTo F w w' v { S2 with lst := S2.lst.set (clN r) (r.st.toNat, C, D) } := by
  have hst : Stable ([w.heap.size] ++ []) (fun u => RqAt u w.heap.size r ∧ True) := stable_and (stable_rq _ r) stable_true
  have hni : w.heap.size + 1 ∉ ([w.heap.size] ++ []) := by simp
  have H0 := hid (mq_start h r)
  obtain ⟨g, rfl⟩ := h.ptr
  have HSt := hid (And.intro hst hni)
  have hep : s.ep ≤ 1000 := by have := hok.ep; omega
  have hdn : (s.dn : Int) ≤ 244 := by have := hok.hi; have := hok.ep; omega
  have hdn0 : (0 : Int) ≤ (s.dn : Int) := Int.natCast_nonneg _
  have HNl : Hid (∀ u : World, Calls Tryz.prog 67 #[.agg #[.int .i64 r.c, .int .i64 r.st, .int .i64 r.k, .string r.key, .float .f64 r.b, .int .i64 r.id]] u fun e w' => e = .returned (.bool (nullB r)) ∧ Below u.heap.size u w') := hid (fun u => qnull_any r u)
  have HRg : Hid (∀ u : World, Calls Tryz.prog 68 #[.agg #[.int .i64 r.c, .int .i64 r.st, .int .i64 r.k, .string r.key, .float .f64 r.b, .int .i64 r.id]] u fun e w' => e = .returned (.bool (rightB r)) ∧ Below u.heap.size u w') := hid (fun u => qright_any r u)
  have HFl : Hid (∀ (u : World) (G : List Nat), LmAt G u (.pointer (some ⟨g, 0, none⟩)) s → Calls Tryz.prog 30 #[.pointer (some ⟨g, 0, none⟩)] u fun e w' => e = .returned (.bool (fullS s)) ∧ Below u.heap.size u w') := hid (fun u G hu => wfullT hu hep)
  obtain ⟨hc8, hcc⟩ := cl_lt hR
  obtain ⟨p, ep⟩ : ∃ p : Nat, p = clN r + 1 := ⟨_, rfl⟩
  have HY0 : Hid (some (Value.int .i64 r.c) = some (.int .i64 (p : Int))) := hid (by rw [show r.c = (p : Int) by omega])
  have hp9 : (p : Int) < 9 := by omega
  have hp0 : (0 : Int) ≤ (p : Int) := Int.natCast_nonneg _
  have HCs : Hid (∀ (u : World) (G : List Nat), LmAt G u (.pointer (some ⟨g, 0, none⟩)) (moreS s) → ∃ gs gr, u.cell? ⟨g, 5, none⟩ = some (.slice (some ⟨gs, 0, none⟩) 9 9) ∧ u.cell? ⟨gs, p, none⟩ = some (.int .i64 T) ∧ u.cell? ⟨g, 6, none⟩ = some (.slice (some ⟨gr, 0, none⟩) 9 9) ∧ u.cell? ⟨gr, p * 2, none⟩ = some (.int .i64 Kc) ∧ u.cell? ⟨gr, p * 2 + 1, none⟩ = some (.float .f64 M)) := hid (fun u G hu => by
    obtain ⟨g', gs, gr, am, an, ai, cm, cn, ci, hv, _, k⟩ := hu
    cases hv
    have k1 := k.cs (clN r) hc8
    obtain ⟨k2, k3⟩ := k.cr (clN r) hc8
    rw [← ep, more_at] at k1 k2 k3
    rw [hT] at k1
    rw [hKc] at k2
    rw [hM] at k3
    exact ⟨gs, gr, k.c5, k1, k.c6, k2, k3⟩)
  have HMv : Hid (∀ (u : World) (G : List Nat), LmAt G u (.pointer (some ⟨g, 0, none⟩)) (moreS s) → Calls Tryz.prog 70 #[.pointer (some ⟨g, 0, none⟩), .agg #[.int .i64 r.k, .string r.key, .float .f64 r.b, .int .i64 r.id]] u fun e w' => e = .returned (.agg #[.int .i64 C, .float .f64 D]) ∧ LmTo G u w' (.pointer (some ⟨g, 0, none⟩)) S2) := hid (fun u G hu => by
    have := wkeyed_any hu (more_ok hok hF) r hR hm hb0
    rw [hC, hD, hS] at this
    
    exact this)
  have HCl := hid (And.intro hc8 ep)
  have hq6 : (r.k == 6) = false := by simpa using hk6
  have hq7 : (r.k == 7) = false := by simpa using hk7
  have hd6 : decide (r.k = 6) = false := decide_eq_false hk6
  have hd7 : decide (r.k = 7) = false := decide_eq_false hk7
  rw [hN] at HNl
  rw [hR] at HRg
  rw [hF] at HFl
  clear h hst hni hok hN hR hep hF hT hKc hM hc8 hcc ep hC hD hS hm hb0 hk6 hk7
  obtain ⟨⟨y0, y1⟩, y2, y3, y4, y5⟩ := H0.out.r.2.1.cells
  go_enter Tryz.func25, Tryz.ntmps25
  go_wp2_with (first
    | (go_at_call 30; have := H2; refine (HFl.out _ _ H2.out.ld).mono ?_; rintro e w3 ⟨rfl, hq⟩; have H3 := hid (H2.out.keep hq); clear hq; clear y0 y1 y2 y3 y4 y5; obtain ⟨⟨y0, y1⟩, y2, y3, y4, y5⟩ := H3.out.r.2.1.cells; obtain ⟨c3, f3⟩ := H3.out.ld.c3; have H4 := hid H3.out.more)
    | (go_at_call 68; have := H1; refine (HRg.out _).mono ?_; rintro e w2 ⟨rfl, hq⟩; have H2 := hid (H1.out.keep hq); clear hq; clear y0 y1 y2 y3 y4 y5; obtain ⟨⟨y0, y1⟩, y2, y3, y4, y5⟩ := H2.out.r.2.1.cells)
    | (go_at_call 67; have := H0; refine (HNl.out _).mono ?_; rintro e w1 ⟨rfl, hq⟩; have H1 := hid (H0.out.keep hq); clear hq; clear y0 y1 y2 y3 y4 y5; obtain ⟨⟨y0, y1⟩, y2, y3, y4, y5⟩ := H1.out.r.2.1.cells))
  clear y0 y1 y2 y3 y4 y5 c3 f3
  obtain ⟨W4, eW⟩ : ∃ u, u = w3.setCell ⟨g, 3, none⟩ (.int .i64 ((s.dn : Int) + 1)) := ⟨_, rfl⟩
  rw [← eW] at H4 ⊢
  clear eW
  obtain ⟨⟨y0, y1⟩, y2, y3, y4, y5⟩ := H4.out.r.2.1.cells
  replace y0 := y0.trans HY0.out
  obtain ⟨gs, gr, x5, xs, x6, xr0, xr1⟩ := HCs.out _ _ H4.out.ld
  clear y0 y1 y2 y3 y4 y5
  have H5 := hid H4.out.drew
  refine wp_region_G (S := fun ww => RqAt ww w.heap.size r ∧ ww.cell? ⟨g, 5, none⟩ = some (.slice (some ⟨gs, 0, none⟩) 9 9) ∧ ww.cell? ⟨gs, p, none⟩ = some (.int .i64 T)) (ex := []) (by kernel_rfl) ?_
  try (change wpAnyG _ _ _ _ _ _ _ _ _ (World.drew _))
  refine wpAnyG_take (i := 0) (v := ?v1) rfl (by kernel_rfl) (fun _ _ _ h => h) (Or.inl ⟨by rfl, ?hy1⟩) ⟨H5.out.r.2.1, x5, xs⟩ ?rest1
  case hy1 => (intro ww _; go_simp; try with_reducible rfl)
  go_simp
  refine wpAnyG_take (i := 1) (v := ?v2) rfl (by kernel_rfl) (fun _ _ _ h => h) (Or.inl ⟨by rfl, ?hy2⟩) ⟨H5.out.r.2.1, x5, xs⟩ ?rest2
  case hy2 => (intro ww hS; obtain ⟨⟨⟨y0, y1⟩, y2, y3, y4, y5⟩, x5, xs⟩ := And.intro (RqAt.cells hS.1) hS.2; replace y0 := y0.trans HY0.out; go_simp; try with_reducible rfl)
  go_simp
  refine wpAnyG_take (i := 2) (v := ?v3) rfl (by kernel_rfl) (fun _ _ _ h => h) (Or.inl ⟨by rfl, ?hy3⟩) ⟨H5.out.r.2.1, x5, xs⟩ ?rest3
  case hy3 => (intro ww _; go_simp; try with_reducible rfl)
  go_simp
  refine wpAnyG_take (i := 3) (v := ?v4) rfl (by kernel_rfl) (fun _ _ _ h => h) (Or.inl ⟨by rfl, ?hy4⟩) ⟨H5.out.r.2.1, x5, xs⟩ ?rest4
  case hy4 => (intro ww _; go_simp; try with_reducible rfl)
  go_simp
  refine wpAnyG_take (i := 4) (v := ?v5) rfl (by kernel_rfl) (fun _ _ _ h => h) (Or.inl ⟨by rfl, ?hy5⟩) ⟨H5.out.r.2.1, x5, xs⟩ ?rest5
  case hy5 => (intro ww _; go_simp; try with_reducible rfl)
  go_simp
  refine wpAnyG_take (i := 5) (v := ?v6) rfl (by kernel_rfl) (fun _ _ _ h => h) (Or.inl ⟨by rfl, ?hy6⟩) ⟨H5.out.r.2.1, x5, xs⟩ ?rest6
  case hy6 => (intro ww hS; obtain ⟨⟨⟨y0, y1⟩, y2, y3, y4, y5⟩, x5, xs⟩ := And.intro (RqAt.cells hS.1) hS.2; replace y0 := y0.trans HY0.out; go_simp; try with_reducible rfl)
  go_simp
  refine wpAnyG_take (i := 6) (v := ?v7) rfl (by kernel_rfl) (fun _ _ _ h => h) (Or.inl ⟨by rfl, ?hy7⟩) ⟨H5.out.r.2.1, x5, xs⟩ ?rest7
  case hy7 => (intro ww _; go_simp; try with_reducible rfl)
  go_simp
  refine wpAnyG_take (i := 7) (v := ?v8) rfl (by kernel_rfl) (fun _ _ _ h => h) (Or.inl ⟨by rfl, ?hy8⟩) ⟨H5.out.r.2.1, x5, xs⟩ ?rest8
  case hy8 => (intro ww hS; obtain ⟨⟨⟨y0, y1⟩, y2, y3, y4, y5⟩, x5, xs⟩ := And.intro (RqAt.cells hS.1) hS.2; replace y0 := y0.trans HY0.out; go_simp; try with_reducible rfl)
  go_simp
  refine wpAnyG_take (i := 8) (v := ?v9) rfl (by kernel_rfl) (fun _ _ _ h => h) (Or.inl ⟨by rfl, ?hy9⟩) ⟨H5.out.r.2.1, x5, xs⟩ ?rest9
  case hy9 => (intro ww _; go_simp; try with_reducible rfl)
  go_simp
  refine wpAnyG_take (i := 9) (v := ?v10) rfl (by kernel_rfl) (fun _ _ _ h => h) (Or.inl ⟨by rfl, ?hy10⟩) ⟨H5.out.r.2.1, x5, xs⟩ ?rest10
  case hy10 => (intro ww hS; obtain ⟨⟨⟨y0, y1⟩, y2, y3, y4, y5⟩, x5, xs⟩ := And.intro (RqAt.cells hS.1) hS.2; replace y0 := y0.trans HY0.out; go_simp; try with_reducible rfl)
  go_simp
  refine wpAnyG_take (i := 10) (v := ?v11) rfl (by kernel_rfl) (fun _ _ _ h => h) (Or.inl ⟨by rfl, ?hy11⟩) ⟨H5.out.r.2.1, x5, xs⟩ ?rest11
  case hy11 => (intro ww _; go_simp; try with_reducible rfl)
  go_simp
  refine wpAnyG_done (by kernel_rfl) ?_ _
  go_simp
  go_wp2
  have H6 := hid H5.out.drew
  refine wp_region_G (S := fun ww => RqAt ww w.heap.size r ∧ ww.cell? ⟨g, 5, none⟩ = some (.slice (some ⟨gs, 0, none⟩) 9 9) ∧ ww.cell? ⟨gs, p, none⟩ = some (.int .i64 T)) (ex := []) (by kernel_rfl) ?_
  try (change wpAnyG _ _ _ _ _ _ _ _ _ (World.drew _))
  refine wpAnyG_take (i := 0) (v := ?v12) rfl (by kernel_rfl) (fun _ _ _ h => h) (Or.inl ⟨by rfl, ?hy12⟩) ⟨H6.out.r.2.1, x5, xs⟩ ?rest12
  case hy12 => (intro ww _; go_simp; try with_reducible rfl)
  go_simp
  refine wpAnyG_take (i := 1) (v := ?v13) rfl (by kernel_rfl) (fun _ _ _ h => h) (Or.inl ⟨by rfl, ?hy13⟩) ⟨H6.out.r.2.1, x5, xs⟩ ?rest13
  case hy13 => (intro ww hS; obtain ⟨⟨⟨y0, y1⟩, y2, y3, y4, y5⟩, x5, xs⟩ := And.intro (RqAt.cells hS.1) hS.2; replace y0 := y0.trans HY0.out; go_simp; try with_reducible rfl)
  go_simp
  refine wpAnyG_take (i := 2) (v := ?v14) rfl (by kernel_rfl) (fun _ _ _ h => h) (Or.inl ⟨by rfl, ?hy14⟩) ⟨H6.out.r.2.1, x5, xs⟩ ?rest14
  case hy14 => (intro ww _; go_simp; try with_reducible rfl)
  go_simp
  refine wpAnyG_take (i := 3) (v := ?v15) rfl (by kernel_rfl) (fun _ _ _ h => h) (Or.inl ⟨by rfl, ?hy15⟩) ⟨H6.out.r.2.1, x5, xs⟩ ?rest15
  case hy15 => (intro ww _; go_simp; try with_reducible rfl)
  go_simp
  refine wpAnyG_take (i := 4) (v := ?v16) rfl (by kernel_rfl) (fun _ _ _ h => h) (Or.inl ⟨by rfl, ?hy16⟩) ⟨H6.out.r.2.1, x5, xs⟩ ?rest16
  case hy16 => (intro ww _; go_simp; try with_reducible rfl)
  go_simp
  refine wpAnyG_take (i := 5) (v := ?v17) rfl (by kernel_rfl) (fun _ _ _ h => h) (Or.inl ⟨by rfl, ?hy17⟩) ⟨H6.out.r.2.1, x5, xs⟩ ?rest17
  case hy17 => (intro ww hS; obtain ⟨⟨⟨y0, y1⟩, y2, y3, y4, y5⟩, x5, xs⟩ := And.intro (RqAt.cells hS.1) hS.2; replace y0 := y0.trans HY0.out; go_simp; try with_reducible rfl)
  go_simp
  refine wpAnyG_take (i := 6) (v := ?v18) rfl (by kernel_rfl) (fun _ _ _ h => h) (Or.inl ⟨by rfl, ?hy18⟩) ⟨H6.out.r.2.1, x5, xs⟩ ?rest18
  case hy18 => (intro ww _; go_simp; try with_reducible rfl)
  go_simp
  refine wpAnyG_take (i := 7) (v := ?v19) rfl (by kernel_rfl) (fun _ _ _ h => h) (Or.inl ⟨by rfl, ?hy19⟩) ⟨H6.out.r.2.1, x5, xs⟩ ?rest19
  case hy19 => (intro ww hS; obtain ⟨⟨⟨y0, y1⟩, y2, y3, y4, y5⟩, x5, xs⟩ := And.intro (RqAt.cells hS.1) hS.2; replace y0 := y0.trans HY0.out; go_simp; try with_reducible rfl)
  go_simp
  refine wpAnyG_take (i := 8) (v := ?v20) rfl (by kernel_rfl) (fun _ _ _ h => h) (Or.inl ⟨by rfl, ?hy20⟩) ⟨H6.out.r.2.1, x5, xs⟩ ?rest20
  case hy20 => (intro ww _; go_simp; try with_reducible rfl)
  go_simp
  refine wpAnyG_take (i := 9) (v := ?v21) rfl (by kernel_rfl) (fun _ _ _ h => h) (Or.inl ⟨by rfl, ?hy21⟩) ⟨H6.out.r.2.1, x5, xs⟩ ?rest21
  case hy21 => (intro ww hS; obtain ⟨⟨⟨y0, y1⟩, y2, y3, y4, y5⟩, x5, xs⟩ := And.intro (RqAt.cells hS.1) hS.2; replace y0 := y0.trans HY0.out; go_simp; try with_reducible rfl)
  go_simp
  refine wpAnyG_take (i := 10) (v := ?v22) rfl (by kernel_rfl) (fun _ _ _ h => h) (Or.inl ⟨by rfl, ?hy22⟩) ⟨H6.out.r.2.1, x5, xs⟩ ?rest22
  case hy22 => (intro ww _; go_simp; try with_reducible rfl)
  go_simp
  refine wpAnyG_done (by kernel_rfl) ?_ _
  go_simp
  obtain ⟨W6, e6⟩ : ∃ u, u = W4.drew.drew := ⟨_, rfl⟩
  rw [← e6] at H6 ⊢
  clear e6 x5 xs x6 xr0 xr1
  obtain ⟨⟨y0, y1⟩, y2, y3, y4, y5⟩ := H6.out.r.2.1.cells
  have HB7 : Hid (W6.heap.size ∉ ([w.heap.size + 1] ++ ([w.heap.size] ++ []))) := hid (fun hm => Nat.lt_irrefl _ (H6.out.lt _ hm))
  have HSt7 : Hid (Stable ([w.heap.size + 1] ++ ([w.heap.size] ++ [])) (fun u => RsAt u (w.heap.size + 1) 0 0 ∧ (RqAt u w.heap.size r ∧ True))) := hid (stable_and (stable_rs _ 0 0) HSt.out.1)
  go_wp2_with (first
    | (have := H8; refine wl_store_rs rfl _ _ rfl W6.heap.size rfl 0 C 0 D rfl H8.out.r.1 ?_; intro w9 Hz; have H9 := hid (H8.out.put HSt7.out HB7.out Hz.out); clear Hz; clear y0 y1 y2 y3 y4 y5; obtain ⟨⟨y0, y1⟩, y2, y3, y4, y5⟩ := H9.out.r.2.2.1.cells)
    | (go_at_call 70; refine (HMv.out _ _ H7.out.ld).mono ?_; rintro e w8 ⟨rfl, hq⟩; have HC8 := hid (H7.out.to hq); clear hq; obtain ⟨F8, h8⟩ := HC8.out; have H8 := hid h8; clear h8 HC8; clear y0 y1 y2 y3 y4 y5; obtain ⟨⟨y0, y1⟩, y2, y3, y4, y5⟩ := H8.out.r.2.2.1.cells)
    | (have := H6; refine wl_store_rs rfl _ _ rfl W6.heap.size rfl 0 0 0 0 rfl (heap_alloc_last W6 _) ?_; intro w7 Hz; have H7 := hid (H6.out.fresh (Hz.out.2.below ((Below.refl W6.heap.size W6).alloc (Nat.le_refl _) _) (Nat.le_refl _)) (stable_rs _ 0 0) Hz.out.1 (lt_of_blk Hz.out.1)); clear Hz; clear y0 y1 y2 y3 y4 y5; obtain ⟨⟨y0, y1⟩, y2, y3, y4, y5⟩ := H7.out.r.2.2.1.cells))
  clear y0 y1 y2 y3 y4 y5
  have H10 := hid H9.out.drew
  obtain ⟨g', gs2, gr2, am, an, ai, cm, cn, ci, hv, hFF, kk⟩ := H10.out.ld
  cases hv
  have HK := hid kk
  have HF8 := hid hFF
  clear kk hFF
  have c5 := HK.out.c5
  have c6 := HK.out.c6
  have cs : w9.drew.cell? ⟨gs2, p, none⟩ = some (.int .i64 ((S2.at (clN r)).1 : Int)) := by rw [HCl.out.2]; exact HK.out.cs _ HCl.out.1
  have fs : w9.drew.frozen? ⟨gs2, p, none⟩ = false := free_at HK.out.st _
  refine wp_region_G (S := fun ww => RqAt ww w.heap.size r ∧ ww.cell? ⟨g, 5, none⟩ = some (.slice (some ⟨gs2, 0, none⟩) 9 9)) (ex := [9]) (by kernel_rfl) ?_
  try (change wpAnyG _ _ _ _ _ _ _ _ _ (World.drew _))
  refine wpAnyG_take (i := 0) (v := ?v23) rfl (by kernel_rfl) (fun _ _ _ h => h) (Or.inl ⟨by rfl, ?hy23⟩) ⟨H10.out.r.2.2.1, c5⟩ ?rest23
  case hy23 => (intro ww _; go_simp; try with_reducible rfl)
  go_simp
  refine wpAnyG_take (i := 1) (v := ?v24) rfl (by kernel_rfl) (fun _ _ _ h => h) (Or.inl ⟨by rfl, ?hy24⟩) ⟨H10.out.r.2.2.1, c5⟩ ?rest24
  case hy24 => (intro ww _; go_simp; try with_reducible rfl)
  go_simp
  refine wpAnyG_take (i := 2) (v := ?v25) rfl (by kernel_rfl) (fun _ _ _ h => h) (Or.inl ⟨by rfl, ?hy25⟩) ⟨H10.out.r.2.2.1, c5⟩ ?rest25
  case hy25 => (intro ww _; go_simp; try with_reducible rfl)
  go_simp
  refine wpAnyG_take (i := 3) (v := ?v26) rfl (by kernel_rfl) (fun _ _ _ h => h) (Or.inl ⟨by rfl, ?hy26⟩) ⟨H10.out.r.2.2.1, c5⟩ ?rest26
  case hy26 => (intro ww hS; obtain ⟨⟨⟨y0, y1⟩, y2, y3, y4, y5⟩, x5⟩ := And.intro (RqAt.cells hS.1) hS.2; replace y0 := y0.trans HY0.out; go_simp; try with_reducible rfl)
  go_simp
  refine wpAnyG_take (i := 4) (v := ?v27) rfl (by kernel_rfl) (fun _ _ _ h => h) (Or.inl ⟨by rfl, ?hy27⟩) ⟨H10.out.r.2.2.1, c5⟩ ?rest27
  case hy27 => (intro ww _; go_simp; try with_reducible rfl)
  go_simp
  refine wpAnyG_take (i := 5) (v := ?v28) rfl (by kernel_rfl) (fun _ _ _ h => h) (Or.inl ⟨by rfl, ?hy28⟩) ⟨H10.out.r.2.2.1, c5⟩ ?rest28
  case hy28 => (intro ww hS; obtain ⟨⟨⟨y0, y1⟩, y2, y3, y4, y5⟩, x5⟩ := And.intro (RqAt.cells hS.1) hS.2; replace y0 := y0.trans HY0.out; go_simp; try with_reducible rfl)
  go_simp
  refine wpAnyG_take (i := 6) (v := ?v29) rfl (by kernel_rfl) (fun _ _ _ h => h) (Or.inl ⟨by rfl, ?hy29⟩) ⟨H10.out.r.2.2.1, c5⟩ ?rest29
  case hy29 => (intro ww _; go_simp; try with_reducible rfl)
  go_simp
  refine wpAnyG_take (i := 7) (v := ?v30) rfl (by kernel_rfl) (fun _ _ _ h => h) (Or.inl ⟨by rfl, ?hy30⟩) ⟨H10.out.r.2.2.1, c5⟩ ?rest30
  case hy30 => (intro ww hS; obtain ⟨⟨⟨y0, y1⟩, y2, y3, y4, y5⟩, x5⟩ := And.intro (RqAt.cells hS.1) hS.2; replace y0 := y0.trans HY0.out; go_simp; try with_reducible rfl)
  go_simp
  refine wpAnyG_take (i := 8) (v := ?v31) rfl (by kernel_rfl) (fun _ _ _ h => h) (Or.inl ⟨by rfl, ?hy31⟩) ⟨H10.out.r.2.2.1, c5⟩ ?rest31
  case hy31 => (intro ww _; go_simp; try with_reducible rfl)
  go_simp
  refine wpAnyG_all (rs := [9]) (by kernel_rfl) (by simp) ?_
  intro i hi
  obtain rfl := List.mem_singleton.1 hi
  clear hi
  refine wpOp_d rfl (by rfl) (fun K hK => ?_)
  go_simp
  refine hK _ _ ⟨fun h => absurd (by simp) h, ?_⟩
  clear hK K
  go_simp
  refine wpAnyG_done (by kernel_rfl) ?_ _
  go_simp
  go_wp2
  obtain ⟨W11, e11⟩ : ∃ u, u = (w9.setCell ⟨gs2, p, none⟩ (.int .i64 r.st)).drew := ⟨_, rfl⟩
  have e12 : W11 = w9.drew.setCell ⟨gs2, p, none⟩ (.int .i64 r.st) := e11.trans rfl
  have HH := hid (H10.out.half HK.out HF8.out p (.int .i64 r.st))
  rw [← e11]
  rw [← e12] at HH
  have HE := hid e12
  clear e11 e12 c5 c6 cs fs
  have HR := hid (stable_drew H10.out.st HH.out.1)
  have c6 : W11.drew.cell? ⟨g, 6, none⟩ = some (.slice (some ⟨gr2, 0, none⟩) 9 9) := HH.out.2.1
  refine wp_region_G (S := fun ww => RqAt ww w.heap.size r ∧ ww.cell? ⟨g, 6, none⟩ = some (.slice (some ⟨gr2, 0, none⟩) 9 9) ∧ RsAt ww W6.heap.size C D) (ex := [8]) (by kernel_rfl) ?_
  try (change wpAnyG _ _ _ _ _ _ _ _ _ (World.drew _))
  refine wpAnyG_take (i := 0) (v := ?v32) rfl (by kernel_rfl) (fun _ _ _ h => h) (Or.inl ⟨by rfl, ?hy32⟩) ⟨HR.out.2.2.1, c6, HR.out.1⟩ ?rest32
  case hy32 => (intro ww _; go_simp; try with_reducible rfl)
  go_simp
  refine wpAnyG_take (i := 1) (v := ?v33) rfl (by kernel_rfl) (fun _ _ _ h => h) (Or.inl ⟨by rfl, ?hy33⟩) ⟨HR.out.2.2.1, c6, HR.out.1⟩ ?rest33
  case hy33 => (intro ww _; go_simp; try with_reducible rfl)
  go_simp
  refine wpAnyG_take (i := 2) (v := ?v34) rfl (by kernel_rfl) (fun _ _ _ h => h) (Or.inl ⟨by rfl, ?hy34⟩) ⟨HR.out.2.2.1, c6, HR.out.1⟩ ?rest34
  case hy34 => (intro ww _; go_simp; try with_reducible rfl)
  go_simp
  refine wpAnyG_take (i := 3) (v := ?v35) rfl (by kernel_rfl) (fun _ _ _ h => h) (Or.inl ⟨by rfl, ?hy35⟩) ⟨HR.out.2.2.1, c6, HR.out.1⟩ ?rest35
  case hy35 => (intro ww hS; obtain ⟨⟨⟨y0, y1⟩, y2, y3, y4, y5⟩, x6, z0, z1⟩ := And.intro (RqAt.cells hS.1) (And.intro hS.2.1 hS.2.2.cells); replace y0 := y0.trans HY0.out; go_simp; try with_reducible rfl)
  go_simp
  refine wpAnyG_take (i := 4) (v := ?v36) rfl (by kernel_rfl) (fun _ _ _ h => h) (Or.inl ⟨by rfl, ?hy36⟩) ⟨HR.out.2.2.1, c6, HR.out.1⟩ ?rest36
  case hy36 => (intro ww _; go_simp; try with_reducible rfl)
  go_simp
  refine wpAnyG_take (i := 5) (v := ?v37) rfl (by kernel_rfl) (fun _ _ _ h => h) (Or.inl ⟨by rfl, ?hy37⟩) ⟨HR.out.2.2.1, c6, HR.out.1⟩ ?rest37
  case hy37 => (intro ww hS; obtain ⟨⟨⟨y0, y1⟩, y2, y3, y4, y5⟩, x6, z0, z1⟩ := And.intro (RqAt.cells hS.1) (And.intro hS.2.1 hS.2.2.cells); replace y0 := y0.trans HY0.out; go_simp; try with_reducible rfl)
  go_simp
  refine wpAnyG_take (i := 6) (v := ?v38) rfl (by kernel_rfl) (fun _ _ _ h => h) (Or.inl ⟨by rfl, ?hy38⟩) ⟨HR.out.2.2.1, c6, HR.out.1⟩ ?rest38
  case hy38 => (intro ww hS; obtain ⟨⟨⟨y0, y1⟩, y2, y3, y4, y5⟩, x6, z0, z1⟩ := And.intro (RqAt.cells hS.1) (And.intro hS.2.1 hS.2.2.cells); replace y0 := y0.trans HY0.out; go_simp; try with_reducible rfl)
  go_simp
  refine wpAnyG_take (i := 7) (v := ?v39) rfl (by kernel_rfl) (fun _ _ _ h => h) (Or.inl ⟨by rfl, ?hy39⟩) ⟨HR.out.2.2.1, c6, HR.out.1⟩ ?rest39
  case hy39 => (intro ww _; go_simp; try with_reducible rfl)
  go_simp
  refine wpAnyG_all (rs := [8]) (by kernel_rfl) (by simp) ?_
  intro i hi
  obtain rfl := List.mem_singleton.1 hi
  clear hi
  refine wpOp_d rfl (by rfl) (fun K hK => ?_)
  refine owp_store_blk 50 _ _ rfl gr2 (p * 2) (by rfl) #[.int .i64 C, .float .f64 D] (by rfl) _ _ (show W11.drew.heap[gr2]? = some (.cells (rsC2 (reL S2.lst)).toArray 50 (0, 0)) from HH.out.2.2) (by rw [rsC2_len, reL, List.length_cons, List.length_map, HK.out.len]; simp; have := HCl.out; omega) (by kernel_rfl) (by simp [Value.oneCell']) ?_
  intro w12 Hz
  have H12 := hid (H10.out.deed HK.out HF8.out (clN r) HCl.out.1 (r.st.toNat, C, D) (by rw [HE.out, HCl.out.2, show ((r.st.toNat : Nat) : Int) = r.st by omega]) (by have := Hz.out.1; rw [HCl.out.2] at this; exact this) (show One gr2 W11 w12 from ⟨Hz.out.2.os, Hz.out.2.tape, Hz.out.2.output, Hz.out.2.size, Hz.out.2.block⟩))
  clear Hz
  refine hK _ _ ⟨fun h => absurd (by simp) h, ?_⟩
  clear hK K
  go_simp
  refine wpAnyG_done (by kernel_rfl) ?_ _
  go_simp
  obtain ⟨z0, z1⟩ := H12.out.r.1.cells
  go_wp2_with (first
    | (have := H12; refine wl_store_rs rfl _ _ rfl (w.heap.size + 1) rfl 0 C 0 D rfl H12.out.r.2.1 ?_; intro w13 Hz; have H13 := hid (mt_last H12.out HSt.out.1 HSt.out.2 (fun e => HB7.out (by rw [← e]; simp)) (fun hm => HB7.out (List.mem_append.2 (.inr hm))) Hz.out); clear Hz))
  refine ret_pair (s := 4) (s2 := 5) (ad := ⟨w.heap.size + 1, 0, none⟩) rfl rfl (load_rs _ _ C D H13.out.1) rfl rfl ?_
  exact ⟨rfl, H13.out.2⟩
theorem wdoT {F : List Nat} {w : World} {v : Value} {s : Ls} (h : LmAt F w v s) (hok : LOk s) (r : Rq) (hb : r.b < 18446744073709551616) :
    Calls Tryz.prog 25 #[v, .agg #[.int .i64 r.c, .int .i64 r.st, .int .i64 r.k, .string r.key, .float .f64 r.b, .int .i64 r.id]] w fun e w' => e = .returned (.tuple #[.agg #[.int .i64 (doC s r), .float .f64 (doF s r)], .int .i64 (doE s r)]) ∧ LmTo F w w' v (doS s r) := by
  cases hN : nullB r with
  | true =>
    have hfit : ¬ fitR r = false := by rw [fitR, hN]; simp
    cases hF : fullS s with
    | true =>
      have e : doE s r = 18 := by rw [doE, if_neg hfit, hF]; rfl
      rw [doS, doC, doF, e]
      exact wdo_nfull h hok r hN hF
    | false =>
      have e : doE s r = 0 := by rw [doE, if_neg hfit, hF]; rfl
      rw [doS, doC, doF, e, hN]
      exact wdo_null h hok r hN hF
  | false =>
    cases hR : rightB r with
    | false =>
      have e : doE s r = 1 := by rw [doE, fitR, hN, hR]; rfl
      rw [doS, doC, doF, e]
      exact wdo_no h hok r hN hR
    | true =>
      have hfit : ¬ fitR r = false := by rw [fitR, hN, hR]; simp
      cases hF : fullS s with
      | true =>
        have e : doE s r = 18 := by rw [doE, if_neg hfit, hF]; rfl
        rw [doS, doC, doF, e]
        exact wdo_rfull h hok r hN hR hF
      | false =>
        have e : doE s r = 0 := by rw [doE, if_neg hfit, hF]; rfl
        rw [doS, doC, doF, e, hN]
        have hat : (moreS s).at (clN r) = s.at (clN r) := more_at s _
        have hs0 : 0 ≤ r.st := by have := (right_fields hR).2.1; omega
        by_cases h1 : r.st < ((s.at (clN r)).1 : Int)
        · rw [show ansC s r = 7 by rw [ansC, if_pos h1], show ansF s r = 0 by rw [ansF, if_pos h1], show ansS (moreS s) r = moreS s by rw [ansS, hat, if_pos (by omega)]]
          exact wdo_old h hok r hN hR hF _ rfl _ rfl _ rfl h1
        · by_cases h2 : r.st = ((s.at (clN r)).1 : Int)
          · rw [show ansC s r = (s.at (clN r)).2.1 by rw [ansC, if_neg h1, if_pos h2], show ansF s r = (s.at (clN r)).2.2 by rw [ansF, if_neg h1, if_pos h2], show ansS (moreS s) r = moreS s by rw [ansS, hat, if_pos (by omega)]]
            exact wdo_same h hok r hN hR hF h2.symm _ rfl _ rfl
          · rw [show ansC s r = effC (moreS s) r by rw [ansC, if_neg h1, if_neg h2]; rfl, show ansF s r = effF (moreS s) r by rw [ansF, if_neg h1, if_neg h2]; rfl, show ansS (moreS s) r = { effS (moreS s) r with lst := (effS (moreS s) r).lst.set (clN r) (r.st.toNat, effC (moreS s) r, effF (moreS s) r) } by rw [ansS, hat, if_neg (by omega), effS_lst]]
            cases hm : isMov r with
            | true =>
              have := of_decide_eq_true hm
              by_cases h6 : r.k = 6
              · exact wdo_newj h hok r hN hR hF _ _ _ rfl rfl rfl _ rfl _ rfl _ rfl h1 h2 hs0 h6
              · exact wdo_newl h hok r hN hR hF _ _ _ rfl rfl rfl _ rfl _ rfl _ rfl h1 h2 hs0 (by omega)
            | false =>
              have := of_decide_eq_false hm
              exact wdo_newk h hok r hN hR hF hb _ _ _ rfl rfl rfl _ rfl _ rfl _ rfl h1 h2 hs0 hm (by omega) (by omega)
end Go.Proofs.YtecidbdbdnnglaaGreat

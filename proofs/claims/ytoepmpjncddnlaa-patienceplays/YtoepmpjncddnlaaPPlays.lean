/- A timer in whatever row of steps, beside the document's. -/
import Derived.Test.YtoepmpjncddnlaaPtD
import Derived.Test.YtoepmpjncddnlaaPtC
namespace Go.Proofs.Ytoepmpjncddnlaa
open Go.RowKit

/-- While steps come: the program's timer at b, the document's at d. -/
structure PySt (w0 w : World) (b d : Nat) (m e x : Int) : Prop where
  pw : PwSt w0 w b m e
  dm : DmAt w d (8 + m) (e != 0) x
  eq : e ≠ 0 → x = e
  far : w0.heap.size ≤ d
  ne : b ≠ d
  he : 0 ≤ e ∧ e ≤ 1099511628288
theorem PySt.keep {w0 w w' : World} {b d : Nat} {m e x : Int} (h : PySt w0 w b d m e x) (hb : Below w.heap.size w w') : PySt w0 w' b d m e x := ⟨h.pw.but (But.of hb) (h.pw.tm.keep hb) h.pw.hm, h.dm.keep hb, h.eq, h.far, h.ne, h.he⟩
/-- Both are due alike. -/
theorem PySt.due {w0 w : World} {b d : Nat} {m e x : Int} (h : PySt w0 w b d m e x) (n : Int) : ((e != 0) && decide (x ≤ tmO n)) = duB e n := by
  unfold duB
  cases hq : (e != 0) with
  | false => rfl
  | true =>
    have : e ≠ 0 := by simpa using hq
    rw [h.eq this]
/-- Behind the program's step, ahead of the document's. -/
structure PzSt (w0 w : World) (b d p : Nat) (m e x k n m2 e2 : Int) : Prop where
  pw : PwSt w0 w b m2 e2
  dm : DmAt w d (8 + m) (e != 0) x
  op : OpAt w p k n
  far : w0.heap.size ≤ d
  ne : b ≠ d
  np : p ≠ b ∧ p ≠ d
theorem PzSt.step {w0 w w' : World} {b d p : Nat} {m e x k n m2 e2 x2 : Int} (h : PzSt w0 w b d p m e x k n m2 e2) (hb : But d w w') (hd : DmAt w' d (8 + m2) (e2 != 0) x2) (hx : e2 ≠ 0 → x2 = e2) (he : 0 ≤ e2 ∧ e2 ≤ 1099511628288) : PySt w0 w' b d m2 e2 x2 ∧ OpAt w' p k n :=
  ⟨⟨⟨h.pw.tm.but hb h.ne, h.pw.bel.trans (hb.below h.pw.bel.size h.far), h.pw.far, h.pw.hm⟩, hd, hx, h.far, h.ne, he⟩, h.op.but hb h.np.2⟩
set_option maxRecDepth 100000 in
set_option maxHeartbeats 3200000 in
theorem patiencePlays_walk (a : Option Addr) (n cap : Nat) (xs : List (Int × Int)) (hn : xs.length = n) (hmx : n ≤ maxLen) (w : World) (hS : TwosIn w a xs) : Calls Try.prog 3 #[.slice a n cap] w fun e w' => e = .returned (.bool true) ∧ Below w.heap.size w w' := by
  have HI := hid (And.intro hS hn)
  have hn3 : (n : Int) ≤ 9223372036854775807 := by unfold maxLen at hmx; omega
  clear hS hn hmx
  go_enter Try.func3, Try.ntmps3
  go_wp2_with (first
    | (go_at_call 7; go_must (refine (plives_any _).mono ?_); rintro e w1 ⟨rfl, hb1⟩; have H1 := hid hb1; clear hb1)
    | (go_at_call 8; go_must (refine (pnew_any _).mono ?_); rintro e w2 ⟨rfl, ht2, hb2⟩; have H2 : Hid (PwSt w w2 w1.heap.size 0 0) := hid ⟨ht2, H1.out.trans (hb2.mono H1.out.size), H1.out.size, by omega⟩; clear ht2 hb2)
    | (go_at_call 9; go_must (refine (wnewP_any _).mono ?_); rintro e w3 ⟨rfl, hb3⟩; have H3 : Hid (PwSt w w3 w1.heap.size 0 0) := hid (H2.out.but (But.of hb3) (H2.out.tm.keep hb3) H2.out.hm); clear hb3))
  have H4 : Hid (PySt w (w3.alloc (.cells #[.int .i64 8, .bool false, .int .i64 0] 27)) w1.heap.size w3.heap.size 0 0 0) := hid (by
    have hb : Below w3.heap.size w3 (w3.alloc (.cells #[.int .i64 8, .bool false, .int .i64 0] 27)) := (Below.refl _ _).alloc (Nat.le_refl _) _
    exact ⟨H3.out.but (But.of hb) (H3.out.tm.keep hb) H3.out.hm, heap_alloc_last w3 _, fun h => absurd rfl h, H3.out.bel.size, Nat.ne_of_lt H3.out.tm.lt, by omega⟩)
  generalize w3.alloc (.cells #[.int .i64 8, .bool false, .int .i64 0] 27) = w4 at H4 ⊢
  generalize w3.heap.size = d at H4 ⊢
  generalize w1.heap.size = b at H4 ⊢
  clear H1 H2 H3
  go_loopw [5] (fun i wr => ∃ (j : Nat) (m e x : Int), j ≤ n ∧ i = .int .i64 (j : Int) ∧ PySt w wr b d m e x) (fun i _ => ((n : Int) - intOf i).toNat)
  case atStart => exact ⟨0, 0, 0, 0, by omega, rfl, H4.out⟩
  case round =>
    obtain ⟨j, m, e, x, hj, rfl, hst⟩ := hrel
    by_cases hjn : j = n
    · have hj1 : ¬ ((j : Int) < (n : Int)) := by omega
      have HS := hid hst
      clear hst hj hjn
      go_wp2
      go_ret
      exact ⟨rfl, HS.out.pw.bel⟩
    · have hj1 : (j : Int) < (n : Int) := by omega
      have hj0 : (0 : Int) ≤ (j : Int) := Int.natCast_nonneg _
      have hjl : j < xs.length := by have := HI.out.2; omega
      obtain ⟨⟨k, t⟩, hx⟩ : ∃ x, xs[j]? = some x := ⟨_, List.getElem?_eq_getElem hjl⟩
      obtain ⟨ga, off, rfl, hc⟩ := HI.out.1.at j _ hx
      obtain ⟨x0, x1⟩ := hc wr hst.pw.bel
      simp only at x0 x1
      have hj3 : IntKind.i64.wrap ((j : Int) + 1) = (j : Int) + 1 := wrap_up _ (by omega) (by omega)
      have hb2 := spM_bounds hst.pw.hm (kdO k)
      have he2 := spE_bounds hst.pw.hm hst.he (kdO k) t
      have hdu := hst.due
      obtain ⟨wo, eo⟩ : ∃ wo, wo = wr.alloc (.cells #[.int .i64 k, .int .i64 t] 30) := ⟨_, rfl⟩
      obtain ⟨p, ep⟩ : ∃ p, p = wr.heap.size := ⟨_, rfl⟩
      have hop : OpAt wo p k t := by rw [eo, ep]; exact heap_alloc_last wr _
      have hbo : Below wr.heap.size wr wo := by rw [eo]; exact (Below.refl _ _).alloc (Nat.le_refl _) _
      have hst2 := hst.keep hbo
      have hpb : p ≠ b ∧ p ≠ d := by rw [ep]; exact ⟨Nat.ne_of_gt hst.pw.tm.lt, Nat.ne_of_gt hst.dm.lt⟩
      have hcl := call_any b m e hst2.pw.hm k t wo hst2.pw.tm
      obtain ⟨e2, ee⟩ : ∃ e2, e2 = spE (kdO k) m e t := ⟨_, rfl⟩
      obtain ⟨m2, em⟩ : ∃ m2, m2 = spM (kdO k) m := ⟨_, rfl⟩
      rw [← em, ← ee] at hcl
      rw [← em] at hb2
      rw [← ee] at he2
      have HCl : Hid (Calls Try.prog 10 #[.pointer (some ⟨b, 0, none⟩), .agg #[.int .i64 k, .int .i64 t]] wo fun x' w' => x' = .returned (.tuple #[]) ∧ PzSt w w' b d p m e x k t m2 e2) := hid (hcl.mono fun _ w' ⟨k1, k2, k3⟩ => ⟨k1, ⟨hst2.pw.but k3 k2 hb2, hst2.dm.but k3 (Ne.symm hst2.ne), hop.but k3 hpb.1, hst2.far, hst2.ne, hpb⟩⟩)
      have HOp := hid hop
      have HX := hid (And.intro hst.eq (And.intro hst.pw.hm (And.intro hb2 he2)))
      have HRp : Hid (∀ (u : World) (x2 : Int), PySt w u b d m2 e2 x2 → (∃ (j' : Nat) (m e x : Int), j' ≤ n ∧ Value.int IntKind.i64 ((j : Int) + 1) = .int .i64 (j' : Int) ∧ PySt w u b d m e x) ∧ ((n : Int) - intOf (Value.int IntKind.i64 ((j : Int) + 1))).toNat < ((n : Int) - intOf (Value.int IntKind.i64 (j : Int))).toNat) := hid (fun u x2 hu => ⟨⟨j + 1, m2, e2, x2, by omega, by simp, hu⟩, by simp only [intOf]; omega⟩)
      obtain ⟨y0, y1⟩ := hop.cells
      have hk5 := kdO_cases k
      subst eo ep
      clear hst hst2 hc hx hjl hj hjn hcl hop hbo hpb hb2 he2 H4 hdu y0 y1 HOp HI
      have HEnd : Hid (∀ (u : World) (x2 : Int), PySt w u b d m2 e2 x2 → (Calls Try.prog 15 #[.pointer (some ⟨b, 0, none⟩), .int .i64 t] u fun e' w' => e' = .returned (.bool (duB e2 t)) ∧ Below u.heap.size u w') ∧ (Calls Try.prog 16 #[.pointer (some ⟨d, 0, none⟩), .int .i64 t] u fun e' w' => e' = .returned (.bool (duB e2 t)) ∧ Below u.heap.size u w') ∧ (Calls Try.prog 17 #[.pointer (some ⟨b, 0, none⟩)] u fun e' w' => e' = .returned (.bool (e2 != 0)) ∧ Below u.heap.size u w') ∧ (Calls Try.prog 18 #[.pointer (some ⟨b, 0, none⟩)] u fun e' w' => e' = .returned (.int .i64 (8 + m2)) ∧ Below u.heap.size u w')) := hid (fun u x2 hu => ⟨pdue_any b m2 e2 t u hu.pw.tm, by rw [← hu.due t]; exact wdue_any d _ _ x2 t u hu.dm, (prun_any b m2 e2 u hu.pw.tm).mono fun _ _ ⟨he, hw⟩ => ⟨he, hw ▸ Below.refl _ _⟩, (pwait_any b m2 e2 hu.pw.hm u hu.pw.tm).mono fun _ _ ⟨he, hw⟩ => ⟨he, hw ▸ Below.refl _ _⟩⟩)
      rcases hk5 with hz | hz | hz | hz | hz
      · have hq := kd_is hz
        rw [hz] at em ee
        clear hz
        obtain ⟨q0, q1, q2, q3⟩ := hq
        simp only [Int.reduceBEq] at q0 q1 q2 q3
        have HD : Hid (∀ u : World, PzSt w u b d wr.heap.size m e x k t m2 e2 → Calls Try.prog 11 #[.pointer (some ⟨d, 0, none⟩), .int .i64 t] u fun e' w' => e' = .returned (.tuple #[]) ∧ ∃ x2, PySt w w' b d m2 e2 x2 ∧ OpAt w' wr.heap.size k t) := hid (fun u hu => by
          have e1 : m2 = m := em
          have e3 : e2 = stE m e t := ee
          subst e1
          by_cases h0 : e = 0
          · have h1 : (e != 0) = false := by simp [h0]
            have h2 : e2 = tmO t + (8 + m2) := e3.trans (if_pos h0)
            have h3 : (e2 != 0) = true := by have := tmO_bounds t; have := HX.out.2.1; simp; omega
            have hd := hu.dm
            rw [h1] at hd
            refine (wstart_yes d m2 x HX.out.2.1 t u hd).mono fun _ w' ⟨k1, k2, k3⟩ => ⟨k1, e2, hu.step k3 ?_ (fun _ => rfl) HX.out.2.2.2⟩
            rw [h3, h2]
            exact k2
          · have h1 : (e != 0) = true := by simp [h0]
            have h2 : e2 = e := e3.trans (if_neg h0)
            subst h2
            have hd := hu.dm
            rw [h1] at hd
            refine (wstart_no d _ x t u hd).mono fun _ w' ⟨k1, k2, k3⟩ => ⟨k1, x, hu.step k3 ?_ HX.out.1 HX.out.2.2.2⟩
            rw [h1]
            exact k2)
        clear em ee HX
        go_wp2_with (first
          | (go_at_call 10; go_must (refine HCl.out.mono ?_); rintro e' w5 ⟨rfl, h5⟩; have H5 := hid h5; clear h5; obtain ⟨y0, y1⟩ := H5.out.op.cells)
          | (go_at_call 11; go_must (refine (HD.out _ H5.out).mono ?_); rintro e' w6 ⟨rfl, x2, h6⟩; have H6 := hid h6; clear h6 y0 y1))
        have c0 : ∀ q : Cls w6, q.1.cell? ⟨d, 0, none⟩ = some (.int .i64 (8 + m2)) := fun q => (H6.out.1.keep q.2).dm.cells.1
        have c1 : ∀ q : Cls w6, q.1.cell? ⟨d, 1, none⟩ = some (.bool (e2 != 0)) := fun q => (H6.out.1.keep q.2).dm.cells.2.1
        have c2 : ∀ q : Cls w6, q.1.cell? ⟨wr.heap.size, 1, none⟩ = some (.int .i64 t) := fun q => (H6.out.2.keep q.2).cells.2
        have HG := hid (fun (u : World) (hu : Below w6.heap.size w6 u) => HEnd.out u _ (H6.out.1.keep hu))
        generalize duB e2 t = B1 at HG
        generalize (e2 != 0) = B2 at HG c1
        haveI := Cls.ne w6
        refine wp_region_cls w6 (by kernel_rfl) (by kernel_rfl) ?_
        repeat (go_big_quiet_step (first
          | (go_at_call 15; exact Cls.of _ (fun u hu => (HG.out u hu).1))
          | (go_at_call 16; exact Cls.of _ (fun u hu => (HG.out u hu).2.1))
          | (go_at_call 17; exact Cls.of _ (fun u hu => (HG.out u hu).2.2.1))
          | (go_at_call 18; exact Cls.of _ (fun u hu => (HG.out u hu).2.2.2))))
        refine wpQuiet_nil ?_
        rintro _ ⟨q, rfl⟩
        go_wp2
        exact HRp.out _ _ (H6.out.1.keep q.2)
      · have hq := kd_is hz
        rw [hz] at em ee
        clear hz
        obtain ⟨q0, q1, q2, q3⟩ := hq
        simp only [Int.reduceBEq] at q0 q1 q2 q3
        have HD : Hid (∀ u : World, PzSt w u b d wr.heap.size m e x k t m2 e2 → Calls Try.prog 12 #[.pointer (some ⟨d, 0, none⟩)] u fun e' w' => e' = .returned (.tuple #[]) ∧ ∃ x2, PySt w w' b d m2 e2 x2 ∧ OpAt w' wr.heap.size k t) := hid (fun u hu => by
          have e1 : m2 = m := em
          have e3 : e2 = 0 := ee
          subst e1
          subst e3
          exact (wstop_any d _ _ x u hu.dm).mono fun _ w' ⟨k1, k2, k3⟩ => ⟨k1, x, hu.step k3 k2 (fun h => absurd rfl h) HX.out.2.2.2⟩)
        clear em ee HX
        go_wp2_with (first
          | (go_at_call 10; go_must (refine HCl.out.mono ?_); rintro e' w5 ⟨rfl, h5⟩; have H5 := hid h5; clear h5; obtain ⟨y0, y1⟩ := H5.out.op.cells)
          | (go_at_call 12; go_must (refine (HD.out _ H5.out).mono ?_); rintro e' w6 ⟨rfl, x2, h6⟩; have H6 := hid h6; clear h6 y0 y1))
        have c0 : ∀ q : Cls w6, q.1.cell? ⟨d, 0, none⟩ = some (.int .i64 (8 + m2)) := fun q => (H6.out.1.keep q.2).dm.cells.1
        have c1 : ∀ q : Cls w6, q.1.cell? ⟨d, 1, none⟩ = some (.bool (e2 != 0)) := fun q => (H6.out.1.keep q.2).dm.cells.2.1
        have c2 : ∀ q : Cls w6, q.1.cell? ⟨wr.heap.size, 1, none⟩ = some (.int .i64 t) := fun q => (H6.out.2.keep q.2).cells.2
        have HG := hid (fun (u : World) (hu : Below w6.heap.size w6 u) => HEnd.out u _ (H6.out.1.keep hu))
        generalize duB e2 t = B1 at HG
        generalize (e2 != 0) = B2 at HG c1
        haveI := Cls.ne w6
        refine wp_region_cls w6 (by kernel_rfl) (by kernel_rfl) ?_
        repeat (go_big_quiet_step (first
          | (go_at_call 15; exact Cls.of _ (fun u hu => (HG.out u hu).1))
          | (go_at_call 16; exact Cls.of _ (fun u hu => (HG.out u hu).2.1))
          | (go_at_call 17; exact Cls.of _ (fun u hu => (HG.out u hu).2.2.1))
          | (go_at_call 18; exact Cls.of _ (fun u hu => (HG.out u hu).2.2.2))))
        refine wpQuiet_nil ?_
        rintro _ ⟨q, rfl⟩
        go_wp2
        exact HRp.out _ _ (H6.out.1.keep q.2)
      · have hq := kd_is hz
        rw [hz] at em ee
        clear hz
        obtain ⟨q0, q1, q2, q3⟩ := hq
        simp only [Int.reduceBEq] at q0 q1 q2 q3
        have HD : Hid (∀ u : World, PzSt w u b d wr.heap.size m e x k t m2 e2 → Calls Try.prog 13 #[.pointer (some ⟨d, 0, none⟩)] u fun e' w' => e' = .returned (.tuple #[]) ∧ ∃ x2, PySt w w' b d m2 e2 x2 ∧ OpAt w' wr.heap.size k t) := hid (fun u hu => by
          have e1 : m2 = flM m := em
          have e3 : e2 = e := ee
          subst e3
          refine (wfail_any d m HX.out.2.1 _ x u hu.dm).mono fun _ w' ⟨k1, k2, k3⟩ => ⟨k1, x, hu.step k3 ?_ HX.out.1 HX.out.2.2.2⟩
          rw [e1]
          exact k2)
        clear em ee HX
        go_wp2_with (first
          | (go_at_call 10; go_must (refine HCl.out.mono ?_); rintro e' w5 ⟨rfl, h5⟩; have H5 := hid h5; clear h5; obtain ⟨y0, y1⟩ := H5.out.op.cells)
          | (go_at_call 13; go_must (refine (HD.out _ H5.out).mono ?_); rintro e' w6 ⟨rfl, x2, h6⟩; have H6 := hid h6; clear h6 y0 y1))
        have c0 : ∀ q : Cls w6, q.1.cell? ⟨d, 0, none⟩ = some (.int .i64 (8 + m2)) := fun q => (H6.out.1.keep q.2).dm.cells.1
        have c1 : ∀ q : Cls w6, q.1.cell? ⟨d, 1, none⟩ = some (.bool (e2 != 0)) := fun q => (H6.out.1.keep q.2).dm.cells.2.1
        have c2 : ∀ q : Cls w6, q.1.cell? ⟨wr.heap.size, 1, none⟩ = some (.int .i64 t) := fun q => (H6.out.2.keep q.2).cells.2
        have HG := hid (fun (u : World) (hu : Below w6.heap.size w6 u) => HEnd.out u _ (H6.out.1.keep hu))
        generalize duB e2 t = B1 at HG
        generalize (e2 != 0) = B2 at HG c1
        haveI := Cls.ne w6
        refine wp_region_cls w6 (by kernel_rfl) (by kernel_rfl) ?_
        repeat (go_big_quiet_step (first
          | (go_at_call 15; exact Cls.of _ (fun u hu => (HG.out u hu).1))
          | (go_at_call 16; exact Cls.of _ (fun u hu => (HG.out u hu).2.1))
          | (go_at_call 17; exact Cls.of _ (fun u hu => (HG.out u hu).2.2.1))
          | (go_at_call 18; exact Cls.of _ (fun u hu => (HG.out u hu).2.2.2))))
        refine wpQuiet_nil ?_
        rintro _ ⟨q, rfl⟩
        go_wp2
        exact HRp.out _ _ (H6.out.1.keep q.2)
      · have hq := kd_is hz
        rw [hz] at em ee
        clear hz
        obtain ⟨q0, q1, q2, q3⟩ := hq
        simp only [Int.reduceBEq] at q0 q1 q2 q3
        have HD : Hid (∀ u : World, PzSt w u b d wr.heap.size m e x k t m2 e2 → Calls Try.prog 14 #[.pointer (some ⟨d, 0, none⟩)] u fun e' w' => e' = .returned (.tuple #[]) ∧ ∃ x2, PySt w w' b d m2 e2 x2 ∧ OpAt w' wr.heap.size k t) := hid (fun u hu => by
          have e1 : m2 = 0 := em
          have e3 : e2 = e := ee
          subst e3
          subst e1
          exact (wcalm_any d _ _ x u hu.dm).mono fun _ w' ⟨k1, k2, k3⟩ => ⟨k1, x, hu.step k3 k2 HX.out.1 HX.out.2.2.2⟩)
        clear em ee HX
        go_wp2_with (first
          | (go_at_call 10; go_must (refine HCl.out.mono ?_); rintro e' w5 ⟨rfl, h5⟩; have H5 := hid h5; clear h5; obtain ⟨y0, y1⟩ := H5.out.op.cells)
          | (go_at_call 14; go_must (refine (HD.out _ H5.out).mono ?_); rintro e' w6 ⟨rfl, x2, h6⟩; have H6 := hid h6; clear h6 y0 y1))
        have c0 : ∀ q : Cls w6, q.1.cell? ⟨d, 0, none⟩ = some (.int .i64 (8 + m2)) := fun q => (H6.out.1.keep q.2).dm.cells.1
        have c1 : ∀ q : Cls w6, q.1.cell? ⟨d, 1, none⟩ = some (.bool (e2 != 0)) := fun q => (H6.out.1.keep q.2).dm.cells.2.1
        have c2 : ∀ q : Cls w6, q.1.cell? ⟨wr.heap.size, 1, none⟩ = some (.int .i64 t) := fun q => (H6.out.2.keep q.2).cells.2
        have HG := hid (fun (u : World) (hu : Below w6.heap.size w6 u) => HEnd.out u _ (H6.out.1.keep hu))
        generalize duB e2 t = B1 at HG
        generalize (e2 != 0) = B2 at HG c1
        haveI := Cls.ne w6
        refine wp_region_cls w6 (by kernel_rfl) (by kernel_rfl) ?_
        repeat (go_big_quiet_step (first
          | (go_at_call 15; exact Cls.of _ (fun u hu => (HG.out u hu).1))
          | (go_at_call 16; exact Cls.of _ (fun u hu => (HG.out u hu).2.1))
          | (go_at_call 17; exact Cls.of _ (fun u hu => (HG.out u hu).2.2.1))
          | (go_at_call 18; exact Cls.of _ (fun u hu => (HG.out u hu).2.2.2))))
        refine wpQuiet_nil ?_
        rintro _ ⟨q, rfl⟩
        go_wp2
        exact HRp.out _ _ (H6.out.1.keep q.2)
      · have hq := kd_is hz
        rw [hz] at em ee
        clear hz
        obtain ⟨q0, q1, q2, q3⟩ := hq
        simp only [Int.reduceBEq] at q0 q1 q2 q3
        have HD : Hid (∀ u : World, PzSt w u b d wr.heap.size m e x k t m2 e2 → PySt w u b d m2 e2 x ∧ OpAt u wr.heap.size k t) := hid (fun u hu => by
          have e1 : m2 = m := em
          have e3 : e2 = e := ee
          subst e1
          subst e3
          exact hu.step (But.refl _ _) hu.dm HX.out.1 HX.out.2.2.2)
        clear em ee HX
        go_wp2_with (first
          | (go_at_call 10; go_must (refine HCl.out.mono ?_); rintro e' w6 ⟨rfl, h5⟩; have H6 := hid (HD.out _ h5); clear h5; obtain ⟨y0, y1⟩ := H6.out.2.cells))
        clear y0 y1
        have c0 : ∀ q : Cls w6, q.1.cell? ⟨d, 0, none⟩ = some (.int .i64 (8 + m2)) := fun q => (H6.out.1.keep q.2).dm.cells.1
        have c1 : ∀ q : Cls w6, q.1.cell? ⟨d, 1, none⟩ = some (.bool (e2 != 0)) := fun q => (H6.out.1.keep q.2).dm.cells.2.1
        have c2 : ∀ q : Cls w6, q.1.cell? ⟨wr.heap.size, 1, none⟩ = some (.int .i64 t) := fun q => (H6.out.2.keep q.2).cells.2
        have HG := hid (fun (u : World) (hu : Below w6.heap.size w6 u) => HEnd.out u _ (H6.out.1.keep hu))
        generalize duB e2 t = B1 at HG
        generalize (e2 != 0) = B2 at HG c1
        haveI := Cls.ne w6
        refine wp_region_cls w6 (by kernel_rfl) (by kernel_rfl) ?_
        repeat (go_big_quiet_step (first
          | (go_at_call 15; exact Cls.of _ (fun u hu => (HG.out u hu).1))
          | (go_at_call 16; exact Cls.of _ (fun u hu => (HG.out u hu).2.1))
          | (go_at_call 17; exact Cls.of _ (fun u hu => (HG.out u hu).2.2.1))
          | (go_at_call 18; exact Cls.of _ (fun u hu => (HG.out u hu).2.2.2))))
        refine wpQuiet_nil ?_
        rintro _ ⟨q, rfl⟩
        go_wp2
        exact HRp.out _ _ (H6.out.1.keep q.2)
end Go.Proofs.Ytoepmpjncddnlaa

/- Texts laid together: LpB LpC LpD LpS LpE. -/
import Derived.Test.YtecidbdbdnnglaaGreatLpAM
import Derived.Test.YtecidbdbdnnglaaGreatMx2
import Derived.Test.YtecidbdbdnnglaaGreatMx3
import Derived.Shelf.Strconv.Clone
import Derived.Test.YtecidbdbdnnglaaGreatLmA
import Derived.Shelf.SlMaps.Clone
/- The program's ledger: what is asked of it: isNone, Done, Full, Next, Conf, Last, Get. -/
namespace Go.Proofs.YtecidbdbdnnglaaGreat
open Go.RowKit

theorem same_below {f : FuncId} {args : Array Value} {v : Value} {u : World} (h : Calls Tryz.prog f args u fun e w' => e = .returned v ∧ w' = u) : Calls Tryz.prog f args u fun e w' => e = .returned v ∧ Below u.heap.size u w' :=
  h.mono fun _ _ ⟨he, hw⟩ => ⟨he, hw ▸ Below.refl _ _⟩
set_option maxRecDepth 100000 in
theorem gisNone_any {w : World} {g m : Nat} {am an : Option Addr} {cm cn : Nat} {s : Ls} (h : LdA w g m am an cm cn s) :
    Calls Tryz.prog 52 #[.pointer (some ⟨g, 0, none⟩)] w fun e w' => e = .returned (.bool false) ∧ w' = w := by
  have c1 := h.c1
  have hp : ¬ ((s.mem.length : Int) = 0) := by have := h.pos; omega
  have hp2 : ((s.mem.length : Int) == 0) = false := by simpa using hp
  have hp3 : ¬ (s.mem.length = 0) := by have := h.pos; omega
  have hp4 : ¬ (s.mem = []) := fun e => by rw [e] at hp3; simp at hp3
  clear h
  go_enter Tryz.func52, Tryz.ntmps52
  go_wp2
  go_ret
  first | exact ⟨rfl, rfl⟩ | simp_all
set_option maxRecDepth 100000 in
theorem gisNone_nil (w : World) : Calls Tryz.prog 52 #[.pointer none] w fun e w' => e = .returned (.bool true) ∧ w' = w := by
  go_enter Tryz.func52, Tryz.ntmps52
  go_wp2
  go_ret
  first | exact ⟨rfl, rfl⟩ | simp_all
set_option maxRecDepth 100000 in
theorem gendOf_any (e : Int) (h0 : -1 ≤ e) (h1 : e ≤ 1000) (w : World) : Calls Tryz.prog 71 #[.int .i64 e] w fun r w' => r = .returned (.int .i64 (4 * (e + 1))) ∧ w' = w := by
  have h2 : IntKind.i64.wrap (e + 1) = e + 1 := by simp [IntKind.wrap, IntKind.bits, IntKind.signed]; omega
  have h3 : IntKind.i64.wrap (4 * (e + 1)) = 4 * (e + 1) := by simp [IntKind.wrap, IntKind.bits, IntKind.signed]; omega
  go_enter Tryz.func71, Tryz.ntmps71
  go_wp2
  go_ret
  first | exact ⟨rfl, rfl⟩ | (refine ⟨?_, rfl⟩; congr 2; omega) | (simp [h2, h3])
set_option maxRecDepth 100000 in
theorem gdone_any {w : World} {g m : Nat} {am an : Option Addr} {cm cn : Nat} {s : Ls} (h : LdA w g m am an cm cn s) :
    Calls Tryz.prog 14 #[.pointer (some ⟨g, 0, none⟩)] w fun e w' => e = .returned (.int .i64 (s.dn : Int)) ∧ w' = w := by
  have c3 := h.c3
  have H := hid h
  clear h
  go_enter Tryz.func14, Tryz.ntmps14
  go_wp2_with (go_at_call 52; refine (gisNone_any H.out).mono ?_; rintro e w1 ⟨rfl, rfl⟩)
  go_ret
  exact ⟨rfl, rfl⟩
set_option maxRecDepth 100000 in
theorem gdone_nil (w : World) : Calls Tryz.prog 14 #[.pointer none] w fun e w' => e = .returned (.int .i64 0) ∧ w' = w := by
  go_enter Tryz.func14, Tryz.ntmps14
  go_wp2_with (go_at_call 52; refine (gisNone_nil _).mono ?_; rintro e w1 ⟨rfl, rfl⟩)
  go_ret
  exact ⟨rfl, rfl⟩
theorem LdA.drew {w : World} {g m : Nat} {am an : Option Addr} {cm cn : Nat} {s : Ls} (h : LdA w g m am an cm cn s) : LdA w.drew g m am an cm cn s := h.keep (Below.refl _ _).drew
set_option maxRecDepth 100000 in
set_option maxHeartbeats 1600000 in
theorem gfull_any {w : World} {g m : Nat} {am an : Option Addr} {cm cn : Nat} {s : Ls} (h : LdA w g m am an cm cn s) :
    Calls Tryz.prog 29 #[.pointer (some ⟨g, 0, none⟩)] w fun e w' => e = .returned (.bool (fullS s)) ∧ Below w.heap.size w w' := by
  have H := hid h
  have he : ((s.dn : Int) == 4 * ((s.ep : Int) + 1)) = fullS s := by
    unfold fullS
    by_cases e : s.dn = 4 * (s.ep + 1)
    · rw [decide_eq_true e]; simp; omega
    · rw [decide_eq_false e]; simp; omega
  have HE : Hid (0 ≤ (s.ep : Int) ∧ (s.ep : Int) ≤ 1000) := hid (by have := h.ok.ep; omega)
  have H2 := hid he
  clear h he
  go_enter Tryz.func29, Tryz.ntmps29
  go_wp2
  haveI := Cls.ne w
  have q3 : ∀ u : Cls w, u.1.cell? ⟨g, 3, none⟩ = some (.int .i64 (s.dn : Int)) := fun u => (H.out.keep u.2).c3
  have q0 : ∀ u : Cls w, u.1.cell? ⟨g, 0, none⟩ = some (.int .i64 (s.ep : Int)) := fun u => (H.out.keep u.2).c0
  refine wp_region_cls w (by kernel_rfl) (by kernel_rfl) ?_
  repeat (go_big_quiet_step ((first
    | (go_at_call 52; exact Cls.of _ (fun u hu => same_below (gisNone_any (H.out.keep hu))))
    | (go_at_call 71; exact Cls.of _ (fun u _ => same_below (gendOf_any _ (by have := HE.out; omega) HE.out.2 u))))))
  rintro w1 ⟨u, hu⟩
  have hw : Below w.heap.size w w1 := by first | exact hu ▸ u.2 | (rw [hu]; exact u.2) | (rw [← hu]; exact u.2)
  clear q3 q0 hu u
  go_wp2
  go_ret
  refine ⟨?_, hw⟩
  first | exact ret_bool H2.out | (rw [← H2.out]; rfl) | (rw [← H2.out]; simp)
set_option maxRecDepth 100000 in
set_option maxHeartbeats 1600000 in
theorem gfull_nil (w : World) : Calls Tryz.prog 29 #[.pointer none] w fun e w' => e = .returned (.bool false) ∧ Below w.heap.size w w' := by
  go_enter Tryz.func29, Tryz.ntmps29
  go_wp2
  haveI := Cls.ne w
  refine wp_region_cls w (by kernel_rfl) (by kernel_rfl) ?_
  repeat (go_big_quiet_step ((first
    | (go_at_call 52; exact Cls.of _ (fun u _ => same_below (gisNone_nil u))))))
  rintro w1 ⟨u, hu⟩
  have hw : Below w.heap.size w w1 := by first | exact hu ▸ u.2 | (rw [hu]; exact u.2) | (rw [← hu]; exact u.2)
  clear hu u
  go_wp2
  go_ret
  exact ⟨rfl, hw⟩
set_option maxRecDepth 100000 in
set_option maxHeartbeats 1600000 in
theorem gnext_any {w : World} {g m : Nat} {am an : Option Addr} {cm cn : Nat} {s : Ls} (h : LdA w g m am an cm cn s) :
    Calls Tryz.prog 19 #[.pointer (some ⟨g, 0, none⟩)] w fun e w' => ∃ a1 c1, e = .returned (.slice a1 s.nxt.length c1) ∧ NewI w.heap.size w' a1 s.nxt ∧ Below w.heap.size w w' := by
  have c2 := h.c2
  have H := hid h
  have HL : Hid (s.nxt.length * 8 ≤ 140737488355328) := hid (by have := h.pos; omega)
  clear h
  go_enter Tryz.func19, Tryz.ntmps19
  go_wp2_with (first
    | (go_at_call 22; refine (cloneInts_any _ _ _ s.nxt rfl HL.out _ H.out.ix).mono ?_; rintro e w2 ⟨a1, c1, rfl, hN, hb⟩; have H2 := hid (And.intro hN hb); clear hN hb)
    | (go_at_call 52; refine (gisNone_any H.out).mono ?_; rintro e w1 ⟨rfl, rfl⟩))
  go_ret
  first | exact ⟨a1, c1, rfl, H2.out.1, H2.out.2⟩ | exact ⟨a1, ⟨c1, rfl⟩, H2.out.1, H2.out.2⟩
set_option maxRecDepth 100000 in
theorem gnext_nil (w : World) : Calls Tryz.prog 19 #[.pointer none] w fun e w' => e = .returned (.slice none 0 0) ∧ w' = w := by
  go_enter Tryz.func19, Tryz.ntmps19
  go_wp2_with (go_at_call 52; refine (gisNone_nil _).mono ?_; rintro e w1 ⟨rfl, rfl⟩)
  go_ret
  exact ⟨rfl, rfl⟩
end Go.Proofs.YtecidbdbdnnglaaGreat

/- The program's ledger: copyConf, Conf, Last, Get. -/
namespace Go.Proofs.YtecidbdbdnnglaaGreat
open Go.RowKit

theorem two_cells {w : World} {b : Nat} {x y : Value} {T : TypeId} {fr : Nat × Nat} (h : w.heap[b]? = some (.cells #[x, y] T fr)) : w.cell? ⟨b, 0, none⟩ = some x ∧ w.cell? ⟨b, 1, none⟩ = some y := ⟨cell_at (L := [x, y]) h 0 _ rfl, cell_at (L := [x, y]) h 1 _ rfl⟩
/-- A configuration in a variable. -/
def GfAt (w : World) (b : Nat) (e : Int) (vm : Value) : Prop := w.heap[b]? = some (.cells #[.int .i64 e, vm] 24 (0, 0))
theorem GfAt.cells {w : World} {b : Nat} {e : Int} {vm : Value} (h : GfAt w b e vm) : w.cell? ⟨b, 0, none⟩ = some (.int .i64 e) ∧ w.cell? ⟨b, 1, none⟩ = some vm := two_cells h
theorem GfAt.keep {w w' : World} {b : Nat} {e : Int} {vm : Value} (h : GfAt w b e vm) (hb : Below w.heap.size w w') : GfAt w' b e vm := (hb.block b (lt_of_blk h)).trans h
theorem NewI.lowB {B C : Nat} {w : World} {ad : Option Addr} {l : List Int} (h : NewI B w ad l) (hC : C ≤ B) : NewI C w ad l := ⟨h.ints, fun x hx => ⟨Nat.le_trans hC (h.far x hx).1, (h.far x hx).2⟩⟩
theorem NewI.one {B b : Nat} {w w' : World} {ad : Option Addr} {l : List Int} (h : NewI B w ad l) (ho : One b w w') (hb : b < B) : NewI B w' ad l :=
  ⟨ints_stay h.ints (Nat.le_of_eq ho.size.symm) (fun x hx => ho.block _ (by have := (h.far x hx).1; omega)), fun x hx => ⟨(h.far x hx).1, (h.far x hx).2.keep (ho.block _ (by have := (h.far x hx).1; omega))⟩⟩
/-- While a configuration is copied. -/
structure GcSt (w0 w : World) (e : Int) (vm : Value) : Prop where
  cf : GfAt w w0.heap.size e vm
  res : w.heap[w0.heap.size + 1]? = some (.cells #[.int .i64 0, .slice none 0 0] 24 (0, 0))
  bel : Below w0.heap.size w0 w
theorem GcSt.keep {w0 w w' : World} {e : Int} {vm : Value} (h : GcSt w0 w e vm) (hb : Below w.heap.size w w') : GcSt w0 w' e vm :=
  ⟨h.cf.keep hb, (hb.block _ (lt_of_blk h.res)).trans h.res, h.bel.trans (hb.mono h.bel.size)⟩
theorem cf_put2 {w : World} {b : Nat} {p q x0 x1 : Value} {T : TypeId} (h : w.heap[b]? = some (.cells #[p, q] T (0, 0))) : ((w.setCell ⟨b, 0, none⟩ x0).setCell ⟨b, 1, none⟩ x1).heap[b]? = some (.cells #[x0, x1] T (0, 0)) := by
  have h1 : (w.setCell ⟨b, 0, none⟩ x0).heap[b]? = some (.cells #[x0, q] T (0, 0)) := (blk_set h 0 x0).trans (by simp)
  exact (blk_set h1 1 x1).trans (by simp)
theorem one_two (w : World) (b : Nat) (x0 x1 : Value) : One b w ((w.setCell ⟨b, 0, none⟩ x0).setCell ⟨b, 1, none⟩ x1) := (one_cell w b 0 x0).trans (one_cell _ b 1 x1)
theorem One.belowT {b B : Nat} {w0 w w' : World} (h : One b w w') (hb : Below B w0 w) (hB : B ≤ b) : Below B w0 w' := h.below hb hB
set_option maxRecDepth 100000 in
set_option maxHeartbeats 3200000 in
theorem gcopyConf_any (e : Int) (a : Option Addr) (n cap : Nat) (l : List Int) (hn : l.length = n) (hm : n * 8 ≤ 140737488355328) (w : World) (hI : IntsIn w a l) :
    Calls Tryz.prog 21 #[.agg #[.int .i64 e, .slice a n cap]] w fun r w' => ∃ a1 c1, r = .returned (.agg #[.int .i64 e, .slice a1 n c1]) ∧ NewI w.heap.size w' a1 l ∧ Below w.heap.size w w' := by
  have H0 : Hid (GcSt w ((w.alloc (.cells #[.int .i64 e, .slice a n cap] 24)).alloc (.cells #[.int .i64 0, .slice none 0 0] 24)) e (.slice a n cap)) := hid
    ⟨(Below.heap_alloc _ _ _ (by simp)).trans (heap_alloc_last w _), snd_alloc w _ _, ((Below.refl _ _).alloc (Nat.le_refl _) _).alloc (by simp) _⟩
  have HD : Hid (∀ u : World, Below w.heap.size w u → IntsIn u a l) := hid (fun u hu => hI.keep hu (Nat.le_refl _))
  have HL := hid (And.intro hn hm)
  clear hI hn hm
  go_enter Tryz.func21, Tryz.ntmps21
  go_wp2
  obtain ⟨w1, ew⟩ : ∃ w1, w1 = (w.alloc (.cells #[.int .i64 e, .slice a n cap] 24)).alloc (.cells #[.int .i64 0, .slice none 0 0] 24) := ⟨_, rfl⟩
  rw [← ew] at H0 ⊢
  clear ew
  have H1 : Hid (GcSt w w1.drew e (.slice a n cap)) := hid (H0.out.keep (Below.refl _ _).drew)
  have HS := hid H1.out.cf
  refine wp_region_held (S := fun ww => GfAt ww w.heap.size e (.slice a n cap)) (by kernel_rfl) ?_
  try (change wpAnyH _ _ _ _ _ _ _ _ (World.drew _))
  refine wpAnyH_take (i := 0) (v := ?v1) rfl (by kernel_rfl) (by kernel_rfl) (by kernel_rfl) (fun _ _ _ h => h) (Or.inl ⟨by rfl, ?hy1⟩) HS.out ?rest1
  case hy1 => (intro ww _; go_simp; try with_reducible rfl)
  go_simp
  refine wpAnyH_take (i := 1) (v := ?v2) rfl (by kernel_rfl) (by kernel_rfl) (by kernel_rfl) (fun _ _ _ h => h) (Or.inl ⟨by rfl, ?hy2⟩) HS.out ?rest2
  case hy2 => (intro ww hS; obtain ⟨y0, y1⟩ := hS.cells; go_simp; try with_reducible rfl)
  go_simp
  refine wpAnyH_take (i := 2) (v := ?v3) rfl (by kernel_rfl) (by kernel_rfl) (by kernel_rfl) (fun _ _ _ h => h) (Or.inl ⟨by rfl, ?hy3⟩) HS.out ?rest3
  case hy3 => (intro ww _; go_simp; try with_reducible rfl)
  go_simp
  refine wpAnyH_take (i := 3) (v := ?v4) rfl (by kernel_rfl) (by kernel_rfl) (by kernel_rfl) (fun _ _ _ h => h) (Or.inl ⟨by rfl, ?hy4⟩) HS.out ?rest4
  case hy4 => (intro ww hS; obtain ⟨y0, y1⟩ := hS.cells; go_simp; try with_reducible rfl)
  go_simp
  refine wpAnyH_all (rs := [4]) (by kernel_rfl) (by simp) ?_
  intro i hi
  obtain rfl := List.mem_singleton.1 hi
  clear hi
  refine wpOp_d rfl (by rfl) (fun K hK => ?_)
  go_simp
  refine (cloneInts_any a n cap l HL.out.1 HL.out.2 _ (HD.out _ H1.out.bel)).mono ?_
  rintro r w2 ⟨a1, c1, rfl, hN2, hb2⟩
  have H2 := hid (And.intro (H1.out.keep hb2) (And.intro hN2 hb2))
  clear hN2 hb2
  refine hK _ _ ⟨H2.out.1.cf, ?_⟩
  clear hK K
  go_simp
  refine wpAnyH_take (i := 5) (v := ?v5) rfl (by kernel_rfl) (by kernel_rfl) (by kernel_rfl) (fun _ _ _ h => h) (Or.inl ⟨by rfl, ?hy5⟩) H2.out.1.cf ?rest5
  case hy5 => (intro ww _; go_simp; try with_reducible rfl)
  go_simp
  refine wpAnyH_all (rs := [6]) (by kernel_rfl) (by simp) ?_
  intro i hi
  obtain rfl := List.mem_singleton.1 hi
  clear hi
  refine wpOp_d rfl (by rfl) (fun K hK => ?_)
  have r0 := (two_cells H2.out.1.res).1
  have r1 := (two_cells H2.out.1.res).2
  have f0 := free_at H2.out.1.res 0
  have f1 := free_at H2.out.1.res 1
  go_simp
  refine hK _ _ ⟨?_, ?_⟩
  · refine (Below.heap_setCell _ _ _ _ ?_).trans ((Below.heap_setCell _ _ _ _ ?_).trans H2.out.1.cf) <;> simp
  clear hK K r0 r1 f0 f1
  go_simp
  refine wpAnyH_done (by kernel_rfl) ?_ _
  go_simp
  go_wp2
  refine ret_oneD (s := 2) (ad := ⟨w.heap.size + 1, 0, none⟩) rfl rfl (load_conf _ _ (.int .i64 e) (.slice a1 n c1) (two_cells (cf_put2 H2.out.1.res)).1 (two_cells (cf_put2 H2.out.1.res)).2) rfl ?_
  have hsz : w.heap.size + 1 < w1.drew.heap.size := lt_of_blk H1.out.res
  have ho := one_two w2 (w.heap.size + 1) (.int .i64 e) (.slice a1 n c1)
  exact ⟨a1, c1, rfl, (H2.out.2.1.one ho hsz).lowB (by omega), ho.below H2.out.1.bel (Nat.le_succ _)⟩
set_option maxRecDepth 100000 in
set_option maxHeartbeats 3200000 in
theorem gconf_any {w : World} {g m : Nat} {am an : Option Addr} {cm cn : Nat} {s : Ls} (h : LdA w g m am an cm cn s) :
    Calls Tryz.prog 18 #[.pointer (some ⟨g, 0, none⟩)] w fun e w' => ∃ a1 c1, e = .returned (.agg #[.int .i64 (s.ep : Int), .slice a1 s.mem.length c1]) ∧ NewI w.heap.size w' a1 s.mem ∧ Below w.heap.size w w' := by
  have hax := (Below.refl w.heap.size w).alloc (Nat.le_refl _) (.cells #[.int .i64 0, .slice none 0 0] 24)
  have H : Hid (LdA (w.alloc (.cells #[.int .i64 0, .slice none 0 0] 24)) g m am an cm cn s ∧ GfAt (w.alloc (.cells #[.int .i64 0, .slice none 0 0] 24)) w.heap.size 0 (.slice none 0 0) ∧ Below w.heap.size w (w.alloc (.cells #[.int .i64 0, .slice none 0 0] 24))) := hid ⟨h.keep hax, heap_alloc_last w _, hax⟩
  have HL : Hid (s.mem.length * 8 ≤ 140737488355328) := hid (by have := h.pos; omega)
  have c0 := H.out.1.c0
  have c1 := H.out.1.c1
  clear h hax
  go_enter Tryz.func18, Tryz.ntmps18
  go_wp2_with (first
    | (go_at_call 21; refine (gcopyConf_any _ _ _ _ s.mem rfl HL.out _ H.out.1.im).mono ?_; rintro e w2 ⟨a1, cc1, rfl, hN, hb⟩; have H2 := hid (And.intro hN (And.intro hb (H.out.2.1.keep hb))); clear hN hb; obtain ⟨r0, r1⟩ := H2.out.2.2.cells; have f0 := free_at H2.out.2.2 0; have f1 := free_at H2.out.2.2 1)
    | (go_at_call 52; refine (gisNone_any H.out.1).mono ?_; rintro e w1 ⟨rfl, rfl⟩))
  refine ret_oneD (s := 2) (ad := ⟨w.heap.size, 0, none⟩) rfl rfl (load_conf _ _ (.int .i64 (s.ep : Int)) (.slice a1 s.mem.length cc1) (two_cells (cf_put2 H2.out.2.2)).1 (two_cells (cf_put2 H2.out.2.2)).2) rfl ?_
  have ho := one_two w2 w.heap.size (.int .i64 (s.ep : Int)) (.slice a1 s.mem.length cc1)
  exact ⟨a1, cc1, rfl, (H2.out.1.one ho (by simp)).lowB (by simp), ho.below (H.out.2.2.trans (H2.out.2.1.mono (by simp))) (Nat.le_refl _)⟩
set_option maxRecDepth 100000 in
theorem gconf_nil (w : World) : Calls Tryz.prog 18 #[.pointer none] w fun e w' => e = .returned (.agg #[.int .i64 0, .slice none 0 0]) ∧ Below w.heap.size w w' := by
  have hax := (Below.refl w.heap.size w).alloc (Nat.le_refl _) (.cells #[.int .i64 0, .slice none 0 0] 24)
  have H : Hid (GfAt (w.alloc (.cells #[.int .i64 0, .slice none 0 0] 24)) w.heap.size 0 (.slice none 0 0) ∧ Below w.heap.size w (w.alloc (.cells #[.int .i64 0, .slice none 0 0] 24))) := hid ⟨heap_alloc_last w _, hax⟩
  obtain ⟨r0, r1⟩ := H.out.1.cells
  have f0 := free_at H.out.1 0
  have f1 := free_at H.out.1 1
  clear hax
  go_enter Tryz.func18, Tryz.ntmps18
  go_wp2_with (go_at_call 52; refine (gisNone_nil _).mono ?_; rintro e w1 ⟨rfl, rfl⟩)
  refine ret_oneD (s := 2) (ad := ⟨w.heap.size, 0, none⟩) rfl rfl (load_conf _ _ (.int .i64 0) (.slice none 0 0) (two_cells H.out.1).1 (two_cells H.out.1).2) rfl ?_
  exact ⟨rfl, H.out.2⟩
set_option maxRecDepth 100000 in
theorem gget_any {w : World} {g m : Nat} {am an : Option Addr} {cm cn : Nat} {s : Ls} (h : LdA w g m am an cm cn s) (k : ByteArray) (hk : k.size ≤ maxLen) :
    Calls Tryz.prog 32 #[.pointer (some ⟨g, 0, none⟩), .string k] w fun e w' => e = .returned (.tuple #[.float .f64 (valK k s.its), .bool (getK k s.its).isSome]) ∧ w' = w := by
  have c4 := h.c4
  have hlk := h.km.look k hk
  have H := hid h
  generalize valK k s.its = x at hlk ⊢
  generalize (getK k s.its).isSome = y at hlk ⊢
  clear h
  go_enter Tryz.func32, Tryz.ntmps32
  go_wp2_with (go_at_call 52; refine (gisNone_any H.out).mono ?_; rintro e w1 ⟨rfl, rfl⟩)
  go_ret2
  exact ⟨rfl, rfl⟩
set_option maxRecDepth 100000 in
theorem gget_nil (k : ByteArray) (w : World) : Calls Tryz.prog 32 #[.pointer none, .string k] w fun e w' => e = .returned (.tuple #[.float .f64 0, .bool false]) ∧ w' = w := by
  go_enter Tryz.func32, Tryz.ntmps32
  go_wp2_with (go_at_call 52; refine (gisNone_nil _).mono ?_; rintro e w1 ⟨rfl, rfl⟩)
  go_ret2
  exact ⟨rfl, rfl⟩
set_option maxRecDepth 100000 in
theorem gtext_nil (w : World) : Calls Tryz.prog 13 #[.pointer none] w fun e w' => e = .returned (.string ⟨#[]⟩) ∧ w' = w := by
  go_enter Tryz.func13, Tryz.ntmps13
  go_wp2_with (go_at_call 52; refine (gisNone_nil _).mono ?_; rintro e w1 ⟨rfl, rfl⟩)
  go_ret
  exact ⟨rfl, rfl⟩
end Go.Proofs.YtecidbdbdnnglaaGreat

/- The program's ledger: Last, codeOf, set, put, replaceNext. -/
namespace Go.Proofs.YtecidbdbdnnglaaGreat
open Go.RowKit

section
variable {o : Oper} {a : Act} {w : World} {K : Act → World → Prop} {Q : Exit → Act → World → Prop} {ops : Array Oper} {rest : List Oper} {QQ : Exit → Act → World → Prop}
theorem owp_store_rs (p x : Operand) (ho : o.op = .store 50 p x) (b : Nat) (hp : a.eval p = .pointer (some ⟨b, 0, none⟩)) (c0 c : Int) (f0 f : Nat) (hx : a.eval x = .agg #[.int .i64 c, .float .f64 f]) (hR : RsAt w b c0 f0)
    (h : ∀ w', Hid (RsAt w' b c f ∧ One b w w') → K (a.put o.dst undef) w') : o.wp Tryz.prog a w K Q :=
  wp_store_mid (P := Tryz.prog) 50 p x ho b 0 #[.int .i64 c, .float .f64 f] hp hx (rs_there hR) (by kernel_rfl) (by simp [Value.oneCell']) (h _ ⟨rs_all hR, one_cells b _ 0 w⟩)
/-- A deed in a variable. -/
def DdAt (w : World) (b : Nat) (d : De) : Prop := w.heap[b]? = some (.cells [.int .i64 (d.1 : Int), .int .i64 d.2.1, .float .f64 d.2.2].toArray 69 (0, 0))
theorem DdAt.cells {w : World} {b : Nat} {d : De} (h : DdAt w b d) : w.cell? ⟨b, 0, none⟩ = some (.int .i64 (d.1 : Int)) ∧ w.cell? ⟨b, 1, none⟩ = some (.int .i64 d.2.1) ∧ w.cell? ⟨b, 2, none⟩ = some (.float .f64 d.2.2) := ⟨cell_at h 0 _ rfl, cell_at h 1 _ rfl, cell_at h 2 _ rfl⟩
theorem DdAt.keep {w w' : World} {b : Nat} {d : De} (h : DdAt w b d) (hb : Below w.heap.size w w') : DdAt w' b d := (hb.block b (lt_of_blk h)).trans h
theorem dd_all {w : World} {b : Nat} {d0 d : De} (h : DdAt w b d0) : DdAt (w.setCells b 0 [.int .i64 (d.1 : Int), .int .i64 d.2.1, .float .f64 d.2.2]) b d := by
  have h0 := blk_set h 0 (.int .i64 (d.1 : Int))
  have h1 := blk_set h0 1 (.int .i64 d.2.1)
  have h2 := blk_set h1 2 (.float .f64 d.2.2)
  exact h2.trans (by simp)
theorem dd_there {w : World} {b : Nat} {d : De} (h : DdAt w b d) : w.there b 0 3 := fun j hj => by
  obtain ⟨z0, z1, z2⟩ := h.cells
  refine ⟨?_, free_at h _⟩
  rw [Nat.zero_add]
  match j, hj with
  | 0, _ => rw [z0]; rfl
  | 1, _ => rw [z1]; rfl
  | 2, _ => rw [z2]; rfl
theorem wl_store_dd (hgd : o.guard = none) (p x : Operand) (ho : o.op = .store 69 p x) (b : Nat) (hp : a.eval p = .pointer (some ⟨b, 0, none⟩)) (d0 d : De) (hx : a.eval x = .agg #[.int .i64 (d.1 : Int), .int .i64 d.2.1, .float .f64 d.2.2]) (hR : DdAt w b d0)
    (h : ∀ w', Hid (DdAt w' b d ∧ One b w w') → wpList Tryz.prog ops QQ rest (a.put o.dst undef) w') : wpList Tryz.prog ops QQ (o :: rest) a w :=
  wpList_store_mid (P := Tryz.prog) hgd 69 p x ho b 0 #[.int .i64 (d.1 : Int), .int .i64 d.2.1, .float .f64 d.2.2] hp hx (dd_there hR) (by kernel_rfl) (by simp [Value.oneCell']) (h _ ⟨dd_all hR, one_cells b _ 0 w⟩)
end
theorem RsAt.one {w w' : World} {b k : Nat} {c : Int} {f : Nat} (h : RsAt w b c f) (ho : One k w w') (hk : b ≠ k) : RsAt w' b c f := (ho.block b hk).trans h
theorem ret_tmpcell {f : Func} {a : Act} {w : World} {Q : Ending → World → Prop} {s s2 : Nat} {t : TypeId} {ad : Addr} {v v2 : Value} (hr : f.results = #[.tmp s2, .cell s t]) (h2 : a.tmps.getD s2 undef = v2) (hs : a.tmps.getD s undef = .pointer (some ad)) (hl : (loadVar t ad).run Tryz.prog w = .ok v w) (hd : a.defers = [])
    (h : Q (.returned (.tuple #[v2, v])) w) : bodyPost Tryz.prog f Q .ret a w := by
  refine bodyPost_ret (v := .tuple #[v2, v]) ?_ hd h
  have h1 : a.tmps.getD s undef = .pointer (some ad) := hs
  simp [results, hr, -Array.getD_eq_getD_getElem?, h1, h2, asAddr, hl]
set_option maxRecDepth 100000 in
set_option maxHeartbeats 3200000 in
theorem glast_in {w : World} {g m : Nat} {am an : Option Addr} {cm cn : Nat} {s : Ls} (h : LdA w g m am an cm cn s) (c : Nat) (hc : c < 8) (z : Int) (hz : z = (c : Int) + 1) :
    Calls Tryz.prog 34 #[.pointer (some ⟨g, 0, none⟩), .int .i64 z] w fun e w' => e = .returned (.tuple #[.int .i64 ((s.at c).1 : Int), .agg #[.int .i64 (s.at c).2.1, .float .f64 (s.at c).2.2]]) ∧ Below w.heap.size w w' := by
  have hax := (Below.refl w.heap.size w).alloc (Nat.le_refl _) (.cells #[.int .i64 0, .float .f64 0] 50)
  have hA := h.keep hax
  have H : Hid (LdA (w.alloc (.cells #[.int .i64 0, .float .f64 0] 50)) g m am an cm cn s ∧ RsAt (w.alloc (.cells #[.int .i64 0, .float .f64 0] 50)) w.heap.size 0 0 ∧ Below w.heap.size w (w.alloc (.cells #[.int .i64 0, .float .f64 0] 50))) := hid ⟨hA, heap_alloc_last w _, hax⟩
  obtain ⟨e0, e1, e2⟩ := hA.cd c hc
  have hz1 : ¬ (z < 1) := by omega
  have hz2 : ¬ (8 < z) := by omega
  have hz3 : z - 1 = (c : Int) := by omega
  have hz4 : (c : Int) < 8 := by omega
  have hz5 : (0 : Int) ≤ (c : Int) := by omega
  have hw3 : IntKind.i64.wrap (z - 1) = (c : Int) := by rw [hz3]; simp [IntKind.wrap, IntKind.bits, IntKind.signed]; omega
  have HZ := hid hz
  generalize s.at c = d at e0 e1 e2 ⊢
  clear h hax hA hz hz3
  go_enter Tryz.func34, Tryz.ntmps34
  go_wp2_with (first
    | (refine wl_store_dd rfl _ _ rfl (w.heap.size + 1) rfl (0, 0, 0) d rfl (snd_alloc w _ _) ?_; intro w2 Hq; have hbx := (Below.refl (w.alloc (.cells #[.int .i64 0, .float .f64 0] 50)).heap.size (w.alloc (.cells #[.int .i64 0, .float .f64 0] 50))).alloc (Nat.le_refl _) (.cells #[.int .i64 0, .int .i64 0, .float .f64 0] 69); have H2 : Hid (DdAt w2 (w.heap.size + 1) d ∧ RsAt w2 w.heap.size 0 0 ∧ Below w.heap.size w w2) := hid ⟨Hq.out.1, (H.out.2.1.keep hbx).one Hq.out.2 (by omega), Hq.out.2.below (H.out.2.2.trans (hbx.mono (by simp))) (Nat.le_succ _)⟩; clear Hq hbx)
    | (go_at_call 52; refine (gisNone_any H.out.1).mono ?_; rintro e w1 ⟨rfl, rfl⟩))
  have HS : Hid (DdAt w2.drew (w.heap.size + 1) d) := hid (H2.out.1.keep (Below.refl _ _).drew)
  refine wp_region_held (S := fun ww => DdAt ww (w.heap.size + 1) d) (by kernel_rfl) ?_
  try (change wpAnyH _ _ _ _ _ _ _ _ (World.drew _))
  refine wpAnyH_take (i := 0) (v := ?v1) rfl (by kernel_rfl) (by kernel_rfl) (by kernel_rfl) (fun _ _ _ h => h) (Or.inl ⟨by rfl, ?hy1⟩) HS.out ?rest1
  case hy1 => (intro ww _; go_simp; try with_reducible rfl)
  go_simp
  refine wpAnyH_take (i := 1) (v := ?v2) rfl (by kernel_rfl) (by kernel_rfl) (by kernel_rfl) (fun _ _ _ h => h) (Or.inl ⟨by rfl, ?hy2⟩) HS.out ?rest2
  case hy2 => (intro ww hS; obtain ⟨y0, y1, y2⟩ := hS.cells; go_simp; try with_reducible rfl)
  go_simp
  refine wpAnyH_take (i := 2) (v := ?v3) rfl (by kernel_rfl) (by kernel_rfl) (by kernel_rfl) (fun _ _ _ h => h) (Or.inl ⟨by rfl, ?hy3⟩) HS.out ?rest3
  case hy3 => (intro ww _; go_simp; try with_reducible rfl)
  go_simp
  refine wpAnyH_take (i := 3) (v := ?v4) rfl (by kernel_rfl) (by kernel_rfl) (by kernel_rfl) (fun _ _ _ h => h) (Or.inl ⟨by rfl, ?hy4⟩) HS.out ?rest4
  case hy4 => (intro ww hS; obtain ⟨y0, y1, y2⟩ := hS.cells; go_simp; try with_reducible rfl)
  go_simp
  refine wpAnyH_take (i := 4) (v := ?v5) rfl (by kernel_rfl) (by kernel_rfl) (by kernel_rfl) (fun _ _ _ h => h) (Or.inl ⟨by rfl, ?hy5⟩) HS.out ?rest5
  case hy5 => (intro ww _; go_simp; try with_reducible rfl)
  go_simp
  refine wpAnyH_all (rs := [5]) (by kernel_rfl) (by simp) ?_
  intro i hi
  obtain rfl := List.mem_singleton.1 hi
  clear hi
  refine wpOp_d rfl (by rfl) (fun K hK => ?_)
  refine owp_store_rs _ _ rfl w.heap.size rfl 0 d.2.1 0 d.2.2 rfl (H2.out.2.1.keep (Below.refl _ _).drew) ?_
  intro w3 Hq
  have H3 : Hid (RsAt w3 w.heap.size d.2.1 d.2.2 ∧ Below w.heap.size w w3) := hid ⟨Hq.out.1, Hq.out.2.below (H2.out.2.2.trans ((Below.refl _ _).drew.mono H2.out.2.2.size)) (Nat.le_refl _)⟩
  refine hK _ _ ⟨(Hq.out.2.block _ (by omega)).trans HS.out, ?_⟩
  clear hK K Hq
  go_simp
  refine wpAnyH_done (by kernel_rfl) ?_ _
  go_simp
  go_wp2
  refine ret_tmpcell (s := 5) (s2 := 4) (ad := ⟨w.heap.size, 0, none⟩) rfl rfl rfl (load_rs _ _ d.2.1 d.2.2 H3.out.1) rfl ?_
  exact ⟨rfl, H3.out.2⟩
set_option maxRecDepth 100000 in
set_option maxHeartbeats 3200000 in
theorem glast_out {w : World} {g m : Nat} {am an : Option Addr} {cm cn : Nat} {s : Ls} (h : LdA w g m am an cm cn s) (z : Int) (hz : z < 1 ∨ 8 < z) :
    Calls Tryz.prog 34 #[.pointer (some ⟨g, 0, none⟩), .int .i64 z] w fun e w' => e = .returned (.tuple #[.int .i64 0, .agg #[.int .i64 0, .float .f64 0]]) ∧ Below w.heap.size w w' := by
  have hax := (Below.refl w.heap.size w).alloc (Nat.le_refl _) (.cells #[.int .i64 0, .float .f64 0] 50)
  have H : Hid (LdA (w.alloc (.cells #[.int .i64 0, .float .f64 0] 50)) g m am an cm cn s ∧ RsAt (w.alloc (.cells #[.int .i64 0, .float .f64 0] 50)) w.heap.size 0 0 ∧ Below w.heap.size w (w.alloc (.cells #[.int .i64 0, .float .f64 0] 50))) := hid ⟨h.keep hax, heap_alloc_last w _, hax⟩
  clear h hax
  by_cases h1 : z < 1
  · clear hz
    go_enter Tryz.func34, Tryz.ntmps34
    go_wp2_with (first
      | (refine wl_store_rs rfl _ _ rfl w.heap.size rfl 0 0 0 0 rfl H.out.2.1 ?_; intro w2 Hq; have H2 : Hid (RsAt w2 w.heap.size 0 0 ∧ Below w.heap.size w w2) := hid ⟨Hq.out.1, Hq.out.2.below H.out.2.2 (Nat.le_refl _)⟩; clear Hq)
      | (go_at_call 52; refine (gisNone_any H.out.1).mono ?_; rintro e w1 ⟨rfl, rfl⟩))
    refine ret_tmpcell (s := 5) (s2 := 4) (ad := ⟨w.heap.size, 0, none⟩) rfl rfl rfl (load_rs _ _ 0 0 H2.out.1) rfl ?_
    exact ⟨rfl, H2.out.2⟩
  · have h2 : 8 < z := by omega
    clear hz
    go_enter Tryz.func34, Tryz.ntmps34
    go_wp2_with (first
      | (refine wl_store_rs rfl _ _ rfl w.heap.size rfl 0 0 0 0 rfl H.out.2.1 ?_; intro w2 Hq; have H2 : Hid (RsAt w2 w.heap.size 0 0 ∧ Below w.heap.size w w2) := hid ⟨Hq.out.1, Hq.out.2.below H.out.2.2 (Nat.le_refl _)⟩; clear Hq)
      | (go_at_call 52; refine (gisNone_any H.out.1).mono ?_; rintro e w1 ⟨rfl, rfl⟩))
    refine ret_tmpcell (s := 5) (s2 := 4) (ad := ⟨w.heap.size, 0, none⟩) rfl rfl rfl (load_rs _ _ 0 0 H2.out.1) rfl ?_
    exact ⟨rfl, H2.out.2⟩
set_option maxRecDepth 100000 in
set_option maxHeartbeats 3200000 in
theorem glast_nil (z : Int) (w : World) :
    Calls Tryz.prog 34 #[.pointer none, .int .i64 z] w fun e w' => e = .returned (.tuple #[.int .i64 0, .agg #[.int .i64 0, .float .f64 0]]) ∧ Below w.heap.size w w' := by
  have hax := (Below.refl w.heap.size w).alloc (Nat.le_refl _) (.cells #[.int .i64 0, .float .f64 0] 50)
  have H : Hid (RsAt (w.alloc (.cells #[.int .i64 0, .float .f64 0] 50)) w.heap.size 0 0 ∧ Below w.heap.size w (w.alloc (.cells #[.int .i64 0, .float .f64 0] 50))) := hid ⟨heap_alloc_last w _, hax⟩
  clear hax
  go_enter Tryz.func34, Tryz.ntmps34
  go_wp2_with (first
    | (refine wl_store_rs rfl _ _ rfl w.heap.size rfl 0 0 0 0 rfl H.out.1 ?_; intro w2 Hq; have H2 : Hid (RsAt w2 w.heap.size 0 0 ∧ Below w.heap.size w w2) := hid ⟨Hq.out.1, Hq.out.2.below H.out.2 (Nat.le_refl _)⟩; clear Hq)
    | (go_at_call 52; refine (gisNone_nil _).mono ?_; rintro e w1 ⟨rfl, rfl⟩))
  refine ret_tmpcell (s := 5) (s2 := 4) (ad := ⟨w.heap.size, 0, none⟩) rfl rfl rfl (load_rs _ _ 0 0 H2.out.1) rfl ?_
  exact ⟨rfl, H2.out.2⟩
theorem gcodeOf_any (e : Int) (w : World) : Calls Tryz.prog 130 #[.int .i64 e] w fun r w' => r = .returned (.int .i64 (codeZ e)) ∧ w' = w := by
  by_cases h1 : e = 7
  · subst h1
    go_enter Tryz.func130, Tryz.ntmps130
    go_wp2
    go_ret
    exact ⟨rfl, rfl⟩
  · by_cases h2 : e = 10
    · subst h2
      go_enter Tryz.func130, Tryz.ntmps130
      go_wp2
      go_ret
      exact ⟨rfl, rfl⟩
    · by_cases h3 : e = 8
      · subst h3
        go_enter Tryz.func130, Tryz.ntmps130
        go_wp2
        go_ret
        exact ⟨rfl, rfl⟩
      · rw [show codeZ e = 5 by rw [codeZ, if_neg h1, if_neg h2, if_neg h3]]
        go_enter Tryz.func130, Tryz.ntmps130
        go_wp2
        go_ret
        exact ⟨rfl, rfl⟩
end Go.Proofs.YtecidbdbdnnglaaGreat

/- What the program's ledger calls of the library: strings.Clone, maps.Clone. -/
namespace Go.Proofs.YtecidbdbdnnglaaGreat
open Go.RowKit

def renLMn316 : Go.Shelf.Ren := ⟨fun | 316 => 160 | n => n, fun | 0 => 0 | 3 => 3 | 4 => 4 | 5 => 5 | 9 => 9 | 37 => 124 | 127 => 186 | n => n, fun | n => n⟩
theorem layLMn316 : Go.Proofs.LaysM.n316 Tryz.prog renLMn316 := {
  mixed := by kernel_rfl
  f316 := Tryz.func160.trans (congrArg some (by kernel_rfl))
  t0 := Tryz.underlying0
  a0 := Tryz.isAgg0
  z0 := Tryz.sizeOf0
  v0 := Tryz.zeroValue0
  t3 := Tryz.underlying3
  a3 := Tryz.isAgg3
  z3 := Tryz.sizeOf3
  v3 := Tryz.zeroValue3
  t4 := Tryz.underlying4
  a4 := Tryz.isAgg4
  z4 := Tryz.sizeOf4
  v4 := Tryz.zeroValue4
  t9 := Tryz.underlying9
  a9 := Tryz.isAgg9
  z9 := Tryz.sizeOf9
  v9 := Tryz.zeroValue9
  t37 := Tryz.underlying124
  a37 := Tryz.isAgg124
  z37 := Tryz.sizeOf124
  v37 := Tryz.zeroValue124
  t127 := Tryz.underlying186
  a127 := Tryz.isAgg186
  z127 := Tryz.sizeOf186
  v127 := Tryz.zeroValue186
  t5 := Tryz.underlying5
  a5 := Tryz.isAgg5
  z5 := Tryz.sizeOf5
  v5 := Tryz.zeroValue5
  i0 := by kernel_rfl
  i3 := by kernel_rfl
  i4 := by kernel_rfl
  i5 := by kernel_rfl
  i9 := by kernel_rfl
  i37 := by kernel_rfl
  i127 := by kernel_rfl }
set_option maxRecDepth 100000 in
theorem sclone_any (t : ByteArray) (ht : t.size ≤ 281474976710656) (w : World) : Calls Tryz.prog 148 #[.string t] w fun e w' => e = .returned (.string t) ∧ Below w.heap.size w w' := by
  have hc := fun u : World => Any.stringslite_Clone layLMn316 t u ht
  go_enter Tryz.func148, Tryz.ntmps148
  go_wp2_with (go_at_call 160; refine (hc _).mono ?_; rintro e w1 ⟨rfl, hb⟩; have H1 := hid hb; clear hb)
  go_ret
  exact ⟨rfl, H1.out⟩
end Go.Proofs.YtecidbdbdnnglaaGreat

/- The program's ledger: set, put, replaceNext, atKey. -/
namespace Go.Proofs.YtecidbdbdnnglaaGreat
open Go.RowKit

section
variable {o : Oper} {a : Act} {w : World} {K : Act → World → Prop} {Q : Exit → Act → World → Prop}
theorem owp_put_key (mo ko vo : Operand) (ho : o.op = .mapUpdate 67 mo ko vo) (m : Nat) (L : List Kb) (hm : a.eval mo = .map (some m)) (hK : KmAt w m L) (hr : Rise L) (hf : L.length ≤ 1000) (k : ByteArray) (hk : k.size ≤ maxLen) (hko : a.eval ko = .string k) (b : Nat) (hvo : a.eval vo = .float .f64 b)
    (h : ∀ w', Hid (KmAt w' m (putK k b L) ∧ w.grownBy w' (some m)) → K (a.put o.dst undef) w') : o.wp Tryz.prog a w K Q := by
  obtain ⟨w', h1, h2, h3⟩ := hK.put hr hf k hk b
  unfold Oper.wp
  simp [execOp, ho, hm, hko, hvo, h1, Result.andThen]
  exact h w' ⟨h2, h3⟩
theorem owp_cut_key (mo ko : Operand) (ho : o.op = .call { callee := .builtin .delete, args := #[mo, ko], argTypes := #[67, 9] }) (m : Nat) (L : List Kb) (hm : a.eval mo = .map (some m)) (hK : KmAt w m L) (k : ByteArray) (hk : k.size ≤ maxLen) (hko : a.eval ko = .string k)
    (h : ∀ w', Hid (KmAt w' m (cutK k L) ∧ w.grownBy w' (some m)) → K (a.put o.dst (.tuple #[])) w') : o.wp Tryz.prog a w K Q := by
  obtain ⟨w', h1, h2, h3⟩ := hK.cut k hk o.type
  unfold Oper.wp
  simp [execOp, ho, resolve, invoke, builtin, hm, hko, h1, Result.andThen]
  exact h w' ⟨h2, h3⟩
end
/-- The map is written. -/
theorem LdA.mapped {w w' : World} {g m : Nat} {am an : Option Addr} {cm cn : Nat} {s : Ls} (h : LdA w g m am an cm cn s) {L : List Kb} (hk : KmAt w' m L) (hg : w.grownBy w' (some m)) (hok : LOk { s with its := L }) : LdA w' g m am an cm cn { s with its := L } := by
  have hs : ∀ x b, x < w.heap.size → x ≠ b → b = m → w'.heap[x]? = w.heap[x]? := fun x b hx hne hb => hg.block x hx (fun e => hne (by cases e; exact hb.symm))
  exact ⟨(hs g m (lt_of_blk h.blk) h.ne rfl).trans h.blk, ints_stay h.im hg.size (fun x hx => hs _ m (h.ma x hx).2 (h.ma x hx).1.2 rfl), ints_stay h.ix hg.size (fun x hx => hs _ m (h.na x hx).2 (h.na x hx).1.2 rfl), hk, h.ne,
    fun x hx => ⟨(h.ma x hx).1, Nat.lt_of_lt_of_le (h.ma x hx).2 hg.size⟩, fun x hx => ⟨(h.na x hx).1, Nat.lt_of_lt_of_le (h.na x hx).2 hg.size⟩, hok⟩
theorem RsAt.grown {w w' : World} {b m : Nat} {c : Int} {f : Nat} (h : RsAt w b c f) (hg : w.grownBy w' (some m)) (hb : b ≠ m) : RsAt w' b c f := (hg.block b (lt_of_blk h) (fun e => hb (by cases e; rfl))).trans h
theorem fp_gm {g m : Nat} {am an : Option Addr} : g ∈ fpL g m am an ∧ m ∈ fpL g m am an := ⟨mem_fp.2 (.inl rfl), mem_fp.2 (.inr (.inl rfl))⟩
/-- A ledger beside a result's variable. -/
structure LrSt (F : List Nat) (w0 w : World) (g m : Nat) (am an : Option Addr) (cm cn : Nat) (s : Ls) (b : Nat) (c : Int) (f : Nat) : Prop where
  ld : LdA w g m am an cm cn s
  rs : RsAt w b c f
  out : Out F w0 w
  hb : b ∉ fpL g m am an ∧ w0.heap.size ≤ b
theorem LrSt.keep {F : List Nat} {w0 w w' : World} {g m : Nat} {am an : Option Addr} {cm cn : Nat} {s : Ls} {b : Nat} {c : Int} {f : Nat} (h : LrSt F w0 w g m am an cm cn s b c f) (hb : Below w.heap.size w w') : LrSt F w0 w' g m am an cm cn s b c f := ⟨h.ld.keep hb, h.rs.keep hb, h.out.more hb, h.hb⟩
theorem LrSt.res {F : List Nat} {w0 w w' : World} {g m : Nat} {am an : Option Addr} {cm cn : Nat} {s : Ls} {b : Nat} {c : Int} {f : Nat} {c' : Int} {f' : Nat} (h : LrSt F w0 w g m am an cm cn s b c f) (hr : RsAt w' b c' f') (ho : One b w w') : LrSt F w0 w' g m am an cm cn s b c' f' :=
  ⟨h.ld.stayB ho h.hb.1, hr, ho.outB h.out (.inr h.hb.2), h.hb⟩
theorem LrSt.map {F : List Nat} {w0 w w' : World} {g m : Nat} {am an : Option Addr} {cm cn : Nat} {s : Ls} {b : Nat} {c : Int} {f : Nat} (h : LrSt F w0 w g m am an cm cn s b c f) {L : List Kb} (hk : KmAt w' m L) (hg : w.grownBy w' (some m)) (hok : LOk { s with its := L }) (hF : m ∈ F) : LrSt F w0 w' g m am an cm cn { s with its := L } b c f :=
  ⟨h.ld.mapped hk hg hok, h.rs.grown hg (fun e => h.hb.1 (e ▸ fp_gm.2)), h.out.then hg (.inl hF), h.hb⟩
theorem lr_new {w : World} {g m : Nat} {am an : Option Addr} {cm cn : Nat} {s : Ls} (h : LdA w g m am an cm cn s) : LrSt (fpL g m am an) w (w.alloc (.cells #[.int .i64 0, .float .f64 0] 50)) g m am an cm cn s w.heap.size 0 0 :=
  ⟨h.keep ((Below.refl w.heap.size w).alloc (Nat.le_refl _) _), heap_alloc_last w _, (Out.refl _ _).alloc _, fun hm => Nat.lt_irrefl _ (h.lt _ hm), Nat.le_refl _⟩
set_option maxRecDepth 100000 in
set_option maxHeartbeats 3200000 in
theorem gset_any {w : World} {g m : Nat} {am an : Option Addr} {cm cn : Nat} {s : Ls} (h : LdA w g m am an cm cn s) (k : ByteArray) (hk : k.size ≤ 16) (x : Nat) (hok : LOk { s with its := putK k x s.its }) :
    Calls Tryz.prog 128 #[.pointer (some ⟨g, 0, none⟩), .string k, .float .f64 x] w fun e w' => e = .returned (.agg #[.int .i64 0, .float .f64 x]) ∧ LdA w' g m am an cm cn { s with its := putK k x s.its } ∧ Out (fpL g m am an) w w' := by
  have H0 := hid (lr_new h)
  have HK : Hid (k.size ≤ 16 ∧ LOk { s with its := putK k x s.its }) := hid ⟨hk, hok⟩
  clear h hk hok
  go_enter Tryz.func128, Tryz.ntmps128
  go_wp2
  obtain ⟨w1, ew⟩ : ∃ w1, w1 = w.alloc (.cells #[.int .i64 0, .float .f64 0] 50) := ⟨_, rfl⟩
  rw [← ew] at H0 ⊢
  clear ew
  have H1 := hid (H0.out.keep (Below.refl _ _).drew)
  have HS : Hid (w1.drew.cell? ⟨g, 4, none⟩ = some (.map (some m))) := hid H1.out.ld.c4
  refine wp_region_held (S := fun ww => ww.cell? ⟨g, 4, none⟩ = some (.map (some m))) (by kernel_rfl) ?_
  try (change wpAnyH _ _ _ _ _ _ _ _ (World.drew _))
  refine wpAnyH_take (i := 0) (v := ?v1) rfl (by kernel_rfl) (by kernel_rfl) (by kernel_rfl) (fun _ _ _ h => h) (Or.inl ⟨by rfl, ?hy1⟩) HS.out ?rest1
  case hy1 => (intro ww _; go_simp; try with_reducible rfl)
  go_simp
  refine wpAnyH_take (i := 1) (v := ?v2) rfl (by kernel_rfl) (by kernel_rfl) (by kernel_rfl) (fun _ _ _ h => h) (Or.inl ⟨by rfl, ?hy2⟩) HS.out ?rest2
  case hy2 => (intro ww _; go_simp; try with_reducible rfl)
  go_simp
  refine wpAnyH_take (i := 2) (v := ?v3) rfl (by kernel_rfl) (by kernel_rfl) (by kernel_rfl) (fun _ _ _ h => h) (Or.inl ⟨by rfl, ?hy3⟩) HS.out ?rest3
  case hy3 => (intro ww _; go_simp; try with_reducible rfl)
  go_simp
  refine wpAnyH_take (i := 3) (v := ?v4) rfl (by kernel_rfl) (by kernel_rfl) (by kernel_rfl) (fun _ _ _ h => h) (Or.inl ⟨by rfl, ?hy4⟩) HS.out ?rest4
  case hy4 => (intro ww hS; have y4 : ww.cell? ⟨g, 4, none⟩ = some (.map (some m)) := hS; go_simp; try with_reducible rfl)
  go_simp
  refine wpAnyH_take (i := 4) (v := ?v5) rfl (by kernel_rfl) (by kernel_rfl) (by kernel_rfl) (fun _ _ _ h => h) (Or.inl ⟨by rfl, ?hy5⟩) HS.out ?rest5
  case hy5 => (intro ww _; go_simp; try with_reducible rfl)
  go_simp
  refine wpAnyH_take (i := 6) (v := ?v6) rfl (by kernel_rfl) (by kernel_rfl) (by kernel_rfl) (fun _ _ _ h => h) (Or.inl ⟨by rfl, ?hy6⟩) HS.out ?rest6
  case hy6 => (intro ww _; go_simp; try with_reducible rfl)
  go_simp
  refine wpAnyH_all (rs := [5]) (by kernel_rfl) (by simp) ?_
  intro i hi
  obtain rfl := List.mem_singleton.1 hi
  clear hi
  refine wpOp_d rfl (by rfl) (fun K hK => ?_)
  go_simp
  refine (sclone_any k (by have := HK.out.1; omega) _).mono ?_
  rintro r w2 ⟨rfl, hb2⟩
  have H2 := hid (H1.out.keep hb2)
  clear hb2
  refine hK _ _ ⟨H2.out.ld.c4, ?_⟩
  clear hK K
  go_simp
  refine wpAnyH_all (rs := [7]) (by kernel_rfl) (by simp) ?_
  intro i hi
  obtain rfl := List.mem_singleton.1 hi
  clear hi
  refine wpOp_d rfl (by rfl) (fun K hK => ?_)
  refine owp_put_key _ _ _ rfl m s.its rfl H2.out.ld.km H2.out.ld.ok.rise (by have := H2.out.ld.ok.few; omega) k (by have := HK.out.1; unfold maxLen; omega) rfl x rfl ?_
  intro w3 Hq
  have H3 := hid (H2.out.map Hq.out.1 Hq.out.2 HK.out.2 fp_gm.2)
  refine hK _ _ ⟨H3.out.ld.c4, ?_⟩
  clear hK K Hq
  go_simp
  refine wpAnyH_done (by kernel_rfl) ?_ _
  go_simp
  go_wp2_with (refine wl_store_rs rfl _ _ rfl w.heap.size rfl 0 0 0 x rfl H3.out.rs ?_; intro w4 Hq; have H4 := hid (H3.out.res Hq.out.1 Hq.out.2); clear Hq)
  refine ret_oneD (s := 6) (ad := ⟨w.heap.size, 0, none⟩) rfl rfl (load_rs _ _ 0 x H4.out.rs) rfl ?_
  exact ⟨rfl, H4.out.ld, H4.out.out⟩
set_option maxRecDepth 100000 in
set_option maxHeartbeats 3200000 in
theorem gput_any {w : World} {g m : Nat} {am an : Option Addr} {cm cn : Nat} {s : Ls} (h : LdA w g m am an cm cn s) (k : ByteArray) (hk : 1 ≤ k.size ∧ k.size ≤ 16) (x : Nat) (hx : x < 18446744073709551616) :
    Calls Tryz.prog 118 #[.pointer (some ⟨g, 0, none⟩), .string k, .float .f64 x] w fun e w' => e = .returned (.agg #[.int .i64 (if getK k s.its = none ∧ 16 ≤ s.its.length then 2 else 0), .float .f64 (if getK k s.its = none ∧ 16 ≤ s.its.length then 0 else canW x)]) ∧ LdA w' g m am an cm cn { s with its := if getK k s.its = none ∧ 16 ≤ s.its.length then s.its else putK k (canW x) s.its } ∧ Out (fpL g m am an) w w' := by
  have H0 := hid (lr_new h)
  have c4 := H0.out.ld.c4
  have hlk := H0.out.ld.km.look k (by unfold maxLen; omega)
  have hln := fun ty => H0.out.ld.km.len ty
  by_cases hf : getK k s.its = none ∧ 16 ≤ s.its.length
  · rw [if_pos hf, if_pos hf, if_pos hf]
    have hS : (getK k s.its).isSome = false := by rw [hf.1]; rfl
    have hl : ((s.its.length : Nat) : Int) = 16 := by have := h.ok.few; omega
    rw [hS] at hlk
    generalize valK k s.its = y at hlk
    rw [hl] at hln
    clear h hS hl hf hk
    go_enter Tryz.func118, Tryz.ntmps118
    go_wp2_with (refine wl_store_rs rfl _ _ rfl w.heap.size rfl 0 2 0 0 rfl H0.out.rs ?_; intro w4 Hq; have H4 := hid (H0.out.res Hq.out.1 Hq.out.2); clear Hq)
    refine ret_oneD (s := 6) (ad := ⟨w.heap.size, 0, none⟩) rfl rfl (load_rs _ _ 2 0 H4.out.rs) rfl ?_
    exact ⟨rfl, H4.out.ld, H4.out.out⟩
  · rw [if_neg hf, if_neg hf, if_neg hf]
    have HK : Hid (k.size ≤ 16 ∧ LOk { s with its := putK k (canW x) s.its }) := hid ⟨hk.2, by
      obtain ⟨h1, h2, h3⟩ := keys_put h.ok.rise h.ok.few h.ok.keys (k := k) (b := canW x) ⟨hk, canW_idem _, canW_lt hx⟩ (fun hg => Nat.lt_of_not_le (fun h16 => hf ⟨hg, h16⟩))
      exact ⟨h.ok.cf, h.ok.nx, h.ok.lo, h.ok.hi, h1, h2, h3, h.ok.eight, h.ok.deeds⟩⟩
    have hc := fun u => canon_any x u
    cases hS : (getK k s.its).isSome with
    | true =>
      rw [hS] at hlk
      generalize valK k s.its = y at hlk
      clear h hS hf hk
      go_enter Tryz.func118, Tryz.ntmps118
      go_wp2_with (first
        | (go_at_call 128; refine (gset_any H0.out.ld k HK.out.1 (canW x) HK.out.2).mono ?_; rintro e w2 ⟨rfl, hL, hO⟩; have H2 : Hid (LrSt (fpL g m am an) w w2 g m am an cm cn { s with its := putK k (canW x) s.its } w.heap.size 0 0) := hid ⟨hL, (hO.block _ (lt_of_blk H0.out.rs) H0.out.hb.1).trans H0.out.rs, H0.out.out.trans hO (fun b hb => .inl hb), H0.out.hb⟩; clear hL hO)
        | (go_at_call 129; refine (hc _).mono ?_; rintro e w1 ⟨rfl, rfl⟩)
        | (have := H2; refine wl_store_rs rfl _ _ rfl w.heap.size rfl 0 0 0 (canW x) rfl H2.out.rs ?_; intro w4 Hq; have H4 := hid (H2.out.res Hq.out.1 Hq.out.2); clear Hq))
      refine ret_oneD (s := 6) (ad := ⟨w.heap.size, 0, none⟩) rfl rfl (load_rs _ _ 0 (canW x) H4.out.rs) rfl ?_
      exact ⟨rfl, H4.out.ld, H4.out.out⟩
    | false =>
      have hl : ¬ (((s.its.length : Nat) : Int) = 16) := fun e => hf ⟨by simpa using hS, by omega⟩
      have hl2 : (((s.its.length : Nat) : Int) == 16) = false := by simpa using hl
      rw [hS] at hlk
      generalize valK k s.its = y at hlk
      have hl3 : ¬ (s.its.length = 16) := by omega
      clear h hS hf hk hl
      go_enter Tryz.func118, Tryz.ntmps118
      go_wp2_with (first
        | (go_at_call 128; refine (gset_any H0.out.ld k HK.out.1 (canW x) HK.out.2).mono ?_; rintro e w2 ⟨rfl, hL, hO⟩; have H2 : Hid (LrSt (fpL g m am an) w w2 g m am an cm cn { s with its := putK k (canW x) s.its } w.heap.size 0 0) := hid ⟨hL, (hO.block _ (lt_of_blk H0.out.rs) H0.out.hb.1).trans H0.out.rs, H0.out.out.trans hO (fun b hb => .inl hb), H0.out.hb⟩; clear hL hO)
        | (go_at_call 129; refine (hc _).mono ?_; rintro e w1 ⟨rfl, rfl⟩)
        | (have := H2; refine wl_store_rs rfl _ _ rfl w.heap.size rfl 0 0 0 (canW x) rfl H2.out.rs ?_; intro w4 Hq; have H4 := hid (H2.out.res Hq.out.1 Hq.out.2); clear Hq))
      refine ret_oneD (s := 6) (ad := ⟨w.heap.size, 0, none⟩) rfl rfl (load_rs _ _ 0 (canW x) H4.out.rs) rfl ?_
      exact ⟨rfl, H4.out.ld, H4.out.out⟩
end Go.Proofs.YtecidbdbdnnglaaGreat

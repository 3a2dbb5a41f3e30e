/- Texts laid together: LpJ LpK LtA. -/
import Derived.Test.YtpeagpeifmimlabLpIM
/- The program's ledger: New, Copy. -/
namespace Go.Proofs.Ytpeagpeifmimlab
open Go.RowKit

theorem KmAt.below {w w' : World} {m : Nat} {L : List Kb} (h : KmAt w m L) (hb : Below w.heap.size w w') : KmAt w' m L := h.keep (hb.block m h.lt)
theorem free_km {w : World} {k m : Nat} {L : List Kb} (hf : Free w k) (h : KmAt w m L) : k ≠ m := fun e => by
  obtain ⟨cs, T, h1⟩ := hf
  obtain ⟨es, clock, h2, _⟩ := h
  rw [e, h2] at h1
  cases h1
/-- A ledger made of new things. -/
theorem ld_make {B : Nat} {w : World} {a1 a2 : Option Addr} {c1 c2 m : Nat} {s : Ls} (h1 : NewI B w a1 s.mem) (h2 : NewI B w a2 s.nxt) (hm : KmAt w m s.its) (hB : B ≤ m) (hBw : B ≤ w.heap.size) (hok : LOk s) :
    ∃ F, LdAt F (w.alloc (.cells (ldC (s.ep : Int) (.slice a1 s.mem.length c1) (.slice a2 s.nxt.length c2) (s.dn : Int) (.map (some m)) s.lst).toArray 62)) (.pointer (some ⟨w.heap.size, 0, none⟩)) s ∧ ∀ b, b ∈ F → B ≤ b := by
  have hb := (Below.refl w.heap.size w).alloc (Nat.le_refl _) (.cells (ldC (s.ep : Int) (.slice a1 s.mem.length c1) (.slice a2 s.nxt.length c2) (s.dn : Int) (.map (some m)) s.lst).toArray 62)
  refine ⟨fpL w.heap.size m a1 a2, ⟨w.heap.size, m, a1, a2, c1, c2, rfl, rfl, heap_alloc_last w _, h1.ints.keep hb (Nat.le_refl _), h2.ints.keep hb (Nat.le_refl _), hm.below hb, Nat.ne_of_gt hm.lt, fun x hx => ?_, fun x hx => ?_, hok⟩, fun b hbm => ?_⟩
  · have hl := (h1.far x hx).2.lt
    exact ⟨⟨Nat.ne_of_lt hl, free_km (h1.far x hx).2 hm⟩, Nat.lt_of_lt_of_le hl hb.size⟩
  · have hl := (h2.far x hx).2.lt
    exact ⟨⟨Nat.ne_of_lt hl, free_km (h2.far x hx).2 hm⟩, Nat.lt_of_lt_of_le hl hb.size⟩
  · rcases mem_fp.1 hbm with e | e | ⟨x, hx, e⟩ | ⟨x, hx, e⟩
    · omega
    · omega
    · rw [e]; exact (h1.far x hx).1
    · rw [e]; exact (h2.far x hx).1
set_option maxRecDepth 100000 in
set_option maxHeartbeats 3200000 in
theorem gnew_no (e : Int) (a : Option Addr) (n cap : Nat) (l : List Int) (hn : l.length = n) (hm : n ≤ maxLen) (w : World) (hI : IntsIn w a l) (hr : rightC e l = false ∨ e ≠ 0) :
    Calls Try.prog 18 #[.agg #[.int .i64 e, .slice a n cap]] w fun r w' => r = .returned (.tuple #[.pointer none, .int .i64 1]) ∧ Below w.heap.size w w' := by
  have hax := (Below.refl w.heap.size w).alloc (Nat.le_refl _) (.cells #[.int .i64 e, .slice a n cap] 47)
  have H0 : Hid (GfAt (w.alloc (.cells #[.int .i64 e, .slice a n cap] 47)) w.heap.size e (.slice a n cap) ∧ Below w.heap.size w (w.alloc (.cells #[.int .i64 e, .slice a n cap] 47))) := hid ⟨heap_alloc_last w _, hax⟩
  obtain ⟨d0, d1⟩ := H0.out.1.cells
  have HI := hid (hI.keep hax (Nat.le_refl _))
  have HM := hid (And.intro hn hm)
  cases hR : rightC e l with
  | false =>
    have HR : Hid (∀ u : World, IntsIn u a l → Calls Try.prog 38 #[.agg #[.int .i64 e, .slice a n cap]] u fun r w' => r = .returned (.bool false) ∧ Below u.heap.size u w') := hid (fun u hu => by rw [← hR]; exact cright_any e a n cap l HM.out.1 HM.out.2 u hu)
    clear hax hI hn hm hr hR
    go_enter Try.func18, Try.ntmps18
    go_wp2_with (go_at_call 38; refine (HR.out _ HI.out).mono ?_; rintro r w2 ⟨rfl, hbb⟩; have H2 := hid (And.intro (H0.out.1.keep hbb) (H0.out.2.trans (hbb.mono (by simp)))); clear hbb d0 d1; obtain ⟨d0, d1⟩ := H2.out.1.cells)
    go_ret2
    exact ⟨rfl, H2.out.2⟩
  | true =>
    have he : ¬ (e = 0) := by
      rcases hr with h | h
      · rw [hR] at h; cases h
      · exact h
    have HR : Hid (∀ u : World, IntsIn u a l → Calls Try.prog 38 #[.agg #[.int .i64 e, .slice a n cap]] u fun r w' => r = .returned (.bool true) ∧ Below u.heap.size u w') := hid (fun u hu => by rw [← hR]; exact cright_any e a n cap l HM.out.1 HM.out.2 u hu)
    clear hax hI hn hm hr hR
    go_enter Try.func18, Try.ntmps18
    go_wp2_with (go_at_call 38; refine (HR.out _ HI.out).mono ?_; rintro r w2 ⟨rfl, hbb⟩; have H2 := hid (And.intro (H0.out.1.keep hbb) (H0.out.2.trans (hbb.mono (by simp)))); clear hbb d0 d1; obtain ⟨d0, d1⟩ := H2.out.1.cells)
    go_ret2
    exact ⟨rfl, H2.out.2⟩
/-- While a ledger is made: the configuration's variable; nothing that was there has turned. -/
structure NwSt (w0 w : World) (a : Option Addr) (n cap : Nat) (l : List Int) : Prop where
  cf : GfAt w w0.heap.size 0 (.slice a n cap)
  bel : Below w0.heap.size w0 w
  ints : IntsIn w a l
theorem NwSt.keep {w0 w w' : World} {a : Option Addr} {n cap : Nat} {l : List Int} (h : NwSt w0 w a n cap l) (hb : Below w.heap.size w w') : NwSt w0 w' a n cap l := ⟨h.cf.keep hb, h.bel.trans (hb.mono h.bel.size), h.ints.keep hb (Nat.le_refl _)⟩
set_option maxRecDepth 100000 in
set_option maxHeartbeats 12800000 in
theorem gnew_yes (a : Option Addr) (n cap : Nat) (l : List Int) (hn : l.length = n) (w : World) (hI : IntsIn w a l) (hr : rightC 0 l = true) :
    Calls Try.prog 18 #[.agg #[.int .i64 0, .slice a n cap]] w fun r w' => ∃ v F, r = .returned (.tuple #[v, .int .i64 0]) ∧ LdAt F w' v (newS l) ∧ (∀ b, b ∈ F → w.heap.size ≤ b) ∧ Below w.heap.size w w' := by
  have hax := (Below.refl w.heap.size w).alloc (Nat.le_refl _) (.cells #[.int .i64 0, .slice a n cap] 47)
  have H0 : Hid (NwSt w (w.alloc (.cells #[.int .i64 0, .slice a n cap] 47)) a n cap l) := hid ⟨heap_alloc_last w _, hax, hI.keep hax (Nat.le_refl _)⟩
  obtain ⟨d0, d1⟩ := H0.out.cf.cells
  have hl := mem_len (rightC_ep hr).2
  have HM : Hid (l.length = n ∧ n ≤ maxLen ∧ n * 8 ≤ 140737488355328 ∧ LOk (newS l)) := hid ⟨hn, by unfold maxLen; omega, by omega, newS_ok hr⟩
  have HR : Hid (∀ u : World, IntsIn u a l → Calls Try.prog 38 #[.agg #[.int .i64 0, .slice a n cap]] u fun r w' => r = .returned (.bool true) ∧ Below u.heap.size u w') := hid (fun u hu => by rw [← hr]; exact cright_any 0 a n cap l HM.out.1 HM.out.2.1 u hu)
  have hmm := @run_makeMap Try.prog
  clear hax hI hn hr hl
  go_enter Try.func18, Try.ntmps18
  go_wp2_with (go_at_call 38; refine (HR.out _ H0.out.ints).mono ?_; rintro r w2 ⟨rfl, hbb⟩; have H2 := hid (H0.out.keep hbb); clear hbb d0 d1; obtain ⟨d0, d1⟩ := H2.out.cf.cells)
  clear d0 d1
  have H3 := hid (H2.out.keep (Below.refl _ _).drew)
  have HS := hid H3.out.cf
  refine wp_region_held (S := fun ww => GfAt ww w.heap.size 0 (.slice a n cap)) (by kernel_rfl) ?_
  try (change wpAnyH _ _ _ _ _ _ _ _ (World.drew _))
  obtain ⟨w3, e3⟩ : ∃ u, u = w2.drew := ⟨_, rfl⟩
  rw [← e3] at H3 HS
  try rw [← e3]
  clear e3
  refine wpAnyH_take (i := 0) (v := ?v1) rfl (by kernel_rfl) (by kernel_rfl) (by kernel_rfl) (fun _ _ _ h => h) (Or.inl ⟨by rfl, ?hy1⟩) HS.out ?rest1
  case hy1 => (intro ww hS; obtain ⟨y0, y1⟩ := hS.cells; go_simp; try with_reducible rfl)
  go_simp
  refine wpAnyH_take (i := 2) (v := ?v2) rfl (by kernel_rfl) (by kernel_rfl) (by kernel_rfl) (fun _ _ _ h => h) (Or.inl ⟨by rfl, ?hy2⟩) HS.out ?rest2
  case hy2 => (intro ww _; go_simp; try with_reducible rfl)
  go_simp
  refine wpAnyH_take (i := 3) (v := ?v3) rfl (by kernel_rfl) (by kernel_rfl) (by kernel_rfl) (fun _ _ _ h => h) (Or.inl ⟨by rfl, ?hy3⟩) HS.out ?rest3
  case hy3 => (intro ww hS; obtain ⟨y0, y1⟩ := hS.cells; go_simp; try with_reducible rfl)
  go_simp
  refine wpAnyH_all (rs := [1, 5]) (by kernel_rfl) (by simp) ?_
  intro i hi
  rcases List.mem_cons.1 hi with rfl | hi
  · clear hi
    refine wpOp_d rfl (by rfl) (fun K hK => ?_)
    go_simp
    refine (gcopyConf_any 0 a n cap l HM.out.1 HM.out.2.2.1 _ H3.out.ints).mono ?_
    rintro r w4 ⟨a1, c1, rfl, hN, hbb⟩
    have H4 := hid (H3.out.keep hbb)
    have HB4 := hid hbb
    have HN1 := hid (hN.lowB H3.out.bel.size)
    clear hN hbb
    refine hK _ _ ⟨H4.out.cf, ?_⟩
    clear hK K
    go_simp
    refine wpAnyH_all (rs := [4, 5]) (by kernel_rfl) (by simp) ?_
    intro i hi
    rcases List.mem_cons.1 hi with rfl | hi
    · clear hi
      refine wpOp_d rfl (by rfl) (fun K hK => ?_)
      go_simp
      refine (cloneInts_any a n cap l HM.out.1 HM.out.2.2.1 _ H4.out.ints).mono ?_
      rintro r w5 ⟨a2, c2, rfl, hN, hbb⟩
      have H5 := hid (H4.out.keep hbb)
      have HB5 := hid hbb
      have HN4 := hid (hN.lowB H4.out.bel.size)
      clear hN hbb
      refine hK _ _ ⟨H5.out.cf, ?_⟩
      clear hK K
      go_simp
      refine wpAnyH_all (rs := [5]) (by kernel_rfl) (by simp) ?_
      intro i hi
      obtain rfl := List.mem_singleton.1 hi
      clear hi
      refine wpOp_d rfl (by rfl) (fun K hK => ?_)
      go_simp
      obtain ⟨w6, e6⟩ : ∃ u, u = w5.alloc (.map #[] 0) := ⟨_, rfl⟩
      have HB6 : Hid (Below w5.heap.size w5 w6 ∧ KmAt w6 w5.heap.size []) := hid (by rw [e6]; exact ⟨(Below.refl _ _).alloc (Nat.le_refl _) _, KmAt.made _⟩)
      have H6 := hid (H5.out.keep HB6.out.1)
      rw [← e6]
      clear e6
      refine hK _ _ ⟨H6.out.cf, ?_⟩
      clear hK K
      go_simp
      refine wpAnyH_take (i := 6) (v := ?v4) rfl (by kernel_rfl) (by kernel_rfl) (by kernel_rfl) (fun _ _ _ h => h) (Or.inl ⟨by rfl, ?hy4⟩) H6.out.cf ?rest4
      case hy4 => (intro ww _; go_simp; try with_reducible rfl)
      go_simp
      refine wpAnyH_all (rs := [7]) (by kernel_rfl) (by simp) ?_
      intro i hi
      obtain rfl := List.mem_singleton.1 hi
      clear hi
      refine wpOp_d rfl (by rfl) (fun K hK => ?_)
      go_simp
      obtain ⟨w7, e7⟩ : ∃ u, u = w6.alloc (.cells (ldC 0 (.slice a1 n c1) (.slice a2 n c2) 0 (.map (some w5.heap.size)) (List.replicate 8 (0, 0, 0))).toArray 62) := ⟨_, rfl⟩
      have H7 : Hid (GfAt w7 w.heap.size 0 (.slice a n cap) ∧ Below w.heap.size w w7 ∧ ∃ F, LdAt F w7 (.pointer (some ⟨w6.heap.size, 0, none⟩)) (newS l) ∧ ∀ b, b ∈ F → w.heap.size ≤ b) := hid (by
        have hb := (Below.refl w6.heap.size w6).alloc (Nat.le_refl _) (.cells (ldC 0 (.slice a1 n c1) (.slice a2 n c2) 0 (.map (some w5.heap.size)) (List.replicate 8 (0, 0, 0))).toArray 62)
        rw [e7]
        refine ⟨H6.out.cf.keep hb, H6.out.bel.trans (hb.mono H6.out.bel.size), ?_⟩
        have hmk := ld_make (s := newS l) (c1 := c1) (c2 := c2) ((HN1.out.keep HB5.out).keep HB6.out.1) (HN4.out.keep HB6.out.1) HB6.out.2 H5.out.bel.size H6.out.bel.size HM.out.2.2.2
        have hln : (newS l).mem.length = n ∧ (newS l).nxt.length = n := ⟨HM.out.1, HM.out.1⟩
        rw [hln.1, hln.2] at hmk
        exact hmk)
      have ecell : ∀ Z, Z = w7 → Z = w7 := fun _ h => h
      first
        | rw [← e7]
        | (change K _ (w6.alloc (.cells (ldC 0 (.slice a1 n c1) (.slice a2 n c2) 0 (.map (some w5.heap.size)) (List.replicate 8 (0, 0, 0))).toArray 62)); rw [← e7])
      clear e7 ecell
      refine hK _ _ ⟨H7.out.1, ?_⟩
      clear hK K
      go_simp
      refine wpAnyH_take (i := 8) (v := ?v5) rfl (by kernel_rfl) (by kernel_rfl) (by kernel_rfl) (fun _ _ _ h => h) (Or.inl ⟨by rfl, ?hy5⟩) H7.out.1 ?rest5
      case hy5 => (intro ww _; go_simp; try with_reducible rfl)
      go_simp
      refine wpAnyH_take (i := 9) (v := ?v6) rfl (by kernel_rfl) (by kernel_rfl) (by kernel_rfl) (fun _ _ _ h => h) (Or.inl ⟨by rfl, ?hy6⟩) H7.out.1 ?rest6
      case hy6 => (intro ww _; go_simp; try with_reducible rfl)
      go_simp
      refine wpAnyH_done (by kernel_rfl) ?_ _
      go_simp
      go_wp2
      obtain ⟨F, hF⟩ := H7.out.2.2
      go_ret2
      exact ⟨_, F, rfl, hF.1, hF.2, H7.out.2.1⟩
    obtain rfl := List.mem_singleton.1 hi
    clear hi
    refine wpOp_d rfl (by rfl) (fun K hK => ?_)
    go_simp
    obtain ⟨w5, e5⟩ : ∃ u, u = w4.alloc (.map #[] 0) := ⟨_, rfl⟩
    have HB5 : Hid (Below w4.heap.size w4 w5 ∧ KmAt w5 w4.heap.size []) := hid (by rw [e5]; exact ⟨(Below.refl _ _).alloc (Nat.le_refl _) _, KmAt.made _⟩)
    have H5 := hid (H4.out.keep HB5.out.1)
    rw [← e5]
    clear e5
    refine hK _ _ ⟨H5.out.cf, ?_⟩
    clear hK K
    go_simp
    refine wpAnyH_all (rs := [4]) (by kernel_rfl) (by simp) ?_
    intro i hi
    obtain rfl := List.mem_singleton.1 hi
    clear hi
    refine wpOp_d rfl (by rfl) (fun K hK => ?_)
    go_simp
    refine (cloneInts_any a n cap l HM.out.1 HM.out.2.2.1 _ H5.out.ints).mono ?_
    rintro r w6 ⟨a2, c2, rfl, hN, hbb⟩
    have H6 := hid (H5.out.keep hbb)
    have HB6 := hid hbb
    have HN4 := hid (hN.lowB H5.out.bel.size)
    clear hN hbb
    refine hK _ _ ⟨H6.out.cf, ?_⟩
    clear hK K
    go_simp
    refine wpAnyH_take (i := 6) (v := ?v7) rfl (by kernel_rfl) (by kernel_rfl) (by kernel_rfl) (fun _ _ _ h => h) (Or.inl ⟨by rfl, ?hy7⟩) H6.out.cf ?rest7
    case hy7 => (intro ww _; go_simp; try with_reducible rfl)
    go_simp
    refine wpAnyH_all (rs := [7]) (by kernel_rfl) (by simp) ?_
    intro i hi
    obtain rfl := List.mem_singleton.1 hi
    clear hi
    refine wpOp_d rfl (by rfl) (fun K hK => ?_)
    go_simp
    obtain ⟨w7, e7⟩ : ∃ u, u = w6.alloc (.cells (ldC 0 (.slice a1 n c1) (.slice a2 n c2) 0 (.map (some w4.heap.size)) (List.replicate 8 (0, 0, 0))).toArray 62) := ⟨_, rfl⟩
    have H7 : Hid (GfAt w7 w.heap.size 0 (.slice a n cap) ∧ Below w.heap.size w w7 ∧ ∃ F, LdAt F w7 (.pointer (some ⟨w6.heap.size, 0, none⟩)) (newS l) ∧ ∀ b, b ∈ F → w.heap.size ≤ b) := hid (by
      have hb := (Below.refl w6.heap.size w6).alloc (Nat.le_refl _) (.cells (ldC 0 (.slice a1 n c1) (.slice a2 n c2) 0 (.map (some w4.heap.size)) (List.replicate 8 (0, 0, 0))).toArray 62)
      rw [e7]
      refine ⟨H6.out.cf.keep hb, H6.out.bel.trans (hb.mono H6.out.bel.size), ?_⟩
      have hmk := ld_make (s := newS l) (c1 := c1) (c2 := c2) ((HN1.out.keep HB5.out.1).keep HB6.out) HN4.out (HB5.out.2.below HB6.out) H4.out.bel.size H6.out.bel.size HM.out.2.2.2
      have hln : (newS l).mem.length = n ∧ (newS l).nxt.length = n := ⟨HM.out.1, HM.out.1⟩
      rw [hln.1, hln.2] at hmk
      exact hmk)
    have ecell : ∀ Z, Z = w7 → Z = w7 := fun _ h => h
    first
      | rw [← e7]
      | (change K _ (w6.alloc (.cells (ldC 0 (.slice a1 n c1) (.slice a2 n c2) 0 (.map (some w4.heap.size)) (List.replicate 8 (0, 0, 0))).toArray 62)); rw [← e7])
    clear e7 ecell
    refine hK _ _ ⟨H7.out.1, ?_⟩
    clear hK K
    go_simp
    refine wpAnyH_take (i := 8) (v := ?v8) rfl (by kernel_rfl) (by kernel_rfl) (by kernel_rfl) (fun _ _ _ h => h) (Or.inl ⟨by rfl, ?hy8⟩) H7.out.1 ?rest8
    case hy8 => (intro ww _; go_simp; try with_reducible rfl)
    go_simp
    refine wpAnyH_take (i := 9) (v := ?v9) rfl (by kernel_rfl) (by kernel_rfl) (by kernel_rfl) (fun _ _ _ h => h) (Or.inl ⟨by rfl, ?hy9⟩) H7.out.1 ?rest9
    case hy9 => (intro ww _; go_simp; try with_reducible rfl)
    go_simp
    refine wpAnyH_done (by kernel_rfl) ?_ _
    go_simp
    go_wp2
    obtain ⟨F, hF⟩ := H7.out.2.2
    go_ret2
    exact ⟨_, F, rfl, hF.1, hF.2, H7.out.2.1⟩
  obtain rfl := List.mem_singleton.1 hi
  clear hi
  refine wpOp_d rfl (by rfl) (fun K hK => ?_)
  go_simp
  obtain ⟨w4, e4⟩ : ∃ u, u = w3.alloc (.map #[] 0) := ⟨_, rfl⟩
  have HB4 : Hid (Below w3.heap.size w3 w4 ∧ KmAt w4 w3.heap.size []) := hid (by rw [e4]; exact ⟨(Below.refl _ _).alloc (Nat.le_refl _) _, KmAt.made _⟩)
  have H4 := hid (H3.out.keep HB4.out.1)
  rw [← e4]
  clear e4
  refine hK _ _ ⟨H4.out.cf, ?_⟩
  clear hK K
  go_simp
  refine wpAnyH_all (rs := [1]) (by kernel_rfl) (by simp) ?_
  intro i hi
  obtain rfl := List.mem_singleton.1 hi
  clear hi
  refine wpOp_d rfl (by rfl) (fun K hK => ?_)
  go_simp
  refine (gcopyConf_any 0 a n cap l HM.out.1 HM.out.2.2.1 _ H4.out.ints).mono ?_
  rintro r w5 ⟨a1, c1, rfl, hN, hbb⟩
  have H5 := hid (H4.out.keep hbb)
  have HB5 := hid hbb
  have HN1 := hid (hN.lowB H4.out.bel.size)
  clear hN hbb
  refine hK _ _ ⟨H5.out.cf, ?_⟩
  clear hK K
  go_simp
  refine wpAnyH_all (rs := [4]) (by kernel_rfl) (by simp) ?_
  intro i hi
  obtain rfl := List.mem_singleton.1 hi
  clear hi
  refine wpOp_d rfl (by rfl) (fun K hK => ?_)
  go_simp
  refine (cloneInts_any a n cap l HM.out.1 HM.out.2.2.1 _ H5.out.ints).mono ?_
  rintro r w6 ⟨a2, c2, rfl, hN, hbb⟩
  have H6 := hid (H5.out.keep hbb)
  have HB6 := hid hbb
  have HN4 := hid (hN.lowB H5.out.bel.size)
  clear hN hbb
  refine hK _ _ ⟨H6.out.cf, ?_⟩
  clear hK K
  go_simp
  refine wpAnyH_take (i := 6) (v := ?v10) rfl (by kernel_rfl) (by kernel_rfl) (by kernel_rfl) (fun _ _ _ h => h) (Or.inl ⟨by rfl, ?hy10⟩) H6.out.cf ?rest10
  case hy10 => (intro ww _; go_simp; try with_reducible rfl)
  go_simp
  refine wpAnyH_all (rs := [7]) (by kernel_rfl) (by simp) ?_
  intro i hi
  obtain rfl := List.mem_singleton.1 hi
  clear hi
  refine wpOp_d rfl (by rfl) (fun K hK => ?_)
  go_simp
  obtain ⟨w7, e7⟩ : ∃ u, u = w6.alloc (.cells (ldC 0 (.slice a1 n c1) (.slice a2 n c2) 0 (.map (some w3.heap.size)) (List.replicate 8 (0, 0, 0))).toArray 62) := ⟨_, rfl⟩
  have H7 : Hid (GfAt w7 w.heap.size 0 (.slice a n cap) ∧ Below w.heap.size w w7 ∧ ∃ F, LdAt F w7 (.pointer (some ⟨w6.heap.size, 0, none⟩)) (newS l) ∧ ∀ b, b ∈ F → w.heap.size ≤ b) := hid (by
    have hb := (Below.refl w6.heap.size w6).alloc (Nat.le_refl _) (.cells (ldC 0 (.slice a1 n c1) (.slice a2 n c2) 0 (.map (some w3.heap.size)) (List.replicate 8 (0, 0, 0))).toArray 62)
    rw [e7]
    refine ⟨H6.out.cf.keep hb, H6.out.bel.trans (hb.mono H6.out.bel.size), ?_⟩
    have hmk := ld_make (s := newS l) (c1 := c1) (c2 := c2) (HN1.out.keep HB6.out) HN4.out ((HB4.out.2.below HB5.out).below HB6.out) H3.out.bel.size H6.out.bel.size HM.out.2.2.2
    have hln : (newS l).mem.length = n ∧ (newS l).nxt.length = n := ⟨HM.out.1, HM.out.1⟩
    rw [hln.1, hln.2] at hmk
    exact hmk)
  have ecell : ∀ Z, Z = w7 → Z = w7 := fun _ h => h
  first
    | rw [← e7]
    | (change K _ (w6.alloc (.cells (ldC 0 (.slice a1 n c1) (.slice a2 n c2) 0 (.map (some w3.heap.size)) (List.replicate 8 (0, 0, 0))).toArray 62)); rw [← e7])
  clear e7 ecell
  refine hK _ _ ⟨H7.out.1, ?_⟩
  clear hK K
  go_simp
  refine wpAnyH_take (i := 8) (v := ?v11) rfl (by kernel_rfl) (by kernel_rfl) (by kernel_rfl) (fun _ _ _ h => h) (Or.inl ⟨by rfl, ?hy11⟩) H7.out.1 ?rest11
  case hy11 => (intro ww _; go_simp; try with_reducible rfl)
  go_simp
  refine wpAnyH_take (i := 9) (v := ?v12) rfl (by kernel_rfl) (by kernel_rfl) (by kernel_rfl) (fun _ _ _ h => h) (Or.inl ⟨by rfl, ?hy12⟩) H7.out.1 ?rest12
  case hy12 => (intro ww _; go_simp; try with_reducible rfl)
  go_simp
  refine wpAnyH_done (by kernel_rfl) ?_ _
  go_simp
  go_wp2
  obtain ⟨F, hF⟩ := H7.out.2.2
  go_ret2
  exact ⟨_, F, rfl, hF.1, hF.2, H7.out.2.1⟩
end Go.Proofs.Ytpeagpeifmimlab

/- The program's ledger: Copy. -/
namespace Go.Proofs.Ytpeagpeifmimlab
open Go.RowKit

theorem eight_of {l : List De} (h : l.length = 8) : ∃ d0 d1 d2 d3 d4 d5 d6 d7, l = [d0, d1, d2, d3, d4, d5, d6, d7] := by
  match l, h with
  | [d0, d1, d2, d3, d4, d5, d6, d7], _ => exact ⟨d0, d1, d2, d3, d4, d5, d6, d7, rfl⟩
set_option maxRecDepth 100000 in
theorem gcopy_nil (w : World) : Calls Try.prog 17 #[.pointer none] w fun e w' => e = .returned (.pointer none) ∧ w' = w := by
  go_enter Try.func17, Try.ntmps17
  go_wp2
  go_ret
  exact ⟨rfl, rfl⟩
/-- While a ledger is copied. -/
structure CoSt (w0 w : World) (g m : Nat) (am an : Option Addr) (cm cn : Nat) (s : Ls) : Prop where
  ld : LdA w g m am an cm cn s
  bel : Below w0.heap.size w0 w
theorem CoSt.keep {w0 w w' : World} {g m : Nat} {am an : Option Addr} {cm cn : Nat} {s : Ls} (h : CoSt w0 w g m am an cm cn s) (hb : Below w.heap.size w w') : CoSt w0 w' g m am an cm cn s := ⟨h.ld.keep hb, h.bel.trans (hb.mono h.bel.size)⟩
theorem LdA.deeds24 {w : World} {g m : Nat} {am an : Option Addr} {cm cn : Nat} {s : Ls} (h : LdA w g m am an cm cn s) : w.rangeAt g 5 (deC s.lst) := fun q v hv => by
  refine cell_at h.blk (5 + q) v ?_
  rw [show 5 + q = q + 1 + 1 + 1 + 1 + 1 by omega]
  simpa [ldC] using hv
set_option maxRecDepth 100000 in
theorem built_eight (ep dn : Int) (a1 a2 : Option Addr) (n1 c1 n2 c2 m : Nat) (d0 d1 d2 d3 d4 d5 d6 d7 : De) : Try.prog.built 62 [(0, .agg #[.int .i64 ep, .slice a1 n1 c1]), (1, .slice a2 n2 c2), (2, .int .i64 dn), (3, .map (some m)), (4, .agg (deC [d0, d1, d2, d3, d4, d5, d6, d7]).toArray)] = some (ldC ep (.slice a1 n1 c1) (.slice a2 n2 c2) dn (.map (some m)) [d0, d1, d2, d3, d4, d5, d6, d7]).toArray := by kernel_rfl
theorem built_ledger {l : List De} (hl : l.length = 8) (ep dn : Int) (a1 a2 : Option Addr) (n1 c1 n2 c2 m : Nat) : Try.prog.built 62 [(0, .agg #[.int .i64 ep, .slice a1 n1 c1]), (1, .slice a2 n2 c2), (2, .int .i64 dn), (3, .map (some m)), (4, .agg (deC l).toArray)] = some (ldC ep (.slice a1 n1 c1) (.slice a2 n2 c2) dn (.map (some m)) l).toArray := by
  obtain ⟨d0, d1, d2, d3, d4, d5, d6, d7, rfl⟩ := eight_of hl
  exact built_eight ..
section
variable {o : Oper} {a : Act} {w : World} {K : Act → World → Prop} {Q : Exit → Act → World → Prop}
theorem owp_build (t : TypeId) (parts : Array (Nat × Operand)) (ho : o.op = .build t parts) (ps : List (Nat × Value)) (hps : (parts.map fun (i, x) => (i, a.eval x)).toList = ps) (cells : Array Value) (hb : Try.prog.built t ps = some cells) (h : K (a.put o.dst (.agg cells)) w) : o.wp Try.prog a w K Q := by
  subst hps
  unfold Oper.wp execOp
  simp only [ho, Sem.run_bind, run_build w t _ cells hb, Result.andThen_ok]
  exact h
theorem owp_box_agg (t : TypeId) (x : Operand) (ho : o.op = .box t x) (c : Array Value) (hx : a.eval x = .agg c)
    (h : K (a.put o.dst (.pointer (some ⟨w.heap.size, 0, none⟩))) (w.alloc (.cells c t))) : o.wp Try.prog a w K Q := by
  refine owp_value (v := .pointer (some ⟨w.heap.size, 0, none⟩)) (w' := w.alloc (.cells c t)) ?_ h
  simp [execOp, ho, Instr.box, hx, newVar, newRow, newObj, Value.cells, Result.andThen]
  rfl
end
set_option maxRecDepth 100000 in
set_option maxHeartbeats 12800000 in
theorem gcopy_any {F : List Nat} {w : World} {v : Value} {s : Ls} (h : LdAt F w v s) :
    Calls Try.prog 17 #[v] w fun e w' => ∃ v2 F2, e = .returned v2 ∧ LdAt F2 w' v2 s ∧ (∀ b, b ∈ F2 → w.heap.size ≤ b) ∧ Below w.heap.size w w' := by
  obtain ⟨g, m, am, an, cm, cn, rfl, rfl, h⟩ := h
  have HL := hid (And.intro h.ok.eight (And.intro (show s.mem.length * 8 ≤ 140737488355328 by have := h.pos; omega) (show s.nxt.length * 8 ≤ 140737488355328 by have := h.pos; omega)))
  have H0 : Hid (CoSt w w g m am an cm cn s) := hid ⟨h, Below.refl _ _⟩
  clear h
  go_enter Try.func17, Try.ntmps17
  go_wp2
  have H1 := hid (H0.out.keep (Below.refl _ _).drew)
  have HS := hid H1.out.ld
  refine wp_region_held (S := fun ww => LdA ww g m am an cm cn s) (by kernel_rfl) ?_
  try (change wpAnyH _ _ _ _ _ _ _ _ (World.drew _))
  obtain ⟨w1, e1⟩ : ∃ u, u = w.drew := ⟨_, rfl⟩
  rw [← e1] at H1 HS
  try rw [← e1]
  clear e1
  refine wpAnyH_take (i := 0) (v := ?v1) rfl (by kernel_rfl) (by kernel_rfl) (by kernel_rfl) (fun _ _ _ h => h) (Or.inl ⟨by rfl, ?hy1⟩) HS.out ?rest1
  case hy1 => (intro ww _; go_simp; try with_reducible rfl)
  go_simp
  refine wpAnyH_take (i := 1) (v := ?v2) rfl (by kernel_rfl) (by kernel_rfl) (by kernel_rfl) (fun _ _ _ h => h) (Or.inl ⟨by rfl, ?hy2⟩) HS.out ?rest2
  case hy2 => (intro ww _; go_simp; try with_reducible rfl)
  go_simp
  refine wpAnyH_take (i := 2) (v := ?v3) rfl (by kernel_rfl) (by kernel_rfl) (by kernel_rfl) (fun _ _ _ h => h) (Or.inl ⟨by rfl, ?hy3⟩) HS.out ?rest3
  case hy3 => (intro ww _; go_simp; try with_reducible rfl)
  go_simp
  refine wpAnyH_take (i := 3) (v := ?v4) rfl (by kernel_rfl) (by kernel_rfl) (by kernel_rfl) (fun _ _ _ h => h) (Or.inl ⟨by rfl, ?hy4⟩) HS.out ?rest4
  case hy4 => (intro ww hS; have y0 := hS.c0; have y1 := hS.c1; go_simp; try with_reducible rfl)
  go_simp
  refine wpAnyH_take (i := 5) (v := ?v5) rfl (by kernel_rfl) (by kernel_rfl) (by kernel_rfl) (fun _ _ _ h => h) (Or.inl ⟨by rfl, ?hy5⟩) HS.out ?rest5
  case hy5 => (intro ww _; go_simp; try with_reducible rfl)
  go_simp
  refine wpAnyH_take (i := 6) (v := ?v6) rfl (by kernel_rfl) (by kernel_rfl) (by kernel_rfl) (fun _ _ _ h => h) (Or.inl ⟨by rfl, ?hy6⟩) HS.out ?rest6
  case hy6 => (intro ww _; go_simp; try with_reducible rfl)
  go_simp
  refine wpAnyH_take (i := 7) (v := ?v7) rfl (by kernel_rfl) (by kernel_rfl) (by kernel_rfl) (fun _ _ _ h => h) (Or.inl ⟨by rfl, ?hy7⟩) HS.out ?rest7
  case hy7 => (intro ww _; go_simp; try with_reducible rfl)
  go_simp
  refine wpAnyH_take (i := 8) (v := ?v8) rfl (by kernel_rfl) (by kernel_rfl) (by kernel_rfl) (fun _ _ _ h => h) (Or.inl ⟨by rfl, ?hy8⟩) HS.out ?rest8
  case hy8 => (intro ww hS; have y2 := hS.c2; go_simp; try with_reducible rfl)
  go_simp
  refine wpAnyH_take (i := 10) (v := ?v9) rfl (by kernel_rfl) (by kernel_rfl) (by kernel_rfl) (fun _ _ _ h => h) (Or.inl ⟨by rfl, ?hy9⟩) HS.out ?rest9
  case hy9 => (intro ww _; go_simp; try with_reducible rfl)
  go_simp
  refine wpAnyH_take (i := 11) (v := ?v10) rfl (by kernel_rfl) (by kernel_rfl) (by kernel_rfl) (fun _ _ _ h => h) (Or.inl ⟨by rfl, ?hy10⟩) HS.out ?rest10
  case hy10 => (intro ww _; go_simp; try with_reducible rfl)
  go_simp
  refine wpAnyH_take (i := 12) (v := ?v11) rfl (by kernel_rfl) (by kernel_rfl) (by kernel_rfl) (fun _ _ _ h => h) (Or.inl ⟨by rfl, ?hy11⟩) HS.out ?rest11
  case hy11 => (intro ww _; go_simp; try with_reducible rfl)
  go_simp
  refine wpAnyH_take (i := 13) (v := ?v12) rfl (by kernel_rfl) (by kernel_rfl) (by kernel_rfl) (fun _ _ _ h => h) (Or.inl ⟨by rfl, ?hy12⟩) HS.out ?rest12
  case hy12 => (intro ww hS; have y3 := hS.c3; go_simp; try with_reducible rfl)
  go_simp
  refine wpAnyH_take (i := 14) (v := ?v13) rfl (by kernel_rfl) (by kernel_rfl) (by kernel_rfl) (fun _ _ _ h => h) (Or.inl ⟨by rfl, ?hy13⟩) HS.out ?rest13
  case hy13 => (intro ww _; go_simp; try with_reducible rfl)
  go_simp
  refine wpAnyH_take (i := 15) (v := ?v14) rfl (by kernel_rfl) (by kernel_rfl) (by kernel_rfl) (fun _ _ _ h => h) (Or.inl ⟨by rfl, ?hy14⟩) HS.out ?rest14
  case hy14 => (intro ww _; go_simp; try with_reducible rfl)
  go_simp
  refine wpAnyH_take (i := 16) (v := ?v15) rfl (by kernel_rfl) (by kernel_rfl) (by kernel_rfl) (fun _ _ _ h => h) (Or.inl ⟨by rfl, ?hy15⟩) HS.out ?rest15
  case hy15 => (intro ww _; go_simp; try with_reducible rfl)
  go_simp
  refine wpAnyH_take (i := 17) (v := ?v16) rfl (by kernel_rfl) (by kernel_rfl) (by kernel_rfl) (fun _ _ _ h => h) (Or.inl ⟨by rfl, ?hy16⟩) HS.out ?rest16
  case hy16 => (intro ww hS; have y4 := hS.c4; go_simp; try with_reducible rfl)
  go_simp
  refine wpAnyH_take (i := 19) (v := ?v17) rfl (by kernel_rfl) (by kernel_rfl) (by kernel_rfl) (fun _ _ _ h => h) (Or.inl ⟨by rfl, ?hy17⟩) HS.out ?rest17
  case hy17 => (intro ww _; go_simp; try with_reducible rfl)
  go_simp
  refine wpAnyH_take (i := 20) (v := ?v18) rfl (by kernel_rfl) (by kernel_rfl) (by kernel_rfl) (fun _ _ _ h => h) (Or.inl ⟨by rfl, ?hy18⟩) HS.out ?rest18
  case hy18 => (intro ww _; go_simp; try with_reducible rfl)
  go_simp
  refine wpAnyH_take (i := 21) (v := ?v19) rfl (by kernel_rfl) (by kernel_rfl) (by kernel_rfl) (fun _ _ _ h => h) (Or.inl ⟨by rfl, ?hy19⟩) HS.out ?rest19
  case hy19 => (intro ww _; go_simp; try with_reducible rfl)
  go_simp
  refine wpAnyH_take (i := 22) (v := .agg (deC s.lst).toArray) rfl (by kernel_rfl) (by kernel_rfl) (by kernel_rfl) (fun _ _ _ h => h) (yieldsIf_load_mid (by rfl) 60 _ rfl g 5 rfl (deC s.lst) _ (fun _ hS => LdA.deeds24 hS) Try.underlying60 rfl (by rw [deC_len, HL.out.1]; kernel_rfl)) HS.out ?rest99
  go_simp
  refine wpAnyH_all (rs := [4]) (by kernel_rfl) (by simp) ?_
  intro i hi
  obtain rfl := List.mem_singleton.1 hi
  clear hi
  refine wpOp_d rfl (by rfl) (fun K hK => ?_)
  go_simp
  refine (gcopyConf_any _ am s.mem.length cm s.mem rfl HL.out.2.1 _ H1.out.ld.im).mono ?_
  rintro e w2 ⟨a1, c1, rfl, hN, hbb⟩
  have H2 := hid (H1.out.keep hbb)
  have HN1 := hid (hN.lowB H1.out.bel.size)
  clear hN hbb
  refine hK _ _ ⟨H2.out.ld, ?_⟩
  clear hK K
  go_simp
  refine wpAnyH_all (rs := [9]) (by kernel_rfl) (by simp) ?_
  intro i hi
  obtain rfl := List.mem_singleton.1 hi
  clear hi
  refine wpOp_d rfl (by rfl) (fun K hK => ?_)
  go_simp
  refine (cloneInts_any an s.nxt.length cn s.nxt rfl HL.out.2.2 _ H2.out.ld.ix).mono ?_
  rintro e w3 ⟨a2, c2, rfl, hN, hbb⟩
  have H3 := hid (H2.out.keep hbb)
  have HN2 := hid (And.intro (HN1.out.keep hbb) (hN.lowB H2.out.bel.size))
  clear hN hbb
  refine hK _ _ ⟨H3.out.ld, ?_⟩
  clear hK K
  go_simp
  refine wpAnyH_all (rs := [18]) (by kernel_rfl) (by simp) ?_
  intro i hi
  obtain rfl := List.mem_singleton.1 hi
  clear hi
  refine wpOp_d rfl (by rfl) (fun K hK => ?_)
  go_simp
  refine (mclone_any m s.its _ H3.out.ld.km).mono ?_
  rintro e w4 ⟨rfl, hk, hbb⟩
  have H4 := hid (H3.out.keep hbb)
  have HN3 := hid (And.intro (HN2.out.1.keep hbb) (And.intro (HN2.out.2.keep hbb) hk))
  clear hk hbb
  refine hK _ _ ⟨H4.out.ld, ?_⟩
  clear hK K
  go_simp
  refine wpAnyH_all (rs := [23]) (by kernel_rfl) (by simp) ?_
  intro i hi
  obtain rfl := List.mem_singleton.1 hi
  clear hi
  refine wpOp_d rfl (by rfl) (fun K hK => ?_)
  refine owp_build _ _ rfl [(0, .agg #[.int .i64 (s.ep : Int), .slice a1 s.mem.length c1]), (1, .slice a2 s.nxt.length c2), (2, .int .i64 (s.dn : Int)), (3, .map (some w3.heap.size)), (4, .agg (deC s.lst).toArray)] (by first | (simp [Act.eval]; done) | (go_simp; done) | (simp [Act.eval]; rfl)) (ldC (s.ep : Int) (.slice a1 s.mem.length c1) (.slice a2 s.nxt.length c2) (s.dn : Int) (.map (some w3.heap.size)) s.lst).toArray (built_ledger HL.out.1 ..) ?_
  refine hK _ _ ⟨H4.out.ld, ?_⟩
  clear hK K
  go_simp
  refine wpAnyH_all (rs := [24]) (by kernel_rfl) (by simp) ?_
  intro i hi
  obtain rfl := List.mem_singleton.1 hi
  clear hi
  refine wpOp_d rfl (by rfl) (fun K hK => ?_)
  refine owp_box_agg _ _ rfl (ldC (s.ep : Int) (.slice a1 s.mem.length c1) (.slice a2 s.nxt.length c2) (s.dn : Int) (.map (some w3.heap.size)) s.lst).toArray rfl ?_
  have H5 : Hid (LdA (w4.alloc (.cells (ldC (s.ep : Int) (.slice a1 s.mem.length c1) (.slice a2 s.nxt.length c2) (s.dn : Int) (.map (some w3.heap.size)) s.lst).toArray 62)) g m am an cm cn s ∧ Below w.heap.size w (w4.alloc (.cells (ldC (s.ep : Int) (.slice a1 s.mem.length c1) (.slice a2 s.nxt.length c2) (s.dn : Int) (.map (some w3.heap.size)) s.lst).toArray 62)) ∧ ∃ F, LdAt F (w4.alloc (.cells (ldC (s.ep : Int) (.slice a1 s.mem.length c1) (.slice a2 s.nxt.length c2) (s.dn : Int) (.map (some w3.heap.size)) s.lst).toArray 62)) (.pointer (some ⟨w4.heap.size, 0, none⟩)) s ∧ ∀ b, b ∈ F → w.heap.size ≤ b) := hid (by
    have hb := (Below.refl w4.heap.size w4).alloc (Nat.le_refl _) (.cells (ldC (s.ep : Int) (.slice a1 s.mem.length c1) (.slice a2 s.nxt.length c2) (s.dn : Int) (.map (some w3.heap.size)) s.lst).toArray 62)
    exact ⟨H4.out.ld.keep hb, H4.out.bel.trans (hb.mono H4.out.bel.size), ld_make (s := s) (c1 := c1) (c2 := c2) HN3.out.1 HN3.out.2.1 HN3.out.2.2 H3.out.bel.size H4.out.bel.size H4.out.ld.ok⟩)
  generalize w4.alloc (.cells (ldC (s.ep : Int) (.slice a1 s.mem.length c1) (.slice a2 s.nxt.length c2) (s.dn : Int) (.map (some w3.heap.size)) s.lst).toArray 62) = w5 at H5 ⊢
  refine hK _ _ ⟨H5.out.1, ?_⟩
  clear hK K
  go_simp
  refine wpAnyH_take (i := 25) (v := ?v20) rfl (by kernel_rfl) (by kernel_rfl) (by kernel_rfl) (fun _ _ _ h => h) (Or.inl ⟨by rfl, ?hy20⟩) H5.out.1 ?rest20
  case hy20 => (intro ww _; go_simp; try with_reducible rfl)
  go_simp
  refine wpAnyH_done (by kernel_rfl) ?_ _
  go_simp
  go_wp2
  obtain ⟨F, hF⟩ := H5.out.2.2
  go_ret
  exact ⟨_, F, rfl, hF.1, hF.2, H5.out.2.1⟩
end Go.Proofs.Ytpeagpeifmimlab

/- The ledger as the laws see it; their sign of life. -/
namespace Go.Proofs.Ytpeagpeifmimlab
open Go.RowKit

theorem ints_blkZ {w : World} {g : Nat} {zs : List Int} {T : TypeId} {fr : Nat × Nat} (h : w.heap[g]? = some (.cells (zs.map (Value.int .i64)).toArray T fr)) : IntsIn w (some ⟨g, 0, none⟩) zs :=
  .inr ⟨g, 0, rfl, lt_of_blk h, fun j z hz => by
    exact heap_cells h _ _ (by rw [List.getElem?_map, hz]; rfl)⟩
section
variable {F : List Nat} {w : World} {v : Value} {s : Ls}
theorem gnextT (h : LdAt F w v s) : Calls Try.prog 13 #[v] w fun e w' => ∃ a1 c1, e = .returned (.slice a1 s.nxt.length c1) ∧ NewI w.heap.size w' a1 s.nxt ∧ Below w.heap.size w w' := by
  obtain ⟨g, m, am, an, cm, cn, rfl, rfl, h⟩ := h
  exact gnext_any h
theorem gdoneT (h : LdAt F w v s) : Calls Try.prog 14 #[v] w fun e w' => e = .returned (.int .i64 (s.dn : Int)) ∧ Below w.heap.size w w' := by
  obtain ⟨g, m, am, an, cm, cn, rfl, rfl, h⟩ := h
  exact (gdone_any h).mono fun e w' ⟨h1, h2⟩ => ⟨h1, h2 ▸ Below.refl _ _⟩
theorem gfullT (h : LdAt F w v s) : Calls Try.prog 15 #[v] w fun e w' => e = .returned (.bool (fullS s)) ∧ Below w.heap.size w w' := by
  obtain ⟨g, m, am, an, cm, cn, rfl, rfl, h⟩ := h
  exact gfull_any h
theorem gconfT (h : LdAt F w v s) : Calls Try.prog 12 #[v] w fun e w' => ∃ a1 c1, e = .returned (.agg #[.int .i64 (s.ep : Int), .slice a1 s.mem.length c1]) ∧ NewI w.heap.size w' a1 s.mem ∧ Below w.heap.size w w' := by
  obtain ⟨g, m, am, an, cm, cn, rfl, rfl, h⟩ := h
  exact gconf_any h
theorem ggetT (h : LdAt F w v s) (k : ByteArray) (hk : k.size ≤ maxLen) : Calls Try.prog 7 #[v, .string k] w fun e w' => e = .returned (.tuple #[.float .f64 (valK k s.its), .bool (getK k s.its).isSome]) ∧ Below w.heap.size w w' := by
  obtain ⟨g, m, am, an, cm, cn, rfl, rfl, h⟩ := h
  exact (gget_any h k hk).mono fun e w' ⟨h1, h2⟩ => ⟨h1, h2 ▸ Below.refl _ _⟩
theorem glastT (h : LdAt F w v s) (c : Nat) (hc : c < 8) (z : Int) (hz : z = (c : Int) + 1) : Calls Try.prog 8 #[v, .int .i64 z] w fun e w' => e = .returned (.tuple #[.int .i64 ((s.at c).1 : Int), .agg #[.int .i64 (s.at c).2.1, .float .f64 (s.at c).2.2]]) ∧ Below w.heap.size w w' := by
  obtain ⟨g, m, am, an, cm, cn, rfl, rfl, h⟩ := h
  exact glast_in h c hc z hz
end
/-- The members of the first ledger, the request of one that joins. -/
def liveL : List Int := [0, 1, 2, 3]
def liveR : Rq := ⟨1, 1, 6, ⟨#[]⟩, 0, 4⟩
theorem live_new : rightC 0 liveL = true := by decide
theorem live_do : doE (newS liveL) liveR = 0 ∧ doC (newS liveL) liveR = 0 ∧ doF (newS liveL) liveR = 0 ∧ (doS (newS liveL) liveR).nxt.length = 5 ∧ (doS (newS liveL) liveR).dn = 1 := by decide
/-- While a ledger lives: what was there stays, its blocks are new. -/
structure LvSt (w0 w : World) (F : List Nat) (v : Value) (s : Ls) : Prop where
  ld : LdAt F w v s
  new : ∀ b, b ∈ F → w0.heap.size ≤ b
  bel : Below w0.heap.size w0 w
theorem LvSt.keep {w0 w w' : World} {F : List Nat} {v : Value} {s : Ls} (h : LvSt w0 w F v s) (hb : Below w.heap.size w w') : LvSt w0 w' F v s := ⟨h.ld.keep hb, h.new, h.bel.trans (hb.mono h.bel.size)⟩
theorem LvSt.to {w0 w w' : World} {F : List Nat} {v : Value} {s s' : Ls} (h : LvSt w0 w F v s) (ht : LdTo F w w' v s') : ∃ F', LvSt w0 w' F' v s' := by
  obtain ⟨F', h1, h2, h3⟩ := ht
  refine ⟨F', h1, fun b hb => ?_, ?_⟩
  · rcases h2 b hb with h4 | h4
    · exact h.new b h4
    · exact Nat.le_trans h.bel.size h4
  · exact h.bel.trans (h3.below h.bel.size h.new)
set_option maxRecDepth 100000 in
set_option maxHeartbeats 3200000 in
theorem elives_any (w : World) : Calls Try.prog 4 #[] w fun e w' => e = .returned (.bool true) ∧ Below w.heap.size w w' := by
  have hax := (Below.refl w.heap.size w).alloc (Nat.le_refl _) (.cells #[.int .i64 0, .int .i64 1, .int .i64 2, .int .i64 3] 3)
  have HNw : Hid (Calls Try.prog 18 #[.agg #[.int .i64 0, .slice (some ⟨w.heap.size, 0, none⟩) 4 4]] (w.alloc (.cells #[.int .i64 0, .int .i64 1, .int .i64 2, .int .i64 3] 3)) fun r w' => ∃ g F, r = .returned (.tuple #[.pointer (some ⟨g, 0, none⟩), .int .i64 0]) ∧ LvSt w w' F (.pointer (some ⟨g, 0, none⟩)) (newS liveL)) := hid
    ((gnew_yes (some ⟨w.heap.size, 0, none⟩) 4 4 liveL rfl _ (ints_blkZ (T := 3) (fr := (0, 0)) (heap_alloc_last w _)) live_new).mono fun e w' ⟨v, F, h1, h2, h3, h4⟩ => by
      obtain ⟨g, rfl⟩ := h2.ptr
      exact ⟨g, F, h1, h2, fun b hb => Nat.le_trans hax.size (h3 b hb), hax.trans (h4.mono hax.size)⟩)
  have HDo : Hid (∀ (u : World) (F : List Nat) (v : Value), LvSt w u F v (newS liveL) → Calls Try.prog 5 #[v, .agg #[.int .i64 1, .int .i64 1, .int .i64 6, .string ⟨#[]⟩, .float .f64 0, .int .i64 4]] u fun e w' => e = .returned (.tuple #[.agg #[.int .i64 0, .float .f64 0], .int .i64 0]) ∧ ∃ F', LvSt w w' F' v (doS (newS liveL) liveR)) := hid (fun u F v hu =>
    (gdo_any hu.ld liveR (by decide)).mono fun e w' ⟨h1, h2⟩ => by
      obtain ⟨x1, x2, x3, -, -⟩ := live_do
      rw [x1, x2, x3] at h1
      exact ⟨h1, hu.to h2⟩)
  have HNx : Hid (∀ (u : World) (F : List Nat) (v : Value), LvSt w u F v (doS (newS liveL) liveR) → Calls Try.prog 13 #[v] u fun e w' => ∃ a1 c1, e = .returned (.slice a1 5 c1) ∧ LvSt w w' F v (doS (newS liveL) liveR)) := hid (fun u F v hu =>
    (gnextT hu.ld).mono fun e w' ⟨a1, c1, h1, _, h2⟩ => ⟨a1, c1, live_do.2.2.2.1 ▸ h1, hu.keep h2⟩)
  have HDn : Hid (∀ (u : World) (F : List Nat) (v : Value), LvSt w u F v (doS (newS liveL) liveR) → Calls Try.prog 14 #[v] u fun e w' => e = .returned (.int .i64 1) ∧ LvSt w w' F v (doS (newS liveL) liveR)) := hid (fun u F v hu =>
    (gdoneT hu.ld).mono fun e w' ⟨h1, h2⟩ => ⟨by have := live_do.2.2.2.2; rw [this] at h1; exact h1, hu.keep h2⟩)
  clear hax
  generalize doS (newS liveL) liveR = S2 at HDo HNx HDn
  generalize newS liveL = S1 at HNw HDo
  go_enter Try.func4, Try.ntmps4
  go_wp2_with (first
    | (go_at_call 18; refine HNw.out.mono ?_; rintro e w1 ⟨g, F, rfl, h⟩; have H1 := hid h; clear h)
    | (go_at_call 5; refine (HDo.out _ _ _ H1.out).mono ?_; rintro e w2 ⟨rfl, h⟩; have H2 := hid h; clear h)
    | (have := H2
       refine wl_store_rs rfl _ _ rfl w2.heap.size rfl 0 0 0 0 rfl (heap_alloc_last w2 _) ?_
       intro w3 Hz
       have hax := (Below.refl w2.heap.size w2).alloc (Nat.le_refl _) (.cells #[.int .i64 0, .float .f64 0] 29)
       obtain ⟨F2, h2⟩ := H2.out
       have H3 : Hid (RsAt w3 w2.heap.size 0 0 ∧ LvSt w w3 F2 (.pointer (some ⟨g, 0, none⟩)) S2) := hid ⟨Hz.out.1, h2.keep (Hz.out.2.below hax (Nat.le_refl _))⟩
       clear hax h2 H2
       obtain ⟨z0, z1⟩ := H3.out.1.cells)
    | (go_at_call 13; refine (HNx.out _ _ _ H3.out.2).mono ?_; rintro e w4 ⟨a1, c1, rfl, h⟩; have H4 := hid h; clear h)
    | (go_at_call 14; refine (HDn.out _ _ _ H4.out).mono ?_; rintro e w5 ⟨rfl, h⟩; have H5 := hid h; clear h))
  go_ret
  exact ⟨rfl, H5.out.bel⟩
end Go.Proofs.Ytpeagpeifmimlab

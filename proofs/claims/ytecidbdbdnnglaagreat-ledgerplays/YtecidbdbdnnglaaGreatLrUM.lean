/- The document's New. -/
import Derived.Test.YtecidbdbdnnglaaGreatMy13
namespace Go.Proofs.YtecidbdbdnnglaaGreat
open Go.RowKit

theorem new_end {w0 wf : World} {gs gr : Nat} {a1 a2 : Option Addr} {c1 c2 : Nat} {l : List Int} (hb : Below w0.heap.size w0 wf) (h1 : IntsIn wf a1 l) (f1 : ∀ x, a1 = some x → (w0.heap.size ≤ x.block ∧ x.block < wf.heap.size) ∧ x.block ≠ gs ∧ x.block ≠ gr) (h2 : IntsIn wf a2 l) (f2 : ∀ x, a2 = some x → (w0.heap.size ≤ x.block ∧ x.block < wf.heap.size) ∧ x.block ≠ gs ∧ x.block ≠ gr)
    (hs : wf.heap[gs]? = some obS) (hr : wf.heap[gr]? = some obR) (ne : gs ≠ gr) (fs : w0.heap.size ≤ gs ∧ w0.heap.size ≤ gr) :
    ∃ F, LmAt F (wf.alloc (.cells #[.int .i64 0, .slice a1 l.length c1, .slice a2 l.length c2, .int .i64 0, .slice none 0 0, .slice (some ⟨gs, 0, none⟩) 9 9, .slice (some ⟨gr, 0, none⟩) 9 9] 61)) (.pointer (some ⟨wf.heap.size, 0, none⟩)) (newS l) ∧ (∀ b, b ∈ F → w0.heap.size ≤ b) ∧ Below w0.heap.size w0 (wf.alloc (.cells #[.int .i64 0, .slice a1 l.length c1, .slice a2 l.length c2, .int .i64 0, .slice none 0 0, .slice (some ⟨gs, 0, none⟩) 9 9, .slice (some ⟨gr, 0, none⟩) 9 9] 61)) := by
  have l1 := lt_of_blk hs
  have l2 := lt_of_blk hr
  have hz := hb.size
  have k1 := h1.alloc (.cells #[.int .i64 0, .slice a1 l.length c1, .slice a2 l.length c2, .int .i64 0, .slice none 0 0, .slice (some ⟨gs, 0, none⟩) 9 9, .slice (some ⟨gr, 0, none⟩) 9 9] 61)
  have k2 := h2.alloc (.cells #[.int .i64 0, .slice a1 l.length c1, .slice a2 l.length c2, .int .i64 0, .slice none 0 0, .slice (some ⟨gs, 0, none⟩) 9 9, .slice (some ⟨gr, 0, none⟩) 9 9] 61)
  refine ⟨fpR wf.heap.size gs gr a1 a2 none, ⟨wf.heap.size, gs, gr, a1, a2, none, c1, c2, 0, rfl, rfl, ⟨heap_alloc_last wf _, k1, k2, .inl rfl, (Below.heap_alloc _ _ _ l1).trans hs, (Below.heap_alloc _ _ _ l2).trans hr, ⟨by omega, by omega, ne⟩, fun x hx => ⟨⟨by have := (f1 x hx).1; omega, (f1 x hx).2⟩, by have := (f1 x hx).1; simp; omega⟩, fun x hx => ⟨⟨by have := (f2 x hx).1; omega, (f2 x hx).2⟩, by have := (f2 x hx).1; simp; omega⟩, fun x hx => (by cases hx), rfl⟩⟩, fun k hk => ?_, hb.alloc hz _⟩
  rcases mem_fpR.1 hk with rfl | rfl | rfl | ⟨x, hx, rfl⟩ | ⟨x, hx, rfl⟩ | ⟨x, hx, rfl⟩
  · exact hz
  · exact fs.1
  · exact fs.2
  · exact (f1 x hx).1.1
  · exact (f2 x hx).1.1
  · cases hx
set_option maxRecDepth 100000 in
set_option maxHeartbeats 3200000 in
theorem wnew_no (ep : Int) (a : Option Addr) (n cap : Nat) (l : List Int) (hn : l.length = n) (hm : n ≤ maxLen) (w : World) (hI : IntsIn w a l) (hr : rightC ep l = false ∨ ep ≠ 0) :
    Calls Tryz.prog 8 #[.agg #[.int .i64 ep, .slice a n cap]] w fun e w' => e = .returned (.tuple #[.pointer none, .int .i64 1]) ∧ Below w.heap.size w w' := by
  have HV : Hid (∀ u : World, Below w.heap.size w u → Calls Tryz.prog 23 #[.agg #[.int .i64 ep, .slice a n cap]] u fun e w' => e = .returned (.bool (rightC ep l)) ∧ Below u.heap.size u w') := hid (fun u hu => vright_any ep a n cap l hn hm u (hI.keep hu (Nat.le_refl _)))
  have H0 : Hid (Below w.heap.size w (w.alloc (.cells #[.int .i64 ep, .slice a n cap] 24)) ∧ GfAt (w.alloc (.cells #[.int .i64 ep, .slice a n cap] 24)) w.heap.size ep (.slice a n cap)) := hid ⟨(Below.refl w.heap.size w).alloc (Nat.le_refl _) _, heap_alloc_last w _⟩
  clear hn hm hI
  cases hc : rightC ep l with
  | false =>
    rw [hc] at HV
    clear hr hc
    go_enter Tryz.func8, Tryz.ntmps8
    go_wp2_with (first | (go_at_call 23; refine (HV.out _ H0.out.1).mono ?_; rintro e w1 ⟨rfl, hb⟩; have H1 := hid (H0.out.1.trans (hb.mono H0.out.1.size)); clear hb))
    go_ret2
    exact ⟨rfl, H1.out⟩
  | true =>
    rw [hc] at HV
    have hne : ¬ ep = 0 := by
      rcases hr with h | h
      · rw [hc] at h; cases h
      · exact h
    have hneb : (ep == 0) = false := by simpa using hne
    clear hr hc
    go_enter Tryz.func8, Tryz.ntmps8
    go_wp2_with (first | (go_at_call 23; refine (HV.out _ H0.out.1).mono ?_; rintro e w1 ⟨rfl, hb⟩; have H1 := hid (And.intro (H0.out.1.trans (hb.mono H0.out.1.size)) ((hb.block _ (lt_of_blk H0.out.2)).trans H0.out.2)); clear hb; obtain ⟨x0, x1⟩ := GfAt.cells H1.out.2))
    go_ret2
    exact ⟨rfl, H1.out.1⟩
set_option maxRecDepth 100000 in
set_option maxHeartbeats 12800000 in
theorem wnew_yes (a : Option Addr) (n cap : Nat) (l : List Int) (hn : l.length = n) (w : World) (hI : IntsIn w a l) (hr : rightC 0 l = true) :
    Calls Tryz.prog 8 #[.agg #[.int .i64 0, .slice a n cap]] w fun e w' => ∃ v F, e = .returned (.tuple #[v, .int .i64 0]) ∧ LmAt F w' v (newS l) ∧ (∀ b, b ∈ F → w.heap.size ≤ b) ∧ Below w.heap.size w w' := by
  have hl10 := mem_len (rightC_ep hr).2
  have HV : Hid (∀ u : World, Below w.heap.size w u → Calls Tryz.prog 23 #[.agg #[.int .i64 0, .slice a n cap]] u fun e w' => e = .returned (.bool true) ∧ Below u.heap.size u w') := hid (fun u hu => by have := vright_any 0 a n cap l hn (by unfold maxLen; omega) u (hI.keep hu (Nat.le_refl _)); rw [hr] at this; exact this)
  have H0 : Hid (Below w.heap.size w (w.alloc (.cells #[.int .i64 0, .slice a n cap] 24)) ∧ GfAt (w.alloc (.cells #[.int .i64 0, .slice a n cap] 24)) w.heap.size 0 (.slice a n cap)) := hid ⟨(Below.refl w.heap.size w).alloc (Nat.le_refl _) _, heap_alloc_last w _⟩
  have HIn : Hid (∀ u : World, Below w.heap.size w u → IntsIn u a l) := hid (fun u hu => hI.keep hu (Nat.le_refl _))
  have HN := hid (And.intro hn (show n ≤ 10 by omega))
  clear hl10 hI hr hn
  go_enter Tryz.func8, Tryz.ntmps8
  go_wp2_with (first | (go_at_call 23; refine (HV.out _ H0.out.1).mono ?_; rintro e w1 ⟨rfl, hb⟩; have H1 := hid (And.intro (H0.out.1.trans (hb.mono H0.out.1.size)) ((hb.block _ (lt_of_blk H0.out.2)).trans H0.out.2)); clear hb; obtain ⟨x0, x1⟩ := GfAt.cells H1.out.2))
  clear x0 x1
  have HG0 : Hid (Below w.heap.size w w1.drew ∧ GfAt w1.drew w.heap.size 0 (.slice a n cap)) := hid ⟨H1.out.1.drew, H1.out.2⟩
  obtain ⟨u0, eu⟩ : ∃ u, u = w1.drew := ⟨_, rfl⟩
  rw [← eu] at HG0
  refine wp_region_G (S := fun ww => GfAt ww w.heap.size 0 (.slice a n cap)) (ex := []) (by kernel_rfl) ?_
  try (change wpAnyG _ _ _ _ _ _ _ _ _ (World.drew _))
  rw [← eu]
  clear eu
  refine wpAnyG_take (i := 0) (v := ?v1) rfl (by kernel_rfl) (fun _ _ _ h => h) (Or.inl ⟨by rfl, ?hy1⟩) HG0.out.2 ?rest1
  case hy1 => (intro ww _; go_simp; try with_reducible rfl)
  go_simp
  refine wpAnyG_take (i := 1) (v := ?v2) rfl (by kernel_rfl) (fun _ _ _ h => h) (Or.inl ⟨by rfl, ?hy2⟩) HG0.out.2 ?rest2
  case hy2 => (intro ww hS; obtain ⟨x0, x1⟩ := GfAt.cells hS; go_simp; try with_reducible rfl)
  go_simp
  refine wpAnyG_take (i := 4) (v := ?v3) rfl (by kernel_rfl) (fun _ _ _ h => h) (Or.inl ⟨by rfl, ?hy3⟩) HG0.out.2 ?rest3
  case hy3 => (intro ww _; go_simp; try with_reducible rfl)
  go_simp
  refine wpAnyG_take (i := 5) (v := ?v4) rfl (by kernel_rfl) (fun _ _ _ h => h) (Or.inl ⟨by rfl, ?hy4⟩) HG0.out.2 ?rest4
  case hy4 => (intro ww hS; obtain ⟨x0, x1⟩ := GfAt.cells hS; go_simp; try with_reducible rfl)
  go_simp
  refine wpAnyG_all (rs := [2, 7, 8]) (by kernel_rfl) (by simp) ?_
  intro i hi
  rcases List.mem_cons.1 hi with rfl | hi
  · clear hi
    refine wpOp_d rfl (by rfl) (fun K hK => ?_)
    refine owp_ownI _ _ rfl (by rfl) a n cap l (by rfl) HN.out.1 (HIn.out _ HG0.out.1) (by have := HN.out.2; omega) ?_
    intro v1 u1 HO
    obtain ⟨ad1, cp1, hv, hI, hx⟩ := HO.out.slice
    rw [HN.out.1] at hv
    subst hv
    have HS1 : Hid (Below u0.heap.size u0 u1) := hid HO.out.bel
    have HP1 := hid (And.intro hI hx)
    clear hI hx HO
    have HG1 : Hid (Below w.heap.size w u1 ∧ GfAt u1 w.heap.size 0 (.slice a n cap)) := hid ⟨HG0.out.1.trans (HS1.out.mono HG0.out.1.size), (HS1.out.block _ (lt_of_blk HG0.out.2)).trans HG0.out.2⟩
    refine hK _ _ ⟨fun _ => HG1.out.2, ?_⟩
    clear hK K
    go_simp
    refine wpAnyG_take (i := 3) (v := ?v6) rfl (by kernel_rfl) (fun _ _ _ h => h) (Or.inl ⟨by rfl, ?hy6⟩) HG1.out.2 ?rest6
    case hy6 => (intro ww _; go_simp; try with_reducible rfl)
    go_simp
    refine wpAnyG_all (rs := [6, 7, 8]) (by kernel_rfl) (by simp) ?_
    intro i hi
    rcases List.mem_cons.1 hi with rfl | hi
    · clear hi
      refine wpOp_d rfl (by rfl) (fun K hK => ?_)
      refine owp_ownI _ _ rfl (by rfl) a n cap l (by rfl) HN.out.1 (HIn.out _ HG1.out.1) (by have := HN.out.2; omega) ?_
      intro v2 u2 HO
      obtain ⟨ad2, cp2, hv, hI, hx⟩ := HO.out.slice
      rw [HN.out.1] at hv
      subst hv
      have HS2 : Hid (Below u1.heap.size u1 u2) := hid HO.out.bel
      have HP2 := hid (And.intro hI hx)
      clear hI hx HO
      have HG2 : Hid (Below w.heap.size w u2 ∧ GfAt u2 w.heap.size 0 (.slice a n cap)) := hid ⟨HG1.out.1.trans (HS2.out.mono HG1.out.1.size), (HS2.out.block _ (lt_of_blk HG1.out.2)).trans HG1.out.2⟩
      refine hK _ _ ⟨fun _ => HG2.out.2, ?_⟩
      clear hK K
      go_simp
      refine wpAnyG_all (rs := [7, 8]) (by kernel_rfl) (by simp) ?_
      intro i hi
      rcases List.mem_cons.1 hi with rfl | hi
      · clear hi
        refine wpOp_d rfl (by rfl) (fun K hK => ?_)
        go_simp
        rw [mk_ints]
        go_simp
        obtain ⟨u3, ew⟩ : ∃ u, u = u2.alloc obS := ⟨_, rfl⟩
        have HS3 : Hid (Below u2.heap.size u2 u3) := hid (by rw [ew]; exact (Below.refl _ _).alloc (Nat.le_refl _) _)
        have HP3 : Hid (u3.heap[u2.heap.size]? = some obS ∧ u3.heap.size = u2.heap.size + 1) := hid (by rw [ew]; exact ⟨heap_alloc_last _ _, by simp⟩)
        change K _ (u2.alloc obS)
        rw [← ew]
        clear ew
        have HG3 : Hid (Below w.heap.size w u3 ∧ GfAt u3 w.heap.size 0 (.slice a n cap)) := hid ⟨HG2.out.1.trans (HS3.out.mono HG2.out.1.size), (HS3.out.block _ (lt_of_blk HG2.out.2)).trans HG2.out.2⟩
        refine hK _ _ ⟨fun _ => HG3.out.2, ?_⟩
        clear hK K
        go_simp
        refine wpAnyG_all (rs := [8]) (by kernel_rfl) (by simp) ?_
        intro i hi
        obtain rfl := List.mem_singleton.1 hi
        clear hi
        refine wpOp_d rfl (by rfl) (fun K hK => ?_)
        go_simp
        rw [mk_ress]
        go_simp
        obtain ⟨u4, ew⟩ : ∃ u, u = u3.alloc obR := ⟨_, rfl⟩
        have HS4 : Hid (Below u3.heap.size u3 u4) := hid (by rw [ew]; exact (Below.refl _ _).alloc (Nat.le_refl _) _)
        have HP4 : Hid (u4.heap[u3.heap.size]? = some obR ∧ u4.heap.size = u3.heap.size + 1) := hid (by rw [ew]; exact ⟨heap_alloc_last _ _, by simp⟩)
        change K _ (u3.alloc obR)
        rw [← ew]
        clear ew
        have HG4 : Hid (Below w.heap.size w u4 ∧ GfAt u4 w.heap.size 0 (.slice a n cap)) := hid ⟨HG3.out.1.trans (HS4.out.mono HG3.out.1.size), (HS4.out.block _ (lt_of_blk HG3.out.2)).trans HG3.out.2⟩
        refine hK _ _ ⟨fun _ => HG4.out.2, ?_⟩
        clear hK K
        go_simp
        refine wpAnyG_take (i := 9) (v := ?v11) rfl (by kernel_rfl) (fun _ _ _ h => h) (Or.inl ⟨by rfl, ?hy11⟩) HG4.out.2 ?rest11
        case hy11 => (intro ww _; go_simp; try with_reducible rfl)
        go_simp
        refine wpAnyG_all (rs := [10]) (by kernel_rfl) (by simp) ?_
        intro i hi
        obtain rfl := List.mem_singleton.1 hi
        clear hi
        refine wpOp_d rfl (by rfl) (fun K hK => ?_)
        go_simp
        refine hK _ _ ⟨fun _ => ((Below.refl _ _).alloc (Nat.le_refl _) _).block _ (lt_of_blk HG4.out.2) |>.trans HG4.out.2, ?_⟩
        clear hK K
        go_simp
        refine wpAnyG_take (i := 11) (v := ?v12) rfl (by kernel_rfl) (fun _ _ _ h => h) (Or.inl ⟨by rfl, ?hy12⟩) (((Below.refl _ _).alloc (Nat.le_refl _) _).block _ (lt_of_blk HG4.out.2) |>.trans HG4.out.2) ?rest12
        case hy12 => (intro ww _; go_simp; try with_reducible rfl)
        go_simp
        refine wpAnyG_take (i := 12) (v := ?v13) rfl (by kernel_rfl) (fun _ _ _ h => h) (Or.inl ⟨by rfl, ?hy13⟩) (((Below.refl _ _).alloc (Nat.le_refl _) _).block _ (lt_of_blk HG4.out.2) |>.trans HG4.out.2) ?rest13
        case hy13 => (intro ww _; go_simp; try with_reducible rfl)
        go_simp
        refine wpAnyG_done (by kernel_rfl) ?_ _
        go_simp
        go_wp2
        go_ret2
        obtain ⟨F, q1, q2, q3⟩ := new_end (c1 := cp1) (c2 := cp2) HG4.out.1 (((HP1.out.1.keep HS2.out (Nat.le_refl _)).keep HS3.out (Nat.le_refl _)).keep HS4.out (Nat.le_refl _)) (fun x hx => by have h := HP1.out.2 x hx; have z1 := HS1.out.size; have z2 := HS2.out.size; have z3 := HS3.out.size; have z4 := HS4.out.size; have y0 := HG0.out.1.size; have y1 := HP3.out.2; have y2 := HP4.out.2; exact ⟨⟨by omega, by omega⟩, by omega, by omega⟩) ((HP2.out.1.keep HS3.out (Nat.le_refl _)).keep HS4.out (Nat.le_refl _)) (fun x hx => by have h := HP2.out.2 x hx; have z1 := HS1.out.size; have z2 := HS2.out.size; have z3 := HS3.out.size; have z4 := HS4.out.size; have y0 := HG0.out.1.size; have y1 := HP3.out.2; have y2 := HP4.out.2; exact ⟨⟨by omega, by omega⟩, by omega, by omega⟩) ((HS4.out.block _ (lt_of_blk HP3.out.1)).trans HP3.out.1) HP4.out.1 (by have z1 := HS1.out.size; have z2 := HS2.out.size; have z3 := HS3.out.size; have z4 := HS4.out.size; have y1 := HP3.out.2; have y2 := HP4.out.2; omega) ⟨by have z1 := HS1.out.size; have z2 := HS2.out.size; have z3 := HS3.out.size; have z4 := HS4.out.size; have y0 := HG0.out.1.size; have y1 := HP3.out.2; omega, by have z1 := HS1.out.size; have z2 := HS2.out.size; have z3 := HS3.out.size; have z4 := HS4.out.size; have y0 := HG0.out.1.size; have y2 := HP4.out.2; omega⟩
        rw [HN.out.1] at q1 q3
        exact ⟨_, F, rfl, q1, q2, q3⟩
      · obtain rfl := List.mem_singleton.1 hi
        clear hi
        refine wpOp_d rfl (by rfl) (fun K hK => ?_)
        go_simp
        rw [mk_ress]
        go_simp
        obtain ⟨u3, ew⟩ : ∃ u, u = u2.alloc obR := ⟨_, rfl⟩
        have HS3 : Hid (Below u2.heap.size u2 u3) := hid (by rw [ew]; exact (Below.refl _ _).alloc (Nat.le_refl _) _)
        have HP3 : Hid (u3.heap[u2.heap.size]? = some obR ∧ u3.heap.size = u2.heap.size + 1) := hid (by rw [ew]; exact ⟨heap_alloc_last _ _, by simp⟩)
        change K _ (u2.alloc obR)
        rw [← ew]
        clear ew
        have HG3 : Hid (Below w.heap.size w u3 ∧ GfAt u3 w.heap.size 0 (.slice a n cap)) := hid ⟨HG2.out.1.trans (HS3.out.mono HG2.out.1.size), (HS3.out.block _ (lt_of_blk HG2.out.2)).trans HG2.out.2⟩
        refine hK _ _ ⟨fun _ => HG3.out.2, ?_⟩
        clear hK K
        go_simp
        refine wpAnyG_all (rs := [7]) (by kernel_rfl) (by simp) ?_
        intro i hi
        obtain rfl := List.mem_singleton.1 hi
        clear hi
        refine wpOp_d rfl (by rfl) (fun K hK => ?_)
        go_simp
        rw [mk_ints]
        go_simp
        obtain ⟨u4, ew⟩ : ∃ u, u = u3.alloc obS := ⟨_, rfl⟩
        have HS4 : Hid (Below u3.heap.size u3 u4) := hid (by rw [ew]; exact (Below.refl _ _).alloc (Nat.le_refl _) _)
        have HP4 : Hid (u4.heap[u3.heap.size]? = some obS ∧ u4.heap.size = u3.heap.size + 1) := hid (by rw [ew]; exact ⟨heap_alloc_last _ _, by simp⟩)
        change K _ (u3.alloc obS)
        rw [← ew]
        clear ew
        have HG4 : Hid (Below w.heap.size w u4 ∧ GfAt u4 w.heap.size 0 (.slice a n cap)) := hid ⟨HG3.out.1.trans (HS4.out.mono HG3.out.1.size), (HS4.out.block _ (lt_of_blk HG3.out.2)).trans HG3.out.2⟩
        refine hK _ _ ⟨fun _ => HG4.out.2, ?_⟩
        clear hK K
        go_simp
        refine wpAnyG_take (i := 9) (v := ?v17) rfl (by kernel_rfl) (fun _ _ _ h => h) (Or.inl ⟨by rfl, ?hy17⟩) HG4.out.2 ?rest17
        case hy17 => (intro ww _; go_simp; try with_reducible rfl)
        go_simp
        refine wpAnyG_all (rs := [10]) (by kernel_rfl) (by simp) ?_
        intro i hi
        obtain rfl := List.mem_singleton.1 hi
        clear hi
        refine wpOp_d rfl (by rfl) (fun K hK => ?_)
        go_simp
        refine hK _ _ ⟨fun _ => ((Below.refl _ _).alloc (Nat.le_refl _) _).block _ (lt_of_blk HG4.out.2) |>.trans HG4.out.2, ?_⟩
        clear hK K
        go_simp
        refine wpAnyG_take (i := 11) (v := ?v18) rfl (by kernel_rfl) (fun _ _ _ h => h) (Or.inl ⟨by rfl, ?hy18⟩) (((Below.refl _ _).alloc (Nat.le_refl _) _).block _ (lt_of_blk HG4.out.2) |>.trans HG4.out.2) ?rest18
        case hy18 => (intro ww _; go_simp; try with_reducible rfl)
        go_simp
        refine wpAnyG_take (i := 12) (v := ?v19) rfl (by kernel_rfl) (fun _ _ _ h => h) (Or.inl ⟨by rfl, ?hy19⟩) (((Below.refl _ _).alloc (Nat.le_refl _) _).block _ (lt_of_blk HG4.out.2) |>.trans HG4.out.2) ?rest19
        case hy19 => (intro ww _; go_simp; try with_reducible rfl)
        go_simp
        refine wpAnyG_done (by kernel_rfl) ?_ _
        go_simp
        go_wp2
        go_ret2
        obtain ⟨F, q1, q2, q3⟩ := new_end (c1 := cp1) (c2 := cp2) HG4.out.1 (((HP1.out.1.keep HS2.out (Nat.le_refl _)).keep HS3.out (Nat.le_refl _)).keep HS4.out (Nat.le_refl _)) (fun x hx => by have h := HP1.out.2 x hx; have z1 := HS1.out.size; have z2 := HS2.out.size; have z3 := HS3.out.size; have z4 := HS4.out.size; have y0 := HG0.out.1.size; have y1 := HP4.out.2; have y2 := HP3.out.2; exact ⟨⟨by omega, by omega⟩, by omega, by omega⟩) ((HP2.out.1.keep HS3.out (Nat.le_refl _)).keep HS4.out (Nat.le_refl _)) (fun x hx => by have h := HP2.out.2 x hx; have z1 := HS1.out.size; have z2 := HS2.out.size; have z3 := HS3.out.size; have z4 := HS4.out.size; have y0 := HG0.out.1.size; have y1 := HP4.out.2; have y2 := HP3.out.2; exact ⟨⟨by omega, by omega⟩, by omega, by omega⟩) HP4.out.1 ((HS4.out.block _ (lt_of_blk HP3.out.1)).trans HP3.out.1) (by have z1 := HS1.out.size; have z2 := HS2.out.size; have z3 := HS3.out.size; have z4 := HS4.out.size; have y1 := HP4.out.2; have y2 := HP3.out.2; omega) ⟨by have z1 := HS1.out.size; have z2 := HS2.out.size; have z3 := HS3.out.size; have z4 := HS4.out.size; have y0 := HG0.out.1.size; have y1 := HP4.out.2; omega, by have z1 := HS1.out.size; have z2 := HS2.out.size; have z3 := HS3.out.size; have z4 := HS4.out.size; have y0 := HG0.out.1.size; have y2 := HP3.out.2; omega⟩
        rw [HN.out.1] at q1 q3
        exact ⟨_, F, rfl, q1, q2, q3⟩
    rcases List.mem_cons.1 hi with rfl | hi
    · clear hi
      refine wpOp_d rfl (by rfl) (fun K hK => ?_)
      go_simp
      rw [mk_ints]
      go_simp
      obtain ⟨u2, ew⟩ : ∃ u, u = u1.alloc obS := ⟨_, rfl⟩
      have HS2 : Hid (Below u1.heap.size u1 u2) := hid (by rw [ew]; exact (Below.refl _ _).alloc (Nat.le_refl _) _)
      have HP2 : Hid (u2.heap[u1.heap.size]? = some obS ∧ u2.heap.size = u1.heap.size + 1) := hid (by rw [ew]; exact ⟨heap_alloc_last _ _, by simp⟩)
      change K _ (u1.alloc obS)
      rw [← ew]
      clear ew
      have HG2 : Hid (Below w.heap.size w u2 ∧ GfAt u2 w.heap.size 0 (.slice a n cap)) := hid ⟨HG1.out.1.trans (HS2.out.mono HG1.out.1.size), (HS2.out.block _ (lt_of_blk HG1.out.2)).trans HG1.out.2⟩
      refine hK _ _ ⟨fun _ => HG2.out.2, ?_⟩
      clear hK K
      go_simp
      refine wpAnyG_all (rs := [6, 8]) (by kernel_rfl) (by simp) ?_
      intro i hi
      rcases List.mem_cons.1 hi with rfl | hi
      · clear hi
        refine wpOp_d rfl (by rfl) (fun K hK => ?_)
        refine owp_ownI _ _ rfl (by rfl) a n cap l (by rfl) HN.out.1 (HIn.out _ HG2.out.1) (by have := HN.out.2; omega) ?_
        intro v3 u3 HO
        obtain ⟨ad3, cp3, hv, hI, hx⟩ := HO.out.slice
        rw [HN.out.1] at hv
        subst hv
        have HS3 : Hid (Below u2.heap.size u2 u3) := hid HO.out.bel
        have HP3 := hid (And.intro hI hx)
        clear hI hx HO
        have HG3 : Hid (Below w.heap.size w u3 ∧ GfAt u3 w.heap.size 0 (.slice a n cap)) := hid ⟨HG2.out.1.trans (HS3.out.mono HG2.out.1.size), (HS3.out.block _ (lt_of_blk HG2.out.2)).trans HG2.out.2⟩
        refine hK _ _ ⟨fun _ => HG3.out.2, ?_⟩
        clear hK K
        go_simp
        refine wpAnyG_all (rs := [8]) (by kernel_rfl) (by simp) ?_
        intro i hi
        obtain rfl := List.mem_singleton.1 hi
        clear hi
        refine wpOp_d rfl (by rfl) (fun K hK => ?_)
        go_simp
        rw [mk_ress]
        go_simp
        obtain ⟨u4, ew⟩ : ∃ u, u = u3.alloc obR := ⟨_, rfl⟩
        have HS4 : Hid (Below u3.heap.size u3 u4) := hid (by rw [ew]; exact (Below.refl _ _).alloc (Nat.le_refl _) _)
        have HP4 : Hid (u4.heap[u3.heap.size]? = some obR ∧ u4.heap.size = u3.heap.size + 1) := hid (by rw [ew]; exact ⟨heap_alloc_last _ _, by simp⟩)
        change K _ (u3.alloc obR)
        rw [← ew]
        clear ew
        have HG4 : Hid (Below w.heap.size w u4 ∧ GfAt u4 w.heap.size 0 (.slice a n cap)) := hid ⟨HG3.out.1.trans (HS4.out.mono HG3.out.1.size), (HS4.out.block _ (lt_of_blk HG3.out.2)).trans HG3.out.2⟩
        refine hK _ _ ⟨fun _ => HG4.out.2, ?_⟩
        clear hK K
        go_simp
        refine wpAnyG_take (i := 9) (v := ?v24) rfl (by kernel_rfl) (fun _ _ _ h => h) (Or.inl ⟨by rfl, ?hy24⟩) HG4.out.2 ?rest24
        case hy24 => (intro ww _; go_simp; try with_reducible rfl)
        go_simp
        refine wpAnyG_all (rs := [10]) (by kernel_rfl) (by simp) ?_
        intro i hi
        obtain rfl := List.mem_singleton.1 hi
        clear hi
        refine wpOp_d rfl (by rfl) (fun K hK => ?_)
        go_simp
        refine hK _ _ ⟨fun _ => ((Below.refl _ _).alloc (Nat.le_refl _) _).block _ (lt_of_blk HG4.out.2) |>.trans HG4.out.2, ?_⟩
        clear hK K
        go_simp
        refine wpAnyG_take (i := 11) (v := ?v25) rfl (by kernel_rfl) (fun _ _ _ h => h) (Or.inl ⟨by rfl, ?hy25⟩) (((Below.refl _ _).alloc (Nat.le_refl _) _).block _ (lt_of_blk HG4.out.2) |>.trans HG4.out.2) ?rest25
        case hy25 => (intro ww _; go_simp; try with_reducible rfl)
        go_simp
        refine wpAnyG_take (i := 12) (v := ?v26) rfl (by kernel_rfl) (fun _ _ _ h => h) (Or.inl ⟨by rfl, ?hy26⟩) (((Below.refl _ _).alloc (Nat.le_refl _) _).block _ (lt_of_blk HG4.out.2) |>.trans HG4.out.2) ?rest26
        case hy26 => (intro ww _; go_simp; try with_reducible rfl)
        go_simp
        refine wpAnyG_done (by kernel_rfl) ?_ _
        go_simp
        go_wp2
        go_ret2
        obtain ⟨F, q1, q2, q3⟩ := new_end (c1 := cp1) (c2 := cp3) HG4.out.1 (((HP1.out.1.keep HS2.out (Nat.le_refl _)).keep HS3.out (Nat.le_refl _)).keep HS4.out (Nat.le_refl _)) (fun x hx => by have h := HP1.out.2 x hx; have z1 := HS1.out.size; have z2 := HS2.out.size; have z3 := HS3.out.size; have z4 := HS4.out.size; have y0 := HG0.out.1.size; have y1 := HP2.out.2; have y2 := HP4.out.2; exact ⟨⟨by omega, by omega⟩, by omega, by omega⟩) (HP3.out.1.keep HS4.out (Nat.le_refl _)) (fun x hx => by have h := HP3.out.2 x hx; have z1 := HS1.out.size; have z2 := HS2.out.size; have z3 := HS3.out.size; have z4 := HS4.out.size; have y0 := HG0.out.1.size; have y1 := HP2.out.2; have y2 := HP4.out.2; exact ⟨⟨by omega, by omega⟩, by omega, by omega⟩) ((HS4.out.block _ (lt_of_blk ((HS3.out.block _ (lt_of_blk HP2.out.1)).trans HP2.out.1))).trans ((HS3.out.block _ (lt_of_blk HP2.out.1)).trans HP2.out.1)) HP4.out.1 (by have z1 := HS1.out.size; have z2 := HS2.out.size; have z3 := HS3.out.size; have z4 := HS4.out.size; have y1 := HP2.out.2; have y2 := HP4.out.2; omega) ⟨by have z1 := HS1.out.size; have z2 := HS2.out.size; have z3 := HS3.out.size; have z4 := HS4.out.size; have y0 := HG0.out.1.size; have y1 := HP2.out.2; omega, by have z1 := HS1.out.size; have z2 := HS2.out.size; have z3 := HS3.out.size; have z4 := HS4.out.size; have y0 := HG0.out.1.size; have y2 := HP4.out.2; omega⟩
        rw [HN.out.1] at q1 q3
        exact ⟨_, F, rfl, q1, q2, q3⟩
      · obtain rfl := List.mem_singleton.1 hi
        clear hi
        refine wpOp_d rfl (by rfl) (fun K hK => ?_)
        go_simp
        rw [mk_ress]
        go_simp
        obtain ⟨u3, ew⟩ : ∃ u, u = u2.alloc obR := ⟨_, rfl⟩
        have HS3 : Hid (Below u2.heap.size u2 u3) := hid (by rw [ew]; exact (Below.refl _ _).alloc (Nat.le_refl _) _)
        have HP3 : Hid (u3.heap[u2.heap.size]? = some obR ∧ u3.heap.size = u2.heap.size + 1) := hid (by rw [ew]; exact ⟨heap_alloc_last _ _, by simp⟩)
        change K _ (u2.alloc obR)
        rw [← ew]
        clear ew
        have HG3 : Hid (Below w.heap.size w u3 ∧ GfAt u3 w.heap.size 0 (.slice a n cap)) := hid ⟨HG2.out.1.trans (HS3.out.mono HG2.out.1.size), (HS3.out.block _ (lt_of_blk HG2.out.2)).trans HG2.out.2⟩
        refine hK _ _ ⟨fun _ => HG3.out.2, ?_⟩
        clear hK K
        go_simp
        refine wpAnyG_all (rs := [6]) (by kernel_rfl) (by simp) ?_
        intro i hi
        obtain rfl := List.mem_singleton.1 hi
        clear hi
        refine wpOp_d rfl (by rfl) (fun K hK => ?_)
        refine owp_ownI _ _ rfl (by rfl) a n cap l (by rfl) HN.out.1 (HIn.out _ HG3.out.1) (by have := HN.out.2; omega) ?_
        intro v4 u4 HO
        obtain ⟨ad4, cp4, hv, hI, hx⟩ := HO.out.slice
        rw [HN.out.1] at hv
        subst hv
        have HS4 : Hid (Below u3.heap.size u3 u4) := hid HO.out.bel
        have HP4 := hid (And.intro hI hx)
        clear hI hx HO
        have HG4 : Hid (Below w.heap.size w u4 ∧ GfAt u4 w.heap.size 0 (.slice a n cap)) := hid ⟨HG3.out.1.trans (HS4.out.mono HG3.out.1.size), (HS4.out.block _ (lt_of_blk HG3.out.2)).trans HG3.out.2⟩
        refine hK _ _ ⟨fun _ => HG4.out.2, ?_⟩
        clear hK K
        go_simp
        refine wpAnyG_take (i := 9) (v := ?v30) rfl (by kernel_rfl) (fun _ _ _ h => h) (Or.inl ⟨by rfl, ?hy30⟩) HG4.out.2 ?rest30
        case hy30 => (intro ww _; go_simp; try with_reducible rfl)
        go_simp
        refine wpAnyG_all (rs := [10]) (by kernel_rfl) (by simp) ?_
        intro i hi
        obtain rfl := List.mem_singleton.1 hi
        clear hi
        refine wpOp_d rfl (by rfl) (fun K hK => ?_)
        go_simp
        refine hK _ _ ⟨fun _ => ((Below.refl _ _).alloc (Nat.le_refl _) _).block _ (lt_of_blk HG4.out.2) |>.trans HG4.out.2, ?_⟩
        clear hK K
        go_simp
        refine wpAnyG_take (i := 11) (v := ?v31) rfl (by kernel_rfl) (fun _ _ _ h => h) (Or.inl ⟨by rfl, ?hy31⟩) (((Below.refl _ _).alloc (Nat.le_refl _) _).block _ (lt_of_blk HG4.out.2) |>.trans HG4.out.2) ?rest31
        case hy31 => (intro ww _; go_simp; try with_reducible rfl)
        go_simp
        refine wpAnyG_take (i := 12) (v := ?v32) rfl (by kernel_rfl) (fun _ _ _ h => h) (Or.inl ⟨by rfl, ?hy32⟩) (((Below.refl _ _).alloc (Nat.le_refl _) _).block _ (lt_of_blk HG4.out.2) |>.trans HG4.out.2) ?rest32
        case hy32 => (intro ww _; go_simp; try with_reducible rfl)
        go_simp
        refine wpAnyG_done (by kernel_rfl) ?_ _
        go_simp
        go_wp2
        go_ret2
        obtain ⟨F, q1, q2, q3⟩ := new_end (c1 := cp1) (c2 := cp4) HG4.out.1 (((HP1.out.1.keep HS2.out (Nat.le_refl _)).keep HS3.out (Nat.le_refl _)).keep HS4.out (Nat.le_refl _)) (fun x hx => by have h := HP1.out.2 x hx; have z1 := HS1.out.size; have z2 := HS2.out.size; have z3 := HS3.out.size; have z4 := HS4.out.size; have y0 := HG0.out.1.size; have y1 := HP2.out.2; have y2 := HP3.out.2; exact ⟨⟨by omega, by omega⟩, by omega, by omega⟩) HP4.out.1 (fun x hx => by have h := HP4.out.2 x hx; have z1 := HS1.out.size; have z2 := HS2.out.size; have z3 := HS3.out.size; have z4 := HS4.out.size; have y0 := HG0.out.1.size; have y1 := HP2.out.2; have y2 := HP3.out.2; exact ⟨⟨by omega, by omega⟩, by omega, by omega⟩) ((HS4.out.block _ (lt_of_blk ((HS3.out.block _ (lt_of_blk HP2.out.1)).trans HP2.out.1))).trans ((HS3.out.block _ (lt_of_blk HP2.out.1)).trans HP2.out.1)) ((HS4.out.block _ (lt_of_blk HP3.out.1)).trans HP3.out.1) (by have z1 := HS1.out.size; have z2 := HS2.out.size; have z3 := HS3.out.size; have z4 := HS4.out.size; have y1 := HP2.out.2; have y2 := HP3.out.2; omega) ⟨by have z1 := HS1.out.size; have z2 := HS2.out.size; have z3 := HS3.out.size; have z4 := HS4.out.size; have y0 := HG0.out.1.size; have y1 := HP2.out.2; omega, by have z1 := HS1.out.size; have z2 := HS2.out.size; have z3 := HS3.out.size; have z4 := HS4.out.size; have y0 := HG0.out.1.size; have y2 := HP3.out.2; omega⟩
        rw [HN.out.1] at q1 q3
        exact ⟨_, F, rfl, q1, q2, q3⟩
    · obtain rfl := List.mem_singleton.1 hi
      clear hi
      refine wpOp_d rfl (by rfl) (fun K hK => ?_)
      go_simp
      rw [mk_ress]
      go_simp
      obtain ⟨u2, ew⟩ : ∃ u, u = u1.alloc obR := ⟨_, rfl⟩
      have HS2 : Hid (Below u1.heap.size u1 u2) := hid (by rw [ew]; exact (Below.refl _ _).alloc (Nat.le_refl _) _)
      have HP2 : Hid (u2.heap[u1.heap.size]? = some obR ∧ u2.heap.size = u1.heap.size + 1) := hid (by rw [ew]; exact ⟨heap_alloc_last _ _, by simp⟩)
      change K _ (u1.alloc obR)
      rw [← ew]
      clear ew
      have HG2 : Hid (Below w.heap.size w u2 ∧ GfAt u2 w.heap.size 0 (.slice a n cap)) := hid ⟨HG1.out.1.trans (HS2.out.mono HG1.out.1.size), (HS2.out.block _ (lt_of_blk HG1.out.2)).trans HG1.out.2⟩
      refine hK _ _ ⟨fun _ => HG2.out.2, ?_⟩
      clear hK K
      go_simp
      refine wpAnyG_all (rs := [6, 7]) (by kernel_rfl) (by simp) ?_
      intro i hi
      rcases List.mem_cons.1 hi with rfl | hi
      · clear hi
        refine wpOp_d rfl (by rfl) (fun K hK => ?_)
        refine owp_ownI _ _ rfl (by rfl) a n cap l (by rfl) HN.out.1 (HIn.out _ HG2.out.1) (by have := HN.out.2; omega) ?_
        intro v3 u3 HO
        obtain ⟨ad3, cp3, hv, hI, hx⟩ := HO.out.slice
        rw [HN.out.1] at hv
        subst hv
        have HS3 : Hid (Below u2.heap.size u2 u3) := hid HO.out.bel
        have HP3 := hid (And.intro hI hx)
        clear hI hx HO
        have HG3 : Hid (Below w.heap.size w u3 ∧ GfAt u3 w.heap.size 0 (.slice a n cap)) := hid ⟨HG2.out.1.trans (HS3.out.mono HG2.out.1.size), (HS3.out.block _ (lt_of_blk HG2.out.2)).trans HG2.out.2⟩
        refine hK _ _ ⟨fun _ => HG3.out.2, ?_⟩
        clear hK K
        go_simp
        refine wpAnyG_all (rs := [7]) (by kernel_rfl) (by simp) ?_
        intro i hi
        obtain rfl := List.mem_singleton.1 hi
        clear hi
        refine wpOp_d rfl (by rfl) (fun K hK => ?_)
        go_simp
        rw [mk_ints]
        go_simp
        obtain ⟨u4, ew⟩ : ∃ u, u = u3.alloc obS := ⟨_, rfl⟩
        have HS4 : Hid (Below u3.heap.size u3 u4) := hid (by rw [ew]; exact (Below.refl _ _).alloc (Nat.le_refl _) _)
        have HP4 : Hid (u4.heap[u3.heap.size]? = some obS ∧ u4.heap.size = u3.heap.size + 1) := hid (by rw [ew]; exact ⟨heap_alloc_last _ _, by simp⟩)
        change K _ (u3.alloc obS)
        rw [← ew]
        clear ew
        have HG4 : Hid (Below w.heap.size w u4 ∧ GfAt u4 w.heap.size 0 (.slice a n cap)) := hid ⟨HG3.out.1.trans (HS4.out.mono HG3.out.1.size), (HS4.out.block _ (lt_of_blk HG3.out.2)).trans HG3.out.2⟩
        refine hK _ _ ⟨fun _ => HG4.out.2, ?_⟩
        clear hK K
        go_simp
        refine wpAnyG_take (i := 9) (v := ?v37) rfl (by kernel_rfl) (fun _ _ _ h => h) (Or.inl ⟨by rfl, ?hy37⟩) HG4.out.2 ?rest37
        case hy37 => (intro ww _; go_simp; try with_reducible rfl)
        go_simp
        refine wpAnyG_all (rs := [10]) (by kernel_rfl) (by simp) ?_
        intro i hi
        obtain rfl := List.mem_singleton.1 hi
        clear hi
        refine wpOp_d rfl (by rfl) (fun K hK => ?_)
        go_simp
        refine hK _ _ ⟨fun _ => ((Below.refl _ _).alloc (Nat.le_refl _) _).block _ (lt_of_blk HG4.out.2) |>.trans HG4.out.2, ?_⟩
        clear hK K
        go_simp
        refine wpAnyG_take (i := 11) (v := ?v38) rfl (by kernel_rfl) (fun _ _ _ h => h) (Or.inl ⟨by rfl, ?hy38⟩) (((Below.refl _ _).alloc (Nat.le_refl _) _).block _ (lt_of_blk HG4.out.2) |>.trans HG4.out.2) ?rest38
        case hy38 => (intro ww _; go_simp; try with_reducible rfl)
        go_simp
        refine wpAnyG_take (i := 12) (v := ?v39) rfl (by kernel_rfl) (fun _ _ _ h => h) (Or.inl ⟨by rfl, ?hy39⟩) (((Below.refl _ _).alloc (Nat.le_refl _) _).block _ (lt_of_blk HG4.out.2) |>.trans HG4.out.2) ?rest39
        case hy39 => (intro ww _; go_simp; try with_reducible rfl)
        go_simp
        refine wpAnyG_done (by kernel_rfl) ?_ _
        go_simp
        go_wp2
        go_ret2
        obtain ⟨F, q1, q2, q3⟩ := new_end (c1 := cp1) (c2 := cp3) HG4.out.1 (((HP1.out.1.keep HS2.out (Nat.le_refl _)).keep HS3.out (Nat.le_refl _)).keep HS4.out (Nat.le_refl _)) (fun x hx => by have h := HP1.out.2 x hx; have z1 := HS1.out.size; have z2 := HS2.out.size; have z3 := HS3.out.size; have z4 := HS4.out.size; have y0 := HG0.out.1.size; have y1 := HP4.out.2; have y2 := HP2.out.2; exact ⟨⟨by omega, by omega⟩, by omega, by omega⟩) (HP3.out.1.keep HS4.out (Nat.le_refl _)) (fun x hx => by have h := HP3.out.2 x hx; have z1 := HS1.out.size; have z2 := HS2.out.size; have z3 := HS3.out.size; have z4 := HS4.out.size; have y0 := HG0.out.1.size; have y1 := HP4.out.2; have y2 := HP2.out.2; exact ⟨⟨by omega, by omega⟩, by omega, by omega⟩) HP4.out.1 ((HS4.out.block _ (lt_of_blk ((HS3.out.block _ (lt_of_blk HP2.out.1)).trans HP2.out.1))).trans ((HS3.out.block _ (lt_of_blk HP2.out.1)).trans HP2.out.1)) (by have z1 := HS1.out.size; have z2 := HS2.out.size; have z3 := HS3.out.size; have z4 := HS4.out.size; have y1 := HP4.out.2; have y2 := HP2.out.2; omega) ⟨by have z1 := HS1.out.size; have z2 := HS2.out.size; have z3 := HS3.out.size; have z4 := HS4.out.size; have y0 := HG0.out.1.size; have y1 := HP4.out.2; omega, by have z1 := HS1.out.size; have z2 := HS2.out.size; have z3 := HS3.out.size; have z4 := HS4.out.size; have y0 := HG0.out.1.size; have y2 := HP2.out.2; omega⟩
        rw [HN.out.1] at q1 q3
        exact ⟨_, F, rfl, q1, q2, q3⟩
      · obtain rfl := List.mem_singleton.1 hi
        clear hi
        refine wpOp_d rfl (by rfl) (fun K hK => ?_)
        go_simp
        rw [mk_ints]
        go_simp
        obtain ⟨u3, ew⟩ : ∃ u, u = u2.alloc obS := ⟨_, rfl⟩
        have HS3 : Hid (Below u2.heap.size u2 u3) := hid (by rw [ew]; exact (Below.refl _ _).alloc (Nat.le_refl _) _)
        have HP3 : Hid (u3.heap[u2.heap.size]? = some obS ∧ u3.heap.size = u2.heap.size + 1) := hid (by rw [ew]; exact ⟨heap_alloc_last _ _, by simp⟩)
        change K _ (u2.alloc obS)
        rw [← ew]
        clear ew
        have HG3 : Hid (Below w.heap.size w u3 ∧ GfAt u3 w.heap.size 0 (.slice a n cap)) := hid ⟨HG2.out.1.trans (HS3.out.mono HG2.out.1.size), (HS3.out.block _ (lt_of_blk HG2.out.2)).trans HG2.out.2⟩
        refine hK _ _ ⟨fun _ => HG3.out.2, ?_⟩
        clear hK K
        go_simp
        refine wpAnyG_all (rs := [6]) (by kernel_rfl) (by simp) ?_
        intro i hi
        obtain rfl := List.mem_singleton.1 hi
        clear hi
        refine wpOp_d rfl (by rfl) (fun K hK => ?_)
        refine owp_ownI _ _ rfl (by rfl) a n cap l (by rfl) HN.out.1 (HIn.out _ HG3.out.1) (by have := HN.out.2; omega) ?_
        intro v4 u4 HO
        obtain ⟨ad4, cp4, hv, hI, hx⟩ := HO.out.slice
        rw [HN.out.1] at hv
        subst hv
        have HS4 : Hid (Below u3.heap.size u3 u4) := hid HO.out.bel
        have HP4 := hid (And.intro hI hx)
        clear hI hx HO
        have HG4 : Hid (Below w.heap.size w u4 ∧ GfAt u4 w.heap.size 0 (.slice a n cap)) := hid ⟨HG3.out.1.trans (HS4.out.mono HG3.out.1.size), (HS4.out.block _ (lt_of_blk HG3.out.2)).trans HG3.out.2⟩
        refine hK _ _ ⟨fun _ => HG4.out.2, ?_⟩
        clear hK K
        go_simp
        refine wpAnyG_take (i := 9) (v := ?v43) rfl (by kernel_rfl) (fun _ _ _ h => h) (Or.inl ⟨by rfl, ?hy43⟩) HG4.out.2 ?rest43
        case hy43 => (intro ww _; go_simp; try with_reducible rfl)
        go_simp
        refine wpAnyG_all (rs := [10]) (by kernel_rfl) (by simp) ?_
        intro i hi
        obtain rfl := List.mem_singleton.1 hi
        clear hi
        refine wpOp_d rfl (by rfl) (fun K hK => ?_)
        go_simp
        refine hK _ _ ⟨fun _ => ((Below.refl _ _).alloc (Nat.le_refl _) _).block _ (lt_of_blk HG4.out.2) |>.trans HG4.out.2, ?_⟩
        clear hK K
        go_simp
        refine wpAnyG_take (i := 11) (v := ?v44) rfl (by kernel_rfl) (fun _ _ _ h => h) (Or.inl ⟨by rfl, ?hy44⟩) (((Below.refl _ _).alloc (Nat.le_refl _) _).block _ (lt_of_blk HG4.out.2) |>.trans HG4.out.2) ?rest44
        case hy44 => (intro ww _; go_simp; try with_reducible rfl)
        go_simp
        refine wpAnyG_take (i := 12) (v := ?v45) rfl (by kernel_rfl) (fun _ _ _ h => h) (Or.inl ⟨by rfl, ?hy45⟩) (((Below.refl _ _).alloc (Nat.le_refl _) _).block _ (lt_of_blk HG4.out.2) |>.trans HG4.out.2) ?rest45
        case hy45 => (intro ww _; go_simp; try with_reducible rfl)
        go_simp
        refine wpAnyG_done (by kernel_rfl) ?_ _
        go_simp
        go_wp2
        go_ret2
        obtain ⟨F, q1, q2, q3⟩ := new_end (c1 := cp1) (c2 := cp4) HG4.out.1 (((HP1.out.1.keep HS2.out (Nat.le_refl _)).keep HS3.out (Nat.le_refl _)).keep HS4.out (Nat.le_refl _)) (fun x hx => by have h := HP1.out.2 x hx; have z1 := HS1.out.size; have z2 := HS2.out.size; have z3 := HS3.out.size; have z4 := HS4.out.size; have y0 := HG0.out.1.size; have y1 := HP3.out.2; have y2 := HP2.out.2; exact ⟨⟨by omega, by omega⟩, by omega, by omega⟩) HP4.out.1 (fun x hx => by have h := HP4.out.2 x hx; have z1 := HS1.out.size; have z2 := HS2.out.size; have z3 := HS3.out.size; have z4 := HS4.out.size; have y0 := HG0.out.1.size; have y1 := HP3.out.2; have y2 := HP2.out.2; exact ⟨⟨by omega, by omega⟩, by omega, by omega⟩) ((HS4.out.block _ (lt_of_blk HP3.out.1)).trans HP3.out.1) ((HS4.out.block _ (lt_of_blk ((HS3.out.block _ (lt_of_blk HP2.out.1)).trans HP2.out.1))).trans ((HS3.out.block _ (lt_of_blk HP2.out.1)).trans HP2.out.1)) (by have z1 := HS1.out.size; have z2 := HS2.out.size; have z3 := HS3.out.size; have z4 := HS4.out.size; have y1 := HP3.out.2; have y2 := HP2.out.2; omega) ⟨by have z1 := HS1.out.size; have z2 := HS2.out.size; have z3 := HS3.out.size; have z4 := HS4.out.size; have y0 := HG0.out.1.size; have y1 := HP3.out.2; omega, by have z1 := HS1.out.size; have z2 := HS2.out.size; have z3 := HS3.out.size; have z4 := HS4.out.size; have y0 := HG0.out.1.size; have y2 := HP2.out.2; omega⟩
        rw [HN.out.1] at q1 q3
        exact ⟨_, F, rfl, q1, q2, q3⟩
  rcases List.mem_cons.1 hi with rfl | hi
  · clear hi
    refine wpOp_d rfl (by rfl) (fun K hK => ?_)
    go_simp
    rw [mk_ints]
    go_simp
    obtain ⟨u1, ew⟩ : ∃ u, u = u0.alloc obS := ⟨_, rfl⟩
    have HS1 : Hid (Below u0.heap.size u0 u1) := hid (by rw [ew]; exact (Below.refl _ _).alloc (Nat.le_refl _) _)
    have HP1 : Hid (u1.heap[u0.heap.size]? = some obS ∧ u1.heap.size = u0.heap.size + 1) := hid (by rw [ew]; exact ⟨heap_alloc_last _ _, by simp⟩)
    change K _ (u0.alloc obS)
    rw [← ew]
    clear ew
    have HG1 : Hid (Below w.heap.size w u1 ∧ GfAt u1 w.heap.size 0 (.slice a n cap)) := hid ⟨HG0.out.1.trans (HS1.out.mono HG0.out.1.size), (HS1.out.block _ (lt_of_blk HG0.out.2)).trans HG0.out.2⟩
    refine hK _ _ ⟨fun _ => HG1.out.2, ?_⟩
    clear hK K
    go_simp
    refine wpAnyG_all (rs := [2, 8]) (by kernel_rfl) (by simp) ?_
    intro i hi
    rcases List.mem_cons.1 hi with rfl | hi
    · clear hi
      refine wpOp_d rfl (by rfl) (fun K hK => ?_)
      refine owp_ownI _ _ rfl (by rfl) a n cap l (by rfl) HN.out.1 (HIn.out _ HG1.out.1) (by have := HN.out.2; omega) ?_
      intro v2 u2 HO
      obtain ⟨ad2, cp2, hv, hI, hx⟩ := HO.out.slice
      rw [HN.out.1] at hv
      subst hv
      have HS2 : Hid (Below u1.heap.size u1 u2) := hid HO.out.bel
      have HP2 := hid (And.intro hI hx)
      clear hI hx HO
      have HG2 : Hid (Below w.heap.size w u2 ∧ GfAt u2 w.heap.size 0 (.slice a n cap)) := hid ⟨HG1.out.1.trans (HS2.out.mono HG1.out.1.size), (HS2.out.block _ (lt_of_blk HG1.out.2)).trans HG1.out.2⟩
      refine hK _ _ ⟨fun _ => HG2.out.2, ?_⟩
      clear hK K
      go_simp
      refine wpAnyG_take (i := 3) (v := ?v48) rfl (by kernel_rfl) (fun _ _ _ h => h) (Or.inl ⟨by rfl, ?hy48⟩) HG2.out.2 ?rest48
      case hy48 => (intro ww _; go_simp; try with_reducible rfl)
      go_simp
      refine wpAnyG_all (rs := [6, 8]) (by kernel_rfl) (by simp) ?_
      intro i hi
      rcases List.mem_cons.1 hi with rfl | hi
      · clear hi
        refine wpOp_d rfl (by rfl) (fun K hK => ?_)
        refine owp_ownI _ _ rfl (by rfl) a n cap l (by rfl) HN.out.1 (HIn.out _ HG2.out.1) (by have := HN.out.2; omega) ?_
        intro v3 u3 HO
        obtain ⟨ad3, cp3, hv, hI, hx⟩ := HO.out.slice
        rw [HN.out.1] at hv
        subst hv
        have HS3 : Hid (Below u2.heap.size u2 u3) := hid HO.out.bel
        have HP3 := hid (And.intro hI hx)
        clear hI hx HO
        have HG3 : Hid (Below w.heap.size w u3 ∧ GfAt u3 w.heap.size 0 (.slice a n cap)) := hid ⟨HG2.out.1.trans (HS3.out.mono HG2.out.1.size), (HS3.out.block _ (lt_of_blk HG2.out.2)).trans HG2.out.2⟩
        refine hK _ _ ⟨fun _ => HG3.out.2, ?_⟩
        clear hK K
        go_simp
        refine wpAnyG_all (rs := [8]) (by kernel_rfl) (by simp) ?_
        intro i hi
        obtain rfl := List.mem_singleton.1 hi
        clear hi
        refine wpOp_d rfl (by rfl) (fun K hK => ?_)
        go_simp
        rw [mk_ress]
        go_simp
        obtain ⟨u4, ew⟩ : ∃ u, u = u3.alloc obR := ⟨_, rfl⟩
        have HS4 : Hid (Below u3.heap.size u3 u4) := hid (by rw [ew]; exact (Below.refl _ _).alloc (Nat.le_refl _) _)
        have HP4 : Hid (u4.heap[u3.heap.size]? = some obR ∧ u4.heap.size = u3.heap.size + 1) := hid (by rw [ew]; exact ⟨heap_alloc_last _ _, by simp⟩)
        change K _ (u3.alloc obR)
        rw [← ew]
        clear ew
        have HG4 : Hid (Below w.heap.size w u4 ∧ GfAt u4 w.heap.size 0 (.slice a n cap)) := hid ⟨HG3.out.1.trans (HS4.out.mono HG3.out.1.size), (HS4.out.block _ (lt_of_blk HG3.out.2)).trans HG3.out.2⟩
        refine hK _ _ ⟨fun _ => HG4.out.2, ?_⟩
        clear hK K
        go_simp
        refine wpAnyG_take (i := 9) (v := ?v52) rfl (by kernel_rfl) (fun _ _ _ h => h) (Or.inl ⟨by rfl, ?hy52⟩) HG4.out.2 ?rest52
        case hy52 => (intro ww _; go_simp; try with_reducible rfl)
        go_simp
        refine wpAnyG_all (rs := [10]) (by kernel_rfl) (by simp) ?_
        intro i hi
        obtain rfl := List.mem_singleton.1 hi
        clear hi
        refine wpOp_d rfl (by rfl) (fun K hK => ?_)
        go_simp
        refine hK _ _ ⟨fun _ => ((Below.refl _ _).alloc (Nat.le_refl _) _).block _ (lt_of_blk HG4.out.2) |>.trans HG4.out.2, ?_⟩
        clear hK K
        go_simp
        refine wpAnyG_take (i := 11) (v := ?v53) rfl (by kernel_rfl) (fun _ _ _ h => h) (Or.inl ⟨by rfl, ?hy53⟩) (((Below.refl _ _).alloc (Nat.le_refl _) _).block _ (lt_of_blk HG4.out.2) |>.trans HG4.out.2) ?rest53
        case hy53 => (intro ww _; go_simp; try with_reducible rfl)
        go_simp
        refine wpAnyG_take (i := 12) (v := ?v54) rfl (by kernel_rfl) (fun _ _ _ h => h) (Or.inl ⟨by rfl, ?hy54⟩) (((Below.refl _ _).alloc (Nat.le_refl _) _).block _ (lt_of_blk HG4.out.2) |>.trans HG4.out.2) ?rest54
        case hy54 => (intro ww _; go_simp; try with_reducible rfl)
        go_simp
        refine wpAnyG_done (by kernel_rfl) ?_ _
        go_simp
        go_wp2
        go_ret2
        obtain ⟨F, q1, q2, q3⟩ := new_end (c1 := cp2) (c2 := cp3) HG4.out.1 ((HP2.out.1.keep HS3.out (Nat.le_refl _)).keep HS4.out (Nat.le_refl _)) (fun x hx => by have h := HP2.out.2 x hx; have z1 := HS1.out.size; have z2 := HS2.out.size; have z3 := HS3.out.size; have z4 := HS4.out.size; have y0 := HG0.out.1.size; have y1 := HP1.out.2; have y2 := HP4.out.2; exact ⟨⟨by omega, by omega⟩, by omega, by omega⟩) (HP3.out.1.keep HS4.out (Nat.le_refl _)) (fun x hx => by have h := HP3.out.2 x hx; have z1 := HS1.out.size; have z2 := HS2.out.size; have z3 := HS3.out.size; have z4 := HS4.out.size; have y0 := HG0.out.1.size; have y1 := HP1.out.2; have y2 := HP4.out.2; exact ⟨⟨by omega, by omega⟩, by omega, by omega⟩) ((HS4.out.block _ (lt_of_blk ((HS3.out.block _ (lt_of_blk ((HS2.out.block _ (lt_of_blk HP1.out.1)).trans HP1.out.1))).trans ((HS2.out.block _ (lt_of_blk HP1.out.1)).trans HP1.out.1)))).trans ((HS3.out.block _ (lt_of_blk ((HS2.out.block _ (lt_of_blk HP1.out.1)).trans HP1.out.1))).trans ((HS2.out.block _ (lt_of_blk HP1.out.1)).trans HP1.out.1))) HP4.out.1 (by have z1 := HS1.out.size; have z2 := HS2.out.size; have z3 := HS3.out.size; have z4 := HS4.out.size; have y1 := HP1.out.2; have y2 := HP4.out.2; omega) ⟨by have z1 := HS1.out.size; have z2 := HS2.out.size; have z3 := HS3.out.size; have z4 := HS4.out.size; have y0 := HG0.out.1.size; have y1 := HP1.out.2; omega, by have z1 := HS1.out.size; have z2 := HS2.out.size; have z3 := HS3.out.size; have z4 := HS4.out.size; have y0 := HG0.out.1.size; have y2 := HP4.out.2; omega⟩
        rw [HN.out.1] at q1 q3
        exact ⟨_, F, rfl, q1, q2, q3⟩
      · obtain rfl := List.mem_singleton.1 hi
        clear hi
        refine wpOp_d rfl (by rfl) (fun K hK => ?_)
        go_simp
        rw [mk_ress]
        go_simp
        obtain ⟨u3, ew⟩ : ∃ u, u = u2.alloc obR := ⟨_, rfl⟩
        have HS3 : Hid (Below u2.heap.size u2 u3) := hid (by rw [ew]; exact (Below.refl _ _).alloc (Nat.le_refl _) _)
        have HP3 : Hid (u3.heap[u2.heap.size]? = some obR ∧ u3.heap.size = u2.heap.size + 1) := hid (by rw [ew]; exact ⟨heap_alloc_last _ _, by simp⟩)
        change K _ (u2.alloc obR)
        rw [← ew]
        clear ew
        have HG3 : Hid (Below w.heap.size w u3 ∧ GfAt u3 w.heap.size 0 (.slice a n cap)) := hid ⟨HG2.out.1.trans (HS3.out.mono HG2.out.1.size), (HS3.out.block _ (lt_of_blk HG2.out.2)).trans HG2.out.2⟩
        refine hK _ _ ⟨fun _ => HG3.out.2, ?_⟩
        clear hK K
        go_simp
        refine wpAnyG_all (rs := [6]) (by kernel_rfl) (by simp) ?_
        intro i hi
        obtain rfl := List.mem_singleton.1 hi
        clear hi
        refine wpOp_d rfl (by rfl) (fun K hK => ?_)
        refine owp_ownI _ _ rfl (by rfl) a n cap l (by rfl) HN.out.1 (HIn.out _ HG3.out.1) (by have := HN.out.2; omega) ?_
        intro v4 u4 HO
        obtain ⟨ad4, cp4, hv, hI, hx⟩ := HO.out.slice
        rw [HN.out.1] at hv
        subst hv
        have HS4 : Hid (Below u3.heap.size u3 u4) := hid HO.out.bel
        have HP4 := hid (And.intro hI hx)
        clear hI hx HO
        have HG4 : Hid (Below w.heap.size w u4 ∧ GfAt u4 w.heap.size 0 (.slice a n cap)) := hid ⟨HG3.out.1.trans (HS4.out.mono HG3.out.1.size), (HS4.out.block _ (lt_of_blk HG3.out.2)).trans HG3.out.2⟩
        refine hK _ _ ⟨fun _ => HG4.out.2, ?_⟩
        clear hK K
        go_simp
        refine wpAnyG_take (i := 9) (v := ?v58) rfl (by kernel_rfl) (fun _ _ _ h => h) (Or.inl ⟨by rfl, ?hy58⟩) HG4.out.2 ?rest58
        case hy58 => (intro ww _; go_simp; try with_reducible rfl)
        go_simp
        refine wpAnyG_all (rs := [10]) (by kernel_rfl) (by simp) ?_
        intro i hi
        obtain rfl := List.mem_singleton.1 hi
        clear hi
        refine wpOp_d rfl (by rfl) (fun K hK => ?_)
        go_simp
        refine hK _ _ ⟨fun _ => ((Below.refl _ _).alloc (Nat.le_refl _) _).block _ (lt_of_blk HG4.out.2) |>.trans HG4.out.2, ?_⟩
        clear hK K
        go_simp
        refine wpAnyG_take (i := 11) (v := ?v59) rfl (by kernel_rfl) (fun _ _ _ h => h) (Or.inl ⟨by rfl, ?hy59⟩) (((Below.refl _ _).alloc (Nat.le_refl _) _).block _ (lt_of_blk HG4.out.2) |>.trans HG4.out.2) ?rest59
        case hy59 => (intro ww _; go_simp; try with_reducible rfl)
        go_simp
        refine wpAnyG_take (i := 12) (v := ?v60) rfl (by kernel_rfl) (fun _ _ _ h => h) (Or.inl ⟨by rfl, ?hy60⟩) (((Below.refl _ _).alloc (Nat.le_refl _) _).block _ (lt_of_blk HG4.out.2) |>.trans HG4.out.2) ?rest60
        case hy60 => (intro ww _; go_simp; try with_reducible rfl)
        go_simp
        refine wpAnyG_done (by kernel_rfl) ?_ _
        go_simp
        go_wp2
        go_ret2
        obtain ⟨F, q1, q2, q3⟩ := new_end (c1 := cp2) (c2 := cp4) HG4.out.1 ((HP2.out.1.keep HS3.out (Nat.le_refl _)).keep HS4.out (Nat.le_refl _)) (fun x hx => by have h := HP2.out.2 x hx; have z1 := HS1.out.size; have z2 := HS2.out.size; have z3 := HS3.out.size; have z4 := HS4.out.size; have y0 := HG0.out.1.size; have y1 := HP1.out.2; have y2 := HP3.out.2; exact ⟨⟨by omega, by omega⟩, by omega, by omega⟩) HP4.out.1 (fun x hx => by have h := HP4.out.2 x hx; have z1 := HS1.out.size; have z2 := HS2.out.size; have z3 := HS3.out.size; have z4 := HS4.out.size; have y0 := HG0.out.1.size; have y1 := HP1.out.2; have y2 := HP3.out.2; exact ⟨⟨by omega, by omega⟩, by omega, by omega⟩) ((HS4.out.block _ (lt_of_blk ((HS3.out.block _ (lt_of_blk ((HS2.out.block _ (lt_of_blk HP1.out.1)).trans HP1.out.1))).trans ((HS2.out.block _ (lt_of_blk HP1.out.1)).trans HP1.out.1)))).trans ((HS3.out.block _ (lt_of_blk ((HS2.out.block _ (lt_of_blk HP1.out.1)).trans HP1.out.1))).trans ((HS2.out.block _ (lt_of_blk HP1.out.1)).trans HP1.out.1))) ((HS4.out.block _ (lt_of_blk HP3.out.1)).trans HP3.out.1) (by have z1 := HS1.out.size; have z2 := HS2.out.size; have z3 := HS3.out.size; have z4 := HS4.out.size; have y1 := HP1.out.2; have y2 := HP3.out.2; omega) ⟨by have z1 := HS1.out.size; have z2 := HS2.out.size; have z3 := HS3.out.size; have z4 := HS4.out.size; have y0 := HG0.out.1.size; have y1 := HP1.out.2; omega, by have z1 := HS1.out.size; have z2 := HS2.out.size; have z3 := HS3.out.size; have z4 := HS4.out.size; have y0 := HG0.out.1.size; have y2 := HP3.out.2; omega⟩
        rw [HN.out.1] at q1 q3
        exact ⟨_, F, rfl, q1, q2, q3⟩
    · obtain rfl := List.mem_singleton.1 hi
      clear hi
      refine wpOp_d rfl (by rfl) (fun K hK => ?_)
      go_simp
      rw [mk_ress]
      go_simp
      obtain ⟨u2, ew⟩ : ∃ u, u = u1.alloc obR := ⟨_, rfl⟩
      have HS2 : Hid (Below u1.heap.size u1 u2) := hid (by rw [ew]; exact (Below.refl _ _).alloc (Nat.le_refl _) _)
      have HP2 : Hid (u2.heap[u1.heap.size]? = some obR ∧ u2.heap.size = u1.heap.size + 1) := hid (by rw [ew]; exact ⟨heap_alloc_last _ _, by simp⟩)
      change K _ (u1.alloc obR)
      rw [← ew]
      clear ew
      have HG2 : Hid (Below w.heap.size w u2 ∧ GfAt u2 w.heap.size 0 (.slice a n cap)) := hid ⟨HG1.out.1.trans (HS2.out.mono HG1.out.1.size), (HS2.out.block _ (lt_of_blk HG1.out.2)).trans HG1.out.2⟩
      refine hK _ _ ⟨fun _ => HG2.out.2, ?_⟩
      clear hK K
      go_simp
      refine wpAnyG_all (rs := [2]) (by kernel_rfl) (by simp) ?_
      intro i hi
      obtain rfl := List.mem_singleton.1 hi
      clear hi
      refine wpOp_d rfl (by rfl) (fun K hK => ?_)
      refine owp_ownI _ _ rfl (by rfl) a n cap l (by rfl) HN.out.1 (HIn.out _ HG2.out.1) (by have := HN.out.2; omega) ?_
      intro v3 u3 HO
      obtain ⟨ad3, cp3, hv, hI, hx⟩ := HO.out.slice
      rw [HN.out.1] at hv
      subst hv
      have HS3 : Hid (Below u2.heap.size u2 u3) := hid HO.out.bel
      have HP3 := hid (And.intro hI hx)
      clear hI hx HO
      have HG3 : Hid (Below w.heap.size w u3 ∧ GfAt u3 w.heap.size 0 (.slice a n cap)) := hid ⟨HG2.out.1.trans (HS3.out.mono HG2.out.1.size), (HS3.out.block _ (lt_of_blk HG2.out.2)).trans HG2.out.2⟩
      refine hK _ _ ⟨fun _ => HG3.out.2, ?_⟩
      clear hK K
      go_simp
      refine wpAnyG_take (i := 3) (v := ?v63) rfl (by kernel_rfl) (fun _ _ _ h => h) (Or.inl ⟨by rfl, ?hy63⟩) HG3.out.2 ?rest63
      case hy63 => (intro ww _; go_simp; try with_reducible rfl)
      go_simp
      refine wpAnyG_all (rs := [6]) (by kernel_rfl) (by simp) ?_
      intro i hi
      obtain rfl := List.mem_singleton.1 hi
      clear hi
      refine wpOp_d rfl (by rfl) (fun K hK => ?_)
      refine owp_ownI _ _ rfl (by rfl) a n cap l (by rfl) HN.out.1 (HIn.out _ HG3.out.1) (by have := HN.out.2; omega) ?_
      intro v4 u4 HO
      obtain ⟨ad4, cp4, hv, hI, hx⟩ := HO.out.slice
      rw [HN.out.1] at hv
      subst hv
      have HS4 : Hid (Below u3.heap.size u3 u4) := hid HO.out.bel
      have HP4 := hid (And.intro hI hx)
      clear hI hx HO
      have HG4 : Hid (Below w.heap.size w u4 ∧ GfAt u4 w.heap.size 0 (.slice a n cap)) := hid ⟨HG3.out.1.trans (HS4.out.mono HG3.out.1.size), (HS4.out.block _ (lt_of_blk HG3.out.2)).trans HG3.out.2⟩
      refine hK _ _ ⟨fun _ => HG4.out.2, ?_⟩
      clear hK K
      go_simp
      refine wpAnyG_take (i := 9) (v := ?v66) rfl (by kernel_rfl) (fun _ _ _ h => h) (Or.inl ⟨by rfl, ?hy66⟩) HG4.out.2 ?rest66
      case hy66 => (intro ww _; go_simp; try with_reducible rfl)
      go_simp
      refine wpAnyG_all (rs := [10]) (by kernel_rfl) (by simp) ?_
      intro i hi
      obtain rfl := List.mem_singleton.1 hi
      clear hi
      refine wpOp_d rfl (by rfl) (fun K hK => ?_)
      go_simp
      refine hK _ _ ⟨fun _ => ((Below.refl _ _).alloc (Nat.le_refl _) _).block _ (lt_of_blk HG4.out.2) |>.trans HG4.out.2, ?_⟩
      clear hK K
      go_simp
      refine wpAnyG_take (i := 11) (v := ?v67) rfl (by kernel_rfl) (fun _ _ _ h => h) (Or.inl ⟨by rfl, ?hy67⟩) (((Below.refl _ _).alloc (Nat.le_refl _) _).block _ (lt_of_blk HG4.out.2) |>.trans HG4.out.2) ?rest67
      case hy67 => (intro ww _; go_simp; try with_reducible rfl)
      go_simp
      refine wpAnyG_take (i := 12) (v := ?v68) rfl (by kernel_rfl) (fun _ _ _ h => h) (Or.inl ⟨by rfl, ?hy68⟩) (((Below.refl _ _).alloc (Nat.le_refl _) _).block _ (lt_of_blk HG4.out.2) |>.trans HG4.out.2) ?rest68
      case hy68 => (intro ww _; go_simp; try with_reducible rfl)
      go_simp
      refine wpAnyG_done (by kernel_rfl) ?_ _
      go_simp
      go_wp2
      go_ret2
      obtain ⟨F, q1, q2, q3⟩ := new_end (c1 := cp3) (c2 := cp4) HG4.out.1 (HP3.out.1.keep HS4.out (Nat.le_refl _)) (fun x hx => by have h := HP3.out.2 x hx; have z1 := HS1.out.size; have z2 := HS2.out.size; have z3 := HS3.out.size; have z4 := HS4.out.size; have y0 := HG0.out.1.size; have y1 := HP1.out.2; have y2 := HP2.out.2; exact ⟨⟨by omega, by omega⟩, by omega, by omega⟩) HP4.out.1 (fun x hx => by have h := HP4.out.2 x hx; have z1 := HS1.out.size; have z2 := HS2.out.size; have z3 := HS3.out.size; have z4 := HS4.out.size; have y0 := HG0.out.1.size; have y1 := HP1.out.2; have y2 := HP2.out.2; exact ⟨⟨by omega, by omega⟩, by omega, by omega⟩) ((HS4.out.block _ (lt_of_blk ((HS3.out.block _ (lt_of_blk ((HS2.out.block _ (lt_of_blk HP1.out.1)).trans HP1.out.1))).trans ((HS2.out.block _ (lt_of_blk HP1.out.1)).trans HP1.out.1)))).trans ((HS3.out.block _ (lt_of_blk ((HS2.out.block _ (lt_of_blk HP1.out.1)).trans HP1.out.1))).trans ((HS2.out.block _ (lt_of_blk HP1.out.1)).trans HP1.out.1))) ((HS4.out.block _ (lt_of_blk ((HS3.out.block _ (lt_of_blk HP2.out.1)).trans HP2.out.1))).trans ((HS3.out.block _ (lt_of_blk HP2.out.1)).trans HP2.out.1)) (by have z1 := HS1.out.size; have z2 := HS2.out.size; have z3 := HS3.out.size; have z4 := HS4.out.size; have y1 := HP1.out.2; have y2 := HP2.out.2; omega) ⟨by have z1 := HS1.out.size; have z2 := HS2.out.size; have z3 := HS3.out.size; have z4 := HS4.out.size; have y0 := HG0.out.1.size; have y1 := HP1.out.2; omega, by have z1 := HS1.out.size; have z2 := HS2.out.size; have z3 := HS3.out.size; have z4 := HS4.out.size; have y0 := HG0.out.1.size; have y2 := HP2.out.2; omega⟩
      rw [HN.out.1] at q1 q3
      exact ⟨_, F, rfl, q1, q2, q3⟩
  · obtain rfl := List.mem_singleton.1 hi
    clear hi
    refine wpOp_d rfl (by rfl) (fun K hK => ?_)
    go_simp
    rw [mk_ress]
    go_simp
    obtain ⟨u1, ew⟩ : ∃ u, u = u0.alloc obR := ⟨_, rfl⟩
    have HS1 : Hid (Below u0.heap.size u0 u1) := hid (by rw [ew]; exact (Below.refl _ _).alloc (Nat.le_refl _) _)
    have HP1 : Hid (u1.heap[u0.heap.size]? = some obR ∧ u1.heap.size = u0.heap.size + 1) := hid (by rw [ew]; exact ⟨heap_alloc_last _ _, by simp⟩)
    change K _ (u0.alloc obR)
    rw [← ew]
    clear ew
    have HG1 : Hid (Below w.heap.size w u1 ∧ GfAt u1 w.heap.size 0 (.slice a n cap)) := hid ⟨HG0.out.1.trans (HS1.out.mono HG0.out.1.size), (HS1.out.block _ (lt_of_blk HG0.out.2)).trans HG0.out.2⟩
    refine hK _ _ ⟨fun _ => HG1.out.2, ?_⟩
    clear hK K
    go_simp
    refine wpAnyG_all (rs := [2, 7]) (by kernel_rfl) (by simp) ?_
    intro i hi
    rcases List.mem_cons.1 hi with rfl | hi
    · clear hi
      refine wpOp_d rfl (by rfl) (fun K hK => ?_)
      refine owp_ownI _ _ rfl (by rfl) a n cap l (by rfl) HN.out.1 (HIn.out _ HG1.out.1) (by have := HN.out.2; omega) ?_
      intro v2 u2 HO
      obtain ⟨ad2, cp2, hv, hI, hx⟩ := HO.out.slice
      rw [HN.out.1] at hv
      subst hv
      have HS2 : Hid (Below u1.heap.size u1 u2) := hid HO.out.bel
      have HP2 := hid (And.intro hI hx)
      clear hI hx HO
      have HG2 : Hid (Below w.heap.size w u2 ∧ GfAt u2 w.heap.size 0 (.slice a n cap)) := hid ⟨HG1.out.1.trans (HS2.out.mono HG1.out.1.size), (HS2.out.block _ (lt_of_blk HG1.out.2)).trans HG1.out.2⟩
      refine hK _ _ ⟨fun _ => HG2.out.2, ?_⟩
      clear hK K
      go_simp
      refine wpAnyG_take (i := 3) (v := ?v71) rfl (by kernel_rfl) (fun _ _ _ h => h) (Or.inl ⟨by rfl, ?hy71⟩) HG2.out.2 ?rest71
      case hy71 => (intro ww _; go_simp; try with_reducible rfl)
      go_simp
      refine wpAnyG_all (rs := [6, 7]) (by kernel_rfl) (by simp) ?_
      intro i hi
      rcases List.mem_cons.1 hi with rfl | hi
      · clear hi
        refine wpOp_d rfl (by rfl) (fun K hK => ?_)
        refine owp_ownI _ _ rfl (by rfl) a n cap l (by rfl) HN.out.1 (HIn.out _ HG2.out.1) (by have := HN.out.2; omega) ?_
        intro v3 u3 HO
        obtain ⟨ad3, cp3, hv, hI, hx⟩ := HO.out.slice
        rw [HN.out.1] at hv
        subst hv
        have HS3 : Hid (Below u2.heap.size u2 u3) := hid HO.out.bel
        have HP3 := hid (And.intro hI hx)
        clear hI hx HO
        have HG3 : Hid (Below w.heap.size w u3 ∧ GfAt u3 w.heap.size 0 (.slice a n cap)) := hid ⟨HG2.out.1.trans (HS3.out.mono HG2.out.1.size), (HS3.out.block _ (lt_of_blk HG2.out.2)).trans HG2.out.2⟩
        refine hK _ _ ⟨fun _ => HG3.out.2, ?_⟩
        clear hK K
        go_simp
        refine wpAnyG_all (rs := [7]) (by kernel_rfl) (by simp) ?_
        intro i hi
        obtain rfl := List.mem_singleton.1 hi
        clear hi
        refine wpOp_d rfl (by rfl) (fun K hK => ?_)
        go_simp
        rw [mk_ints]
        go_simp
        obtain ⟨u4, ew⟩ : ∃ u, u = u3.alloc obS := ⟨_, rfl⟩
        have HS4 : Hid (Below u3.heap.size u3 u4) := hid (by rw [ew]; exact (Below.refl _ _).alloc (Nat.le_refl _) _)
        have HP4 : Hid (u4.heap[u3.heap.size]? = some obS ∧ u4.heap.size = u3.heap.size + 1) := hid (by rw [ew]; exact ⟨heap_alloc_last _ _, by simp⟩)
        change K _ (u3.alloc obS)
        rw [← ew]
        clear ew
        have HG4 : Hid (Below w.heap.size w u4 ∧ GfAt u4 w.heap.size 0 (.slice a n cap)) := hid ⟨HG3.out.1.trans (HS4.out.mono HG3.out.1.size), (HS4.out.block _ (lt_of_blk HG3.out.2)).trans HG3.out.2⟩
        refine hK _ _ ⟨fun _ => HG4.out.2, ?_⟩
        clear hK K
        go_simp
        refine wpAnyG_take (i := 9) (v := ?v75) rfl (by kernel_rfl) (fun _ _ _ h => h) (Or.inl ⟨by rfl, ?hy75⟩) HG4.out.2 ?rest75
        case hy75 => (intro ww _; go_simp; try with_reducible rfl)
        go_simp
        refine wpAnyG_all (rs := [10]) (by kernel_rfl) (by simp) ?_
        intro i hi
        obtain rfl := List.mem_singleton.1 hi
        clear hi
        refine wpOp_d rfl (by rfl) (fun K hK => ?_)
        go_simp
        refine hK _ _ ⟨fun _ => ((Below.refl _ _).alloc (Nat.le_refl _) _).block _ (lt_of_blk HG4.out.2) |>.trans HG4.out.2, ?_⟩
        clear hK K
        go_simp
        refine wpAnyG_take (i := 11) (v := ?v76) rfl (by kernel_rfl) (fun _ _ _ h => h) (Or.inl ⟨by rfl, ?hy76⟩) (((Below.refl _ _).alloc (Nat.le_refl _) _).block _ (lt_of_blk HG4.out.2) |>.trans HG4.out.2) ?rest76
        case hy76 => (intro ww _; go_simp; try with_reducible rfl)
        go_simp
        refine wpAnyG_take (i := 12) (v := ?v77) rfl (by kernel_rfl) (fun _ _ _ h => h) (Or.inl ⟨by rfl, ?hy77⟩) (((Below.refl _ _).alloc (Nat.le_refl _) _).block _ (lt_of_blk HG4.out.2) |>.trans HG4.out.2) ?rest77
        case hy77 => (intro ww _; go_simp; try with_reducible rfl)
        go_simp
        refine wpAnyG_done (by kernel_rfl) ?_ _
        go_simp
        go_wp2
        go_ret2
        obtain ⟨F, q1, q2, q3⟩ := new_end (c1 := cp2) (c2 := cp3) HG4.out.1 ((HP2.out.1.keep HS3.out (Nat.le_refl _)).keep HS4.out (Nat.le_refl _)) (fun x hx => by have h := HP2.out.2 x hx; have z1 := HS1.out.size; have z2 := HS2.out.size; have z3 := HS3.out.size; have z4 := HS4.out.size; have y0 := HG0.out.1.size; have y1 := HP4.out.2; have y2 := HP1.out.2; exact ⟨⟨by omega, by omega⟩, by omega, by omega⟩) (HP3.out.1.keep HS4.out (Nat.le_refl _)) (fun x hx => by have h := HP3.out.2 x hx; have z1 := HS1.out.size; have z2 := HS2.out.size; have z3 := HS3.out.size; have z4 := HS4.out.size; have y0 := HG0.out.1.size; have y1 := HP4.out.2; have y2 := HP1.out.2; exact ⟨⟨by omega, by omega⟩, by omega, by omega⟩) HP4.out.1 ((HS4.out.block _ (lt_of_blk ((HS3.out.block _ (lt_of_blk ((HS2.out.block _ (lt_of_blk HP1.out.1)).trans HP1.out.1))).trans ((HS2.out.block _ (lt_of_blk HP1.out.1)).trans HP1.out.1)))).trans ((HS3.out.block _ (lt_of_blk ((HS2.out.block _ (lt_of_blk HP1.out.1)).trans HP1.out.1))).trans ((HS2.out.block _ (lt_of_blk HP1.out.1)).trans HP1.out.1))) (by have z1 := HS1.out.size; have z2 := HS2.out.size; have z3 := HS3.out.size; have z4 := HS4.out.size; have y1 := HP4.out.2; have y2 := HP1.out.2; omega) ⟨by have z1 := HS1.out.size; have z2 := HS2.out.size; have z3 := HS3.out.size; have z4 := HS4.out.size; have y0 := HG0.out.1.size; have y1 := HP4.out.2; omega, by have z1 := HS1.out.size; have z2 := HS2.out.size; have z3 := HS3.out.size; have z4 := HS4.out.size; have y0 := HG0.out.1.size; have y2 := HP1.out.2; omega⟩
        rw [HN.out.1] at q1 q3
        exact ⟨_, F, rfl, q1, q2, q3⟩
      · obtain rfl := List.mem_singleton.1 hi
        clear hi
        refine wpOp_d rfl (by rfl) (fun K hK => ?_)
        go_simp
        rw [mk_ints]
        go_simp
        obtain ⟨u3, ew⟩ : ∃ u, u = u2.alloc obS := ⟨_, rfl⟩
        have HS3 : Hid (Below u2.heap.size u2 u3) := hid (by rw [ew]; exact (Below.refl _ _).alloc (Nat.le_refl _) _)
        have HP3 : Hid (u3.heap[u2.heap.size]? = some obS ∧ u3.heap.size = u2.heap.size + 1) := hid (by rw [ew]; exact ⟨heap_alloc_last _ _, by simp⟩)
        change K _ (u2.alloc obS)
        rw [← ew]
        clear ew
        have HG3 : Hid (Below w.heap.size w u3 ∧ GfAt u3 w.heap.size 0 (.slice a n cap)) := hid ⟨HG2.out.1.trans (HS3.out.mono HG2.out.1.size), (HS3.out.block _ (lt_of_blk HG2.out.2)).trans HG2.out.2⟩
        refine hK _ _ ⟨fun _ => HG3.out.2, ?_⟩
        clear hK K
        go_simp
        refine wpAnyG_all (rs := [6]) (by kernel_rfl) (by simp) ?_
        intro i hi
        obtain rfl := List.mem_singleton.1 hi
        clear hi
        refine wpOp_d rfl (by rfl) (fun K hK => ?_)
        refine owp_ownI _ _ rfl (by rfl) a n cap l (by rfl) HN.out.1 (HIn.out _ HG3.out.1) (by have := HN.out.2; omega) ?_
        intro v4 u4 HO
        obtain ⟨ad4, cp4, hv, hI, hx⟩ := HO.out.slice
        rw [HN.out.1] at hv
        subst hv
        have HS4 : Hid (Below u3.heap.size u3 u4) := hid HO.out.bel
        have HP4 := hid (And.intro hI hx)
        clear hI hx HO
        have HG4 : Hid (Below w.heap.size w u4 ∧ GfAt u4 w.heap.size 0 (.slice a n cap)) := hid ⟨HG3.out.1.trans (HS4.out.mono HG3.out.1.size), (HS4.out.block _ (lt_of_blk HG3.out.2)).trans HG3.out.2⟩
        refine hK _ _ ⟨fun _ => HG4.out.2, ?_⟩
        clear hK K
        go_simp
        refine wpAnyG_take (i := 9) (v := ?v81) rfl (by kernel_rfl) (fun _ _ _ h => h) (Or.inl ⟨by rfl, ?hy81⟩) HG4.out.2 ?rest81
        case hy81 => (intro ww _; go_simp; try with_reducible rfl)
        go_simp
        refine wpAnyG_all (rs := [10]) (by kernel_rfl) (by simp) ?_
        intro i hi
        obtain rfl := List.mem_singleton.1 hi
        clear hi
        refine wpOp_d rfl (by rfl) (fun K hK => ?_)
        go_simp
        refine hK _ _ ⟨fun _ => ((Below.refl _ _).alloc (Nat.le_refl _) _).block _ (lt_of_blk HG4.out.2) |>.trans HG4.out.2, ?_⟩
        clear hK K
        go_simp
        refine wpAnyG_take (i := 11) (v := ?v82) rfl (by kernel_rfl) (fun _ _ _ h => h) (Or.inl ⟨by rfl, ?hy82⟩) (((Below.refl _ _).alloc (Nat.le_refl _) _).block _ (lt_of_blk HG4.out.2) |>.trans HG4.out.2) ?rest82
        case hy82 => (intro ww _; go_simp; try with_reducible rfl)
        go_simp
        refine wpAnyG_take (i := 12) (v := ?v83) rfl (by kernel_rfl) (fun _ _ _ h => h) (Or.inl ⟨by rfl, ?hy83⟩) (((Below.refl _ _).alloc (Nat.le_refl _) _).block _ (lt_of_blk HG4.out.2) |>.trans HG4.out.2) ?rest83
        case hy83 => (intro ww _; go_simp; try with_reducible rfl)
        go_simp
        refine wpAnyG_done (by kernel_rfl) ?_ _
        go_simp
        go_wp2
        go_ret2
        obtain ⟨F, q1, q2, q3⟩ := new_end (c1 := cp2) (c2 := cp4) HG4.out.1 ((HP2.out.1.keep HS3.out (Nat.le_refl _)).keep HS4.out (Nat.le_refl _)) (fun x hx => by have h := HP2.out.2 x hx; have z1 := HS1.out.size; have z2 := HS2.out.size; have z3 := HS3.out.size; have z4 := HS4.out.size; have y0 := HG0.out.1.size; have y1 := HP3.out.2; have y2 := HP1.out.2; exact ⟨⟨by omega, by omega⟩, by omega, by omega⟩) HP4.out.1 (fun x hx => by have h := HP4.out.2 x hx; have z1 := HS1.out.size; have z2 := HS2.out.size; have z3 := HS3.out.size; have z4 := HS4.out.size; have y0 := HG0.out.1.size; have y1 := HP3.out.2; have y2 := HP1.out.2; exact ⟨⟨by omega, by omega⟩, by omega, by omega⟩) ((HS4.out.block _ (lt_of_blk HP3.out.1)).trans HP3.out.1) ((HS4.out.block _ (lt_of_blk ((HS3.out.block _ (lt_of_blk ((HS2.out.block _ (lt_of_blk HP1.out.1)).trans HP1.out.1))).trans ((HS2.out.block _ (lt_of_blk HP1.out.1)).trans HP1.out.1)))).trans ((HS3.out.block _ (lt_of_blk ((HS2.out.block _ (lt_of_blk HP1.out.1)).trans HP1.out.1))).trans ((HS2.out.block _ (lt_of_blk HP1.out.1)).trans HP1.out.1))) (by have z1 := HS1.out.size; have z2 := HS2.out.size; have z3 := HS3.out.size; have z4 := HS4.out.size; have y1 := HP3.out.2; have y2 := HP1.out.2; omega) ⟨by have z1 := HS1.out.size; have z2 := HS2.out.size; have z3 := HS3.out.size; have z4 := HS4.out.size; have y0 := HG0.out.1.size; have y1 := HP3.out.2; omega, by have z1 := HS1.out.size; have z2 := HS2.out.size; have z3 := HS3.out.size; have z4 := HS4.out.size; have y0 := HG0.out.1.size; have y2 := HP1.out.2; omega⟩
        rw [HN.out.1] at q1 q3
        exact ⟨_, F, rfl, q1, q2, q3⟩
    · obtain rfl := List.mem_singleton.1 hi
      clear hi
      refine wpOp_d rfl (by rfl) (fun K hK => ?_)
      go_simp
      rw [mk_ints]
      go_simp
      obtain ⟨u2, ew⟩ : ∃ u, u = u1.alloc obS := ⟨_, rfl⟩
      have HS2 : Hid (Below u1.heap.size u1 u2) := hid (by rw [ew]; exact (Below.refl _ _).alloc (Nat.le_refl _) _)
      have HP2 : Hid (u2.heap[u1.heap.size]? = some obS ∧ u2.heap.size = u1.heap.size + 1) := hid (by rw [ew]; exact ⟨heap_alloc_last _ _, by simp⟩)
      change K _ (u1.alloc obS)
      rw [← ew]
      clear ew
      have HG2 : Hid (Below w.heap.size w u2 ∧ GfAt u2 w.heap.size 0 (.slice a n cap)) := hid ⟨HG1.out.1.trans (HS2.out.mono HG1.out.1.size), (HS2.out.block _ (lt_of_blk HG1.out.2)).trans HG1.out.2⟩
      refine hK _ _ ⟨fun _ => HG2.out.2, ?_⟩
      clear hK K
      go_simp
      refine wpAnyG_all (rs := [2]) (by kernel_rfl) (by simp) ?_
      intro i hi
      obtain rfl := List.mem_singleton.1 hi
      clear hi
      refine wpOp_d rfl (by rfl) (fun K hK => ?_)
      refine owp_ownI _ _ rfl (by rfl) a n cap l (by rfl) HN.out.1 (HIn.out _ HG2.out.1) (by have := HN.out.2; omega) ?_
      intro v3 u3 HO
      obtain ⟨ad3, cp3, hv, hI, hx⟩ := HO.out.slice
      rw [HN.out.1] at hv
      subst hv
      have HS3 : Hid (Below u2.heap.size u2 u3) := hid HO.out.bel
      have HP3 := hid (And.intro hI hx)
      clear hI hx HO
      have HG3 : Hid (Below w.heap.size w u3 ∧ GfAt u3 w.heap.size 0 (.slice a n cap)) := hid ⟨HG2.out.1.trans (HS3.out.mono HG2.out.1.size), (HS3.out.block _ (lt_of_blk HG2.out.2)).trans HG2.out.2⟩
      refine hK _ _ ⟨fun _ => HG3.out.2, ?_⟩
      clear hK K
      go_simp
      refine wpAnyG_take (i := 3) (v := ?v86) rfl (by kernel_rfl) (fun _ _ _ h => h) (Or.inl ⟨by rfl, ?hy86⟩) HG3.out.2 ?rest86
      case hy86 => (intro ww _; go_simp; try with_reducible rfl)
      go_simp
      refine wpAnyG_all (rs := [6]) (by kernel_rfl) (by simp) ?_
      intro i hi
      obtain rfl := List.mem_singleton.1 hi
      clear hi
      refine wpOp_d rfl (by rfl) (fun K hK => ?_)
      refine owp_ownI _ _ rfl (by rfl) a n cap l (by rfl) HN.out.1 (HIn.out _ HG3.out.1) (by have := HN.out.2; omega) ?_
      intro v4 u4 HO
      obtain ⟨ad4, cp4, hv, hI, hx⟩ := HO.out.slice
      rw [HN.out.1] at hv
      subst hv
      have HS4 : Hid (Below u3.heap.size u3 u4) := hid HO.out.bel
      have HP4 := hid (And.intro hI hx)
      clear hI hx HO
      have HG4 : Hid (Below w.heap.size w u4 ∧ GfAt u4 w.heap.size 0 (.slice a n cap)) := hid ⟨HG3.out.1.trans (HS4.out.mono HG3.out.1.size), (HS4.out.block _ (lt_of_blk HG3.out.2)).trans HG3.out.2⟩
      refine hK _ _ ⟨fun _ => HG4.out.2, ?_⟩
      clear hK K
      go_simp
      refine wpAnyG_take (i := 9) (v := ?v89) rfl (by kernel_rfl) (fun _ _ _ h => h) (Or.inl ⟨by rfl, ?hy89⟩) HG4.out.2 ?rest89
      case hy89 => (intro ww _; go_simp; try with_reducible rfl)
      go_simp
      refine wpAnyG_all (rs := [10]) (by kernel_rfl) (by simp) ?_
      intro i hi
      obtain rfl := List.mem_singleton.1 hi
      clear hi
      refine wpOp_d rfl (by rfl) (fun K hK => ?_)
      go_simp
      refine hK _ _ ⟨fun _ => ((Below.refl _ _).alloc (Nat.le_refl _) _).block _ (lt_of_blk HG4.out.2) |>.trans HG4.out.2, ?_⟩
      clear hK K
      go_simp
      refine wpAnyG_take (i := 11) (v := ?v90) rfl (by kernel_rfl) (fun _ _ _ h => h) (Or.inl ⟨by rfl, ?hy90⟩) (((Below.refl _ _).alloc (Nat.le_refl _) _).block _ (lt_of_blk HG4.out.2) |>.trans HG4.out.2) ?rest90
      case hy90 => (intro ww _; go_simp; try with_reducible rfl)
      go_simp
      refine wpAnyG_take (i := 12) (v := ?v91) rfl (by kernel_rfl) (fun _ _ _ h => h) (Or.inl ⟨by rfl, ?hy91⟩) (((Below.refl _ _).alloc (Nat.le_refl _) _).block _ (lt_of_blk HG4.out.2) |>.trans HG4.out.2) ?rest91
      case hy91 => (intro ww _; go_simp; try with_reducible rfl)
      go_simp
      refine wpAnyG_done (by kernel_rfl) ?_ _
      go_simp
      go_wp2
      go_ret2
      obtain ⟨F, q1, q2, q3⟩ := new_end (c1 := cp3) (c2 := cp4) HG4.out.1 (HP3.out.1.keep HS4.out (Nat.le_refl _)) (fun x hx => by have h := HP3.out.2 x hx; have z1 := HS1.out.size; have z2 := HS2.out.size; have z3 := HS3.out.size; have z4 := HS4.out.size; have y0 := HG0.out.1.size; have y1 := HP2.out.2; have y2 := HP1.out.2; exact ⟨⟨by omega, by omega⟩, by omega, by omega⟩) HP4.out.1 (fun x hx => by have h := HP4.out.2 x hx; have z1 := HS1.out.size; have z2 := HS2.out.size; have z3 := HS3.out.size; have z4 := HS4.out.size; have y0 := HG0.out.1.size; have y1 := HP2.out.2; have y2 := HP1.out.2; exact ⟨⟨by omega, by omega⟩, by omega, by omega⟩) ((HS4.out.block _ (lt_of_blk ((HS3.out.block _ (lt_of_blk HP2.out.1)).trans HP2.out.1))).trans ((HS3.out.block _ (lt_of_blk HP2.out.1)).trans HP2.out.1)) ((HS4.out.block _ (lt_of_blk ((HS3.out.block _ (lt_of_blk ((HS2.out.block _ (lt_of_blk HP1.out.1)).trans HP1.out.1))).trans ((HS2.out.block _ (lt_of_blk HP1.out.1)).trans HP1.out.1)))).trans ((HS3.out.block _ (lt_of_blk ((HS2.out.block _ (lt_of_blk HP1.out.1)).trans HP1.out.1))).trans ((HS2.out.block _ (lt_of_blk HP1.out.1)).trans HP1.out.1))) (by have z1 := HS1.out.size; have z2 := HS2.out.size; have z3 := HS3.out.size; have z4 := HS4.out.size; have y1 := HP2.out.2; have y2 := HP1.out.2; omega) ⟨by have z1 := HS1.out.size; have z2 := HS2.out.size; have z3 := HS3.out.size; have z4 := HS4.out.size; have y0 := HG0.out.1.size; have y1 := HP2.out.2; omega, by have z1 := HS1.out.size; have z2 := HS2.out.size; have z3 := HS3.out.size; have z4 := HS4.out.size; have y0 := HG0.out.1.size; have y2 := HP1.out.2; omega⟩
      rw [HN.out.1] at q1 q3
      exact ⟨_, F, rfl, q1, q2, q3⟩
end Go.Proofs.YtecidbdbdnnglaaGreat
